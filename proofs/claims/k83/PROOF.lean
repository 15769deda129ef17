import PyProof.Rows.All
import Wide.All
import OpenK.AllK
import Wide.FinOn
import HandS.Base
import HandS.Call
import HandS.List
import HandS.Comp
import HandS.Ends
import HandS.Dict
import HandS.Iter
import HandS.Text
import HandS.Words
import HandS.Wide
import HandS.IsInst
import HandS.Exc
import HandS.ExcOwn
import HandS.WordsExc
import HandS.TryOnly
import HandS.Small
import HandS.TupAny
import HandS.More
import HandS.RaiseMore
import PyProof.Rows.StrMul
import HandS.GenList
import HandS.Conv
import HandS.StrMore
import HandS.SlotsOwn
import KE.KTupSum
import HandS.MakeKwOnly
import HandS.ClsMeth
import KE.GoesMore
import HandS.IterNext
import HandS.GenYield
import HandS.ExcIs
import HandS.TryMany
import HandS.CallLocal
import HandS.SortKw
import KE.DatumOrd
import HandS.TupMul
import HandS.Strs
import HandS.SetFor
import HandS.SetKeys
import PySem.Challenge.RW_stylepages_k83_changed_pages
set_option Elab.async false
set_option linter.all false
set_option maxRecDepth 100000
set_option maxHeartbeats 2000000
/-! Data-level readings: tuples as values, lists as cells of a store. -/
namespace Wl
open PySem L2

inductive W where
  | non | bl (b : Bool) | int (i : Int) | str (x : Str) | ty (n : String) | ref (a : Addr) | tup (ws : List W) | rl (ws : List W)

/-- a list that nobody writes -/
def RdL (K : PySem.W.Frag) (H : Hp) (a : Addr) (xs : List V) : Prop :=
  (∃ o, H a = some (.frz o (.lst xs))) ∨
    ∃ (o : Obj) (its : Array Value) (n : Nat), K.lookup a = some o ∧ o.cls = .type "list" ∧ o.dict = none ∧ o.data = .seq its n ∧ its.size ≤ sizeLine ∧ Vals xs its.toList
theorem RdL.sq {K : PySem.W.Frag} {H : Hp} {a : Addr} {xs : List V} (h : RdL K H a xs) : SqL K H a xs := by
  rcases h with h | h
  · exact .inl (.inr h)
  · exact .inr h

mutual
def Rep (K : PySem.W.Frag) (H : Hp) : W → V → Prop
  | .non, v => v = .non
  | .bl b, v => v = .bl b
  | .int i, v => v = .int i
  | .str x, v => v = .str x
  | .ty n, v => v = .ty n
  | .ref a, v => v = .ref a
  | .tup ws, v => ∃ a xs, v = .ref a ∧ SqT K H a xs ∧ RepL K H ws xs
  | .rl ws, v => ∃ a xs, v = .ref a ∧ RdL K H a xs ∧ RepL K H ws xs
def RepL (K : PySem.W.Frag) (H : Hp) : List W → List V → Prop
  | [], xs => xs = []
  | w :: ws, xs => ∃ x r, xs = x :: r ∧ Rep K H w x ∧ RepL K H ws r
end

/-- tuples, frozen things stay -/
structure Tk (H H' : Hp) : Prop where
  tup : ∀ a xs, H a = some (.tup xs) → H' a = some (.tup xs)
  frz : ∀ a o u, H a = some (.frz o u) → H' a = some (.frz o u)
theorem Tk.refl (H : Hp) : Tk H H := ⟨fun _ _ h => h, fun _ _ _ h => h⟩
theorem Tk.trans {H H1 H2 : Hp} (a : Tk H H1) (b : Tk H1 H2) : Tk H H2 := ⟨fun x xs h => b.tup x xs (a.tup x xs h), fun x o u h => b.frz x o u (a.frz x o u h)⟩
theorem Tk.new {H : Hp} {p : Addr} {o : HO} (h : H p = none) : Tk H (upd H p o) := ⟨fun a xs e => by rw [upd_ne (ne_of_none e h)]; exact e, fun a ob u e => by rw [upd_ne (ne_of_none e h)]; exact e⟩
theorem Tk.mut {H : Hp} {p : Addr} {o o' : HO} (h : H p = some o) (h1 : ∀ xs, o ≠ .tup xs) (h2 : ∀ ob u, o ≠ .frz ob u) : Tk H (upd H p o') :=
  ⟨fun a xs e => by rw [upd_ne (ne_of e h (fun z => h1 xs z.symm))]; exact e, fun a ob u e => by rw [upd_ne (ne_of e h (fun z => h2 ob u z.symm))]; exact e⟩
theorem Tk.rd {H H' : Hp} (t : Tk H H') {a : Addr} {xs : List V} (h : Rd H a (.tup xs)) : Rd H' a (.tup xs) := by
  rcases h with h | ⟨o, h⟩
  · exact .inl (t.tup a xs h)
  · exact .inr ⟨o, t.frz a o _ h⟩
theorem Tk.sqt {K : PySem.W.Frag} {H H' : Hp} (t : Tk H H') {a : Addr} {xs : List V} (h : SqT K H a xs) : SqT K H' a xs := by
  rcases h with h | h
  · exact .inl (t.rd h)
  · exact .inr h
theorem Tk.rdl {K : PySem.W.Frag} {H H' : Hp} (t : Tk H H') {a : Addr} {xs : List V} (h : RdL K H a xs) : RdL K H' a xs := by
  rcases h with ⟨o, h⟩ | h
  · exact .inl ⟨o, t.frz a o _ h⟩
  · exact .inr h
mutual
theorem Rep.tk {K : PySem.W.Frag} {H H' : Hp} (t : Tk H H') : ∀ (w : W) (v : V), Rep K H w v → Rep K H' w v
  | .non, _, h => h
  | .bl _, _, h => h
  | .int _, _, h => h
  | .str _, _, h => h
  | .ty _, _, h => h
  | .ref _, _, h => h
  | .tup ws, v, h => by
    obtain ⟨a, xs, e, h1, h2⟩ := h
    exact ⟨a, xs, e, t.sqt h1, RepL.tk t ws xs h2⟩
  | .rl ws, v, h => by
    obtain ⟨a, xs, e, h1, h2⟩ := h
    exact ⟨a, xs, e, t.rdl h1, RepL.tk t ws xs h2⟩
theorem RepL.tk {K : PySem.W.Frag} {H H' : Hp} (t : Tk H H') : ∀ (ws : List W) (xs : List V), RepL K H ws xs → RepL K H' ws xs
  | [], _, h => h
  | w :: ws, _, h => by
    obtain ⟨x, r, e, h1, h2⟩ := h
    exact ⟨x, r, e, Rep.tk t w x h1, RepL.tk t ws r h2⟩
end
section
variable {K : PySem.W.Frag} {H : Hp}
theorem RepL.nil : RepL K H [] [] := rfl
theorem RepL.cons {w : W} {ws : List W} {x : V} {xs : List V} (h : Rep K H w x) (t : RepL K H ws xs) : RepL K H (w :: ws) (x :: xs) := ⟨x, xs, rfl, h, t⟩
theorem RepL.length : ∀ {ws : List W} {xs : List V}, RepL K H ws xs → xs.length = ws.length
  | [], _, h => by cases (show _ = [] from h); rfl
  | w :: ws, _, h => by
    obtain ⟨x, r, rfl, _, h2⟩ := h
    rw [List.length_cons, List.length_cons, RepL.length h2]
theorem RepL.get : ∀ {ws : List W} {xs : List V} {i : Nat} {w : W}, RepL K H ws xs → ws[i]? = some w → ∃ x, xs[i]? = some x ∧ Rep K H w x
  | [], _, _, _, _, e => by simp at e
  | _ :: _, _, 0, _, h, e => by
    obtain ⟨x, r, rfl, h1, _⟩ := h
    simp at e; subst e
    exact ⟨x, rfl, h1⟩
  | _ :: _, _, i + 1, _, h, e => by
    obtain ⟨x, r, rfl, _, h2⟩ := h
    obtain ⟨y, e1, e2⟩ := RepL.get (i := i) h2 (by simpa using e)
    exact ⟨y, by simpa using e1, e2⟩
theorem RepL.get' : ∀ {ws : List W} {xs : List V} {i : Nat} {x : V}, RepL K H ws xs → xs[i]? = some x → ∃ w, ws[i]? = some w ∧ Rep K H w x
  | [], _, _, _, h, e => by cases (show _ = [] from h); simp at e
  | _ :: _, _, 0, _, h, e => by
    obtain ⟨x, r, rfl, h1, _⟩ := h
    simp at e; subst e
    exact ⟨_, rfl, h1⟩
  | _ :: _, _, i + 1, _, h, e => by
    obtain ⟨x, r, rfl, _, h2⟩ := h
    obtain ⟨y, e1, e2⟩ := RepL.get' (i := i) h2 (by simpa using e)
    exact ⟨y, by simpa using e1, e2⟩
theorem RepL.append : ∀ {ws zs : List W} {xs ys : List V}, RepL K H ws xs → RepL K H zs ys → RepL K H (ws ++ zs) (xs ++ ys)
  | [], _, _, _, h, t => by cases (show _ = [] from h); exact t
  | _ :: _, _, _, _, h, t => by
    obtain ⟨x, r, rfl, h1, h2⟩ := h
    exact ⟨x, r ++ _, rfl, h1, RepL.append h2 t⟩
theorem RepL.one {w : W} {x : V} (h : Rep K H w x) : RepL K H [w] [x] := .cons h .nil
theorem RepL.take : ∀ {ws : List W} {xs : List V} (n : Nat), RepL K H ws xs → RepL K H (ws.take n) (xs.take n)
  | _, _, 0, _ => by simp; rfl
  | [], _, n + 1, h => by cases (show _ = [] from h); rfl
  | _ :: _, _, n + 1, h => by
    obtain ⟨x, r, rfl, h1, h2⟩ := h
    exact ⟨x, r.take n, rfl, h1, RepL.take n h2⟩
theorem RepL.drop : ∀ {ws : List W} {xs : List V} (n : Nat), RepL K H ws xs → RepL K H (ws.drop n) (xs.drop n)
  | _, _, 0, h => by simpa using h
  | [], _, n + 1, h => by cases (show _ = [] from h); rfl
  | _ :: _, _, n + 1, h => by
    obtain ⟨x, r, rfl, h1, h2⟩ := h
    simpa using RepL.drop n h2
theorem RepL.set {w : W} {x : V} (q : Rep K H w x) : ∀ {ws : List W} {xs : List V} (i : Nat), RepL K H ws xs → RepL K H (ws.set i w) (xs.set i x)
  | [], _, _, h => by cases (show _ = [] from h); rfl
  | _ :: _, _, 0, h => by
    obtain ⟨y, r, rfl, h1, h2⟩ := h
    exact ⟨x, r, rfl, q, h2⟩
  | _ :: _, _, i + 1, h => by
    obtain ⟨y, r, rfl, h1, h2⟩ := h
    exact ⟨y, r.set i x, rfl, h1, RepL.set q i h2⟩
theorem RepL.reverse : ∀ {ws : List W} {xs : List V}, RepL K H ws xs → RepL K H ws.reverse xs.reverse
  | [], _, h => by cases (show _ = [] from h); rfl
  | _ :: _, _, h => by
    obtain ⟨y, r, rfl, h1, h2⟩ := h
    rw [List.reverse_cons, List.reverse_cons]
    exact RepL.append (RepL.reverse h2) (.one h1)
theorem RepL.dropLast : ∀ {ws : List W} {xs : List V}, RepL K H ws xs → RepL K H ws.dropLast xs.dropLast := fun {ws xs} h => by
  rw [List.dropLast_eq_take, List.dropLast_eq_take, h.length]
  exact h.take _
theorem RepL.eraseIdx : ∀ {ws : List W} {xs : List V} (i : Nat), RepL K H ws xs → RepL K H (ws.eraseIdx i) (xs.eraseIdx i) := fun {ws xs} i h => by
  rw [List.eraseIdx_eq_take_drop_succ, List.eraseIdx_eq_take_drop_succ]
  exact (h.take i).append (h.drop (i + 1))
theorem RepL.ints {ns : List Int} : ∀ {xs : List V}, RepL K H (ns.map W.int) xs → xs = ns.map V.int := by
  induction ns with
  | nil => intro xs h; exact h
  | cons n ns ih =>
    intro xs h
    obtain ⟨x, r, rfl, h1, h2⟩ := h
    rw [show x = V.int n from h1, ih h2]
    rfl
theorem RepL.ofInts {ns : List Int} : RepL K H (ns.map W.int) (ns.map V.int) := by
  induction ns with
  | nil => rfl
  | cons n ns ih => exact ⟨_, _, rfl, rfl, ih⟩
theorem RepL.bls {ns : List Bool} : ∀ {xs : List V}, RepL K H (ns.map W.bl) xs → xs = ns.map V.bl := by
  induction ns with
  | nil => intro xs h; exact h
  | cons n ns ih =>
    intro xs h
    obtain ⟨x, r, rfl, h1, h2⟩ := h
    rw [show x = V.bl n from h1, ih h2]
    rfl
theorem RepL.strs {ns : List Str} : ∀ {xs : List V}, RepL K H (ns.map W.str) xs → xs = ns.map V.str := by
  induction ns with
  | nil => intro xs h; exact h
  | cons n ns ih =>
    intro xs h
    obtain ⟨x, r, rfl, h1, h2⟩ := h
    rw [show x = V.str n from h1, ih h2]
    rfl
theorem RepL.ofStrs {ns : List Str} : RepL K H (ns.map W.str) (ns.map V.str) := by
  induction ns with
  | nil => rfl
  | cons n ns ih => exact ⟨_, _, rfl, rfl, ih⟩
end

/-! ### the store -/
inductive Cell where
  | lst (ws : List W)
  | dk (kvs : List (Key × W))
  | ins (C : Addr) (fs : List (Str × W))
def RepKV {κ : Type} (K : PySem.W.Frag) (H : Hp) : List (κ × W) → List (κ × V) → Prop
  | [], ys => ys = []
  | p :: ps, ys => ∃ v r, ys = (p.1, v) :: r ∧ Rep K H p.2 v ∧ RepKV K H ps r
theorem RepKV.tk {κ : Type} {K : PySem.W.Frag} {H H' : Hp} (t : Tk H H') : ∀ (ps : List (κ × W)) (ys : List (κ × V)), RepKV K H ps ys → RepKV K H' ps ys
  | [], _, h => h
  | p :: ps, _, h => by
    obtain ⟨v, r, e, h1, h2⟩ := h
    exact ⟨v, r, e, Rep.tk t _ v h1, RepKV.tk t ps r h2⟩
def CRep (K : PySem.W.Frag) (H : Hp) (a : Addr) : Cell → Prop
  | .lst ws => ∃ xs, H a = some (.lst xs) ∧ RepL K H ws xs
  | .dk kvs => ∃ ys, H a = some (.dK ys) ∧ RepKV K H kvs ys
  | .ins C fs => ∃ dx gs, H a = some (.ins C dx gs) ∧ RepKV K H fs gs
abbrev Sto := Addr → Option Cell
def put (S : Sto) (a : Addr) (c : Cell) : Sto := fun b => if b = a then some c else S b
theorem put_same {S : Sto} {a : Addr} {c : Cell} : put S a c a = some c := by unfold put; rw [if_pos rfl]
theorem put_ne {S : Sto} {a b : Addr} {c : Cell} (h : b ≠ a) : put S a c b = S b := by unfold put; rw [if_neg h]
theorem put_put {S : Sto} {a : Addr} {c d : Cell} : put (put S a c) a d = put S a d := by
  funext b; unfold put; split <;> rfl
theorem put_comm {S : Sto} {a b : Addr} {c d : Cell} (h : a ≠ b) : put (put S a c) b d = put (put S b d) a c := by
  funext z; unfold put
  by_cases h1 : z = b
  · rw [if_pos h1]
    by_cases h2 : z = a
    · exact absurd (h2.symm.trans h1) h
    · rw [if_neg h2, if_pos h1]
  · rw [if_neg h1]
    by_cases h2 : z = a
    · rw [if_pos h2, if_pos h2]
    · rw [if_neg h2, if_neg h2, if_neg h1]
theorem put_self {S : Sto} {a : Addr} {c : Cell} (h : S a = some c) : put S a c = S := by
  funext z; unfold put
  by_cases h2 : z = a
  · rw [if_pos h2, h2, h]
  · rw [if_neg h2]
/-- a smaller store -/
def Sub (S S' : Sto) : Prop := ∀ a c, S a = some c → S' a = some c
theorem Sub.refl (S : Sto) : Sub S S := fun _ _ h => h
theorem Sub.trans {S S1 S2 : Sto} (a : Sub S S1) (b : Sub S1 S2) : Sub S S2 := fun x c h => b x c (a x c h)
theorem Sub.new {S : Sto} {p : Addr} {c : Cell} (h : S p = none) : Sub S (put S p c) := fun a d e => by
  by_cases q : a = p
  · rw [q, h] at e; cases e
  · rw [put_ne q]; exact e
theorem Sub.put {S S' : Sto} {p : Addr} {c : Cell} (h : Sub S S') : Sub (put S p c) (put S' p c) := fun a d e => by
  by_cases q : a = p
  · rw [q, put_same] at e ⊢; exact e
  · rw [put_ne q] at e ⊢; exact h a d e
/-- new in the greater, not spoken of in the smaller -/
theorem Sub.put_new {S S' : Sto} {p : Addr} {c : Cell} (h : Sub S S') (n : S p = none) : Sub S (Wl.put S' p c) := fun a d e => by
  by_cases q : a = p
  · rw [q, n] at e; cases e
  · rw [put_ne q]; exact h a d e
theorem Sub.free {S S' : Sto} {p : Addr} (h : Sub S S') (n : S' p = none) : S p = none := by
  cases q : S p with
  | none => rfl
  | some c => rw [h p c q] at n; cases n
def HRep (K : PySem.W.Frag) (H : Hp) (S : Sto) : Prop := ∀ a c, S a = some c → CRep K H a c
theorem CRep.some {K : PySem.W.Frag} {H : Hp} {a : Addr} {c : Cell} (h : CRep K H a c) : ∃ o, H a = some o ∧ (∀ xs, o ≠ .tup xs) ∧ (∀ ob u, o ≠ .frz ob u) := by
  cases c with
  | lst ws => obtain ⟨xs, e, _⟩ := h; exact ⟨_, e, fun _ z => (by cases z), fun _ _ z => (by cases z)⟩
  | dk ws => obtain ⟨xs, e, _⟩ := h; exact ⟨_, e, fun _ z => (by cases z), fun _ _ z => (by cases z)⟩
  | ins C ws => obtain ⟨dx, xs, e, _⟩ := h; exact ⟨_, e, fun _ z => (by cases z), fun _ _ z => (by cases z)⟩
theorem CRep.tk {K : PySem.W.Frag} {H H' : Hp} {a : Addr} {c : Cell} (t : Tk H H') (e : H' a = H a) (h : CRep K H a c) : CRep K H' a c := by
  cases c with
  | lst ws => obtain ⟨xs, q, r⟩ := h; exact ⟨xs, by rw [e]; exact q, RepL.tk t _ _ r⟩
  | dk ws => obtain ⟨xs, q, r⟩ := h; exact ⟨xs, by rw [e]; exact q, RepKV.tk t _ _ r⟩
  | ins C ws => obtain ⟨dx, xs, q, r⟩ := h; exact ⟨dx, xs, by rw [e]; exact q, RepKV.tk t _ _ r⟩
section
variable {K : PySem.W.Frag} {H H' : Hp} {S S' : Sto} {p : Addr} {o : HO} {c : Cell}
theorem HRep.fresh (h : HRep K H S) (n : H p = none) : S p = none := by
  cases q : S p with
  | none => rfl
  | some c =>
    obtain ⟨o, e, _⟩ := (h p c q).some
    rw [n] at e; cases e
theorem HRep.sub (h : HRep K H S') (s : Sub S S') : HRep K H S := fun a c e => h a c (s a c e)
theorem HRep.laid (h : HRep K H S) (n : H p = none) : HRep K (upd H p o) S := fun a c e => by
  obtain ⟨u, q, _⟩ := (h a c e).some
  exact (h a c e).tk (Tk.new n) (upd_ne (ne_of_none q n))
theorem HRep.new (h : HRep K H S) (n : H p = none) (hc : CRep K (upd H p o) p c) : HRep K (upd H p o) (put S p c) := fun a d e => by
  by_cases q : a = p
  · subst q; rw [put_same] at e; cases e; exact hc
  · rw [put_ne q] at e; exact h.laid n a d e
theorem HRep.mut {c' : Cell} (h : HRep K H S) (e : S p = some c) (hc : CRep K (upd H p o) p c') : Tk H (upd H p o) ∧ HRep K (upd H p o) (put S p c') := by
  obtain ⟨u, q, h1, h2⟩ := (h p c e).some
  have t : Tk H (upd H p o) := Tk.mut q h1 h2
  refine ⟨t, fun a d z => ?_⟩
  by_cases y : a = p
  · subst y; rw [put_same] at z; cases z; exact hc
  · rw [put_ne y] at z
    exact (h a d z).tk t (upd_ne y)
end

/-! ### the frame -/
abbrev StW := List (Option W)
structure SRep (K : PySem.W.Frag) (B H : Hp) (σ : L2.St) (ρ : StW) : Prop where
  bs : Tk B H
  len : σ.length = ρ.length
  at_ : ∀ (i : Nat) (w : W), ρ[i]? = some (some w) → ∃ v, σ[i]? = some (some v) ∧ Rep K H w v
section
variable {K : PySem.W.Frag} {B H H' : Hp} {σ : L2.St} {ρ : StW}
theorem SRep.tk (h : SRep K B H σ ρ) (t : Tk H H') : SRep K B H' σ ρ := ⟨h.bs.trans t, h.len, fun i w e => by
  obtain ⟨v, e1, e2⟩ := h.at_ i w e
  exact ⟨v, e1, Rep.tk t w v e2⟩⟩
theorem SRep.set {w : W} {v : V} (h : SRep K B H σ ρ) (i : Nat) (r : Rep K H w v) : SRep K B H (σ.set i (some v)) (ρ.set i (some w)) := ⟨h.bs, by rw [List.length_set, List.length_set, h.len], fun j z e => by
  by_cases q : i = j
  · subst q
    by_cases hl : i < ρ.length
    · rw [List.getElem?_set_self hl] at e
      cases e
      exact ⟨v, List.getElem?_set_self (by rw [h.len]; exact hl), r⟩
    · rw [List.getElem?_eq_none (by rw [List.length_set]; omega)] at e
      cases e
  · rw [List.getElem?_set_ne q] at e ⊢
    exact h.at_ j z e⟩
theorem SRep.init {N : List Str} {ws : List W} {vs : List V} (r : RepL K H ws vs) : SRep K H H (L2.start N vs) (ws.map some ++ List.replicate (N.length - ws.length) none) := by
  have hl := r.length
  refine ⟨Tk.refl H, by unfold L2.start; simp [hl], fun i w e => ?_⟩
  unfold L2.start
  by_cases h : i < ws.length
  · rw [List.getElem?_append_left (by simpa using h), List.getElem?_map] at e
    cases q : ws[i]? with
    | none => rw [q] at e; cases e
    | some z =>
      rw [q] at e
      have e' : z = w := by injection e with e; injection e
      subst e'
      obtain ⟨x, hx, rx⟩ := r.get q
      refine ⟨x, ?_, rx⟩
      rw [List.getElem?_append_left (by simp [hl]; exact h), List.getElem?_map, hx]
      rfl
  · rw [List.getElem?_append_right (by simpa using h), List.getElem?_replicate] at e
    split at e <;> cases e
end
/-- the frame at a def's entry -/
def startW (N : List Str) (ws : List W) : StW := ws.map some ++ List.replicate (N.length - ws.length) none

/-! ### readings over data -/
abbrev WK := W → Sto → Prop
abbrev TEW := StW → Sto → WK → Prop
abbrev TTW := StW → Sto → (Bool → Sto → Prop) → Prop
abbrev TAW := StW → Sto → (List W → Sto → Prop) → Prop
abbrev TOW := StW → Sto → (Option Int → Sto → Prop) → Prop
abbrev RW2 := W → W → Sto → WK → Prop
abbrev RW1 := W → Sto → WK → Prop
abbrev RWC := List W → Sto → WK → Prop
structure EndsW where
  nx : StW → Sto → Prop
  rt : WK
  bk : StW → Sto → Prop := fun _ _ => False
  ct : StW → Sto → Prop := fun _ _ => False
abbrev TSW := EndsW → StW → Sto → Prop

def PoE (K : PySem.W.Frag) (H : Hp) (Q : VK) (Qw : WK) : Prop := ∀ v H' w S', Tk H H' → HRep K H' S' → Rep K H' w v → Qw w S' → Q v H'
def PoT (K : PySem.W.Frag) (H : Hp) (Q : Bool → Hp → Prop) (Qw : Bool → Sto → Prop) : Prop := ∀ b H' S', Tk H H' → HRep K H' S' → Qw b S' → Q b H'
def PoA (K : PySem.W.Frag) (H : Hp) (Q : List V → Hp → Prop) (Qw : List W → Sto → Prop) : Prop := ∀ vs H' ws S', Tk H H' → HRep K H' S' → RepL K H' ws vs → Qw ws S' → Q vs H'
def PoO (K : PySem.W.Frag) (H : Hp) (Q : Option Int → Hp → Prop) (Qw : Option Int → Sto → Prop) : Prop := ∀ b H' S', Tk H H' → HRep K H' S' → Qw b S' → Q b H'
def PoS (K : PySem.W.Frag) (B H : Hp) (Q : L2.St → Hp → Prop) (Qw : StW → Sto → Prop) : Prop := ∀ σ' H' ρ' S', Tk H H' → SRep K B H' σ' ρ' → HRep K H' S' → Qw ρ' S' → Q σ' H'
theorem PoE.tk {K : PySem.W.Frag} {H H1 : Hp} {Q : VK} {Qw : WK} (h : PoE K H Q Qw) (t : Tk H H1) : PoE K H1 Q Qw := fun v H' w S' t' => h v H' w S' (t.trans t')
theorem PoT.tk {K : PySem.W.Frag} {H H1 : Hp} {Q : Bool → Hp → Prop} {Qw : Bool → Sto → Prop} (h : PoT K H Q Qw) (t : Tk H H1) : PoT K H1 Q Qw := fun v H' S' t' => h v H' S' (t.trans t')
theorem PoA.tk {K : PySem.W.Frag} {H H1 : Hp} {Q : List V → Hp → Prop} {Qw : List W → Sto → Prop} (h : PoA K H Q Qw) (t : Tk H H1) : PoA K H1 Q Qw := fun v H' w S' t' => h v H' w S' (t.trans t')
theorem PoO.tk {K : PySem.W.Frag} {H H1 : Hp} {Q : Option Int → Hp → Prop} {Qw : Option Int → Sto → Prop} (h : PoO K H Q Qw) (t : Tk H H1) : PoO K H1 Q Qw := fun v H' S' t' => h v H' S' (t.trans t')
theorem PoS.tk {K : PySem.W.Frag} {B H H1 : Hp} {Q : L2.St → Hp → Prop} {Qw : StW → Sto → Prop} (h : PoS K B H Q Qw) (t : Tk H H1) : PoS K B H1 Q Qw := fun v H' w S' t' => h v H' w S' (t.trans t')
section
variable {K : PySem.W.Frag} {H H1 : Hp} {S : Sto} {Q : VK} {Qw : WK}
theorem PoE.int {i : Int} (po : PoE K H Q Qw) (t : Tk H H1) (hh : HRep K H1 S) (q : Qw (.int i) S) : Q (.int i) H1 := po _ H1 (.int i) S t hh rfl q
theorem PoE.str {i : Str} (po : PoE K H Q Qw) (t : Tk H H1) (hh : HRep K H1 S) (q : Qw (.str i) S) : Q (.str i) H1 := po _ H1 (.str i) S t hh rfl q
theorem PoE.bl {i : Bool} (po : PoE K H Q Qw) (t : Tk H H1) (hh : HRep K H1 S) (q : Qw (.bl i) S) : Q (.bl i) H1 := po _ H1 (.bl i) S t hh rfl q
theorem PoE.non (po : PoE K H Q Qw) (t : Tk H H1) (hh : HRep K H1 S) (q : Qw .non S) : Q .non H1 := po _ H1 .non S t hh rfl q
theorem PoE.ref {a : Addr} (po : PoE K H Q Qw) (t : Tk H H1) (hh : HRep K H1 S) (q : Qw (.ref a) S) : Q (.ref a) H1 := po _ H1 (.ref a) S t hh rfl q
theorem PoE.tup {a : Addr} {xs : List V} {ws : List W} (po : PoE K H Q Qw) (t : Tk H H1) (hh : HRep K H1 S) (h : SqT K H1 a xs) (r : RepL K H1 ws xs) (q : Qw (.tup ws) S) : Q (.ref a) H1 := po _ H1 (.tup ws) S t hh ⟨a, xs, rfl, h, r⟩ q
/-- a new list -/
theorem PoE.nlst {p : Addr} {xs : List V} {ws : List W} (po : PoE K H Q Qw) (hp : H p = none) (hh : HRep K H S) (r : RepL K H ws xs) (q : ∀ p, S p = none → Qw (.ref p) (Wl.put S p (.lst ws))) : Q (.ref p) (upd H p (.lst xs)) :=
  po.ref (Tk.new hp) (hh.new (c := .lst ws) hp ⟨xs, upd_same, RepL.tk (Tk.new hp) _ _ r⟩) (q p (hh.fresh hp))
theorem PoE.ntup {p : Addr} {xs : List V} {ws : List W} (po : PoE K H Q Qw) (hp : H p = none) (hh : HRep K H S) (r : RepL K H ws xs) (q : Qw (.tup ws) S) : Q (.ref p) (upd H p (.tup xs)) :=
  po.tup (Tk.new hp) (hh.laid hp) (SqT.of upd_same) (RepL.tk (Tk.new hp) _ _ r) q
end
structure PoD (K : PySem.W.Frag) (B H : Hp) (D : Ends) (Dw : EndsW) : Prop where
  nx : PoS K B H D.nx Dw.nx
  bk : PoS K B H D.bk Dw.bk
  ct : PoS K B H D.ct Dw.ct
  rt : PoE K H D.rt Dw.rt
theorem PoD.tk {K : PySem.W.Frag} {B H H1 : Hp} {D : Ends} {Dw : EndsW} (h : PoD K B H D Dw) (t : Tk H H1) : PoD K B H1 D Dw := ⟨h.nx.tk t, h.bk.tk t, h.ct.tk t, h.rt.tk t⟩

class LE (K : PySem.W.Frag) (B : Hp) (t : TE) (tw : outParam TEW) : Prop where
  l : ∀ σ H ρ S Q Qw, SRep K B H σ ρ → HRep K H S → tw ρ S Qw → PoE K H Q Qw → t σ H Q
class LT (K : PySem.W.Frag) (B : Hp) (t : TT) (tw : outParam TTW) : Prop where
  l : ∀ σ H ρ S Q Qw, SRep K B H σ ρ → HRep K H S → tw ρ S Qw → PoT K H Q Qw → t σ H Q
class LA (K : PySem.W.Frag) (B : Hp) (t : TA) (tw : outParam TAW) : Prop where
  l : ∀ σ H ρ S Q Qw, SRep K B H σ ρ → HRep K H S → tw ρ S Qw → PoA K H Q Qw → t σ H Q
class LO (K : PySem.W.Frag) (B : Hp) (t : TO) (tw : outParam TOW) : Prop where
  l : ∀ σ H ρ S Q Qw, SRep K B H σ ρ → HRep K H S → tw ρ S Qw → PoO K H Q Qw → t σ H Q
class LS (K : PySem.W.Frag) (B : Hp) (t : TS) (tw : outParam TSW) : Prop where
  l : ∀ σ H ρ S D Dw, SRep K B H σ ρ → HRep K H S → tw Dw ρ S → PoD K B H D Dw → t D σ H
class L2R (K : PySem.W.Frag) (r : R2) (rw : outParam RW2) : Prop where
  l : ∀ H S x y wx wy Q Qw, HRep K H S → Rep K H wx x → Rep K H wy y → rw wx wy S Qw → PoE K H Q Qw → r x y H Q
class L1R (K : PySem.W.Frag) (r : V → Hp → VK → Prop) (rw : outParam RW1) : Prop where
  l : ∀ H S x wx Q Qw, HRep K H S → Rep K H wx x → rw wx S Qw → PoE K H Q Qw → r x H Q
class LCR (K : PySem.W.Frag) (r : List V → Hp → VK → Prop) (rw : outParam RWC) : Prop where
  l : ∀ H S xs ws Q Qw, HRep K H S → RepL K H ws xs → rw ws S Qw → PoE K H Q Qw → r xs H Q
class LMR (K : PySem.W.Frag) (r : V → List V → Hp → VK → Prop) (rw : outParam (W → List W → Sto → WK → Prop)) : Prop where
  l : ∀ H S x wx xs ws Q Qw, HRep K H S → Rep K H wx x → RepL K H ws xs → rw wx ws S Qw → PoE K H Q Qw → r x xs H Q
abbrev TGW := W → StW → Sto → (StW → Sto → Prop) → Prop
abbrev TGWs := List W → StW → Sto → (StW → Sto → Prop) → Prop
class LG (K : PySem.W.Frag) (B : Hp) (g : TG) (gw : outParam TGW) : Prop where
  l : ∀ v w σ H ρ S Q Qw, Rep K H w v → SRep K B H σ ρ → HRep K H S → gw w ρ S Qw → PoS K B H Q Qw → g v σ H Q
class LGs (K : PySem.W.Frag) (B : Hp) (g : TGs) (gw : outParam TGWs) : Prop where
  l : ∀ v w σ H ρ S Q Qw, RepL K H w v → SRep K B H σ ρ → HRep K H S → gw w ρ S Qw → PoS K B H Q Qw → g v σ H Q
end Wl
set_option Elab.async false
set_option linter.all false
set_option maxRecDepth 100000
set_option maxHeartbeats 2000000
namespace Wl
open PySem L2
variable {K : PySem.W.Frag} {B : Hp}

/-! ### names, constants -/
class KR (K : PySem.W.Frag) (v : V) (w : outParam W) : Prop where
  r : ∀ H, Rep K H w v
instance kr_non : KR K .non .non := ⟨fun _ => rfl⟩
instance kr_bl {b : Bool} : KR K (.bl b) (.bl b) := ⟨fun _ => rfl⟩
instance kr_int {i : Int} : KR K (.int i) (.int i) := ⟨fun _ => rfl⟩
instance kr_str {x : Str} : KR K (.str x) (.str x) := ⟨fun _ => rfl⟩
instance kr_ty {n : String} : KR K (.ty n) (.ty n) := ⟨fun _ => rfl⟩

def rdVar (o : Option (Option W)) (S : Sto) (Q : WK) : Prop := match o with
  | some (some w) => Q w S
  | _ => False
def wVar (i : Nat) : TEW := fun ρ S Q => rdVar ρ[i]? S Q
def wC (w : W) : TEW := fun _ S Q => Q w S
instance le_var {i : Nat} : LE K B (tVar i) (wVar i) := ⟨fun σ H ρ S Q Qw hs hh q po => by
  obtain ⟨w, e, q⟩ : ∃ w, ρ[i]? = some (some w) ∧ Qw w S := by
    unfold wVar rdVar at q
    split at q
    · rename_i w e
      exact ⟨w, e, q⟩
    · exact q.elim
  obtain ⟨v, e1, r⟩ := hs.at_ i w e
  exact ⟨v, e1, po v H w S (Tk.refl H) hh r q⟩⟩
instance le_c {v : V} {w : W} [k : KR K v w] : LE K B (tC v) (wC w) := ⟨fun σ H ρ S Q Qw _ hh q po => po v H w S (Tk.refl H) hh (k.r H) q⟩

/-! ### operators -/
def wOp (r : RW2) (ta tb : TEW) : TEW := fun ρ S Q => ta ρ S fun x S1 => tb ρ S1 fun y S2 => r x y S2 Q
def wUn (r : RW1) (ta : TEW) : TEW := fun ρ S Q => ta ρ S fun x S1 => r x S1 Q
instance le_op {r : R2} {ta tb : TE} {rw : RW2} {wa wb : TEW} [h : L2R K r rw] [a : LE K B ta wa] [b : LE K B tb wb] : LE K B (tOp r ta tb) (wOp rw wa wb) := ⟨fun σ H ρ S Q Qw hs hh q po =>
  a.l σ H ρ S _ _ hs hh q fun x H1 wx S1 t1 hh1 r1 q1 => b.l σ H1 ρ S1 _ _ (hs.tk t1) hh1 q1 fun y H2 wy S2 t2 hh2 r2 q2 =>
    h.l H2 S2 x y wx wy Q Qw hh2 (Rep.tk t2 _ _ r1) r2 q2 (po.tk (t1.trans t2))⟩
instance le_un {r : V → Hp → VK → Prop} {ta : TE} {rw : RW1} {wa : TEW} [h : L1R K r rw] [a : LE K B ta wa] : LE K B (tUn r ta) (wUn rw wa) := ⟨fun σ H ρ S Q Qw hs hh q po =>
  a.l σ H ρ S _ _ hs hh q fun x H1 wx S1 t1 hh1 r1 q1 => h.l H1 S1 x wx Q Qw hh1 r1 q1 (po.tk t1)⟩

/-! a + b -/
def rAddA (K : PySem.W.Frag) : R2 := fun x y H Q => rI0 (fun i j => .int (i + j)) x y H Q ∨ (∃ i j, x = .str i ∧ y = .str j ∧ i.length + j.length ≤ sizeLine ∧ Q (.str (i ++ j)) H) ∨ rCatT K x y H Q ∨ rCat x y H Q
theorem op_addA {X : Cx} : OpR X (binaryOp .Add) (rAddA X.K) := by
  intro pins s σ H x y v u Q I rx ry h
  rcases h with h | h | h | h
  · exact op_add pins s σ H x y v u Q I rx ry h
  · exact op_add_str pins s σ H x y v u Q I rx ry h
  · exact op_catT pins s σ H x y v u Q I rx ry h
  · exact op_cat pins s σ H x y v u Q I rx ry h
def wAdd : RW2 := fun x y S Q => match x, y with
  | .int i, .int j => Q (.int (i + j)) S
  | .str i, .str j => i.length + j.length ≤ sizeLine ∧ Q (.str (i ++ j)) S
  | .tup a, .tup b => a ≠ [] ∧ a.length + b.length ≤ sizeLine ∧ Q (.tup (a ++ b)) S
  | .ref a, .ref b => ∃ xs ys, S a = some (.lst xs) ∧ S b = some (.lst ys) ∧ xs.length + ys.length ≤ sizeLine ∧ ∀ p, S p = none → Q (.ref p) (put S p (.lst (xs ++ ys)))
  | _, _ => False
instance l2_add : L2R K (rAddA K) wAdd := ⟨fun H S x y wx wy Q Qw hh rx ry q po => by
  cases wx <;> cases wy <;> try exact q.elim
  · cases (show x = _ from rx); cases (show y = _ from ry)
    exact .inl ⟨_, _, rfl, rfl, po.int (Tk.refl H) hh q⟩
  · cases (show x = _ from rx); cases (show y = _ from ry)
    exact .inr (.inl ⟨_, _, rfl, rfl, q.1, po.str (Tk.refl H) hh q.2⟩)
  · cases (show x = _ from rx); cases (show y = _ from ry)
    obtain ⟨xs, ys, e1, e2, hl, q⟩ := q
    obtain ⟨as, h1, r1⟩ := hh _ _ e1
    obtain ⟨bs, h2, r2⟩ := hh _ _ e2
    refine .inr (.inr (.inr ⟨_, _, as, bs, rfl, rfl, h1, h2, by rw [r1.length, r2.length]; exact hl, fun p hp => ?_⟩))
    exact po.nlst hp hh (r1.append r2) q
  · obtain ⟨a, as, rfl, h1, r1⟩ := (show ∃ a xs, x = .ref a ∧ _ from rx)
    obtain ⟨b, bs, rfl, h2, r2⟩ := (show ∃ a xs, y = .ref a ∧ _ from ry)
    obtain ⟨hn, hl, q⟩ := q
    refine .inr (.inr (.inl ⟨a, b, as, bs, rfl, rfl, h1, h2, fun z => ?_, by rw [r1.length, r2.length]; exact hl, fun z => ?_, fun z p hp => ?_⟩))
    · subst z
      have := r1.length
      exact hn (List.length_eq_zero_iff.mp (by simpa using this.symm))
    · subst z
      have e : _ = [] := List.length_eq_zero_iff.mp (by simpa using (r2.length).symm)
      rw [e, List.append_nil] at q
      exact po.tup (Tk.refl H) hh h1 r1 q
    · exact po.ntup hp hh (r1.append r2) q⟩

/-! ints -/
def wII (f : Int → Int → Int) : RW2 := fun x y S Q => match x, y with
  | .int i, .int j => Q (.int (f i j)) S
  | _, _ => False
def wIC (C : Int → Int → Prop) (f : Int → Int → Int) : RW2 := fun x y S Q => match x, y with
  | .int i, .int j => C i j ∧ Q (.int (f i j)) S
  | _, _ => False
instance l2_ii {f : Int → Int → Int} : L2R K (rI0 fun i j => .int (f i j)) (wII f) := ⟨fun H S x y wx wy Q Qw hh rx ry q po => by
  cases wx <;> cases wy <;> try exact q.elim
  cases (show x = _ from rx); cases (show y = _ from ry)
  exact ⟨_, _, rfl, rfl, po.int (Tk.refl H) hh q⟩⟩
instance l2_ic {C : Int → Int → Prop} {f : Int → Int → Int} : L2R K (rI C fun i j => .int (f i j)) (wIC C f) := ⟨fun H S x y wx wy Q Qw hh rx ry q po => by
  cases wx <;> cases wy <;> try exact q.elim
  cases (show x = _ from rx); cases (show y = _ from ry)
  exact ⟨_, _, rfl, rfl, q.1, po.int (Tk.refl H) hh q.2⟩⟩
def CMulA (i j : Int) : Prop := CMul i j ∨ CMulW i j
def CDivA (i j : Int) : Prop := CDiv i j ∨ CDivW i j
theorem op_mulA {X : Cx} : OpR X (binaryOp .Mult) (rI CMulA fun i j => .int (i * j)) := by
  rintro pins s σ H x y v u Q I rx ry ⟨i, j, e1, e2, h | h, q⟩
  · exact op_mul pins s σ H x y v u Q I rx ry ⟨i, j, e1, e2, h, q⟩
  · exact op_mulW pins s σ H x y v u Q I rx ry ⟨i, j, e1, e2, h, q⟩
theorem op_fdivA {X : Cx} : OpR X (binaryOp .FloorDiv) (rI CDivA fun i j => .int (i / j)) := by
  rintro pins s σ H x y v u Q I rx ry ⟨i, j, e1, e2, h | h, q⟩
  · exact op_fdiv pins s σ H x y v u Q I rx ry ⟨i, j, e1, e2, h, q⟩
  · exact op_fdivW pins s σ H x y v u Q I rx ry ⟨i, j, e1, e2, h, q⟩
def wNeg : RW1 := fun x S Q => match x with
  | .int i => Q (.int (-i)) S
  | _ => False
instance l1_neg : L1R K (rU fun i => .int (-i)) wNeg := ⟨fun H S x wx Q Qw hh rx q po => by
  cases wx <;> try exact q.elim
  cases (show x = _ from rx)
  exact ⟨_, rfl, po.int (Tk.refl H) hh q⟩⟩

/-! ### comparisons -/
mutual
def datW : W → Bool
  | .non => true | .bl _ => true | .int _ => true | .str _ => true
  | .tup ws => datWs ws | .rl ws => datWs ws
  | .ref _ => false | .ty _ => false
def datWs : List W → Bool
  | [] => true
  | w :: ws => datW w && datWs ws
end
mutual
def toD : W → PyData
  | .non => .none | .bl b => .bool b | .int i => .int i | .str x => .str x
  | .tup ws => .tuple (toDs ws) | .rl ws => .list (toDs ws)
  | .ref _ => .none | .ty _ => .none
def toDs : List W → List PyData
  | [] => []
  | w :: ws => toD w :: toDs ws
end
mutual
theorem dp_of {H : Hp} : ∀ (w : W) (v : V), datW w = true → Rep K H w v → Dp K H v (toD w)
  | .non, _, _, h => by cases (show _ = _ from h); exact .non
  | .bl b, _, _, h => by cases (show _ = _ from h); exact .bl b
  | .int i, _, _, h => by cases (show _ = _ from h); exact .int i
  | .str x, _, _, h => by cases (show _ = _ from h); exact .str x
  | .tup ws, _, d, h => by
    obtain ⟨a, xs, rfl, h1, h2⟩ := h
    exact .tup h1 (dps_of ws xs (by unfold datW at d; exact d) h2)
  | .rl ws, _, d, h => by
    obtain ⟨a, xs, rfl, h1, h2⟩ := h
    exact .lst h1.sq (dps_of ws xs (by unfold datW at d; exact d) h2)
  | .ref _, _, d, _ => by unfold datW at d; cases d
  | .ty _, _, d, _ => by unfold datW at d; cases d
theorem dps_of {H : Hp} : ∀ (ws : List W) (xs : List V), datWs ws = true → RepL K H ws xs → DpAll K H xs (toDs ws)
  | [], _, _, h => by cases (show _ = [] from h); exact .nil
  | w :: ws, _, d, h => by
    obtain ⟨x, r, rfl, h1, h2⟩ := h
    unfold datWs at d
    rw [Bool.and_eq_true] at d
    exact .cons (dp_of w x d.1 h1) (dps_of ws r d.2 h2)
end
def rEqA (K : PySem.W.Frag) : R2 := fun x y H Q => rEq x y H Q ∨ rEqD K x y H Q
def rNeA (K : PySem.W.Frag) : R2 := fun x y H Q => rNe x y H Q ∨ rNeD K x y H Q
theorem op_eqA {X : Cx} (hu : X.A.units + 64 < cLine) : OpR X (compareOp .Eq) (rEqA X.K) := by
  intro pins s σ H x y v u Q I rx ry h
  rcases h with h | h
  · exact op_eq pins s σ H x y v u Q I rx ry h
  · exact op_eqD hu pins s σ H x y v u Q I rx ry h
theorem op_neA {X : Cx} (hu : X.A.units + 64 < cLine) : OpR X (compareOp .NotEq) (rNeA X.K) := by
  intro pins s σ H x y v u Q I rx ry h
  rcases h with h | h
  · exact op_ne pins s σ H x y v u Q I rx ry h
  · exact op_neD hu pins s σ H x y v u Q I rx ry h
def shW (x : W) : Prop := datW x = true ∧ SeqAt.shaped (toD x) = true
/-- a == b: the answer goes to k -/
def wEqK (x y : W) (S : Sto) (k : Bool → Prop) : Prop := match x, y with
  | .int i, .int j => k (decide (i = j))
  | .str i, .str j => k (decide (i = j))
  | .bl i, .bl j => k (decide (i = j))
  | .non, .non => k true
  | .non, .int _ => k false
  | .int _, .non => k false
  | .non, .str _ => k false
  | .str _, .non => k false
  | .non, .bl _ => k false
  | .bl _, .non => k false
  | .int _, .str _ => k false
  | .str _, .int _ => k false
  | .ref a, .ref b => ∃ xs ys, S a = some (.lst xs) ∧ S b = some (.lst ys) ∧ shW (.rl xs) ∧ shW (.rl ys) ∧ k (PyData.eqvAll (toDs xs) (toDs ys))
  | x, y => shW x ∧ shW y ∧ k (PyData.eqv (toD x) (toD y))
def wEq : RW2 := fun x y S Q => wEqK x y S fun b => Q (.bl b) S
def wNe : RW2 := fun x y S Q => wEqK x y S fun b => Q (.bl (!b)) S
theorem eqK_of {H : Hp} {S : Sto} {x y : V} {wx wy : W} {k : Bool → Prop} (hh : HRep K H S) (rx : Rep K H wx x) (ry : Rep K H wy y) (q : wEqK wx wy S k) :
    (∃ b, scal x y = true ∧ decide (x = y) = b ∧ k b) ∨ ∃ d e, Dp K H x d ∧ Dp K H y e ∧ SeqAt.shaped d = true ∧ SeqAt.shaped e = true ∧ k (PyData.eqv d e) := by
  have gen : shW wx ∧ shW wy ∧ k (PyData.eqv (toD wx) (toD wy)) → ∃ d e, Dp K H x d ∧ Dp K H y e ∧ SeqAt.shaped d = true ∧ SeqAt.shaped e = true ∧ k (PyData.eqv d e) :=
    fun ⟨h1, h2, h3⟩ => ⟨_, _, dp_of _ _ h1.1 rx, dp_of _ _ h2.1 ry, h1.2, h2.2, h3⟩
  cases wx <;> cases wy <;> first
    | exact .inr (gen q)
    | (cases (show x = _ from rx); cases (show y = _ from ry); refine .inl ⟨_, rfl, ?_, q⟩; first | rfl | (rw [dec_int]; rw [Bool.eq_iff_iff]; simp) | (rw [dec_str]; rw [Bool.eq_iff_iff]; simp) | (rw [dec_bl]; rw [Bool.eq_iff_iff]; simp))
    | skip
  · obtain ⟨xs, ys, e1, e2, h1, h2, q⟩ := q
    cases (show x = _ from rx); cases (show y = _ from ry)
    obtain ⟨as, g1, r1⟩ := hh _ _ e1
    obtain ⟨bs, g2, r2⟩ := hh _ _ e2
    refine .inr ⟨.list (toDs xs), .list (toDs ys), .lst (SqL.of g1) (dps_of _ _ ?_ r1), .lst (SqL.of g2) (dps_of _ _ ?_ r2), h1.2, h2.2, ?_⟩
    · have := h1.1; unfold datW at this; exact this
    · have := h2.1; unfold datW at this; exact this
    · rw [show PyData.eqv (.list (toDs xs)) (.list (toDs ys)) = PyData.eqvAll (toDs xs) (toDs ys) by first | rfl | simp [PyData.eqv]]
      exact q
instance l2_eq : L2R K (rEqA K) wEq := ⟨fun H S x y wx wy Q Qw hh rx ry q po => by
  rcases eqK_of hh rx ry q with ⟨b, e, e2, q⟩ | ⟨d, e, h1, h2, h3, h4, q⟩
  · exact .inl ⟨e, by rw [e2]; exact po.bl (Tk.refl H) hh q⟩
  · exact .inr ⟨d, e, h1, h2, h3, h4, po.bl (Tk.refl H) hh q⟩⟩
instance l2_ne : L2R K (rNeA K) wNe := ⟨fun H S x y wx wy Q Qw hh rx ry q po => by
  rcases eqK_of hh rx ry q with ⟨b, e, e2, q⟩ | ⟨d, e, h1, h2, h3, h4, q⟩
  · exact .inl ⟨e, by rw [e2]; exact po.bl (Tk.refl H) hh q⟩
  · exact .inr ⟨d, e, h1, h2, h3, h4, po.bl (Tk.refl H) hh q⟩⟩
/-- orders: ints, texts -/
def rOrd (p : Int → Int → Bool) (s : Str → Str → Bool) : R2 := fun x y H Q => (∃ i j, x = .int i ∧ y = .int j ∧ Q (.bl (p i j)) H) ∨ ∃ i j, x = .str i ∧ y = .str j ∧ Q (.bl (s i j)) H
def wOrd (p : Int → Int → Bool) (s : Str → Str → Bool) : RW2 := fun x y S Q => match x, y with
  | .int i, .int j => Q (.bl (p i j)) S
  | .str i, .str j => Q (.bl (s i j)) S
  | _, _ => False
instance l2_ord {p : Int → Int → Bool} {s : Str → Str → Bool} : L2R K (rOrd p s) (wOrd p s) := ⟨fun H S x y wx wy Q Qw hh rx ry q po => by
  cases wx <;> cases wy <;> try exact q.elim
  · cases (show x = _ from rx); cases (show y = _ from ry)
    exact .inl ⟨_, _, rfl, rfl, po.bl (Tk.refl H) hh q⟩
  · cases (show x = _ from rx); cases (show y = _ from ry)
    exact .inr ⟨_, _, rfl, rfl, po.bl (Tk.refl H) hh q⟩⟩
abbrev sLt (i j : Str) : Bool := decide (i.cps.toList < j.cps.toList)
theorem op_ltA {X : Cx} : OpR X (compareOp .Lt) (rOrd (fun i j => decide (i < j)) fun i j => sLt i j) := by
  intro pins s σ H x y v u Q I rx ry h
  rcases h with h | h
  · exact op_lt pins s σ H x y v u Q I rx ry h
  · exact op_lt_str pins s σ H x y v u Q I rx ry h
theorem op_leA {X : Cx} : OpR X (compareOp .LtE) (rOrd (fun i j => decide (i ≤ j)) fun i j => !sLt j i) := by
  intro pins s σ H x y v u Q I rx ry h
  rcases h with h | h
  · exact op_le pins s σ H x y v u Q I rx ry h
  · exact op_le_str pins s σ H x y v u Q I rx ry h
theorem op_gtA {X : Cx} : OpR X (compareOp .Gt) (rOrd (fun i j => decide (j < i)) fun i j => sLt j i) := by
  intro pins s σ H x y v u Q I rx ry h
  rcases h with h | h
  · exact op_gt pins s σ H x y v u Q I rx ry h
  · exact op_gt_str pins s σ H x y v u Q I rx ry h
theorem op_geA {X : Cx} : OpR X (compareOp .GtE) (rOrd (fun i j => decide (j ≤ i)) fun i j => !sLt i j) := by
  intro pins s σ H x y v u Q I rx ry h
  rcases h with h | h
  · exact op_ge pins s σ H x y v u Q I rx ry h
  · exact op_ge_str pins s σ H x y v u Q I rx ry h

/-! in -/
def flatW : W → Bool
  | .non => true | .bl _ => true | .int _ => true | .str _ => true
  | _ => false
def eqF : W → W → Bool
  | .non, .non => true
  | .bl a, .bl b => a == b
  | .bl a, .int b => (if a then 1 else 0) == b
  | .int a, .bl b => a == (if b then 1 else 0)
  | .int a, .int b => a == b
  | .str a, .str b => a == b
  | _, _ => false
def isInW (x : W) (ws : List W) : Bool := ws.any fun y => eqF y x
theorem flat_of {H : Hp} {w : W} {v : V} (r : Rep K H w v) (f : flatW w = true) : flatV v = true := by
  cases w <;> try (cases f)
  all_goals (cases (show v = _ from r); rfl)
theorem flats_of {H : Hp} : ∀ {ws : List W} {xs : List V}, RepL K H ws xs → ws.all flatW = true → xs.all flatV = true
  | [], _, h, _ => by cases (show _ = [] from h); rfl
  | w :: ws, _, h, f => by
    obtain ⟨x, r, rfl, h1, h2⟩ := h
    rw [List.all_cons, Bool.and_eq_true] at f ⊢
    exact ⟨flat_of h1 f.1, flats_of h2 f.2⟩
theorem eqF_of {H : Hp} {w z : W} {v x : V} (r : Rep K H w v) (f : flatW w = true) (r2 : Rep K H z x) (g : flatW z = true) : eqV v x = eqF w z := by
  cases w <;> cases z <;> first
    | (cases f; done)
    | (cases g; done)
    | (cases (show v = _ from r); cases (show x = _ from r2); rfl)
theorem isIn_of {H : Hp} {z : W} {x : V} (r2 : Rep K H z x) (g : flatW z = true) : ∀ {ws : List W} {xs : List V}, RepL K H ws xs → ws.all flatW = true → inV x xs = isInW z ws
  | [], _, h, _ => by cases (show _ = [] from h); rfl
  | w :: ws, _, h, f => by
    obtain ⟨y, r, rfl, h1, h2⟩ := h
    rw [List.all_cons, Bool.and_eq_true] at f
    have ih := isIn_of r2 g h2 f.2
    unfold inV isInW at ih ⊢
    rw [List.any_cons, List.any_cons, eqF_of h1 f.1 r2 g, ih]
def rInA (K : PySem.W.Frag) (neg : Bool) : R2 := fun x y H Q => rIn K neg x y H Q ∨ ∃ i j, x = .str i ∧ y = .str j ∧ Q (.bl (if neg then !(!(Builtin.Str.occurrences j i 0 j.length 1).isEmpty) else !(Builtin.Str.occurrences j i 0 j.length 1).isEmpty)) H
theorem op_inA {X : Cx} : OpR X (compareOp .In) (rInA X.K false) := by
  intro pins s σ H x y v u Q I rx ry h
  rcases h with h | h
  · exact op_in_seq pins s σ H x y v u Q I rx ry h
  · exact op_in_str pins s σ H x y v u Q I rx ry h
theorem op_notInA {X : Cx} : OpR X (compareOp .NotIn) (rInA X.K true) := by
  intro pins s σ H x y v u Q I rx ry h
  rcases h with h | h
  · exact op_notIn_seq pins s σ H x y v u Q I rx ry h
  · exact op_notin_str pins s σ H x y v u Q I rx ry h
def wInK (x y : W) (S : Sto) (k : Bool → Prop) : Prop := match x, y with
  | .str i, .str j => k (!(Builtin.Str.occurrences j i 0 j.length 1).isEmpty)
  | x, .tup ws => flatW x = true ∧ ws.all flatW = true ∧ k (isInW x ws)
  | x, .rl ws => flatW x = true ∧ ws.all flatW = true ∧ k (isInW x ws)
  | x, .ref a => flatW x = true ∧ ∃ ws, S a = some (.lst ws) ∧ ws.all flatW = true ∧ k (isInW x ws)
  | _, _ => False
def wIn (neg : Bool) : RW2 := fun x y S Q => wInK x y S fun b => Q (.bl (if neg then !b else b)) S
instance l2_in {neg : Bool} : L2R K (rInA K neg) (wIn neg) := ⟨fun H S x y wx wy Q Qw hh rx ry q po => by
  have go : ∀ {p : Addr} {xs : List V} {ws : List W}, y = .ref p → (SqL K H p xs ∨ SqT K H p xs) → RepL K H ws xs → flatW wx = true → ws.all flatW = true → Qw (.bl (if neg then !isInW wx ws else isInW wx ws)) S → rInA K neg x y H Q :=
    fun {p xs ws} e h r f g q => .inl ⟨p, xs, e, h, flat_of rx f, flats_of r g, by rw [isIn_of rx f r g]; exact po.bl (Tk.refl H) hh q⟩
  have tup : ∀ {ws : List W}, Rep K H (.tup ws) y → (flatW wx = true ∧ ws.all flatW = true ∧ Qw (.bl (if neg then !isInW wx ws else isInW wx ws)) S) → rInA K neg x y H Q := fun {ws} r q => by
    obtain ⟨a, xs, e, h1, h2⟩ := r
    exact go e (.inr h1) h2 q.1 q.2.1 q.2.2
  have rl : ∀ {ws : List W}, Rep K H (.rl ws) y → (flatW wx = true ∧ ws.all flatW = true ∧ Qw (.bl (if neg then !isInW wx ws else isInW wx ws)) S) → rInA K neg x y H Q := fun {ws} r q => by
    obtain ⟨a, xs, e, h1, h2⟩ := r
    exact go e (.inl h1.sq) h2 q.1 q.2.1 q.2.2
  have ref : ∀ {a : Addr}, Rep K H (.ref a) y → (flatW wx = true ∧ ∃ ws, S a = some (.lst ws) ∧ ws.all flatW = true ∧ Qw (.bl (if neg then !isInW wx ws else isInW wx ws)) S) → rInA K neg x y H Q := fun {a} r q => by
    obtain ⟨f, ws, e, g, q⟩ := q
    obtain ⟨xs, h1, h2⟩ := hh _ _ e
    exact go r (.inl (SqL.of h1)) h2 f g q
  cases wx <;> cases wy <;> first
    | exact q.elim
    | exact tup ry q
    | exact rl ry q
    | exact ref ry q
    | (cases (show x = _ from rx); cases (show y = _ from ry)
       refine .inr ⟨_, _, rfl, rfl, ?_⟩
       cases neg <;> exact po.bl (Tk.refl H) hh q)⟩

/-! chains -/
def wChain (r r' : RW2) (ta tb tc : TEW) : TEW := fun ρ S Q => ta ρ S fun x S1 => tb ρ S1 fun y S2 => r x y S2 fun z S3 => match z with
  | .bl k => (k = true → tc ρ S3 fun w S4 => r' y w S4 Q) ∧ (k = false → Q (.bl false) S3)
  | _ => False
instance le_chain {r r' : R2} {ta tb tc : TE} {rw rw' : RW2} {wa wb wc : TEW} [h : L2R K r rw] [h' : L2R K r' rw'] [a : LE K B ta wa] [b : LE K B tb wb] [c : LE K B tc wc] : LE K B (tChain r r' ta tb tc) (wChain rw rw' wa wb wc) := ⟨fun σ H ρ S Q Qw hs hh q po =>
  a.l σ H ρ S _ _ hs hh q fun x H1 wx S1 t1 hh1 r1 q1 => b.l σ H1 ρ S1 _ _ (hs.tk t1) hh1 q1 fun y H2 wy S2 t2 hh2 r2 q2 =>
    h.l H2 S2 x y wx wy _ _ hh2 (Rep.tk t2 _ _ r1) r2 q2 fun z H3 wz S3 t3 hh3 r3 q3 => by
      cases wz <;> try exact q3.elim
      rename_i k
      cases (show z = _ from r3)
      refine ⟨k, rfl, ?_⟩
      cases k with
      | true =>
        rw [if_pos rfl]
        exact c.l σ H3 ρ S3 _ _ (hs.tk ((t1.trans t2).trans t3)) hh3 (q3.1 rfl) fun w H4 ww S4 t4 hh4 r4 q4 => h'.l H4 S4 y w wy ww Q Qw hh4 (Rep.tk (t3.trans t4) _ _ r2) r4 q4 (po.tk (((t1.trans t2).trans t3).trans t4))
      | false =>
        rw [if_neg Bool.false_ne_true]
        exact po.bl ((t1.trans t2).trans t3) hh3 (q3.2 rfl)⟩

/-! ### tests -/
def wT (t : TEW) : TTW := fun ρ S Q => t ρ S fun x S1 => match x with
  | .bl k => Q k S1
  | _ => False
instance lt_test {t : TE} {tw : TEW} [a : LE K B t tw] : LT K B (tTest t) (wT tw) := ⟨fun σ H ρ S Q Qw hs hh q po =>
  a.l σ H ρ S _ _ hs hh q fun x H1 wx S1 t1 hh1 r1 q1 => by
    cases wx <;> try exact q1.elim
    rename_i k
    cases (show x = _ from r1)
    exact ⟨k, rfl, po _ H1 S1 t1 hh1 q1⟩⟩
instance lt_B {t : TE} {tw : TEW} [a : LE K B t tw] : LT K B (tB t) (wT tw) := ⟨fun σ H ρ S Q Qw hs hh q po =>
  a.l σ H ρ S _ _ hs hh q fun x H1 wx S1 t1 hh1 r1 q1 => by
    cases wx <;> try exact q1.elim
    rename_i k
    cases (show x = _ from r1)
    exact ⟨k, rfl, po _ H1 S1 t1 hh1 q1⟩⟩
def wAnd (t u : TTW) : TTW := fun ρ S Q => t ρ S fun c S1 => (c = true → u ρ S1 Q) ∧ (c = false → Q false S1)
def wOr (t u : TTW) : TTW := fun ρ S Q => t ρ S fun c S1 => (c = true → Q true S1) ∧ (c = false → u ρ S1 Q)
def wNot (t : TTW) : TTW := fun ρ S Q => t ρ S fun c S1 => Q (!c) S1
instance lt_and {t u : TT} {tw uw : TTW} [a : LT K B t tw] [b : LT K B u uw] : LT K B (tAnd t u) (wAnd tw uw) := ⟨fun σ H ρ S Q Qw hs hh q po =>
  a.l σ H ρ S _ _ hs hh q fun c H1 S1 t1 hh1 q1 => by
    cases c with
    | true => rw [if_pos rfl]; exact b.l σ H1 ρ S1 _ _ (hs.tk t1) hh1 (q1.1 rfl) (po.tk t1)
    | false => rw [if_neg Bool.false_ne_true]; exact po _ H1 S1 t1 hh1 (q1.2 rfl)⟩
instance lt_or {t u : TT} {tw uw : TTW} [a : LT K B t tw] [b : LT K B u uw] : LT K B (tOr t u) (wOr tw uw) := ⟨fun σ H ρ S Q Qw hs hh q po =>
  a.l σ H ρ S _ _ hs hh q fun c H1 S1 t1 hh1 q1 => by
    cases c with
    | true => rw [if_pos rfl]; exact po _ H1 S1 t1 hh1 (q1.1 rfl)
    | false => rw [if_neg Bool.false_ne_true]; exact b.l σ H1 ρ S1 _ _ (hs.tk t1) hh1 (q1.2 rfl) (po.tk t1)⟩
instance lt_not {t : TT} {tw : TTW} [a : LT K B t tw] : LT K B (tNot t) (wNot tw) := ⟨fun σ H ρ S Q Qw hs hh q po =>
  a.l σ H ρ S _ _ hs hh q fun c H1 S1 t1 hh1 q1 => po _ H1 S1 t1 hh1 q1⟩
def wYes : TTW := fun _ S Q => Q true S
instance lt_yes : LT K B tYes wYes := ⟨fun σ H ρ S Q Qw hs hh q po => po _ H S (Tk.refl H) hh q⟩
def wAndV (t u : TEW) : TEW := fun ρ S Q => t ρ S fun x S1 => match x with
  | .bl c => (c = true → u ρ S1 Q) ∧ (c = false → Q (.bl false) S1)
  | _ => False
def wOrV (t u : TEW) : TEW := fun ρ S Q => t ρ S fun x S1 => match x with
  | .bl c => (c = true → Q (.bl true) S1) ∧ (c = false → u ρ S1 Q)
  | _ => False
def wNotV (t : TEW) : TEW := fun ρ S Q => t ρ S fun x S1 => match x with
  | .bl c => Q (.bl (!c)) S1
  | _ => False
instance le_andV {t u : TE} {tw uw : TEW} [a : LE K B t tw] [b : LE K B u uw] : LE K B (tAndV t u) (wAndV tw uw) := ⟨fun σ H ρ S Q Qw hs hh q po =>
  a.l σ H ρ S _ _ hs hh q fun x H1 wx S1 t1 hh1 r1 q1 => by
    cases wx <;> try exact q1.elim
    rename_i c
    cases (show x = _ from r1)
    refine ⟨c, rfl, ?_⟩
    cases c with
    | true => rw [if_pos rfl]; exact b.l σ H1 ρ S1 _ _ (hs.tk t1) hh1 (q1.1 rfl) (po.tk t1)
    | false => rw [if_neg Bool.false_ne_true]; exact po.bl t1 hh1 (q1.2 rfl)⟩
instance le_orV {t u : TE} {tw uw : TEW} [a : LE K B t tw] [b : LE K B u uw] : LE K B (tOrV t u) (wOrV tw uw) := ⟨fun σ H ρ S Q Qw hs hh q po =>
  a.l σ H ρ S _ _ hs hh q fun x H1 wx S1 t1 hh1 r1 q1 => by
    cases wx <;> try exact q1.elim
    rename_i c
    cases (show x = _ from r1)
    refine ⟨c, rfl, ?_⟩
    cases c with
    | true => rw [if_pos rfl]; exact po.bl t1 hh1 (q1.1 rfl)
    | false => rw [if_neg Bool.false_ne_true]; exact b.l σ H1 ρ S1 _ _ (hs.tk t1) hh1 (q1.2 rfl) (po.tk t1)⟩
instance le_notV {t : TE} {tw : TEW} [a : LE K B t tw] : LE K B (tNotV t) (wNotV tw) := ⟨fun σ H ρ S Q Qw hs hh q po =>
  a.l σ H ρ S _ _ hs hh q fun x H1 wx S1 t1 hh1 r1 q1 => by
    cases wx <;> try exact q1.elim
    rename_i c
    cases (show x = _ from r1)
    exact ⟨c, rfl, po.bl t1 hh1 q1⟩⟩
def wIfE (t : TTW) (a b : TEW) : TEW := fun ρ S Q => t ρ S fun c S1 => (c = true → a ρ S1 Q) ∧ (c = false → b ρ S1 Q)
instance le_if {t : TT} {a b : TE} {tw : TTW} {aw bw : TEW} [h : LT K B t tw] [h1 : LE K B a aw] [h2 : LE K B b bw] : LE K B (tIf t a b) (wIfE tw aw bw) := ⟨fun σ H ρ S Q Qw hs hh q po =>
  h.l σ H ρ S _ _ hs hh q fun c H1 S1 t1 hh1 q1 => by
    cases c with
    | true => rw [if_pos rfl]; exact h1.l σ H1 ρ S1 _ _ (hs.tk t1) hh1 (q1.1 rfl) (po.tk t1)
    | false => rw [if_neg Bool.false_ne_true]; exact h2.l σ H1 ρ S1 _ _ (hs.tk t1) hh1 (q1.2 rfl) (po.tk t1)⟩

/-! ### displays, arguments -/
def wNil : TAW := fun _ S Q => Q [] S
def wCons (ta : TEW) (tr : TAW) : TAW := fun ρ S Q => ta ρ S fun x S1 => tr ρ S1 fun xs S2 => Q (x :: xs) S2
instance la_nil : LA K B tNil wNil := ⟨fun σ H ρ S Q Qw hs hh q po => po [] H [] S (Tk.refl H) hh (show RepL K H [] [] from rfl) q⟩
instance la_cons {ta : TE} {tr : TA} {wa : TEW} {wr : TAW} [a : LE K B ta wa] [b : LA K B tr wr] : LA K B (tCons ta tr) (wCons wa wr) := ⟨fun σ H ρ S Q Qw hs hh q po =>
  a.l σ H ρ S _ _ hs hh q fun x H1 wx S1 t1 hh1 r1 q1 => b.l σ H1 ρ S1 _ _ (hs.tk t1) hh1 q1 fun xs H2 ws S2 t2 hh2 r2 q2 =>
    po _ H2 _ S2 (t1.trans t2) hh2 (.cons (Rep.tk t2 _ _ r1) r2) q2⟩
/-- a size that is small at sight asks nothing -/
def fits (n : Nat) (A : Prop) : Prop := match Nat.ble n 1000 with
  | true => A
  | false => n ≤ sizeLine ∧ A
theorem fits_of {n : Nat} {A : Prop} (h : fits n A) : n ≤ sizeLine ∧ A := by
  unfold fits at h
  split at h
  · rename_i e
    exact ⟨Nat.le_trans (Nat.le_of_ble_eq_true e) (by decide), h⟩
  · exact h
theorem fits_mk {n : Nat} {A : Prop} (h : n ≤ sizeLine) (a : A) : fits n A := by
  unfold fits
  split
  · exact a
  · exact ⟨h, a⟩
def wTup (t : TAW) : TEW := fun ρ S Q => t ρ S fun ws S1 => fits ws.length (Q (.tup ws) S1)
def wLst (t : TAW) : TEW := fun ρ S Q => t ρ S fun ws S1 => fits ws.length (∀ p, S1 p = none → Q (.ref p) (put S1 p (.lst ws)))
instance le_tup {t : TA} {tw : TAW} [a : LA K B t tw] : LE K B (tTup t) (wTup tw) := ⟨fun σ H ρ S Q Qw hs hh q po =>
  a.l σ H ρ S _ _ hs hh q fun xs H1 ws S1 t1 hh1 r1 q1 => ⟨by rw [r1.length]; exact (fits_of q1).1, fun p hp =>
    (po.tk t1).ntup hp hh1 r1 (fits_of q1).2⟩⟩
instance le_lst {t : TA} {tw : TAW} [a : LA K B t tw] : LE K B (tLst t) (wLst tw) := ⟨fun σ H ρ S Q Qw hs hh q po =>
  a.l σ H ρ S _ _ hs hh q fun xs H1 ws S1 t1 hh1 r1 q1 => ⟨by rw [r1.length]; exact (fits_of q1).1, fun p hp =>
    (po.tk t1).nlst hp hh1 r1 (fits_of q1).2⟩⟩

/-! ### items, slices -/
theorem atI_of {H : Hp} {ws : List W} {xs : List V} {i : Int} {w : W} (r : RepL K H ws xs) (e : atI ws i = some w) : ∃ x, atI xs i = some x ∧ Rep K H w x := by
  unfold atI at e ⊢
  rw [r.length]
  cases q : ixN ws.length i with
  | none => rw [q] at e; cases e
  | some j =>
    rw [q] at e
    exact r.get e
def rdAt (o : Option W) (S : Sto) (Q : WK) : Prop := match o with
  | some w => Q w S
  | none => False
theorem rdAt_of {o : Option W} {S : Sto} {Q : WK} (h : rdAt o S Q) : ∃ w, o = some w ∧ Q w S := by
  cases o with
  | none => exact h.elim
  | some w => exact ⟨w, rfl, h⟩
def wIx : RW2 := fun x y S Q => match x, y with
  | .tup ws, .int i => rdAt (atI ws i) S Q
  | .rl ws, .int i => rdAt (atI ws i) S Q
  | .ref a, .int i => ∃ ws, S a = some (.lst ws) ∧ rdAt (atI ws i) S Q
  | .str z, .int i => z.length ≤ sizeLine ∧ ∃ c, atI z.cps.toList i = some c ∧ Q (.str ⟨#[c]⟩) S
  | _, _ => False
instance l2_ix : L2R K (rIx K) wIx := ⟨fun H S x y wx wy Q Qw hh rx ry q po => by
  cases wx <;> cases wy <;> try exact q.elim
  · cases (show x = _ from rx); cases (show y = _ from ry)
    obtain ⟨hl, c, e, q⟩ := q
    exact .inr (.inr ⟨_, _, c, rfl, rfl, hl, e, po.str (Tk.refl H) hh q⟩)
  · cases (show x = _ from rx); cases (show y = _ from ry)
    obtain ⟨ws, e, q⟩ := q
    obtain ⟨w, e2, q⟩ := rdAt_of q
    obtain ⟨xs, h1, h2⟩ := hh _ _ e
    obtain ⟨v, e3, r⟩ := atI_of h2 e2
    exact .inl ⟨_, xs, _, v, rfl, rfl, SqL.of h1, e3, po v H w S (Tk.refl H) hh r q⟩
  · cases (show y = _ from ry)
    obtain ⟨a, xs, rfl, h1, h2⟩ := rx
    obtain ⟨w, e2, q⟩ := rdAt_of q
    obtain ⟨v, e3, r⟩ := atI_of h2 e2
    exact .inr (.inl ⟨_, xs, _, v, rfl, rfl, h1, e3, po v H w S (Tk.refl H) hh r q⟩)
  · cases (show y = _ from ry)
    obtain ⟨a, xs, rfl, h1, h2⟩ := rx
    obtain ⟨w, e2, q⟩ := rdAt_of q
    obtain ⟨v, e3, r⟩ := atI_of h2 e2
    exact .inl ⟨_, xs, _, v, rfl, rfl, h1.sq, e3, po v H w S (Tk.refl H) hh r q⟩⟩

end Wl
set_option Elab.async false
set_option linter.all false
set_option maxRecDepth 100000
set_option maxHeartbeats 2000000
namespace HT
open PySem PySem.Spec PyProof.Rows L2
variable {prog : Program} {w : World} {A : Around} {E : Value → Shared → Prop} {s : Shared}
theorem getItem_tuple_whole {t sl : Addr} {items : Array Value} {vl vu : Value} {lo hi : Option Int} {Q : Value → Shared → Prop} (ht : IsTup s.heap t items) (hs : s.heap.IsSliceOf sl vl vu .none) (pl : IsPart vl lo) (pu : IsPart vu hi)
    (hw : sIx items.size 0 lo = 0 ∧ sIx items.size items.size hi = items.size)
    (h : Q (.ref t) s) : wpAny (model prog w) A (getItem (.ref t) (.ref sl)) Q E s := by
  obtain ⟨os, hos, hcs, hds⟩ := id hs
  have hTs : s.TypeIs (.ref sl) "slice" := ⟨os, hos, hcs⟩
  unfold getItem
  try with_reducible refine wpAny_holding ?_
  first | refine wpAny_bind (wpAny_pure ?_) | skip
  refine wpAny_bind (wpAny_sequenceKey ht.typeIs (by decide) ?_)
  refine wpAny_bind (wpAny_callSpecial?_slot (name := Str.ofString "__getitem__") ht.typeIs PyProof.Rows.slot_tuple_getitem
    (wpAny_call_entry PyProof.Rows.slot_tuple_getitem ht.typeIs entry_tuple_getitem ?_ (args_tuple_getitem _ _)))
  show wpAny _ _ (Builtin.Tuple.tupleItemsOf (.ref t) >>= _) _ _ s
  refine wpAny_bind (tupleItemsOf_ ht ?_)
  refine wpAny_bind (wpAny_typeOf hTs ?_)
  rw [if_pos (by decide)]
  refine wpAny_bind (sliceApplied_gen hs pl pu ?_)
  have hyes : ((((sIx items.size 0 lo : Nat) : Int) == 0 && (1 : Int) == 1 && (sIx items.size items.size hi - sIx items.size 0 lo) == items.size) = true) := by
    rw [hw.1, hw.2]
    simp
  show wpAny _ _ (if (((sIx items.size 0 lo : Nat) : Int) == 0 && (1 : Int) == 1 && (sIx items.size items.size hi - sIx items.size 0 lo) == items.size) = true then _ else _) _ _ s
  rw [if_pos hyes]
  have hT : s.TypeIs (.ref t) "tuple" := ht.typeIs
  first
    | exact wpAny_pure ⟨_, rfl, wpAny_pure h⟩
    | exact wpAny_bind (wpAny_pure ⟨_, rfl, wpAny_pure h⟩)
    | (refine wpAny_bind (wpAny_typeOf hT ?_); rw [if_pos (by decide)]; exact wpAny_pure ⟨_, rfl, wpAny_pure h⟩)
    | (refine wpAny_bind (wpAny_bind (wpAny_typeOf hT ?_))
       refine wpAny_pure ?_
       rw [if_pos (by decide)]
       exact wpAny_bind (wpAny_rule (wpAny_pure ⟨_, rfl, wpAny_pure h⟩)))
end HT
namespace Wl
open PySem PySem.Spec PyProof.Rows L2
variable {K : PySem.W.Frag} {B : Hp}

/-! ### slices -/
def rSlTw (K : PySem.W.Frag) : V → Option Int → Option Int → Hp → VK → Prop := fun x lo hi H Q => ∃ a xs, x = .ref a ∧ SqT K H a xs ∧ (HT.sIx xs.length 0 lo = 0 ∧ HT.sIx xs.length xs.length hi = xs.length) ∧ Q (.ref a) H
theorem sl_tupw {X : Cx} : SlR X (rSlTw X.K) := by
  intro pins s σ H x v vl vu lo hi sl Q I rx hs pl pu h
  obtain ⟨a, xs, rfl, hx, hw, q⟩ := h
  cases rx
  obtain ⟨its, r, ht, hz⟩ := I.tuple hx
  have hlen : its.toArray.size = xs.length := by rw [List.size_toArray]; exact r.length.symm
  refine ⟨"tuple", _, PyProof.Rows.slot_tuple_getitem.lookup, ht.typeIs, ?_⟩
  exact HT.getItem_tuple_whole ht hs pl pu (by rw [hlen]; exact hw) ⟨.ref a, H, I, rfl, q⟩
def rSlA (K : PySem.W.Frag) : V → Option Int → Option Int → Hp → VK → Prop := fun x lo hi H Q => rSlS x lo hi H Q ∨ rSlL K x lo hi H Q ∨ rSlT K x lo hi H Q ∨ rSlTw K x lo hi H Q
theorem sl_A {X : Cx} : SlR X (rSlA X.K) := by
  intro pins s σ H x v vl vu lo hi sl Q I rx hs pl pu h
  rcases h with h | h | h | h
  · exact sl_str pins s σ H x v vl vu lo hi sl Q I rx hs pl pu h
  · exact sl_list pins s σ H x v vl vu lo hi sl Q I rx hs pl pu h
  · exact sl_tup pins s σ H x v vl vu lo hi sl Q I rx hs pl pu h
  · exact sl_tupw pins s σ H x v vl vu lo hi sl Q I rx hs pl pu h
def cutL {α : Type} (xs : List α) (lo hi : Option Int) : List α := (xs.drop (HT.sIx xs.length 0 lo)).take (HT.sIx xs.length xs.length hi - HT.sIx xs.length 0 lo)
theorem cutL_rep {H : Hp} {ws : List W} {xs : List V} (r : RepL K H ws xs) (lo hi : Option Int) : RepL K H (cutL ws lo hi) (cutV xs lo hi) := by
  unfold cutL cutV
  rw [r.length]
  exact (r.drop _).take _
theorem cutL_whole {ws : List W} {lo hi : Option Int} (h : HT.sIx ws.length 0 lo = 0 ∧ HT.sIx ws.length ws.length hi = ws.length) : cutL ws lo hi = ws := by
  unfold cutL
  rw [h.1, h.2]
  simp
def wSlR (x : W) (lo hi : Option Int) (S : Sto) (Q : WK) : Prop := match x with
  | .str z => z.length ≤ sizeLine ∧ Q (.str (cutS z lo hi)) S
  | .tup ws => Q (.tup (cutL ws lo hi)) S
  | .rl ws => ∀ p, S p = none → Q (.ref p) (put S p (.lst (cutL ws lo hi)))
  | .ref a => ∃ ws, S a = some (.lst ws) ∧ ∀ p, S p = none → Q (.ref p) (put S p (.lst (cutL ws lo hi)))
  | _ => False
def wSl (te : TEW) (tl th : TOW) : TEW := fun ρ S Q => te ρ S fun x S1 => tl ρ S1 fun l S2 => th ρ S2 fun u S3 => wSlR x l u S3 Q
def wNoPart : TOW := fun _ S Q => Q none S
def wPart (t : TEW) : TOW := fun ρ S Q => t ρ S fun x S1 => match x with
  | .int i => Q (some i) S1
  | _ => False
instance lo_none : LO K B tNoPart wNoPart := ⟨fun σ H ρ S Q Qw hs hh q po => po _ H S (Tk.refl H) hh q⟩
instance lo_some {t : TE} {tw : TEW} [a : LE K B t tw] : LO K B (tPart t) (wPart tw) := ⟨fun σ H ρ S Q Qw hs hh q po => a.l σ H ρ S _ _ hs hh q fun x H1 wx S1 t1 hh1 r1 q1 => by
  cases wx <;> try exact q1.elim
  cases (show x = _ from r1)
  exact ⟨_, rfl, po _ H1 S1 t1 hh1 q1⟩⟩
instance le_sl {te : TE} {tl th : TO} {we : TEW} {wl wh : TOW} [a : LE K B te we] [b : LO K B tl wl] [c : LO K B th wh] : LE K B (tSl (rSlA K) te tl th) (wSl we wl wh) := ⟨fun σ H ρ S Q Qw hs hh q po =>
  a.l σ H ρ S _ _ hs hh q fun x H1 wx S1 t1 hh1 r1 q1 => b.l σ H1 ρ S1 _ _ (hs.tk t1) hh1 q1 fun lo H2 S2 t2 hh2 q2 => c.l σ H2 ρ S2 _ _ (hs.tk (t1.trans t2)) hh2 q2 fun hi H3 S3 t3 hh3 q3 => by
    have rx := Rep.tk (t2.trans t3) _ _ r1
    have t := (t1.trans t2).trans t3
    cases wx <;> try exact q3.elim
    · cases (show x = _ from rx)
      exact .inl ⟨_, rfl, q3.1, po.str t hh3 q3.2⟩
    · cases (show x = _ from rx)
      obtain ⟨ws, e, q⟩ := q3
      obtain ⟨xs, h1, h2⟩ := hh3 _ _ e
      exact .inr (.inl ⟨_, xs, rfl, SqL.of h1, fun p hp => (po.tk t).nlst hp hh3 (cutL_rep h2 lo hi) q⟩)
    · obtain ⟨a, xs, rfl, h1, h2⟩ := rx
      rename_i ws
      by_cases hw : HT.sIx xs.length 0 lo = 0 ∧ HT.sIx xs.length xs.length hi = xs.length
      · refine .inr (.inr (.inr ⟨a, xs, rfl, h1, hw, ?_⟩))
        have q4 : Qw (.tup (cutL ws lo hi)) S3 := q3
        rw [cutL_whole (by rw [← h2.length]; exact hw)] at q4
        exact po.tup t hh3 h1 h2 q4
      · exact .inr (.inr (.inl ⟨a, xs, rfl, h1, hw, fun p hp => (po.tk t).ntup hp hh3 (cutL_rep h2 lo hi) q3⟩))
    · obtain ⟨a, xs, rfl, h1, h2⟩ := rx
      exact .inr (.inl ⟨a, xs, rfl, h1.sq, fun p hp => (po.tk t).nlst hp hh3 (cutL_rep h2 lo hi) q3⟩)⟩

/-! ### built-in calls -/
def wCB (r : RWC) (t : TAW) : TEW := fun ρ S Q => t ρ S fun ws S1 => r ws S1 Q
instance le_cb {r : List V → Hp → VK → Prop} {t : TA} {rw : RWC} {tw : TAW} [h : LCR K r rw] [a : LA K B t tw] : LE K B (tCB r t) (wCB rw tw) := ⟨fun σ H ρ S Q Qw hs hh q po =>
  a.l σ H ρ S _ _ hs hh q fun xs H1 ws S1 t1 hh1 r1 q1 => h.l H1 S1 xs ws Q Qw hh1 r1 q1 (po.tk t1)⟩
theorem rep1 {H : Hp} {w : W} {xs : List V} (r : RepL K H [w] xs) : ∃ x, xs = [x] ∧ Rep K H w x := by
  obtain ⟨x, r, rfl, h1, h2⟩ := r
  cases (show r = [] from h2)
  exact ⟨x, rfl, h1⟩
theorem rep2 {H : Hp} {w z : W} {xs : List V} (r : RepL K H [w, z] xs) : ∃ x y, xs = [x, y] ∧ Rep K H w x ∧ Rep K H z y := by
  obtain ⟨x, r, rfl, h1, h2⟩ := r
  obtain ⟨y, rfl, h3⟩ := rep1 h2
  exact ⟨x, y, rfl, h1, h3⟩
/-- len -/
def wLen : RWC := fun ws S Q => match ws with
  | [.str z] => z.length ≤ sizeLine ∧ Q (.int z.length) S
  | [.tup ws] => Q (.int ws.length) S
  | [.rl ws] => Q (.int ws.length) S
  | [.ref a] => ∃ ws, S a = some (.lst ws) ∧ Q (.int ws.length) S
  | _ => False
abbrev rLenA (K : PySem.W.Frag) : List V → Hp → VK → Prop := fun xs H Q => ∃ x n, xs = [x] ∧ LenV K x H n ∧ Q (.int n) H
instance lc_len : LCR K (rLenA K) wLen := ⟨fun H S xs ws Q Qw hh r q po => by
  unfold wLen at q
  split at q
  · obtain ⟨x, rfl, h1⟩ := rep1 r
    cases (show x = _ from h1)
    exact ⟨_, _, rfl, ⟨q.1, rfl⟩, po.int (Tk.refl H) hh q.2⟩
  · obtain ⟨x, rfl, a, xs, rfl, h1, h2⟩ := rep1 r
    exact ⟨_, _, rfl, .inr ⟨xs, h1, h2.length.symm⟩, po.int (Tk.refl H) hh q⟩
  · obtain ⟨x, rfl, a, xs, rfl, h1, h2⟩ := rep1 r
    exact ⟨_, _, rfl, .inl ⟨xs, h1.sq, h2.length.symm⟩, po.int (Tk.refl H) hh q⟩
  · obtain ⟨x, rfl, h1⟩ := rep1 r
    cases (show x = _ from h1)
    obtain ⟨ws, e, q⟩ := q
    obtain ⟨xs, h1, h2⟩ := hh _ _ e
    exact ⟨_, _, rfl, .inl ⟨xs, SqL.of h1, h2.length.symm⟩, po.int (Tk.refl H) hh q⟩
  · exact q.elim⟩
/-- one int in, one out -/
def w1I (f : Int → Int) : RWC := fun ws S Q => match ws with
  | [.int i] => Q (.int (f i)) S
  | _ => False
instance lc_abs : LCR K (fun xs H Q => ∃ i, xs = [.int i] ∧ Q (.int (if i < 0 then -i else i)) H) (w1I fun i => if i < 0 then -i else i) := ⟨fun H S xs ws Q Qw hh r q po => by
  unfold w1I at q
  split at q
  · obtain ⟨x, rfl, h1⟩ := rep1 r
    cases (show x = _ from h1)
    exact ⟨_, rfl, po.int (Tk.refl H) hh q⟩
  · exact q.elim⟩
def w2I (f : Int → Int → Int) : RWC := fun ws S Q => match ws with
  | [.int i, .int j] => Q (.int (f i j)) S
  | _ => False
instance lc_2i {f : Int → Int → Int} : LCR K (fun xs H Q => ∃ i j, xs = [.int i, .int j] ∧ Q (.int (f i j)) H) (w2I f) := ⟨fun H S xs ws Q Qw hh r q po => by
  unfold w2I at q
  split at q
  · obtain ⟨x, y, rfl, h1, h2⟩ := rep2 r
    cases (show x = _ from h1)
    cases (show y = _ from h2)
    exact ⟨_, _, rfl, po.int (Tk.refl H) hh q⟩
  · exact q.elim⟩
/-- int(n), int(flag) -/
def wInt1 : RWC := fun ws S Q => match ws with
  | [.int i] => Q (.int i) S
  | [.bl k] => Q (.int (if k then 1 else 0)) S
  | _ => False
instance lc_int : LCR K (fun xs H Q => (∃ i, xs = [.int i] ∧ Q (.int i) H) ∨ ∃ k, xs = [.bl k] ∧ Q (.int (if k then 1 else 0)) H) wInt1 := ⟨fun H S xs ws Q Qw hh r q po => by
  unfold wInt1 at q
  split at q
  · obtain ⟨x, rfl, h1⟩ := rep1 r
    cases (show x = _ from h1)
    exact .inl ⟨_, rfl, po.int (Tk.refl H) hh q⟩
  · obtain ⟨x, rfl, h1⟩ := rep1 r
    cases (show x = _ from h1)
    exact .inr ⟨_, rfl, po.int (Tk.refl H) hh q⟩
  · exact q.elim⟩
/-- str(n) -/
def wStr1 : RWC := fun ws S Q => match ws with
  | [.int i] => i.natAbs.log2 < 1920 ∧ Q (.str (toString i)) S
  | _ => False
instance lc_str : LCR K (fun xs H Q => ∃ i, xs = [.int i] ∧ i.natAbs.log2 < 1920 ∧ Q (.str (toString i)) H) wStr1 := ⟨fun H S xs ws Q Qw hh r q po => by
  unfold wStr1 at q
  split at q
  · obtain ⟨x, rfl, h1⟩ := rep1 r
    cases (show x = _ from h1)
    exact ⟨_, rfl, q.1, po.str (Tk.refl H) hh q.2⟩
  · exact q.elim⟩
/-- list(xs) -/
abbrev rListA (K : PySem.W.Frag) : List V → Hp → VK → Prop := fun xs H Q => ∃ p ys, xs = [.ref p] ∧ (SqL K H p ys ∨ SqT K H p ys) ∧ ∀ l, H l = none → Q (.ref l) (upd H l (.lst ys))
def wList : RWC := fun ws S Q => match ws with
  | [.tup ws] => ∀ p, S p = none → Q (.ref p) (put S p (.lst ws))
  | [.rl ws] => ∀ p, S p = none → Q (.ref p) (put S p (.lst ws))
  | [.ref a] => ∃ ws, S a = some (.lst ws) ∧ ∀ p, S p = none → Q (.ref p) (put S p (.lst ws))
  | _ => False
instance lc_list : LCR K (rListA K) wList := ⟨fun H S xs ws Q Qw hh r q po => by
  unfold wList at q
  split at q
  · obtain ⟨x, rfl, a, xs, rfl, h1, h2⟩ := rep1 r
    exact ⟨a, xs, rfl, .inr h1, fun p hp => po.nlst hp hh h2 q⟩
  · obtain ⟨x, rfl, a, xs, rfl, h1, h2⟩ := rep1 r
    exact ⟨a, xs, rfl, .inl h1.sq, fun p hp => po.nlst hp hh h2 q⟩
  · obtain ⟨x, rfl, h1⟩ := rep1 r
    cases (show x = _ from h1)
    obtain ⟨ws, e, q⟩ := q
    obtain ⟨xs, h1, h2⟩ := hh _ _ e
    exact ⟨_, xs, rfl, .inl (SqL.of h1), fun p hp => po.nlst hp hh h2 q⟩
  · exact q.elim⟩
/-- tuple(xs) -/
abbrev rTupA (K : PySem.W.Frag) : List V → Hp → VK → Prop := fun xs H Q => ∃ p ys, xs = [.ref p] ∧ ((SqL K H p ys ∧ ∀ l, H l = none → Q (.ref l) (upd H l (.tup ys))) ∨ (SqT K H p ys ∧ Q (.ref p) H))
def wTupC : RWC := fun ws S Q => match ws with
  | [.tup ws] => Q (.tup ws) S
  | [.rl ws] => Q (.tup ws) S
  | [.ref a] => ∃ ws, S a = some (.lst ws) ∧ Q (.tup ws) S
  | _ => False
instance lc_tuple : LCR K (rTupA K) wTupC := ⟨fun H S xs ws Q Qw hh r q po => by
  unfold wTupC at q
  split at q
  · obtain ⟨x, rfl, a, xs, rfl, h1, h2⟩ := rep1 r
    exact ⟨a, xs, rfl, .inr ⟨h1, po.tup (Tk.refl H) hh h1 h2 q⟩⟩
  · obtain ⟨x, rfl, a, xs, rfl, h1, h2⟩ := rep1 r
    exact ⟨a, xs, rfl, .inl ⟨h1.sq, fun p hp => po.ntup hp hh h2 q⟩⟩
  · obtain ⟨x, rfl, h1⟩ := rep1 r
    cases (show x = _ from h1)
    obtain ⟨ws, e, q⟩ := q
    obtain ⟨xs, h1, h2⟩ := hh _ _ e
    exact ⟨_, xs, rfl, .inl ⟨SqL.of h1, fun p hp => po.ntup hp hh h2 q⟩⟩
  · exact q.elim⟩
/-- sum, all, any of a list -/
instance lc_sum : LCR K (rSum K) (fun ws S Q => ∃ (a : Addr) (ns : List Int), ws = [.ref a] ∧ S a = some (.lst (ns.map W.int)) ∧ Q (.int ns.sum) S) := ⟨fun H S xs ws Q Qw hh r q po => by
  obtain ⟨a, ns, rfl, e, q⟩ := q
  obtain ⟨x, rfl, h1⟩ := rep1 r
  cases (show x = _ from h1)
  obtain ⟨xs, h1, h2⟩ := hh _ _ e
  rw [h2.ints] at h1
  exact ⟨a, ns, rfl, SqL.of h1, po.int (Tk.refl H) hh q⟩⟩
def wAllC : RWC := fun ws S Q => ∃ (a : Addr) (bs : List Bool), ws = [.ref a] ∧ S a = some (.lst (bs.map W.bl)) ∧ Q (.bl (bs.all id)) S
def wAnyC : RWC := fun ws S Q => ∃ (a : Addr) (bs : List Bool), ws = [.ref a] ∧ S a = some (.lst (bs.map W.bl)) ∧ Q (.bl (bs.any id)) S
instance lc_all : LCR K (rAll K) wAllC := ⟨fun H S xs ws Q Qw hh r q po => by
  obtain ⟨a, ns, rfl, e, q⟩ := q
  obtain ⟨x, rfl, h1⟩ := rep1 r
  cases (show x = _ from h1)
  obtain ⟨xs, h1, h2⟩ := hh _ _ e
  rw [h2.bls] at h1
  exact ⟨a, ns, rfl, SqL.of h1, po.bl (Tk.refl H) hh q⟩⟩
instance lc_any : LCR K (rAny K) wAnyC := ⟨fun H S xs ws Q Qw hh r q po => by
  obtain ⟨a, ns, rfl, e, q⟩ := q
  obtain ⟨x, rfl, h1⟩ := rep1 r
  cases (show x = _ from h1)
  obtain ⟨xs, h1, h2⟩ := hh _ _ e
  rw [h2.bls] at h1
  exact ⟨a, ns, rfl, SqL.of h1, po.bl (Tk.refl H) hh q⟩⟩

/-! isinstance of built-in types -/
def tyName : W → Sto → Option String
  | .non, _ => some "NoneType" | .bl _, _ => some "bool" | .int _, _ => some "int" | .str _, _ => some "str"
  | .tup _, _ => some "tuple" | .rl _, _ => some "list" | .ty _, _ => none
  | .ref a, S => match S a with
    | some (.lst _) => some "list"
    | some (.dk _) => some "dict"
    | _ => none
def isTy (a b : String) : Option Bool :=
  if b = "int" then (if a = "int" ∨ a = "bool" then some true else if a = "str" ∨ a = "tuple" ∨ a = "list" ∨ a = "dict" ∨ a = "NoneType" then some false else none)
  else if b = "bool" ∨ b = "str" ∨ b = "tuple" ∨ b = "list" ∨ b = "dict" then
    (if a = b then some true else if a = "int" ∨ a = "bool" ∨ a = "str" ∨ a = "tuple" ∨ a = "list" ∨ a = "dict" ∨ a = "NoneType" then some false else none)
  else none
theorem isTy_kit {a b : String} {r : Bool} (h : isTy a b = some r) : kitB a b = some r := by
  have hb : b = "int" ∨ b = "bool" ∨ b = "str" ∨ b = "tuple" ∨ b = "list" ∨ b = "dict" := by
    unfold isTy at h
    split at h
    · exact .inl (by assumption)
    · split at h
      · exact .inr (by assumption)
      · cases h
  have ha : a = "int" ∨ a = "bool" ∨ a = "str" ∨ a = "tuple" ∨ a = "list" ∨ a = "dict" ∨ a = "NoneType" := by
    unfold isTy at h
    split at h
    · split at h
      · rename_i q; rcases q with q | q
        · exact .inl q
        · exact .inr (.inl q)
      · split at h
        · rename_i q; exact .inr (.inr q)
        · cases h
    · split at h
      · rename_i q
        split at h
        · rename_i e
          rcases q with q | q | q | q | q
          · exact .inr (.inl (e.trans q))
          · exact .inr (.inr (.inl (e.trans q)))
          · exact .inr (.inr (.inr (.inl (e.trans q))))
          · exact .inr (.inr (.inr (.inr (.inl (e.trans q)))))
          · exact .inr (.inr (.inr (.inr (.inr (.inl (e.trans q))))))
        · split at h
          · assumption
          · cases h
      · cases h
  rcases hb with rfl | rfl | rfl | rfl | rfl | rfl <;> rcases ha with rfl | rfl | rfl | rfl | rfl | rfl | rfl <;>
    (rw [← h]; decide +kernel)
theorem tyX_of {H : Hp} {S : Sto} {w : W} {v : V} {n : String} (hh : HRep K H S) (r : Rep K H w v) (h : tyName w S = some n) : TyX K H v (.type n) := by
  cases w with
  | non => cases (show v = _ from r); cases h; exact .base .non
  | bl b => cases (show v = _ from r); cases h; exact .base (.bl b)
  | int b => cases (show v = _ from r); cases h; exact .base (.int b)
  | str b => cases (show v = _ from r); cases h; exact .base (.str b)
  | ty n => cases h
  | ref a =>
    cases (show v = _ from r)
    unfold tyName at h
    simp only at h
    split at h
    · rename_i e
      cases h
      obtain ⟨xs, h1, _⟩ := hh _ _ e
      exact .base (.lst h1)
    · rename_i e
      cases h
      obtain ⟨xs, h1, _⟩ := hh _ _ e
      exact .base (.dK h1)
    · cases h
  | tup ws =>
    obtain ⟨a, xs, rfl, h1, _⟩ := r
    cases h
    rcases h1 with (h1 | ⟨o, h1⟩) | ⟨o, its, n, h1, h2, _⟩
    · exact .base (.tup h1)
    · exact .fTuple h1
    · exact .kTuple h1 h2
  | rl ws =>
    obtain ⟨a, xs, rfl, h1, _⟩ := r
    cases h
    rcases h1 with ⟨o, h1⟩ | ⟨o, its, n, h1, h2, _⟩
    · exact .base (.frz h1)
    · exact .kList h1 h2
def wIsi : RWC := fun ws S Q => match ws with
  | [x, .ty n] => ∃ t b, tyName x S = some t ∧ isTy t n = some b ∧ Q (.bl b) S
  | _ => False
instance lc_isi : LCR K (rIsi K) wIsi := ⟨fun H S xs ws Q Qw hh r q po => by
  unfold wIsi at q
  split at q
  · obtain ⟨x, y, rfl, h1, h2⟩ := rep2 r
    cases (show y = _ from h2)
    obtain ⟨t, b, e1, e2, q⟩ := q
    exact ⟨x, _, _, _, b, rfl, .ty _, tyX_of hh h1 e1, kit_ty (isTy_kit e2), po.bl (Tk.refl H) hh q⟩
  · exact q.elim⟩

/-! ### calls of the text's own defs -/
abbrev SpW := List W → Sto → WK → Prop
def liftSp (K : PySem.W.Frag) (sp : SpW) : Sp := fun vs H Q _ => ∃ ws S Qw, RepL K H ws vs ∧ HRep K H S ∧ sp ws S Qw ∧ PoE K H Q Qw
def wCall (sp : SpW) (t : TAW) : TEW := fun ρ S Q => t ρ S fun ws S1 => sp ws S1 Q
instance le_call {sp : SpW} {E : XK} {t : TA} {tw : TAW} [a : LA K B t tw] : LE K B (tCall (liftSp K sp) [] E t) (wCall sp tw) := ⟨fun σ H ρ S Q Qw hs hh q po =>
  a.l σ H ρ S _ _ hs hh q fun xs H1 ws S1 t1 hh1 r1 q1 => ⟨ws, S1, Qw, by rw [List.append_nil]; exact r1, hh1, q1, po.tk t1⟩⟩
section
variable {P : Program} {w : World} {mg : Str → Option Value} {base : Heap}
structure CalW (P : Program) (w : World) (K : PySem.W.Frag) (mg : Str → Option Value) (base : Heap) (k : Nat) (x : Str) (sp : SpW) : Prop where
  ex : ∃ (f : Addr) (fd : FuncData) (ps : List Str), FnOk P w K mg base CX0 k f fd ps (liftSp K sp) ∧ mg x = some (.ref f) ∧ PySem.W.keepIn K (.ref f) = true ∧ Binds K fd ps []
theorem CalW.mono {j k : Nat} {x : Str} {sp : SpW} (c : CalW P w K mg base j x sp) (h : j ≤ k) : CalW P w K mg base k x sp := by
  obtain ⟨f, fd, ps, F, r⟩ := c.ex
  exact ⟨f, fd, ps, F.mono h, r⟩
theorem CalW.imp {k : Nat} {x : Str} {sp sp' : SpW} (c : CalW P w K mg base k x sp) (h : ∀ ws S Q, sp' ws S Q → sp ws S Q) : CalW P w K mg base k x sp' := by
  obtain ⟨f, fd, ps, F, r⟩ := c.ex
  exact ⟨f, fd, ps, F.imp fun vs H Q E ⟨ws, S, Qw, h1, h2, h3, h4⟩ => ⟨ws, S, Qw, h1, h2, h _ _ _ h3, h4⟩, r⟩
theorem pe_w {X : Cx} {k j : Nat} {x : Str} {sp : SpW} {p pos : Pos} {e : Expr} {es : List Expr} {t : TA} (c : CalW X.prog X.w X.K X.mg X.base k x sp) (hr : Room j X.A) (hk : k ≤ j) (hg : Gl X x) (ha : PA X (e :: es) t)
    (hdb : (x == ("__debug__" : Str)) = false := by decide) (he : starEach (e :: es) X.env = (false, eval e X.env) :: starEach es X.env := by rfl) (hpl : (backTo pos (starEach es X.env)).any (·.1) = false := by rfl) :
    PE X (.Call (.Name x p) (e :: es) [] pos) (tCall (liftSp X.K sp) [] E0 t) := by
  obtain ⟨f, fd, ps, F, hm, kp, b⟩ := c.ex
  exact pe_call F (hr.mono hk) hg hm kp b .nil pass0 ha hdb he hpl
theorem pe_w0 {X : Cx} {k j : Nat} {x : Str} {sp : SpW} {p pos : Pos} (c : CalW X.prog X.w X.K X.mg X.base k x sp) (hr : Room j X.A) (hk : k ≤ j) (hg : Gl X x)
    (hdb : (x == ("__debug__" : Str)) = false := by decide) : PE X (.Call (.Name x p) [] [] pos) (tCall (liftSp X.K sp) [] E0 tNil) := by
  obtain ⟨f, fd, ps, F, hm, kp, b⟩ := c.ex
  exact pe_call0 F (hr.mono hk) hg hm kp b .nil pass0 hdb
/-- behind a def's end what is wanted may speak of a smaller store -/
def Fg (Q : WK) : WK := fun v S => ∃ S', Sub S' S ∧ Q v S'
theorem Fg.here {Q : WK} {v : W} {S : Sto} (h : Q v S) : Fg Q v S := ⟨S, Sub.refl S, h⟩
theorem calW {x : Str} {st : Stmt} {f : Addr} {fd : FuncData} {N ps : List Str} {k : Nat} {sp : SpW} (F : Fun K x x st f fd) (hm : mg x = some (.ref f)) (b : Binds K fd ps []) (SC : FnScope N ps (defScope st))
    (len : ∀ ws S Q, sp ws S Q → ws.length = ps.length)
    (hbody : ∀ (cdv : Value) (A : Around) (outer : List Env) (s : Shared) (H : Hp) (E : XK), Room k (A.deeper (envOfC x (defScope st) s.heap.objs.size f cdv)) →
      ∃ t tw, PSs (cxOf CX0 P w K mg base N x (defScope st) f cdv A outer s H E).nox (defBody st) t ∧ LS K H t tw ∧ ∀ ws S Q, sp ws S Q → tw { nx := fun _ S' => Fg Q .non S', rt := Fg Q } (startW N ws) S) :
    CalW P w K mg base (k + 1) x sp :=
  ⟨f, fd, ps, F.ok SC (fun vs H Q E ⟨ws, S, Qw, h1, _, h3, _⟩ => by rw [h1.length]; exact len _ _ _ h3) (fun cdv A outer s H vs Q E hr ⟨ws, S, Qw, h1, h2, h3, h4⟩ => by
    obtain ⟨t, tw, ht, hl, hq⟩ := hbody cdv A outer s H E hr
    refine ⟨t, ht, hl.l _ H (startW N ws) S _ _ (SRep.init h1) h2 (hq ws S Qw h3) ⟨?_, fun _ _ _ _ _ _ _ z => z.elim, fun _ _ _ _ _ _ _ z => z.elim, ?_⟩⟩
    · rintro σ' H' ρ' S' t1 _ hh ⟨S2, sub, q⟩
      exact h4.non t1 (hh.sub sub) q
    · rintro v H' w S' t1 hh r ⟨S2, sub, q⟩
      exact h4 v H' w S2 t1 (hh.sub sub) r q), hm, F.kp, b⟩
end

/-! ### methods -/
def tyB (T : String) : W → Sto → Prop
  | .str _, _ => T = "str"
  | .int _, _ => T = "int"
  | .rl _, _ => T = "list"
  | .ref a, S => (T = "list" ∧ ∃ ws, S a = some (.lst ws)) ∨ (T = "dict" ∧ ∃ kvs, S a = some (.dk kvs))
  | _, _ => False
theorem tyB_of {H : Hp} {S : Sto} {T : String} {w : W} {v : V} (hh : HRep K H S) (r : Rep K H w v) (h : tyB T w S) : tyV K T v H := by
  cases w with
  | str x => cases (show v = _ from r); exact h
  | int x => cases (show v = _ from r); exact h
  | rl ws => obtain ⟨a, xs, rfl, h1, _⟩ := r; exact .inl ⟨h, xs, h1.sq⟩
  | ref a =>
    cases (show v = _ from r)
    rcases h with ⟨h, ws, e⟩ | ⟨h, kvs, e⟩
    · obtain ⟨xs, h1, _⟩ := hh _ _ e
      exact .inl ⟨h, xs, SqL.of h1⟩
    · obtain ⟨xs, h1, _⟩ := hh _ _ e
      exact .inr (.inr (.inl ⟨h, .inl ⟨xs, h1⟩⟩))
  | _ => exact h.elim
def wBM (T : String) (r : W → List W → Sto → WK → Prop) (to : TEW) (t : TAW) : TEW := fun ρ S Q => to ρ S fun x S1 => tyB T x S1 ∧ t ρ S1 fun xs S2 => r x xs S2 Q
def wBM0 (T : String) (r : W → List W → Sto → WK → Prop) (to : TEW) : TEW := fun ρ S Q => to ρ S fun x S1 => tyB T x S1 ∧ r x [] S1 Q
instance le_bm {T : String} {r : V → List V → Hp → VK → Prop} {to : TE} {t : TA} {rw : W → List W → Sto → WK → Prop} {wo : TEW} {tw : TAW} [h : LMR K r rw] [a : LE K B to wo] [b : LA K B t tw] : LE K B (tBM K T r to t) (wBM T rw wo tw) := ⟨fun σ H ρ S Q Qw hs hh q po =>
  a.l σ H ρ S _ _ hs hh q fun x H1 wx S1 t1 hh1 r1 q1 => ⟨tyB_of hh1 r1 q1.1, b.l σ H1 ρ S1 _ _ (hs.tk t1) hh1 q1.2 fun xs H2 ws S2 t2 hh2 r2 q2 => h.l H2 S2 x wx xs ws Q Qw hh2 (Rep.tk t2 _ _ r1) r2 q2 (po.tk (t1.trans t2))⟩⟩
instance le_bm0 {T : String} {r : V → List V → Hp → VK → Prop} {to : TE} {rw : W → List W → Sto → WK → Prop} {wo : TEW} [h : LMR K r rw] [a : LE K B to wo] : LE K B (tBM0 K T r to) (wBM0 T rw wo) := ⟨fun σ H ρ S Q Qw hs hh q po =>
  a.l σ H ρ S _ _ hs hh q fun x H1 wx S1 t1 hh1 r1 q1 => ⟨tyB_of hh1 r1 q1.1, h.l H1 S1 x wx [] [] Q Qw hh1 r1 RepL.nil q1.2 (po.tk t1)⟩⟩
def wAppend : W → List W → Sto → WK → Prop := fun x ws S Q => match x, ws with
  | .ref l, [y] => ∃ xs, S l = some (.lst xs) ∧ xs.length < sizeLine ∧ Q .non (put S l (.lst (xs ++ [y])))
  | _, _ => False
instance lm_append : LMR K rAppend wAppend := ⟨fun H S x wx xs ws Q Qw hh rx r q po => by
  unfold wAppend at q
  split at q
  · cases (show x = _ from rx)
    obtain ⟨y, rfl, ry⟩ := rep1 r
    obtain ⟨zs, e, hl, q⟩ := q
    obtain ⟨vs, h1, h2⟩ := hh _ _ e
    have t : Tk H (upd H _ (.lst (vs ++ [y]))) := Tk.mut h1 (fun _ z => (by cases z)) (fun _ _ z => (by cases z))
    obtain ⟨t, hm⟩ := hh.mut (c' := .lst _) (o := .lst (vs ++ [y])) e ⟨_, upd_same, (RepL.tk t _ _ h2).append (.one (Rep.tk t _ _ ry))⟩
    exact ⟨_, vs, y, rfl, rfl, h1, by rw [h2.length]; exact hl, po.non t hm q⟩
  · exact q.elim⟩
def wPop : W → List W → Sto → WK → Prop := fun x ws S Q => match x, ws with
  | .ref l, [] => ∃ xs y, S l = some (.lst xs) ∧ xs[xs.length - 1]? = some y ∧ Q y (put S l (.lst xs.dropLast))
  | _, _ => False
instance lm_pop : LMR K rPop wPop := ⟨fun H S x wx xs ws Q Qw hh rx r q po => by
  unfold wPop at q
  split at q
  · cases (show x = _ from rx)
    cases (show xs = [] from r)
    obtain ⟨zs, y, e, hy, q⟩ := q
    obtain ⟨vs, h1, h2⟩ := hh _ _ e
    obtain ⟨v, e2, rv⟩ := h2.get hy
    have t : Tk H (upd H _ (.lst vs.dropLast)) := Tk.mut h1 (fun _ z => (by cases z)) (fun _ _ z => (by cases z))
    obtain ⟨t, hm⟩ := hh.mut (c' := .lst _) (o := .lst vs.dropLast) e ⟨_, upd_same, (RepL.tk t _ _ h2).dropLast⟩
    exact ⟨_, vs, v, rfl, rfl, h1, by rw [h2.length]; exact e2, po v _ y _ t hm (Rep.tk t _ _ rv) q⟩
  · exact q.elim⟩
def wPopAt : W → List W → Sto → WK → Prop := fun x ws S Q => match x, ws with
  | .ref l, [.int i] => ∃ xs k y, S l = some (.lst xs) ∧ -(2 ^ 63) ≤ i ∧ i < 2 ^ 63 ∧ seqIndex? i xs.length = some k ∧ xs[k]? = some y ∧ Q y (put S l (.lst (xs.eraseIdx k)))
  | _, _ => False
instance lm_popAt : LMR K rPopAt wPopAt := ⟨fun H S x wx xs ws Q Qw hh rx r q po => by
  unfold wPopAt at q
  split at q
  · cases (show x = _ from rx)
    obtain ⟨i, rfl, ri⟩ := rep1 r
    cases (show i = _ from ri)
    obtain ⟨zs, k, y, e, b1, b2, b3, hy, q⟩ := q
    obtain ⟨vs, h1, h2⟩ := hh _ _ e
    obtain ⟨v, e2, rv⟩ := h2.get hy
    have t : Tk H (upd H _ (.lst (vs.eraseIdx k))) := Tk.mut h1 (fun _ z => (by cases z)) (fun _ _ z => (by cases z))
    obtain ⟨t, hm⟩ := hh.mut (c' := .lst _) (o := .lst (vs.eraseIdx k)) e ⟨_, upd_same, (RepL.tk t _ _ h2).eraseIdx k⟩
    exact ⟨_, vs, _, k, v, rfl, rfl, h1, b1, b2, by rw [h2.length]; exact b3, e2, po v _ y _ t hm (Rep.tk t _ _ rv) q⟩
  · exact q.elim⟩
def wReverse : W → List W → Sto → WK → Prop := fun x ws S Q => match x, ws with
  | .ref l, [] => ∃ xs, S l = some (.lst xs) ∧ Q .non (put S l (.lst xs.reverse))
  | _, _ => False
instance lm_reverse : LMR K rReverse wReverse := ⟨fun H S x wx xs ws Q Qw hh rx r q po => by
  unfold wReverse at q
  split at q
  · cases (show x = _ from rx)
    cases (show xs = [] from r)
    obtain ⟨zs, e, q⟩ := q
    obtain ⟨vs, h1, h2⟩ := hh _ _ e
    have t : Tk H (upd H _ (.lst vs.reverse)) := Tk.mut h1 (fun _ z => (by cases z)) (fun _ _ z => (by cases z))
    obtain ⟨t, hm⟩ := hh.mut (c' := .lst _) (o := .lst vs.reverse) e ⟨_, upd_same, (RepL.tk t _ _ h2).reverse⟩
    exact ⟨_, vs, rfl, rfl, h1, po.non t hm q⟩
  · exact q.elim⟩

/-! ### targets -/
def wName (i : Nat) : TGW := fun w ρ S Q => Q (ρ.set i (some w)) S
instance lg_name {i : Nat} : LG K B (gName i) (wName i) := ⟨fun v w σ H ρ S Q Qw r hs hh q po => po _ H _ S (Tk.refl H) (hs.set i r) hh q⟩
def wGNil : TGWs := fun ws ρ S Q => ws = [] ∧ Q ρ S
def wGCons (t : TGW) (u : TGWs) : TGWs := fun ws ρ S Q => match ws with
  | w :: r => t w ρ S fun ρ' S' => u r ρ' S' Q
  | [] => False
instance lgs_nil : LGs K B gNil wGNil := ⟨fun v w σ H ρ S Q Qw r hs hh q po => by
  obtain ⟨e, q⟩ := q
  subst e
  exact ⟨r, po _ H _ S (Tk.refl H) hs hh q⟩⟩
instance lgs_cons {t : TG} {u : TGs} {tw : TGW} {uw : TGWs} [a : LG K B t tw] [b : LGs K B u uw] : LGs K B (gCons t u) (wGCons tw uw) := ⟨fun v w σ H ρ S Q Qw r hs hh q po => by
  cases w with
  | nil => exact q.elim
  | cons w ws =>
    obtain ⟨x, xs, rfl, h1, h2⟩ := r
    exact ⟨x, xs, rfl, a.l x w σ H ρ S _ _ h1 hs hh q fun σ' H' ρ' S' t1 hs' hh' q' => b.l xs ws σ' H' ρ' S' _ _ (RepL.tk t1 _ _ h2) hs' hh' q' (po.tk t1)⟩⟩
def wGTup (n : Nat) (u : TGWs) : TGW := fun w ρ S Q => match w with
  | .tup ws => ws.length = n ∧ u ws ρ S Q
  | _ => False
instance lg_tup {n : Nat} {u : TGs} {uw : TGWs} [b : LGs K B u uw] : LG K B (gTup K n u) (wGTup n uw) := ⟨fun v w σ H ρ S Q Qw r hs hh q po => by
  cases w <;> try exact q.elim
  obtain ⟨a, xs, rfl, h1, h2⟩ := r
  exact ⟨a, xs, rfl, h1, by rw [h2.length]; exact q.1, b.l _ _ σ H ρ S _ _ h2 hs hh q.2 po⟩⟩
/-- xs[i] = e -/
def wGSub (to ti : TEW) : TGW := fun w ρ S Q => to ρ S fun o S1 => ti ρ S1 fun i S2 => match o, i with
  | .ref p, .int k => ∃ ws j, S2 p = some (.lst ws) ∧ ixN ws.length k = some j ∧ Q ρ (put S2 p (.lst (ws.set j w)))
  | _, _ => False
instance lg_sub {to ti : TE} {wo wi : TEW} [a : LE K B to wo] [b : LE K B ti wi] : LG K B (gSub to ti rSetL) (wGSub wo wi) := ⟨fun v w σ H ρ S Q Qw r hs hh q po =>
  a.l σ H ρ S _ _ hs hh q fun o H1 wo S1 t1 hh1 r1 q1 => b.l σ H1 ρ S1 _ _ (hs.tk t1) hh1 q1 fun i H2 wi S2 t2 hh2 r2 q2 => by
    have ro := Rep.tk t2 _ _ r1
    cases wo <;> cases wi <;> try exact q2.elim
    cases (show o = _ from ro)
    cases (show i = _ from r2)
    obtain ⟨ws, j, e, hj, q⟩ := q2
    obtain ⟨xs, h1, h2⟩ := hh2 _ _ e
    have rv := Rep.tk (t1.trans t2) _ _ r
    have t : Tk H2 (upd H2 _ (.lst (xs.set j v))) := Tk.mut h1 (fun _ z => (by cases z)) (fun _ _ z => (by cases z))
    obtain ⟨t, hm⟩ := hh2.mut (c' := .lst _) (o := .lst (xs.set j v)) e ⟨_, upd_same, RepL.set (Rep.tk t _ _ rv) j (RepL.tk t _ _ h2)⟩
    exact ⟨_, xs, _, j, rfl, rfl, h1, by rw [h2.length]; exact hj, po _ _ _ _ ((t1.trans t2).trans t) (hs.tk ((t1.trans t2).trans t)) hm q⟩⟩

/-! ### statements -/
def wNext : TSW := fun D ρ S => D.nx ρ S
def wSeq (t u : TSW) : TSW := fun D ρ S => t { D with nx := u D } ρ S
def wBreak : TSW := fun D ρ S => D.bk ρ S
def wCont : TSW := fun D ρ S => D.ct ρ S
def wAsg (te : TEW) (g : TGW) : TSW := fun D ρ S => te ρ S fun x S1 => g x ρ S1 D.nx
def wDrop (te : TEW) : TSW := fun D ρ S => te ρ S fun _ S1 => D.nx ρ S1
def wRet (te : TEW) : TSW := fun D ρ S => te ρ S D.rt
def wRetN : TSW := fun D _ S => D.rt .non S
def wIfS (c : TTW) (t u : TSW) : TSW := fun D ρ S => c ρ S fun b S1 => (b = true → t D ρ S1) ∧ (b = false → u D ρ S1)
instance ls_next : LS K B tNext wNext := ⟨fun σ H ρ S D Dw hs hh q po => po.nx σ H ρ S (Tk.refl H) hs hh q⟩
instance ls_seq {t u : TS} {tw uw : TSW} [a : LS K B t tw] [b : LS K B u uw] : LS K B (tSeq t u) (wSeq tw uw) := ⟨fun σ H ρ S D Dw hs hh q po =>
  a.l σ H ρ S { D with nx := u D } { Dw with nx := uw Dw } hs hh q ⟨fun σ' H' ρ' S' t1 hs' hh' q' => b.l σ' H' ρ' S' D Dw hs' hh' q' (po.tk t1), po.bk, po.ct, po.rt⟩⟩
instance ls_break : LS K B tBreak wBreak := ⟨fun σ H ρ S D Dw hs hh q po => po.bk σ H ρ S (Tk.refl H) hs hh q⟩
instance ls_cont : LS K B tCont wCont := ⟨fun σ H ρ S D Dw hs hh q po => po.ct σ H ρ S (Tk.refl H) hs hh q⟩
instance ls_asg {te : TE} {g : TG} {we : TEW} {gw : TGW} [a : LE K B te we] [b : LG K B g gw] : LS K B (tAsg te g) (wAsg we gw) := ⟨fun σ H ρ S D Dw hs hh q po =>
  a.l σ H ρ S _ _ hs hh q fun x H1 wx S1 t1 hh1 r1 q1 => b.l x wx σ H1 ρ S1 _ _ r1 (hs.tk t1) hh1 q1 (po.nx.tk t1)⟩
instance ls_drop {te : TE} {we : TEW} [a : LE K B te we] : LS K B (tDrop te) (wDrop we) := ⟨fun σ H ρ S D Dw hs hh q po =>
  a.l σ H ρ S _ _ hs hh q fun x H1 wx S1 t1 hh1 r1 q1 => po.nx σ H1 ρ S1 t1 (hs.tk t1) hh1 q1⟩
instance ls_ret {te : TE} {we : TEW} [a : LE K B te we] : LS K B (tRet te) (wRet we) := ⟨fun σ H ρ S D Dw hs hh q po => a.l σ H ρ S _ _ hs hh q po.rt⟩
instance ls_retN : LS K B tRetN wRetN := ⟨fun σ H ρ S D Dw hs hh q po => po.rt.non (Tk.refl H) hh q⟩
instance ls_if {c : TT} {t u : TS} {cw : TTW} {tw uw : TSW} [h : LT K B c cw] [a : LS K B t tw] [b : LS K B u uw] : LS K B (tIfS c t u) (wIfS cw tw uw) := ⟨fun σ H ρ S D Dw hs hh q po =>
  h.l σ H ρ S _ _ hs hh q fun k H1 S1 t1 hh1 q1 => by
    cases k with
    | true => rw [if_pos rfl]; exact a.l σ H1 ρ S1 D Dw (hs.tk t1) hh1 (q1.1 rfl) (po.tk t1)
    | false => rw [if_neg Bool.false_ne_true]; exact b.l σ H1 ρ S1 D Dw (hs.tk t1) hh1 (q1.2 rfl) (po.tk t1)⟩
/-- x += e, x -= e (ints) -/
def wAugI (i : Nat) (te : TEW) (f : Int → Int → Int) : TSW := fun D ρ S => ∃ x, ρ[i]? = some (some x) ∧ te ρ S fun y S1 => match x, y with
  | .int a, .int b => D.nx (ρ.set i (some (.int (f a b)))) S1
  | _, _ => False
instance ls_aug {i : Nat} {te : TE} {f : Int → Int → Int} {we : TEW} [a : LE K B te we] : LS K B (tAug i te (ipI f)) (wAugI i we f) := ⟨fun σ H ρ S D Dw hs hh ⟨x, e, q⟩ po => by
  obtain ⟨v, e1, r⟩ := hs.at_ i x e
  refine ⟨v, e1, a.l σ H ρ S _ _ hs hh q fun y H1 wy S1 t1 hh1 r1 q1 => ?_⟩
  cases x <;> cases wy <;> try exact q1.elim
  cases (show v = _ from r)
  cases (show y = _ from r1)
  rename_i n m
  exact ⟨_, _, rfl, rfl, po.nx _ H1 _ S1 t1 ((hs.tk t1).set i (w := .int (f n m)) (show Rep K H1 (.int (f n m)) (.int (f n m)) from rfl)) hh1 q1⟩⟩
def wWhile (c : TTW) (tb : TSW) : TSW := fun D ρ S => ∃ I : Nat → StW → Sto → Prop, (∃ m, I m ρ S) ∧ ∀ m ρ S, I m ρ S → c ρ S fun b S1 =>
  (b = true → tb { D with nx := fun ρ' S' => ∃ m', m' < m ∧ I m' ρ' S', ct := fun ρ' S' => ∃ m', m' < m ∧ I m' ρ' S', bk := D.nx } ρ S1) ∧ (b = false → D.nx ρ S1)
instance ls_while {c : TT} {tb : TS} {cw : TTW} {tw : TSW} [h : LT K B c cw] [a : LS K B tb tw] : LS K B (tWhile c tb) (wWhile cw tw) := ⟨fun σ H ρ S D Dw hs hh ⟨I, ⟨m0, i0⟩, st⟩ po => by
  refine ⟨fun m σ' H' => ∃ ρ' S', Tk H H' ∧ SRep K B H' σ' ρ' ∧ HRep K H' S' ∧ I m ρ' S', ⟨m0, ρ, S, Tk.refl H, hs, hh, i0⟩, ?_⟩
  rintro m σ1 H1 ⟨ρ1, S1, t1, hs1, hh1, i1⟩
  refine h.l σ1 H1 ρ1 S1 _ _ hs1 hh1 (st m ρ1 S1 i1) fun b H2 S2 t2 hh2 q2 => ?_
  cases b with
  | true =>
    rw [if_pos rfl]
    refine ⟨fun σ' H' => ∃ m', m' < m ∧ ∃ ρ' S', Tk H H' ∧ SRep K B H' σ' ρ' ∧ HRep K H' S' ∧ I m' ρ' S', fun σ' H' z => z, ?_⟩
    refine a.l σ1 H2 ρ1 S2 _ _ (hs1.tk t2) hh2 (q2.1 rfl) ⟨?_, ?_, ?_, po.rt.tk (t1.trans t2)⟩
    · rintro σ' H' ρ' S' t3 hs3 hh3 ⟨m', hm, q⟩
      exact ⟨m', hm, ρ', S', (t1.trans t2).trans t3, hs3, hh3, q⟩
    · exact po.nx.tk (t1.trans t2)
    · rintro σ' H' ρ' S' t3 hs3 hh3 ⟨m', hm, q⟩
      exact ⟨m', hm, ρ', S', (t1.trans t2).trans t3, hs3, hh3, q⟩
  | false =>
    rw [if_neg Bool.false_ne_true]
    exact po.nx σ1 H2 ρ1 S2 (t1.trans t2) (hs1.tk t2) hh2 (q2.2 rfl)⟩
end Wl
set_option Elab.async false
set_option linter.all false
set_option maxRecDepth 100000
set_option maxHeartbeats 2000000
namespace Wl
open PySem PySem.Spec PyProof.Rows L2
variable {K : PySem.W.Frag} {B : Hp}

/-! ### what a for walks -/
/-- the iterator J goes over the data ws while ok holds of the store -/
structure IsSrc (K : PySem.W.Frag) (H1 : Hp) (J : It) (ws : List W) (ok : Sto → Prop) : Prop where
  go : ∀ i H S, Tk H1 H → HRep K H S → ok S → i < ws.length → J.go i H
  yld : ∀ i H S x H', Tk H1 H → HRep K H S → ok S → i < ws.length → J.yld i H x H' → Tk H H' ∧ HRep K H' S ∧ ∃ w, ws[i]? = some w ∧ Rep K H' w x
  stop : ∀ i H S, Tk H1 H → HRep K H S → ok S → ws.length ≤ i → J.stop i H
abbrev TIW := StW → Sto → (List W → (Sto → Prop) → Sto → Prop) → Prop
class LI (K : PySem.W.Frag) (B : Hp) (t : TI) (tw : outParam TIW) : Prop where
  l : ∀ σ H ρ S R Rw, SRep K B H σ ρ → HRep K H S → tw ρ S Rw → (∀ J H' S' ws ok, Tk H H' → HRep K H' S' → IsSrc K H' J ws ok → Rw ws ok S' → R J H') → t σ H R

def anyS : Sto → Prop := fun _ => True
def keepS (a : Addr) (ws : List W) : Sto → Prop := fun S => S a = some (.lst ws)
theorem src_list {H1 : Hp} {a : Addr} {ws : List W} : IsSrc K H1 (Itl K a) ws (keepS a ws) where
  go := fun i H S t hh ok hi => by
    obtain ⟨xs, h1, h2⟩ := hh _ _ ok
    exact ⟨xs, xs[i]'(by rw [h2.length]; exact hi), SqL.of h1, by simp [h2.length, hi]⟩
  yld := fun i H S x H' t hh ok hi y => by
    obtain ⟨e, y⟩ := y
    subst e
    obtain ⟨xs, h1, h2⟩ := hh _ _ ok
    obtain ⟨w, e, r⟩ := h2.get' (y xs (SqL.of h1))
    exact ⟨Tk.refl _, hh, w, e, r⟩
  stop := fun i H S t hh ok hi => by
    obtain ⟨xs, h1, h2⟩ := hh _ _ ok
    exact ⟨xs, SqL.of h1, by rw [h2.length]; exact hi⟩
theorem src_rl {H1 : Hp} {a : Addr} {xs : List V} {ws : List W} (h : RdL K H1 a xs) (r : RepL K H1 ws xs) : IsSrc K H1 (Itl K a) ws anyS where
  go := fun i H S t hh ok hi => ⟨xs, xs[i]'(by rw [r.length]; exact hi), (t.rdl h).sq, by simp [r.length, hi]⟩
  yld := fun i H S x H' t hh ok hi y => by
    obtain ⟨e, y⟩ := y
    subst e
    obtain ⟨w, e, r⟩ := (RepL.tk t _ _ r).get' (y xs (t.rdl h).sq)
    exact ⟨Tk.refl _, hh, w, e, r⟩
  stop := fun i H S t hh ok hi => ⟨xs, (t.rdl h).sq, by rw [r.length]; exact hi⟩
theorem src_tup {H1 : Hp} {a : Addr} {xs : List V} {ws : List W} (h : SqT K H1 a xs) (r : RepL K H1 ws xs) : IsSrc K H1 (Itt K a) ws anyS where
  go := fun i H S t hh ok hi => ⟨xs, xs[i]'(by rw [r.length]; exact hi), t.sqt h, by simp [r.length, hi]⟩
  yld := fun i H S x H' t hh ok hi y => by
    obtain ⟨e, y⟩ := y
    subst e
    obtain ⟨w, e, r⟩ := (RepL.tk t _ _ r).get' (y xs (t.sqt h))
    exact ⟨Tk.refl _, hh, w, e, r⟩
  stop := fun i H S t hh ok hi => ⟨xs, t.sqt h, by rw [r.length]; exact hi⟩
/-- lo, lo + 1, .. n of them -/
def intsW (lo : Int) (n : Nat) : List W := (List.range n).map fun i => W.int (lo + (i : Nat))
theorem intsW_len {lo : Int} {n : Nat} : (intsW lo n).length = n := by unfold intsW; simp
theorem intsW_get {lo : Int} {n i : Nat} (h : i < n) : (intsW lo n)[i]? = some (W.int (lo + (i : Nat))) := by unfold intsW; simp [h]
theorem intsW_at {lo : Int} {n i : Nat} {w : W} (h : (intsW lo n)[i]? = some w) : i < n ∧ w = W.int (lo + (i : Nat)) := by
  unfold intsW at h
  rw [List.getElem?_map] at h
  by_cases q : i < n
  · rw [List.getElem?_range q] at h
    exact ⟨q, (Option.some.inj h).symm⟩
  · rw [List.getElem?_eq_none (by simpa using q)] at h
    cases h
theorem src_range {H1 : Hp} {lo : Int} {n : Nat} : IsSrc K H1 (Itr lo n) (intsW lo n) anyS where
  go := fun i H S t hh ok hi => by rw [intsW_len] at hi; exact hi
  yld := fun i H S x H' t hh ok hi y => by
    obtain ⟨e, y⟩ := y
    subst e y
    rw [intsW_len] at hi
    exact ⟨Tk.refl _, hh, W.int (lo + (i : Nat)), intsW_get hi, (show Rep K _ (W.int (lo + (i : Nat))) _ from rfl)⟩
  stop := fun i H S t hh ok hi => by rw [intsW_len] at hi; exact hi
/-- over a list, a tuple, a text -/
def signs (x : Str) : List W := x.cps.toList.map fun c => W.str ⟨#[c]⟩
theorem src_str {H1 : Hp} {x : Str} : IsSrc K H1 (Its x) (signs x) anyS where
  go := fun i H S t hh ok hi => by
    unfold signs at hi
    rw [List.length_map, Array.length_toList] at hi
    exact hi
  yld := fun i H S z H' t hh ok hi y => by
    obtain ⟨e, c, e2, e3⟩ := y
    subst e e3
    refine ⟨Tk.refl _, hh, .str ⟨#[c]⟩, ?_, (show Rep K _ (.str ⟨#[c]⟩) _ from rfl)⟩
    unfold signs
    rw [List.getElem?_map, Array.getElem?_toList, e2]
    rfl
  stop := fun i H S t hh ok hi => by
    unfold signs at hi
    rw [List.length_map, Array.length_toList] at hi
    exact hi
def iAny (K : PySem.W.Frag) (tl : TE) : TI := fun σ H R => tl σ H fun x H1 => (∃ a, x = .ref a ∧ (∃ xs, SqL K H1 a xs) ∧ R (Itl K a) H1) ∨ (∃ a, x = .ref a ∧ (∃ xs, SqT K H1 a xs) ∧ R (Itt K a) H1) ∨ ∃ z, x = .str z ∧ R (Its z) H1
theorem pi_any {X : Cx} {tg l : Expr} {tl : TE} (hl : PE X l tl) : PI X tg l (iAny X.K tl) := by
  refine ⟨fun pins s σ H R I h => ?_⟩
  refine thn (hl.run pins s σ H _ I h) fun v s1 ⟨x, H1, I1, r1, q1⟩ => ?_
  rcases q1 with ⟨a, e, ⟨xs, hq⟩, q⟩ | ⟨a, e, ⟨xs, hq⟩, q⟩ | ⟨x, ex, q⟩
  · subst e
    cases r1
    obtain ⟨its, rv, p, hz⟩ := I1.list hq
    refine wpAny_pyIter_list p.isList ?_
    refine ⟨s1.heap.objs.size, [s1.heap.objs.size], _, _, H1, rfl, I1.kept (t' := s1.toks) fun b o e => Heap.get?_push_of_some _ e, turn_list a _, ⟨_, Heap.get?_push_size _ rfl, rfl, rfl⟩, fun b hb => ?_, q⟩
    have e : b = s1.heap.objs.size := by simpa using hb
    subst e
    exact I1.fpOk (Nat.le_refl _) (I1.hok.fresh (Nat.le_refl _))
  · subst e
    cases r1
    obtain ⟨its, rv, p, hz⟩ := I1.tuple hq
    refine wpAny_pyIter_tuple (show s1.heap.IsTuple a its.toArray from p) ?_
    refine ⟨s1.heap.objs.size, [s1.heap.objs.size], _, _, H1, rfl, I1.kept (t' := s1.toks) fun b o e => Heap.get?_push_of_some _ e, turn_tuple a _, ⟨_, Heap.get?_push_size _ rfl, rfl, rfl⟩, fun b hb => ?_, q⟩
    have e : b = s1.heap.objs.size := by simpa using hb
    subst e
    exact I1.fpOk (Nat.le_refl _) (I1.hok.fresh (Nat.le_refl _))
  · subst ex
    obtain ⟨t, rfl⟩ := r1
    cases ha : x.cps.all (· < 128)
    · exact wpAny_pyIter_wide ha (pi_one (tk := s1.toks) I1 _ (turn_str _ x t "str_iterator" (.inr rfl)) ⟨_, Heap.get?_push_size _ rfl, rfl, rfl⟩ q)
    · exact wpAny_pyIter_ascii ha (pi_one (tk := s1.toks) I1 _ (turn_str _ x t "str_ascii_iterator" (.inl rfl)) ⟨_, Heap.get?_push_size _ rfl, rfl, rfl⟩ q)
def wiAny (te : TEW) : TIW := fun ρ S R => te ρ S fun x S1 => match x with
  | .tup ws => R ws anyS S1
  | .rl ws => R ws anyS S1
  | .str z => R (signs z) anyS S1
  | .ref a => ∃ ws, S1 a = some (.lst ws) ∧ R ws (keepS a ws) S1
  | _ => False
instance li_any {t : TE} {tw : TEW} [a : LE K B t tw] : LI K B (iAny K t) (wiAny tw) := ⟨fun σ H ρ S R Rw hs hh q po => a.l σ H ρ S _ _ hs hh q fun x H1 wx S1 t1 hh1 r1 q1 => by
  cases wx <;> try exact q1.elim
  · cases (show x = _ from r1)
    exact .inr (.inr ⟨_, rfl, po _ H1 S1 _ _ t1 hh1 src_str q1⟩)
  · cases (show x = _ from r1)
    obtain ⟨ws, e, q⟩ := q1
    obtain ⟨xs, h1, h2⟩ := hh1 _ _ e
    exact .inl ⟨_, rfl, ⟨xs, SqL.of h1⟩, po _ H1 S1 _ _ t1 hh1 src_list q⟩
  · obtain ⟨a, xs, rfl, h1, h2⟩ := r1
    exact .inr (.inl ⟨a, rfl, ⟨xs, h1⟩, po _ H1 S1 _ _ t1 hh1 (src_tup h1 h2) q1⟩)
  · obtain ⟨a, xs, rfl, h1, h2⟩ := r1
    exact .inl ⟨a, rfl, ⟨xs, h1.sq⟩, po _ H1 S1 _ _ t1 hh1 (src_rl h1 h2) q1⟩⟩
def wiR1 (ta : TAW) : TIW := fun ρ S R => ta ρ S fun ws S1 => match ws with
  | [.int j] => -(2 ^ 62) ≤ j ∧ j < 2 ^ 62 ∧ R (intsW 0 j.toNat) anyS S1
  | _ => False
def wiR2 (ta : TAW) : TIW := fun ρ S R => ta ρ S fun ws S1 => match ws with
  | [.int i, .int j] => (-(2 ^ 62) ≤ i ∧ i < 2 ^ 62 ∧ -(2 ^ 62) ≤ j ∧ j < 2 ^ 62) ∧ R (intsW i (j - i).toNat) anyS S1
  | _ => False
instance li_r1 {t : TA} {tw : TAW} [a : LA K B t tw] : LI K B (iRng1 t) (wiR1 tw) := ⟨fun σ H ρ S R Rw hs hh q po => a.l σ H ρ S _ _ hs hh q fun xs H1 ws S1 t1 hh1 r1 q1 => by
  split at q1
  · obtain ⟨x, rfl, h1⟩ := rep1 r1
    cases (show x = _ from h1)
    exact ⟨_, rfl, q1.1, q1.2.1, po _ H1 S1 _ _ t1 hh1 src_range q1.2.2⟩
  · exact q1.elim⟩
instance li_r2 {t : TA} {tw : TAW} [a : LA K B t tw] : LI K B (iRng2 t) (wiR2 tw) := ⟨fun σ H ρ S R Rw hs hh q po => a.l σ H ρ S _ _ hs hh q fun xs H1 ws S1 t1 hh1 r1 q1 => by
  split at q1
  · obtain ⟨x, y, rfl, h1, h2⟩ := rep2 r1
    cases (show x = _ from h1)
    cases (show y = _ from h2)
    exact ⟨_, _, rfl, q1.1, po _ H1 S1 _ _ t1 hh1 src_range q1.2⟩
  · exact q1.elim⟩

/-! ### for -/
def wFor (wi : TIW) (g : TGW) (tb : TSW) : TSW := fun D ρ S => wi ρ S fun ws ok S1 => ∃ P : Nat → StW → Sto → Prop, P 0 ρ S1 ∧ (∀ i ρ' S', P i ρ' S' → ok S') ∧
  (∀ i w ρ' S', ws[i]? = some w → P i ρ' S' → g w ρ' S' fun ρ2 S2 => tb { D with nx := P (i + 1), ct := P (i + 1), bk := D.nx } ρ2 S2) ∧ ∀ ρ' S', P ws.length ρ' S' → D.nx ρ' S'
instance ls_for {wi : TI} {g : TG} {tb : TS} {ww : TIW} {gw : TGW} {tw : TSW} [h : LI K B wi ww] [b : LG K B g gw] [a : LS K B tb tw] : LS K B (tFor wi g tb) (wFor ww gw tw) := ⟨fun σ H ρ S D Dw hs hh q po => by
  refine h.l σ H ρ S _ _ hs hh q fun J H1 S1 ws ok t1 hh1 src ⟨P, p0, pok, pst, pend⟩ => ?_
  refine ⟨fun i m σ' H' => m = ws.length - i ∧ i ≤ ws.length ∧ ∃ ρ' S', Tk H1 H' ∧ SRep K B H' σ' ρ' ∧ HRep K H' S' ∧ P i ρ' S', ⟨ws.length, by simp, Nat.zero_le _, ρ, S1, Tk.refl H1, hs.tk t1, hh1, p0⟩, ?_⟩
  rintro i m σ2 H2 ⟨rfl, hi, ρ2, S2, t2, hs2, hh2, p2⟩
  by_cases hlt : i < ws.length
  · refine .inr ⟨src.go i H2 S2 t2 hh2 (pok _ _ _ p2) hlt, fun σ' H' => ∃ ρ' S', Tk H1 H' ∧ SRep K B H' σ' ρ' ∧ HRep K H' S' ∧ P (i + 1) ρ' S', fun σ' H' z => ⟨ws.length - (i + 1), by omega, rfl, hlt, z⟩, fun x H3 y => ?_⟩
    obtain ⟨t3, hh3, w, e, r⟩ := src.yld i H2 S2 x H3 t2 hh2 (pok _ _ _ p2) hlt y
    refine b.l x w σ2 H3 ρ2 S2 _ _ r (hs2.tk t3) hh3 (pst i w ρ2 S2 e p2) fun σ4 H4 ρ4 S4 t4 hs4 hh4 q4 => ?_
    have t14 := (t2.trans t3).trans t4
    refine a.l σ4 H4 ρ4 S4 _ _ hs4 hh4 q4 ⟨?_, po.nx.tk (t1.trans t14), ?_, po.rt.tk (t1.trans t14)⟩
    · exact fun σ' H' ρ' S' t5 hs5 hh5 q5 => ⟨ρ', S', t14.trans t5, hs5, hh5, q5⟩
    · exact fun σ' H' ρ' S' t5 hs5 hh5 q5 => ⟨ρ', S', t14.trans t5, hs5, hh5, q5⟩
  · have e : i = ws.length := by omega
    subst e
    exact .inl ⟨src.stop _ H2 S2 t2 hh2 (pok _ _ _ p2) (Nat.le_refl _), po.nx σ2 H2 ρ2 S2 (t1.trans t2) hs2 hh2 (pend _ _ p2)⟩⟩

/-! ### comprehensions -/
def wipeW (ρ : StW) : List Nat → StW
  | [] => ρ
  | v :: vs => (wipeW ρ vs).set v none
theorem srep_wipe {H : Hp} {σ : L2.St} {ρ : StW} (h : SRep K B H σ ρ) : ∀ vs : List Nat, SRep K B H (wipe σ vs) (wipeW ρ vs)
  | [] => h
  | v :: vs => by
    have ih := srep_wipe h vs
    unfold wipe wipeW
    refine ⟨ih.bs, by rw [List.length_set, List.length_set, ih.len], fun j z e => ?_⟩
    by_cases q : v = j
    · subst q
      by_cases hl : v < (wipeW ρ vs).length
      · rw [List.getElem?_set_self hl] at e; cases e
      · rw [List.getElem?_eq_none (by rw [List.length_set]; omega)] at e; cases e
    · rw [List.getElem?_set_ne q] at e ⊢
      exact ih.at_ j z e
/-- a target that stores own names alone -/
class GW (g : TG) (vs : List Nat) : Prop where
  l : ∀ v σ H Q, g v (wipe σ vs) H Q → g v (wipe σ vs) H fun σ2 H2 => wipe σ2 vs = wipe σ vs ∧ Q σ2 H2
theorem wipe_at (σ : L2.St) (vs : List Nat) (i : Nat) : (wipe σ vs)[i]? = if i ∈ vs then (if i < σ.length then some none else none) else σ[i]? := by
  induction vs with
  | nil => simp [wipe]
  | cons v vs ih =>
    unfold wipe
    by_cases q : v = i
    · subst q
      by_cases hl : v < σ.length
      · rw [List.getElem?_set_self (by rw [wipe_length]; exact hl)]
        simp [hl]
      · rw [List.getElem?_eq_none (by rw [List.length_set, wipe_length]; omega)]
        simp [hl]
    · rw [List.getElem?_set_ne q, ih]
      simp [Ne.symm q]
theorem wipe_set {σ : L2.St} {vs : List Nat} {j : Nat} {x : V} (hj : j ∈ vs) : wipe ((wipe σ vs).set j (some x)) vs = wipe σ vs := by
  apply List.ext_getElem?
  intro i
  rw [wipe_at, wipe_at]
  by_cases hi : i ∈ vs
  · simp [hi, wipe_length]
  · rw [if_neg hi, if_neg hi, List.getElem?_set_ne (show j ≠ i from fun e => hi (by rw [← e]; exact hj)), wipe_at, if_neg hi]
class MemN (j : Nat) (vs : List Nat) : Prop where
  h : j ∈ vs
instance mem_hd {j : Nat} {vs : List Nat} : MemN j (j :: vs) := ⟨by simp⟩
instance mem_tl {j v : Nat} {vs : List Nat} [h : MemN j vs] : MemN j (v :: vs) := ⟨by simp [h.h]⟩
instance memm_hd {j : Nat} {x : Str} {vs : List (Str × Nat)} : MemN j (((x, j) :: vs).map (·.2)) := ⟨by simp⟩
instance memm_tl {j : Nat} {y : Str × Nat} {vs : List (Str × Nat)} [h : MemN j (vs.map (·.2))] : MemN j ((y :: vs).map (·.2)) := ⟨by rw [List.map_cons]; exact List.mem_cons_of_mem _ h.h⟩
instance gw_name {j : Nat} {vs : List Nat} [h : MemN j vs] : GW (gName j) vs := ⟨fun v σ H Q q => ⟨wipe_set h.h, q⟩⟩
def wLc (wi : TIW) (g : TGW) (tt : TTW) (te : TEW) (vs : List Nat) : TEW := fun ρ S Q => wi ρ S fun ws ok S1 => ∀ D, S1 D = none → ∃ P : Nat → List W → Sto → Prop, P 0 [] (put S1 D (.lst [])) ∧
  (∀ i acc S', P i acc S' → ok S') ∧
  (∀ i w acc S', ws[i]? = some w → P i acc S' → g w (wipeW ρ vs) S' fun ρ2 S2 => tt ρ2 S2 fun b S3 =>
    (b = true → te ρ2 S3 fun y S4 => S4 D = some (.lst acc) ∧ acc.length < sizeLine ∧ P (i + 1) (acc ++ [y]) (put S4 D (.lst (acc ++ [y])))) ∧ (b = false → P (i + 1) acc S3)) ∧
  ∀ acc S', P ws.length acc S' → Q (.ref D) S'
instance le_lc {wi : TI} {g : TG} {tt : TT} {te : TE} {vs : List Nat} {ww : TIW} {gw : TGW} {tw : TTW} {ew : TEW} [h : LI K B wi ww] [b : LG K B g gw] [gg : GW g vs] [c : LT K B tt tw] [a : LE K B te ew] : LE K B (tLc wi g tt te vs) (wLc ww gw tw ew vs) := ⟨fun σ H ρ S Q Qw hs hh q po => by
  refine h.l σ H ρ S _ _ hs hh q fun J H1 S1 ws ok t1 hh1 src hD => fun D hDn => ?_
  obtain ⟨P, p0, pok, pst, pend⟩ := hD D (hh1.fresh hDn)
  have tD : Tk H1 (upd H1 D (.lst [])) := Tk.new hDn
  have hhD : HRep K (upd H1 D (.lst [])) (put S1 D (.lst [])) := hh1.new hDn ⟨[], upd_same, rfl⟩
  refine ⟨fun i m H' => m = ws.length - i ∧ i ≤ ws.length ∧ ∃ acc S', Tk H1 H' ∧ HRep K H' S' ∧ P i acc S', ⟨ws.length, by simp, Nat.zero_le _, [], _, tD, hhD, p0⟩, ?_⟩
  rintro i m H2 ⟨rfl, hi, acc, S2, t2, hh2, p2⟩
  by_cases hlt : i < ws.length
  · refine .inr ⟨src.go i H2 S2 t2 hh2 (pok _ _ _ p2) hlt, fun H' => ∃ acc S', Tk H1 H' ∧ HRep K H' S' ∧ P (i + 1) acc S', fun H' z => ⟨ws.length - (i + 1), by omega, rfl, hlt, z⟩, fun x H3 y => ?_⟩
    obtain ⟨t3, hh3, w, e, r⟩ := src.yld i H2 S2 x H3 t2 hh2 (pok _ _ _ p2) hlt y
    refine gg.l x σ H3 _ ?_
    have hs3 : SRep K B H3 (wipe σ vs) (wipeW ρ vs) := srep_wipe (hs.tk ((t1.trans t2).trans t3)) vs
    refine b.l x w (wipe σ vs) H3 (wipeW ρ vs) S2 _ _ r hs3 hh3 (pst i w acc S2 e p2) fun σ4 H4 ρ4 S4 t4 hs4 hh4 q4 => ?_
    refine c.l σ4 H4 ρ4 S4 _ _ hs4 hh4 q4 fun bb H5 S5 t5 hh5 q5 => ?_
    have t15 := ((t2.trans t3).trans t4).trans t5
    cases bb with
    | true =>
      rw [if_pos rfl]
      refine a.l σ4 H5 ρ4 S5 _ _ (hs4.tk t5) hh5 (q5.1 rfl) fun z H6 wz S6 t6 hh6 r6 ⟨eD, hl, q6⟩ => ?_
      obtain ⟨vs', h1, h2⟩ := hh6 _ _ eD
      have t : Tk H6 (upd H6 D (.lst (vs' ++ [z]))) := Tk.mut h1 (fun _ z => (by cases z)) (fun _ _ z => (by cases z))
      obtain ⟨t, hm⟩ := hh6.mut (c' := .lst (acc ++ [wz])) (o := .lst (vs' ++ [z])) eD ⟨_, upd_same, (RepL.tk t _ _ h2).append (.one (Rep.tk t _ _ r6))⟩
      exact ⟨vs', h1, by rw [h2.length]; exact hl, _, _, (t15.trans t6).trans t, hm, q6⟩
    | false =>
      rw [if_neg Bool.false_ne_true]
      exact ⟨acc, S5, t15, hh5, q5.2 rfl⟩
  · have e : i = ws.length := by omega
    subst e
    exact .inl ⟨src.stop _ H2 S2 t2 hh2 (pok _ _ _ p2) (Nat.le_refl _), po.ref (t1.trans t2) hh2 (pend _ _ p2)⟩⟩
end Wl
set_option Elab.async false
set_option linter.all false
set_option maxRecDepth 100000
set_option maxHeartbeats 2000000
namespace Wl
open PySem PySem.Spec PyProof.Rows L2
variable {K : PySem.W.Frag} {B : Hp}
/-! ### more statements -/
def wPar (i j : Nat) (ta : TAW) : TSW := fun D ρ S => ta ρ S fun ws S1 => match ws with
  | [v, w] => D.nx ((ρ.set i (some v)).set j (some w)) S1
  | _ => False
instance ls_par {i j : Nat} {ta : TA} {wa : TAW} [a : LA K B ta wa] : LS K B (tPar i j ta) (wPar i j wa) := ⟨fun σ H ρ S D Dw hs hh q po => a.l σ H ρ S _ _ hs hh q fun xs H1 ws S1 t1 hh1 r1 q1 => by
  split at q1
  · obtain ⟨x, y, rfl, h1, h2⟩ := rep2 r1
    exact ⟨x, y, rfl, po.nx _ H1 _ S1 t1 (((hs.tk t1).set i h1).set j h2) hh1 q1⟩
  · exact q1.elim⟩

/-- a statement, then the rest, with a word between them -/
def tMid (t u : TS) : TS := fun D σ H => ∃ M : L2.St → Hp → Prop, t { D with nx := M } σ H ∧ ∀ σ' H', M σ' H' → u D σ' H'
theorem pss_mid {X : Cx} {st : Stmt} {rest : List Stmt} {t u : TS} (h1 : PS X st t) (h2 : PSs X rest u) : PSs X (st :: rest) (tMid t u) := by
  refine ⟨fun pins s σ H D I h => ?_⟩
  obtain ⟨Mid, hm, hu⟩ := h
  refine wpAny_execs_cons (thn (h1.run pins s σ H { D with nx := Mid } I hm) fun f s1 q => ?_)
  cases f with
  | next =>
    obtain ⟨σ', H', I', q⟩ := q
    exact h2.run pins s1 σ' H' D I' (hu σ' H' q)
  | ret v => exact q
  | brk => exact q
  | cont => exact q
def wMid (t u : TSW) : TSW := fun D ρ S => ∃ M : StW → Sto → Prop, t { D with nx := M } ρ S ∧ ∀ ρ' S', M ρ' S' → u D ρ' S'
instance ls_mid {t u : TS} {tw uw : TSW} [a : LS K B t tw] [b : LS K B u uw] : LS K B (tMid t u) (wMid tw uw) := ⟨fun σ H ρ S D Dw hs hh ⟨M, hm, hu⟩ po =>
  ⟨fun σ' H' => ∃ ρ' S', Tk H H' ∧ SRep K B H' σ' ρ' ∧ HRep K H' S' ∧ M ρ' S', a.l σ H ρ S _ { Dw with nx := M } hs hh hm ⟨fun σ' H' ρ' S' t1 hs' hh' q' => ⟨ρ', S', t1, hs', hh', q'⟩, po.bk, po.ct, po.rt⟩,
    fun σ' H' ⟨ρ', S', t1, hs', hh', q'⟩ => b.l σ' H' ρ' S' D Dw hs' hh' (hu ρ' S' q') (po.tk t1)⟩⟩

/-! ### the text's defs -/
section
variable {P : Program} {w : World} {mg : Str → Option Value} {base : Heap}
structure DefAt (K : PySem.W.Frag) (mg : Str → Option Value) (x : Str) (st : Stmt) (ps : List Str) : Prop where
  ex : ∃ (f : Addr) (fd : FuncData), Fun K x x st f fd ∧ mg x = some (.ref f) ∧ Binds K fd ps []
theorem calD {x : Str} {st : Stmt} {N ps : List Str} {k : Nat} {sp : SpW} (d : DefAt K mg x st ps) (SC : FnScope N ps (defScope st))
    (len : ∀ ws S Q, sp ws S Q → ws.length = ps.length)
    (hbody : ∀ (f : Addr) (cdv : Value) (A : Around) (outer : List Env) (s : Shared) (H : Hp) (E : XK), Room k (A.deeper (envOfC x (defScope st) s.heap.objs.size f cdv)) →
      ∃ t tw, PSs (cxOf CX0 P w K mg base N x (defScope st) f cdv A outer s H E).nox (defBody st) t ∧ LS K H t tw ∧ ∀ ws S Q, sp ws S Q → tw { nx := fun _ S' => Fg Q .non S', rt := Fg Q } (startW N ws) S) :
    CalW P w K mg base (k + 1) x sp := by
  obtain ⟨f, fd, F, hm, b⟩ := d.ex
  exact calW F hm b SC len (hbody f)
/-- the law itself -/
theorem fnD {x : Str} {st : Stmt} {N ps : List Str} {k : Nat} {sp : SpW} {f : Addr} {fd : FuncData} (F : Fun K x x st f fd) (SC : FnScope N ps (defScope st))
    (len : ∀ ws S Q, sp ws S Q → ws.length = ps.length)
    (hbody : ∀ (f : Addr) (cdv : Value) (A : Around) (outer : List Env) (s : Shared) (H : Hp) (E : XK), Room k (A.deeper (envOfC x (defScope st) s.heap.objs.size f cdv)) →
      ∃ t tw, PSs (cxOf CX0 P w K mg base N x (defScope st) f cdv A outer s H E).nox (defBody st) t ∧ LS K H t tw ∧ ∀ ws S Q, sp ws S Q → tw { nx := fun _ S' => Fg Q .non S', rt := Fg Q } (startW N ws) S) :
    FnOk P w K mg base CX0 (k + 1) f fd ps (liftSp K sp) :=
  F.ok SC (fun vs H Q E ⟨ws, S, Qw, h1, _, h3, _⟩ => by rw [h1.length]; exact len _ _ _ h3) (fun cdv A outer s H vs Q E hr ⟨ws, S, Qw, h1, h2, h3, h4⟩ => by
    obtain ⟨t, tw, ht, hl, hq⟩ := hbody f cdv A outer s H E hr
    refine ⟨t, ht, hl.l _ H (startW N ws) S _ _ (SRep.init h1) h2 (hq ws S Qw h3) ⟨?_, fun _ _ _ _ _ _ _ z => z.elim, fun _ _ _ _ _ _ _ z => z.elim, ?_⟩⟩
    · rintro σ' H' ρ' S' t1 _ hh ⟨S2, sub, q⟩
      exact h4.non t1 (hh.sub sub) q
    · rintro v H' w S' t1 hh r ⟨S2, sub, q⟩
      exact h4 v H' w S2 t1 (hh.sub sub) r q)
end
/-- the law's promise: True, whatever the script -/
def spLaw : SpW := fun ws _ Q => ∃ ns : List Int, ws = [.rl (ns.map W.int)] ∧ ns.length ≤ 63 ∧ ∀ S', Q (.bl true) S'
theorem law_end {H : Hp} {a : Addr} {ns : List Int} (hl : ns.length ≤ 63) (hO : Only H) (hS : SqL K H a (ns.map V.int)) : liftSp K spLaw [.ref a] H (fun v _ => v = .bl true) (fun _ _ _ => False) := by
  refine ⟨[.rl (ns.map W.int)], fun _ => none, fun v _ => v = .bl true, ?_, fun a c e => (by cases e), ⟨ns, rfl, hl, fun _ => rfl⟩, fun v H' w S' _ _ r q => ?_⟩
  · refine .one ⟨a, ns.map V.int, rfl, ?_, RepL.ofInts⟩
    rcases hS with (h | h) | h
    · rcases hO a with z | ⟨o, xs, z⟩
      · rw [h] at z; cases z
      · rw [h] at z; cases z
    · exact .inl h
    · exact .inr h
  · have q' : w = .bl true := q
    subst q'
    exact r

theorem isTy_tt : isTy "tuple" "tuple" = some true := by decide +kernel
theorem isTy_ii : isTy "int" "int" = some true := by decide +kernel
theorem isTy_ib : isTy "int" "bool" = some false := by decide +kernel
theorem isTy_bb : isTy "bool" "bool" = some true := by decide +kernel
theorem isTy_ll : isTy "list" "list" = some true := by decide +kernel
theorem isTy_ss : isTy "str" "str" = some true := by decide +kernel
theorem tyName_lst {S : Sto} {a : Addr} {ws : List W} (h : S a = some (.lst ws)) : tyName (.ref a) S = some "list" := by
  unfold tyName
  simp only [h]
/-! ### never called -/
def wNever : TSW := fun _ _ _ => False
instance ls_never : LS K B tNever wNever := ⟨fun σ H ρ S D Dw hs hh q po => q.elim⟩
def spNever : SpW := fun _ _ _ => False
theorem calNever {P : Program} {w : World} {mg : Str → Option Value} {base : Heap} {x : Str} {st : Stmt} {N ps : List Str} (d : DefAt K mg x st ps) (SC : FnScope N ps (defScope st)) : CalW P w K mg base 1 x spNever :=
  calD d SC (fun _ _ _ h => h.elim) fun f cdv A outer s H E hr => ⟨_, _, pss_never, inferInstance, fun ws S Q h => h.elim⟩

/-! ### stores -/
theorem ne_free {S : Sto} {p q : Addr} {c : Cell} (h : S p = some c) (n : S q = none) : q ≠ p := fun e => by rw [e, h] at n; cases n
theorem sub_new2 {S : Sto} {p : Addr} {c : Cell} (n : S p = none) : Sub S (put S p c) := Sub.new n

/-! ### pools: the drawn numbers of a script -/
/-- a pool's list: what is left, how many were drawn, whether by digits, the seed, three -/
def poolL (c n b s : Int) : List W := [.int c, .int n, .int b, .int s, .int 3]
structure PoolOk (c n s : Int) : Prop where
  c0 : 0 ≤ c
  n0 : 0 ≤ n
  n1 : n ≤ 1000000
  s0 : 0 ≤ s
  s1 : s < 2147483647
/-- a new pool at p; its own cell, anything else as it was -/
def spPool : SpW := fun ws S Q => ∃ (ns : List Int) (k : Int), ws = [.rl (ns.map W.int), .int k] ∧ 0 ≤ k ∧ k ≤ 1000 ∧ ns.length ≤ 63 ∧
  ∀ p c b s, S p = none → PoolOk c 0 s → Q (.ref p) (put S p (.lst (poolL c 0 b s)))
/-- one number is drawn, 0 or more and less than many -/
def spTake : SpW := fun ws S Q => ∃ (p : Addr) (c n b s many : Int), ws = [.ref p, .int many] ∧ S p = some (.lst (poolL c n b s)) ∧ PoolOk c n s ∧ n < 1000000 ∧ 0 < many ∧ many < 2 ^ 64 ∧
  ∀ r c', 0 ≤ r → r < many → PoolOk c' (n + 1) s → Q (.int r) (put S p (.lst (poolL c' (n + 1) b s)))
theorem sizeLine_ge : 1000 ≤ sizeLine := by decide
theorem atI_int {ns : List Int} {i : Int} (h0 : 0 ≤ i) (h1 : i < ns.length) : ∃ n, atI (ns.map W.int) i = some (.int n) := by
  obtain ⟨j, rfl⟩ : ∃ j : Nat, i = (j : Int) := ⟨i.toNat, by omega⟩
  have hj : j < ns.length := by omega
  refine ⟨ns[j], ?_⟩
  unfold atI ixN
  rw [if_pos (by omega), if_pos (by rw [List.length_map]; omega)]
  simp [hj]
end Wl
set_option Elab.async false
set_option linter.all false
set_option maxRecDepth 100000
set_option maxHeartbeats 2000000
/-! The rules with the written part named. -/
namespace Wl
open PySem PySem.Spec PyProof.Rows L2
section
variable {X : Cx} (K : PySem.W.Frag)
theorem k_add (hK : X.K = K := by rfl) : OpR X (binaryOp .Add) (rAddA K) := by subst hK; exact op_addA
theorem k_eq (hu : X.A.units + 64 < cLine) (hK : X.K = K := by rfl) : OpR X (compareOp .Eq) (rEqA K) := by subst hK; exact op_eqA hu
theorem k_ne (hu : X.A.units + 64 < cLine) (hK : X.K = K := by rfl) : OpR X (compareOp .NotEq) (rNeA K) := by subst hK; exact op_neA hu
theorem k_in (hK : X.K = K := by rfl) : OpR X (compareOp .In) (rInA K false) := by subst hK; exact op_inA
theorem k_notIn (hK : X.K = K := by rfl) : OpR X (compareOp .NotIn) (rInA K true) := by subst hK; exact op_notInA
theorem k_ix (hK : X.K = K := by rfl) : IxR X (rIx K) := by subst hK; exact ix_seq
theorem k_sl (hK : X.K = K := by rfl) : SlR X (rSlA K) := by subst hK; exact sl_A
theorem k_any {tg l : Expr} {tl : TE} (hl : PE X l tl) (hK : X.K = K := by rfl) : PI X tg l (iAny K tl) := by subst hK; exact pi_any hl
theorem k_len (hK : X.K = K := by rfl) : CallR X (.builtin "len") (rLenA K) := by subst hK; exact call_len
theorem k_list (hK : X.K = K := by rfl) : CallR X (.type "list") (rListA K) := by subst hK; exact call_list_of
theorem k_tuple (hK : X.K = K := by rfl) : CallR X (.type "tuple") (rTupA K) := by subst hK; exact call_tuple_of
theorem k_sum (hc : X.calm = true) (hK : X.K = K := by rfl) : CallR X (.builtin "sum") (rSum K) := by subst hK; exact cr_sum hc
theorem k_all (hc : X.calm = true) (hK : X.K = K := by rfl) : CallR X (.builtin "all") (rAll K) := by subst hK; exact cr_all hc
theorem k_anyC (hc : X.calm = true) (hK : X.K = K := by rfl) : CallR X (.builtin "any") (rAny K) := by subst hK; exact cr_any hc
theorem k_isi (hK : X.K = K := by rfl) : CallR X (.builtin "isinstance") (rIsi K) := by subst hK; exact call_isi
theorem k_gtup {es : List Expr} {k : Nat} {t : TGs} {n : Nat} {pos : Pos} (hc : X.calm = true) (h : PGs X es t)
    (hn : (assignEach es X.env).length = n := by rfl) (hst : (assignEach es X.env).findIdx? (·.1) = none := by rfl) (hK : X.K = K := by rfl) : PG X (.Tuple es k pos) (gTup K n t) := by subst hK; exact pg_tup hc h hn hst
theorem k_bm {o e : Expr} {es : List Expr} {to : TE} {t : TA} {name : Str} {apos cpos : Pos} {T id : String} {r : V → List V → Hp → VK → Prop} (pa : PlainAttrs T) (slot : Slot T name id) (hty : typeOf (.builtin id) = pure (.type "method_descriptor")) (hm : MtR X id r) (ho : PE X o to) (ha : PA X (e :: es) t)
    (hbase : attributeBase o name X.env (eval o X.env) = eval o X.env := by rfl)
    (hfew : ((backTo cpos (starEach (e :: es) X.env)).all (fun x => !x.1) && (backToKw cpos (keywordEach [] X.env)).all (fun x => x.1.isSome)
      && decide ((e :: es).length + ([] : List Keyword).length + (if ([] : List Keyword).isEmpty then 0 else 1) < 30)) = true := by rfl)
    (hline : (apos.endLine == cpos.line) = true := by rfl) (hs : starEach (e :: es) X.env = (false, eval e X.env) :: starEach es X.env := by rfl) (hplain : (backTo cpos (starEach es X.env)).any (·.1) = false := by rfl)
    (hK : X.K = K := by rfl) : PE X (.Call (.Attribute o name apos) (e :: es) [] cpos) (tBM K T r to t) := by subst hK; exact pe_bm pa slot hty hm ho ha hbase hfew hline hs hplain
theorem k_bm0 {o : Expr} {to : TE} {name : Str} {apos cpos : Pos} {T id : String} {r : V → List V → Hp → VK → Prop} (pa : PlainAttrs T) (slot : Slot T name id) (hty : typeOf (.builtin id) = pure (.type "method_descriptor")) (hm : MtR X id r) (ho : PE X o to)
    (hbase : attributeBase o name X.env (eval o X.env) = eval o X.env := by rfl) (hline : (apos.endLine == cpos.line) = true := by rfl) (hK : X.K = K := by rfl) : PE X (.Call (.Attribute o name apos) [] [] cpos) (tBM0 K T r to) := by subst hK; exact pe_bm0 pa slot hty hm ho hbase hline
theorem k_w {k j : Nat} {x : Str} {sp : SpW} {p pos : Pos} {e : Expr} {es : List Expr} {t : TA} (c : CalW X.prog X.w K X.mg X.base k x sp) (hr : Room j X.A) (hk : k ≤ j) (hg : Gl X x) (ha : PA X (e :: es) t)
    (hdb : (x == ("__debug__" : Str)) = false := by decide) (he : starEach (e :: es) X.env = (false, eval e X.env) :: starEach es X.env := by rfl) (hpl : (backTo pos (starEach es X.env)).any (·.1) = false := by rfl) (hK : X.K = K := by rfl) :
    PE X (.Call (.Name x p) (e :: es) [] pos) (tCall (liftSp K sp) [] E0 t) := by subst hK; exact pe_w c hr hk hg ha hdb he hpl
theorem k_w0 {k j : Nat} {x : Str} {sp : SpW} {p pos : Pos} (c : CalW X.prog X.w K X.mg X.base k x sp) (hr : Room j X.A) (hk : k ≤ j) (hg : Gl X x)
    (hdb : (x == ("__debug__" : Str)) = false := by decide) (hK : X.K = K := by rfl) : PE X (.Call (.Name x p) [] [] pos) (tCall (liftSp K sp) [] E0 tNil) := by subst hK; exact pe_w0 c hr hk hg hdb
end
/-! ### tests that change nothing, told by their answer -/
def EvW (t : TTW) (ρ : StW) (S : Sto) (b : Bool) : Prop := ∀ Q : Bool → Sto → Prop, Q b S → t ρ S Q
section
variable {t u : TTW} {ρ : StW} {S : Sto} {a b : Bool}
theorem evOr (h1 : EvW t ρ S a) (h2 : a = false → EvW u ρ S b) : EvW (wOr t u) ρ S (a || b) := fun Q q => h1 _ ⟨fun e => by rw [e] at q; exact q, fun e => by rw [e] at q; exact h2 e Q q⟩
theorem evAnd (h1 : EvW t ρ S a) (h2 : a = true → EvW u ρ S b) : EvW (wAnd t u) ρ S (a && b) := fun Q q => h1 _ ⟨fun e => by rw [e] at q; exact h2 e Q q, fun e => by rw [e] at q; exact q⟩
theorem evNot (h1 : EvW t ρ S a) : EvW (wNot t) ρ S (!a) := fun Q q => h1 _ q
theorem evIs {c : Bool} (h : EvW t ρ S a) (e : a = c) : EvW t ρ S c := by rw [← e]; exact h
theorem ifEv {p q : TSW} {D : EndsW} (h : EvW t ρ S b) (h1 : b = true → p D ρ S) (h2 : b = false → q D ρ S) : wIfS t p q D ρ S := h _ ⟨h1, h2⟩
end
theorem orGo {t : TTW} {ρ : StW} {S : Sto} {c b d : Bool} {K : Bool → Sto → Prop} (h : c = false → EvW t ρ S b) (e : (c || b) = d) (q : K d S) : (c = false → t ρ S K) ∧ (c = true → K true S) := by
  subst e
  exact ⟨fun e => by rw [e] at q; exact h e K q, fun e => by rw [e] at q; exact q⟩
theorem andGo {t : TTW} {ρ : StW} {S : Sto} {c b d : Bool} {K : Bool → Sto → Prop} (h : c = true → EvW t ρ S b) (e : (c && b) = d) (q : K d S) : (c = true → t ρ S K) ∧ (c = false → K false S) := by
  subst e
  exact ⟨fun e => by rw [e] at q; exact h e K q, fun e => by rw [e] at q; exact q⟩
theorem wEq_t {x y : W} {S : Sto} {Q : WK} (tx : ∃ a, x = .tup a) (ty : ∃ b, y = .tup b) (hx : shW x) (hy : shW y) (q : Q (.bl (PyData.eqv (toD x) (toD y))) S) : wEq x y S Q := by
  obtain ⟨a, rfl⟩ := tx
  obtain ⟨b, rfl⟩ := ty
  exact ⟨hx, hy, q⟩
theorem wNe_t {x y : W} {S : Sto} {Q : WK} (tx : ∃ a, x = .tup a) (ty : ∃ b, y = .tup b) (hx : shW x) (hy : shW y) (q : Q (.bl (!PyData.eqv (toD x) (toD y))) S) : wNe x y S Q := by
  obtain ⟨a, rfl⟩ := tx
  obtain ⟨b, rfl⟩ := ty
  exact ⟨hx, hy, q⟩
theorem rdAt_ok {o : Option W} {w : W} {S : Sto} {Q : WK} (e : o = some w) (q : Q w S) : rdAt o S Q := by rw [e]; exact q
/-- a comprehension whose element changes nothing: map -/
theorem lcMap {wi : TIW} {j : Nat} {te : TEW} {vs : List Nat} {ρ : StW} {S S1 : Sto} {Q : WK} {ws : List W} {ok : Sto → Prop} (f : W → W) (hw : ∀ R : List W → (Sto → Prop) → Sto → Prop, R ws ok S1 → wi ρ S R) (hl : ws.length ≤ 100000)
    (hok : ∀ (D : Addr) (acc : List W), S1 D = none → ok (put S1 D (.lst acc)))
    (he : ∀ (i : Nat) (w : W) (D : Addr) (acc : List W), ws[i]? = some w → S1 D = none → ∀ Q' : WK, Q' (f w) (put S1 D (.lst acc)) → te ((wipeW ρ vs).set j (some w)) (put S1 D (.lst acc)) Q')
    (hd : ∀ (D : Addr), S1 D = none → Q (.ref D) (put S1 D (.lst (ws.map f)))) : wLc wi (wName j) wYes te vs ρ S Q := by
  refine hw _ fun D hD => ⟨fun i acc S' => i ≤ ws.length ∧ acc = (ws.map f).take i ∧ S' = put S1 D (.lst acc), ⟨Nat.zero_le _, rfl, rfl⟩, ?_, ?_, ?_⟩
  · rintro i acc S' ⟨_, _, rfl⟩
    exact hok D acc hD
  · rintro i w acc S' e ⟨_, ha, rfl⟩
    refine ⟨fun _ => he i w D acc e hD _ ⟨put_same, ?_, ?_⟩, fun h => by cases h⟩
    · rw [ha, List.length_take]
      exact Nat.lt_of_le_of_lt (Nat.min_le_left _ _) (Nat.lt_of_lt_of_le (show i < 200000 by have := (List.getElem?_eq_some_iff.mp e).1; omega) (by decide))
    · refine ⟨(List.getElem?_eq_some_iff.mp e).1, ?_, put_put⟩
      rw [List.take_add_one, List.getElem?_map, e, ha]
      rfl
  · rintro acc S' ⟨_, ha, rfl⟩
    rw [List.take_of_length_le (by rw [List.length_map]; exact Nat.le_refl _)] at ha
    rw [ha]
    exact hd D hD
/-! ### is None -/
def isN : W → Bool
  | .non => true
  | _ => false
def wIsN : RW2 := fun x y S Q => y = .non ∧ Q (.bl (isN x)) S
instance l2_isN {K : PySem.W.Frag} : L2R K (fun x y H Q => y = V.non ∧ Q (V.bl (decide (x = V.non))) H) wIsN := ⟨fun H S x y wx wy Q Qw hh rx ry q po => by
  obtain ⟨rfl, q⟩ := q
  refine ⟨ry, ?_⟩
  have e : decide (x = V.non) = isN wx := by
    cases wx with
    | tup ws =>
      obtain ⟨a, xs, rfl, _⟩ := (show ∃ a xs, x = .ref a ∧ _ from rx)
      rfl
    | rl ws =>
      obtain ⟨a, xs, rfl, _⟩ := (show ∃ a xs, x = .ref a ∧ _ from rx)
      rfl
    | _ => cases (show x = _ from rx); rfl
  rw [e]
  exact po.bl (Tk.refl H) hh q⟩
theorem isN_of {K : PySem.W.Frag} {H : Hp} {x : V} {wx : W} (rx : Rep K H wx x) : decide (x = V.non) = isN wx := by
  cases wx with
  | tup ws =>
    obtain ⟨a, xs, rfl, _⟩ := (show ∃ a xs, x = .ref a ∧ _ from rx)
    rfl
  | rl ws =>
    obtain ⟨a, xs, rfl, _⟩ := (show ∃ a xs, x = .ref a ∧ _ from rx)
    rfl
  | _ => cases (show x = _ from rx); rfl
def wNotN : RW2 := fun x y S Q => y = .non ∧ Q (.bl (!isN x)) S
instance l2_notN {K : PySem.W.Frag} : L2R K (fun x y H Q => y = V.non ∧ Q (V.bl (!decide (x = V.non))) H) wNotN := ⟨fun H S x y wx wy Q Qw hh rx ry q po => by
  obtain ⟨rfl, q⟩ := q
  refine ⟨ry, ?_⟩
  rw [isN_of rx]
  exact po.bl (Tk.refl H) hh q⟩
/-! ### more of the types -/
theorem isTy_tb : isTy "tuple" "bool" = some false := by decide +kernel
theorem isTy_ti : isTy "tuple" "int" = some false := by decide +kernel
theorem isTy_ts : isTy "tuple" "str" = some false := by decide +kernel
theorem isTy_tl : isTy "tuple" "list" = some false := by decide +kernel
theorem isTy_lb : isTy "list" "bool" = some false := by decide +kernel
theorem isTy_li : isTy "list" "int" = some false := by decide +kernel
theorem isTy_ls : isTy "list" "str" = some false := by decide +kernel
theorem isTy_lt : isTy "list" "tuple" = some false := by decide +kernel
theorem isTy_sb : isTy "str" "bool" = some false := by decide +kernel
theorem isTy_si : isTy "str" "int" = some false := by decide +kernel
theorem isTy_st : isTy "str" "tuple" = some false := by decide +kernel
theorem isTy_sl : isTy "str" "list" = some false := by decide +kernel
theorem isTy_is : isTy "int" "str" = some false := by decide +kernel
theorem isTy_it : isTy "int" "tuple" = some false := by decide +kernel
theorem isTy_il : isTy "int" "list" = some false := by decide +kernel
theorem isTy_bi : isTy "bool" "int" = some true := by decide +kernel
theorem isTy_bs : isTy "bool" "str" = some false := by decide +kernel
/-! ### shapes -/
def shN (n : Nat) (w : W) : Prop := datW w = true ∧ (toD w).canLay0 = true ∧ (toD w).depth ≤ n
theorem shN_list {n : Nat} : ∀ {ws : List W}, (∀ w ∈ ws, shN n w) → datWs ws = true ∧ PyData.canLayAll0 (toDs ws) = true ∧ PyData.depthAll (toDs ws) ≤ n
  | [], _ => ⟨rfl, rfl, Nat.zero_le _⟩
  | w :: ws, h => by
    obtain ⟨a, b, c⟩ := h w List.mem_cons_self
    obtain ⟨d, e, f⟩ := shN_list fun x hx => h x (List.mem_cons_of_mem _ hx)
    refine ⟨?_, ?_, ?_⟩
    · unfold datWs; rw [a, d]; rfl
    · unfold toDs; unfold PyData.canLayAll0; rw [b, e]; rfl
    · unfold toDs; unfold PyData.depthAll; exact Nat.max_le.mpr ⟨c, f⟩
theorem shN_tup {n : Nat} {ws : List W} (h : ∀ w ∈ ws, shN n w) : shN (n + 1) (.tup ws) := by
  obtain ⟨a, b, c⟩ := shN_list h
  refine ⟨by unfold datW; exact a, by unfold toD; unfold PyData.canLay0; exact b, ?_⟩
  unfold toD
  unfold PyData.depth
  omega
theorem shN_rl {n : Nat} {ws : List W} (h : ∀ w ∈ ws, shN n w) : shN (n + 1) (.rl ws) := by
  obtain ⟨a, b, c⟩ := shN_list h
  refine ⟨by unfold datW; exact a, by unfold toD; unfold PyData.canLay0; exact b, ?_⟩
  unfold toD
  unfold PyData.depth
  omega
theorem shN_int (n : Int) : shN 0 (.int n) := ⟨rfl, rfl, Nat.le_refl 0⟩
theorem shN_str {n : Str} (h : PyData.strOk n = true) : shN 0 (.str n) := ⟨rfl, h, Nat.le_refl 0⟩
theorem shN_bl (n : Bool) : shN 0 (.bl n) := ⟨rfl, rfl, Nat.le_refl 0⟩
theorem shN_up {n m : Nat} {w : W} (h : shN n w) (l : n ≤ m) : shN m w := ⟨h.1, h.2.1, Nat.le_trans h.2.2 l⟩
theorem shN_sh {n : Nat} {w : W} (h : shN n w) (l : n ≤ 64) : shW w := ⟨h.1, by unfold SeqAt.shaped; rw [h.2.1, decide_eq_true (Nat.le_trans h.2.2 l)]; rfl⟩
theorem eqvW_refl {w : W} (h : shW w) : PyData.eqv (toD w) (toD w) = true := SeqAt.eqv_refl _ (by
  have := h.2
  unfold SeqAt.shaped at this
  rw [Bool.and_eq_true] at this
  exact this.1)
theorem eqvAllW_refl {ws : List W} (h : shW (.rl ws)) : PyData.eqvAll (toDs ws) (toDs ws) = true := SeqAt.eqvAll_refl _ (by
  have := h.2
  unfold SeqAt.shaped at this
  rw [Bool.and_eq_true] at this
  exact this.1)
end Wl
set_option Elab.async false
set_option linter.all false
set_option maxRecDepth 100000
set_option maxHeartbeats 2000000
/-! Words that whnf does not open. -/
namespace Wl
open PySem PySem.Spec PyProof.Rows L2
section
variable {K : PySem.W.Frag} {P : Program} {w : World} {mg : Str → Option Value} {base : Heap}
@[irreducible] def Hd (sp : SpW) : SpW := sp
theorem Hd_eq (sp : SpW) : Hd sp = sp := by unfold Hd; rfl
theorem Hd.mk {sp : SpW} {ws : List W} {S : Sto} {Q : WK} (h : sp ws S Q) : Hd sp ws S Q := by rw [Hd_eq]; exact h
theorem CalW.hd {k : Nat} {x : Str} {sp : SpW} (c : CalW P w K mg base k x sp) : CalW P w K mg base k x (Hd sp) := by rw [Hd_eq]; exact c
@[irreducible] def FgI (Q : WK) : WK := Fg Q
theorem FgI_eq (Q : WK) : FgI Q = Fg Q := by unfold FgI; rfl
theorem fg_here {Q : WK} {v : W} {S : Sto} (h : Q v S) : FgI Q v S := by rw [FgI_eq]; exact ⟨S, Sub.refl S, h⟩
theorem fg_sub {Q : WK} {v : W} {S S' : Sto} (h : Sub S' S) (q : Q v S') : FgI Q v S := by rw [FgI_eq]; exact ⟨S', h, q⟩
theorem calDI {x : Str} {st : Stmt} {N ps : List Str} {k : Nat} {sp : SpW} (d : DefAt K mg x st ps) (SC : FnScope N ps (defScope st))
    (len : ∀ ws S Q, sp ws S Q → ws.length = ps.length)
    (hbody : ∀ (f : Addr) (cdv : Value) (A : Around) (outer : List Env) (s : Shared) (H : Hp) (E : XK), Room k (A.deeper (envOfC x (defScope st) s.heap.objs.size f cdv)) →
      ∃ t tw, PSs (cxOf CX0 P w K mg base N x (defScope st) f cdv A outer s H E).nox (defBody st) t ∧ LS K H t tw ∧ ∀ ws S Q, sp ws S Q → tw { nx := fun _ S' => FgI Q .non S', rt := FgI Q } (startW N ws) S) :
    CalW P w K mg base (k + 1) x sp := calD d SC len fun f cdv A outer s H E hr => by
  obtain ⟨t, tw, h1, h2, h3⟩ := hbody f cdv A outer s H E hr
  refine ⟨t, tw, h1, h2, fun ws S Q h => ?_⟩
  have h4 := h3 ws S Q h
  rw [FgI_eq] at h4
  exact h4
theorem fnDI {x : Str} {st : Stmt} {N ps : List Str} {k : Nat} {sp : SpW} {f : Addr} {fd : FuncData} (F : Fun K x x st f fd) (SC : FnScope N ps (defScope st))
    (len : ∀ ws S Q, sp ws S Q → ws.length = ps.length)
    (hbody : ∀ (f : Addr) (cdv : Value) (A : Around) (outer : List Env) (s : Shared) (H : Hp) (E : XK), Room k (A.deeper (envOfC x (defScope st) s.heap.objs.size f cdv)) →
      ∃ t tw, PSs (cxOf CX0 P w K mg base N x (defScope st) f cdv A outer s H E).nox (defBody st) t ∧ LS K H t tw ∧ ∀ ws S Q, sp ws S Q → tw { nx := fun _ S' => FgI Q .non S', rt := FgI Q } (startW N ws) S) :
    FnOk P w K mg base CX0 (k + 1) f fd ps (liftSp K sp) := fnD F SC len fun f cdv A outer s H E hr => by
  obtain ⟨t, tw, h1, h2, h3⟩ := hbody f cdv A outer s H E hr
  refine ⟨t, tw, h1, h2, fun ws S Q h => ?_⟩
  have h4 := h3 ws S Q h
  rw [FgI_eq] at h4
  exact h4
@[irreducible] def wLcI (wi : TIW) (g : TGW) (tt : TTW) (te : TEW) (vs : List Nat) : TEW := wLc wi g tt te vs
theorem wLcI_eq (wi : TIW) (g : TGW) (tt : TTW) (te : TEW) (vs : List Nat) : wLcI wi g tt te vs = wLc wi g tt te vs := by unfold wLcI; rfl
instance (priority := high) le_lcI {wi : TI} {g : TG} {tt : TT} {te : TE} {vs : List Nat} {ww : TIW} {gw : TGW} {tw : TTW} {ew : TEW} [h : LI K B wi ww] [b : LG K B g gw] [gg : GW g vs] [c : LT K B tt tw] [a : LE K B te ew] : LE K B (tLc wi g tt te vs) (wLcI ww gw tw ew vs) := by
  rw [wLcI_eq]; infer_instance
theorem lc_mk {wi : TIW} {g : TGW} {tt : TTW} {te : TEW} {vs : List Nat} {ρ : StW} {S : Sto} {Q : WK} (h : wi ρ S fun ws ok S1 => ∀ D, S1 D = none → ∃ P : Nat → List W → Sto → Prop, P 0 [] (put S1 D (.lst [])) ∧
  (∀ i acc S', P i acc S' → ok S') ∧
  (∀ i w acc S', ws[i]? = some w → P i acc S' → g w (wipeW ρ vs) S' fun ρ2 S2 => tt ρ2 S2 fun b S3 =>
    (b = true → te ρ2 S3 fun y S4 => S4 D = some (.lst acc) ∧ acc.length < sizeLine ∧ P (i + 1) (acc ++ [y]) (put S4 D (.lst (acc ++ [y])))) ∧ (b = false → P (i + 1) acc S3)) ∧
  ∀ acc S', P ws.length acc S' → Q (.ref D) S') : wLcI wi g tt te vs ρ S Q := by rw [wLcI_eq]; exact h
theorem lcMapI {wi : TIW} {j : Nat} {te : TEW} {vs : List Nat} {ρ : StW} {S S1 : Sto} {Q : WK} {ws : List W} {ok : Sto → Prop} (f : W → W) (hw : ∀ R : List W → (Sto → Prop) → Sto → Prop, R ws ok S1 → wi ρ S R) (hl : ws.length ≤ 100000)
    (hok : ∀ (D : Addr) (acc : List W), S1 D = none → ok (put S1 D (.lst acc)))
    (he : ∀ (i : Nat) (w : W) (D : Addr) (acc : List W), ws[i]? = some w → S1 D = none → ∀ Q' : WK, Q' (f w) (put S1 D (.lst acc)) → te ((wipeW ρ vs).set j (some w)) (put S1 D (.lst acc)) Q')
    (hd : ∀ (D : Addr), S1 D = none → Q (.ref D) (put S1 D (.lst (ws.map f)))) : wLcI wi (wName j) wYes te vs ρ S Q := by rw [wLcI_eq]; exact lcMap f hw hl hok he hd
/-- all but p is as it was -/
@[irreducible] def Kp (S : Sto) (p : Addr) (S' : Sto) : Prop := ∀ a c, a ≠ p → S a = some c → S' a = some c
theorem Kp_eq (S : Sto) (p : Addr) (S' : Sto) : Kp S p S' = ∀ a c, a ≠ p → S a = some c → S' a = some c := by unfold Kp; rfl
theorem Kp.refl (S : Sto) (p : Addr) : Kp S p S := by rw [Kp_eq]; exact fun _ _ _ h => h
theorem Kp.at {S S' : Sto} {p : Addr} {c : Cell} (h : Kp S p S') : Kp S p (put S' p c) := by
  rw [Kp_eq] at *
  exact fun a d ha e => by rw [put_ne ha]; exact h a d ha e
theorem Kp.free {S S' : Sto} {p d : Addr} {c : Cell} (h : Kp S p S') (hp : S' p = some c) (n : S' d = none) : S d = none := by
  rw [Kp_eq] at h
  cases e : S d with
  | none => rfl
  | some x =>
    have hd : d ≠ p := fun z => by rw [z, hp] at n; cases n
    rw [h d x hd e] at n; cases n
theorem Kp.new {S S' : Sto} {p d : Addr} {c : Cell} (h : Kp S p S') (n : S d = none) : Kp S p (put S' d c) := by
  rw [Kp_eq] at *
  exact fun a e ha q => by
    have hd : a ≠ d := fun z => by rw [z, n] at q; cases q
    rw [put_ne hd]; exact h a e ha q
theorem Kp.sub {S S' : Sto} {p : Addr} {c : Cell} (h : Kp S p S') (hp : S' p = some c) : Sub (put S p c) S' := by
  rw [Kp_eq] at h
  exact fun a d e => by
    by_cases q : a = p
    · rw [q, put_same] at e; rw [q, hp]; exact e
    · rw [put_ne q] at e; exact h a d q e
/-! pools -/
theorem take_go {p : Addr} {c n b s many : Int} {S : Sto} {Q : WK} (h : S p = some (.lst (poolL c n b s))) (ok : PoolOk c n s) (hn : n < 1000000) (h0 : 0 < many) (h1 : many < 2 ^ 64)
    (q : ∀ r c', 0 ≤ r → r < many → PoolOk c' (n + 1) s → Q (.int r) (put S p (.lst (poolL c' (n + 1) b s)))) : Hd spTake [.ref p, .int many] S Q := Hd.mk ⟨p, c, n, b, s, many, rfl, h, ok, hn, h0, h1, q⟩
theorem pool_go {ns : List Int} {k : Int} {S : Sto} {Q : WK} (h0 : 0 ≤ k) (h1 : k ≤ 1000) (hl : ns.length ≤ 63) (q : ∀ p c b s, S p = none → PoolOk c 0 s → Q (.ref p) (put S p (.lst (poolL c 0 b s)))) : Hd spPool [.rl (ns.map W.int), .int k] S Q := Hd.mk ⟨ns, k, rfl, h0, h1, hl, q⟩
theorem sh_pr (a b : Int) : shW (.tup [.int a, .int b]) := shN_sh (n := 1) (shN_tup fun w hw => by
  rw [List.mem_cons, List.mem_cons] at hw
  rcases hw with rfl | rfl | hw
  · exact shN_int _
  · exact shN_int _
  · cases hw) (by decide)
end
end Wl
set_option Elab.async false
set_option linter.all false
set_option maxRecDepth 100000
set_option maxHeartbeats 2000000
/-! Exceptions over data. -/
namespace Wl
open PySem PySem.Spec PyProof.Rows L2
variable {K : PySem.W.Frag} {B : Hp}
/-- an exception: its class, the fields of its own dict -/
structure Ex where
  cls : Value
  fs : List (Str × W) := []
def RepX (K : PySem.W.Frag) (H : Hp) (ex : Ex) (cls : Value) (d : Option Addr) : Prop :=
  cls = ex.cls ∧ ((d = none ∧ ex.fs = []) ∨ (ex.fs ≠ [] ∧ ∃ a gs, d = some a ∧ H a = some (.xd gs) ∧ RepKV K H ex.fs gs))
abbrev XQ := Ex → Sto → Prop
abbrev XW := Ex → StW → Sto → Prop
def PoX (K : PySem.W.Frag) (H : Hp) (E : XK) (Ew : XQ) : Prop := ∀ cls d H' ex S', Tk H H' → HRep K H' S' → RepX K H' ex cls d → Ew ex S' → E cls d H'
theorem PoX.tk {H H1 : Hp} {E : XK} {Ew : XQ} (h : PoX K H E Ew) (t : Tk H H1) : PoX K H1 E Ew := fun cls d H' ex S' t' => h cls d H' ex S' (t.trans t')
class PX (K : PySem.W.Frag) (B : Hp) (W : WX) (Xw : outParam XW) : Prop where
  l : ∀ cls d σ H ex ρ S, SRep K B H σ ρ → HRep K H S → RepX K H ex cls d → Xw ex ρ S → W cls d σ H
/-- nothing is let out -/
abbrev WX0 : WX := fun _ _ _ _ => False
abbrev XW0 : XW := fun _ _ _ => False
instance px_none : PX K B WX0 XW0 := ⟨fun _ _ _ _ _ _ _ _ _ _ h => h⟩
theorem SRep.rebase {H H' : Hp} {σ : L2.St} {ρ : StW} (h : SRep K H H' σ ρ) (t : Tk B H) : SRep K B H' σ ρ := ⟨t.trans h.bs, h.len, h.at_⟩
theorem SRep.top {H : Hp} {σ : L2.St} {ρ : StW} (h : SRep K B H σ ρ) : SRep K H H σ ρ := ⟨Tk.refl H, h.len, h.at_⟩
theorem PoD.rebase {H : Hp} {D : Ends} {Dw : EndsW} (h : PoD K B H D Dw) (t : Tk B H) : PoD K H H D Dw :=
  ⟨fun σ' H' ρ' S' t' hs => h.nx σ' H' ρ' S' t' (hs.rebase t), fun σ' H' ρ' S' t' hs => h.bk σ' H' ρ' S' t' (hs.rebase t), fun σ' H' ρ' S' t' hs => h.ct σ' H' ρ' S' t' (hs.rebase t), h.rt⟩

/-! ### raise -/
abbrev TMk := L2.St → Hp → XK → Prop
abbrev TMkW := StW → Sto → XQ → Prop
class LMk (K : PySem.W.Frag) (B : Hp) (t : TMk) (tw : outParam TMkW) : Prop where
  l : ∀ σ H ρ S Q Qw, SRep K B H σ ρ → HRep K H S → tw ρ S Qw → PoX K H Q Qw → t σ H Q
def tMk0 (C : Addr) : TMk := fun _ H Q => Q (.ref C) none H
def wMk0 (C : Addr) : TMkW := fun _ S Q => Q ⟨.ref C, []⟩ S
instance lmk_0 {C : Addr} : LMk K B (tMk0 C) (wMk0 C) := ⟨fun σ H ρ S Q Qw hs hh q po => po _ _ H _ S (Tk.refl H) hh ⟨rfl, .inl ⟨rfl, rfl⟩⟩ q⟩
theorem pmk_own0 {X : Cx} {C : Addr} {bmB : List Value} {B newId initId : String} {x : Str} {p pos : Pos} (F : ExcBaseFacts B newId initId bmB) (q : PySem.W.excIn X.K C bmB newId = true) (gC : X.mg x = some (.ref C)) (kC : PySem.W.keepIn X.K (.ref C) = true) (r : Raises X (.ref C)) (hg : Gl X x)
    (hdb : (x == ("__debug__" : Str)) = false := by decide) : PMk X (.Call (.Name x p) [] [] pos) (tMk0 C) := by
  intro pins s σ H Q I h
  refine wpAny_Call_Name_kw (ld_glob I hg gC ?_ hdb)
  refine PySem.W.callWith_K0 I.kIn kC ?_
  show wpAny _ _ (call (.ref C) []) _ _ _
  obtain ⟨bm, N, nm, qn, bs, hdct, sn, sub, ab, col, dd, k0, k1, k2, k3, k5, mN, hC, hN, hni, T⟩ := exc_obj I.kIn q
  refine wpAny_call_exc_subT F T hC hN hni (fun h' e hm => ?_) (Nat.zero_le _)
  exact mk_of I hm r h (I.hok.gone hm.new)
def tRaise (t : TMk) (W : WX) : TS := fun _ σ H => t σ H fun cls d H' => W cls d σ H'
def wRaise (t : TMkW) (Xw : XW) : TSW := fun _ ρ S => t ρ S fun ex S' => Xw ex ρ S'
instance ls_raise {t : TMk} {W : WX} {tw : TMkW} {Xw : XW} [px : PX K B W Xw] [m : LMk K B t tw] : LS K B (tRaise t W) (wRaise tw Xw) := ⟨fun σ H ρ S D Dw hs hh q po =>
  m.l σ H ρ S _ _ hs hh q fun cls d H' ex S' t' hh' r q' => px.l cls d σ H' ex ρ S' (hs.tk t') hh' r q'⟩
theorem ps_raiseW {X : Cx} {W : WX} {e : Expr} {t : TMk} {pos : Pos} (hc : X.calm = true) (tk : Takes X W) (he : PMk X e t) : PS X (.Raise (some e) none pos) (tRaise t W) := ps_raise hc tk he

/-! ### defs that may raise -/
abbrev SpX := List W → Sto → WK → XQ → Prop
def liftX (K : PySem.W.Frag) (sp : SpX) : Sp := fun vs H Q E => ∃ ws S Qw Ew, RepL K H ws vs ∧ HRep K H S ∧ sp ws S Qw Ew ∧ PoE K H Q Qw ∧ PoX K H E Ew
def wCallX (sp : SpX) (Xw : XW) (t : TAW) : TEW := fun ρ S Q => t ρ S fun ws S1 => sp ws S1 Q fun ex S2 => Xw ex ρ S2
instance le_callX {sp : SpX} {W : WX} {Xw : XW} {t : TA} {tw : TAW} [px : PX K B W Xw] [a : LA K B t tw] : LE K B (tCallS (liftX K sp) (WE W) t) (wCallX sp Xw tw) := ⟨fun σ H ρ S Q Qw hs hh q po =>
  a.l σ H ρ S _ _ hs hh q fun xs H1 ws S1 t1 hh1 r1 q1 => ⟨ws, S1, Qw, _, r1, hh1, q1, po.tk t1, fun cls d H' ex S' t hh' r q' => px.l cls d σ H' ex ρ S' (hs.tk (t1.trans t)) hh' r q'⟩⟩
section
variable {P : Program} {w : World} {mg : Str → Option Value} {base : Heap}
structure CalX (P : Program) (w : World) (K : PySem.W.Frag) (mg : Str → Option Value) (base : Heap) (k : Nat) (x : Str) (sp : SpX) : Prop where
  ex : ∃ (f : Addr) (fd : FuncData) (ps : List Str), FnOk P w K mg base (L2.CX P w) k f fd ps (liftX K sp) ∧ mg x = some (.ref f) ∧ PySem.W.keepIn K (.ref f) = true ∧ Binds K fd ps []
theorem CalX.mono {j k : Nat} {x : Str} {sp : SpX} (c : CalX P w K mg base j x sp) (h : j ≤ k) : CalX P w K mg base k x sp := by
  obtain ⟨f, fd, ps, F, r⟩ := c.ex
  exact ⟨f, fd, ps, F.mono h, r⟩
theorem CalX.imp {k : Nat} {x : Str} {sp sp' : SpX} (c : CalX P w K mg base k x sp) (h : ∀ ws S Q E, sp' ws S Q E → sp ws S Q E) : CalX P w K mg base k x sp' := by
  obtain ⟨f, fd, ps, F, r⟩ := c.ex
  exact ⟨f, fd, ps, F.imp fun vs H Q E ⟨ws, S, Qw, Ew, h1, h2, h3, h4⟩ => ⟨ws, S, Qw, Ew, h1, h2, h _ _ _ _ h3, h4⟩, r⟩
@[irreducible] def HdX (sp : SpX) : SpX := sp
theorem HdX_eq (sp : SpX) : HdX sp = sp := by unfold HdX; rfl
theorem HdX.mk {sp : SpX} {ws : List W} {S : Sto} {Q : WK} {E : XQ} (h : sp ws S Q E) : HdX sp ws S Q E := by rw [HdX_eq]; exact h
theorem CalX.hd {k : Nat} {x : Str} {sp : SpX} (c : CalX P w K mg base k x sp) : CalX P w K mg base k x (HdX sp) := by rw [HdX_eq]; exact c
/-- a def that raises nothing where its promise holds, called where something may be raised -/
theorem k_x (K : PySem.W.Frag) {X : Cx} {W : WX} {k j : Nat} {x : Str} {sp : SpX} {p pos : Pos} {e : Expr} {es : List Expr} {t : TA} (tk : Takes X W) (c : CalX X.prog X.w K X.mg X.base k x sp) (hr : Room j X.A) (hk : k ≤ j) (hg : Gl X x) (ha : PA X (e :: es) t)
    (hdb : (x == ("__debug__" : Str)) = false := by decide) (he : starEach (e :: es) X.env = (false, eval e X.env) :: starEach es X.env := by rfl) (hpl : (backTo pos (starEach es X.env)).any (·.1) = false := by rfl) (hK : X.K = K := by rfl) :
    PE X (.Call (.Name x p) (e :: es) [] pos) (tCallS (liftX K sp) (WE W) t) := by
  subst hK
  obtain ⟨f, fd, ps, F, hm, kp, b⟩ := c.ex
  exact pe_callS F (hr.mono hk) hg hm kp b (passAt tk) ha hdb he hpl
/-- what a def lets out -/
abbrev WD (E : XK) : WX := fun cls d _ H => E cls d H
@[irreducible] def FgX (Ew : XQ) : XQ := fun ex S => ∃ S', Sub S' S ∧ Ew ex S'
theorem FgX_eq (Ew : XQ) (ex : Ex) (S : Sto) : FgX Ew ex S = ∃ S', Sub S' S ∧ Ew ex S' := by unfold FgX; rfl
theorem fgx_here {Ew : XQ} {ex : Ex} {S : Sto} (h : Ew ex S) : FgX Ew ex S := by rw [FgX_eq]; exact ⟨S, Sub.refl S, h⟩
theorem fgx_sub {Ew : XQ} {ex : Ex} {S S' : Sto} (h : Sub S' S) (q : Ew ex S') : FgX Ew ex S := by rw [FgX_eq]; exact ⟨S', h, q⟩
abbrev XD (Ew : XQ) : XW := fun ex _ S => FgX Ew ex S
theorem calX {x : Str} {st : Stmt} {N ps : List Str} {k : Nat} {sp : SpX} (d : DefAt K mg x st ps) (SC : FnScope N ps (defScope st))
    (len : ∀ ws S Q E, sp ws S Q E → ws.length = ps.length)
    (hbody : ∀ (f : Addr) (cdv : Value) (A : Around) (outer : List Env) (s : Shared) (H : Hp) (E : XK) (Ew : XQ), Room k (A.deeper (envOfC x (defScope st) s.heap.objs.size f cdv)) →
      Takes (cxOf (L2.CX P w) P w K mg base N x (defScope st) f cdv A outer s H E) (WD E) → PX K H (WD E) (XD Ew) →
      ∃ t tw, PSs (cxOf (L2.CX P w) P w K mg base N x (defScope st) f cdv A outer s H E) (defBody st) t ∧ LS K H t tw ∧ ∀ ws S Q, sp ws S Q Ew → tw { nx := fun _ S' => FgI Q .non S', rt := FgI Q } (startW N ws) S) :
    CalX P w K mg base (k + 1) x sp := by
  obtain ⟨f, fd, F, hm, b⟩ := d.ex
  refine ⟨f, fd, ps, F.okX SC (fun vs H Q E ⟨ws, S, Qw, Ew, h1, _, h3, _⟩ => by rw [h1.length]; exact len _ _ _ _ h3) (fun cdv A outer s H vs Q E hr ⟨ws, S, Qw, Ew, h1, h2, h3, h4, h5⟩ => ?_), hm, F.kp, b⟩
  have px : PX K H (WD E) (XD Ew) := ⟨fun cls d σ H' ex ρ S' hs hh r q => by
    have q : FgX Ew ex S' := q
    rw [FgX_eq] at q
    obtain ⟨S2, sub, q⟩ := q
    exact h5 cls d H' ex S2 hs.bs (hh.sub sub) r q⟩
  obtain ⟨t, tw, ht, hl, hq⟩ := hbody f cdv A outer s H E Ew hr (takes_of rfl rfl rfl rfl) px
  refine ⟨t, ht, hl.l _ H (startW N ws) S _ _ (SRep.init h1) h2 (hq ws S Qw h3) ⟨?_, fun _ _ _ _ _ _ _ z => z.elim, fun _ _ _ _ _ _ _ z => z.elim, ?_⟩⟩
  · intro σ' H' ρ' S' t1 _ hh q
    have q : FgI Qw .non S' := q
    rw [FgI_eq] at q
    obtain ⟨S2, sub, q⟩ := q
    exact h4.non t1 (hh.sub sub) q
  · intro v H' w S' t1 hh r q
    have q : FgI Qw w S' := q
    rw [FgI_eq] at q
    obtain ⟨S2, sub, q⟩ := q
    exact h4 v H' w S2 t1 (hh.sub sub) r q
/-- where nothing can be raised, a def that may raise raises nothing -/
theorem CalX.calm {k : Nat} {x : Str} {sp : SpX} (c : CalX P w K mg base k x sp) : CalX P w K mg base k x sp := c
end

/-! ### try: .. except C: .. -/
/-- the wish that a data wish makes -/
def Wc (K : PySem.W.Frag) (B : Hp) (Xw : XW) : WX := fun cls d σ H => ∃ ex ρ S, SRep K B H σ ρ ∧ HRep K H S ∧ RepX K H ex cls d ∧ Xw ex ρ S
instance px_wc {Xw : XW} : PX K B (Wc K B Xw) Xw := ⟨fun cls d σ H ex ρ S h1 h2 h3 h4 => ⟨ex, ρ, S, h1, h2, h3, h4⟩⟩
def tWeak (tb : WX → TS) (W : WX) : TS := fun D σ H => ∃ W' : WX, (∀ cls d σ' H', W' cls d σ' H' → W cls d σ' H') ∧ tb W' D σ H
abbrev HbW (K : PySem.W.Frag) (tb : WX → TS) (tbw : XW → TSW) : Prop := ∀ (B1 : Hp) (Xw : XW), LS K B1 (tb (Wc K B1 Xw)) (tbw Xw)
def tTryO (K : PySem.W.Frag) (c : Value) (tb : WX → TS) (ts : Addr → Value → Option Addr → TS) (Wout : WX) (tbw : XW → TSW) (_ : HbW K tb tbw) : TS := fun D σ H => tWeak tb (wOnly K c ts Wout D) D σ H
def wTryO (K : PySem.W.Frag) (c : Value) (tb : XW → TSW) (ts : TSW) (Xout : XW) : TSW := fun D ρ S =>
  tb (fun ex ρ' S' => ∃ b, PySem.W.exmOne K ex.cls c = some b ∧ (b = true → ts D ρ' S') ∧ (b = false → Xout ex ρ' S')) D ρ S
instance ls_tryO {c : Value} {tb : WX → TS} {ts : Addr → Value → Option Addr → TS} {Wout : WX} {tbw : XW → TSW} {hb : HbW K tb tbw} {tsw : TSW} {Xout : XW} [px : PX K B Wout Xout]
    [hsu : ∀ a cls d, LS K B (ts a cls d) tsw] : LS K B (tTryO K c tb ts Wout tbw hb) (wTryO K c tbw tsw Xout) := ⟨fun σ H ρ S D Dw hs hh q po => by
  refine ⟨Wc K H (fun ex ρ' S' => ∃ b, PySem.W.exmOne K ex.cls c = some b ∧ (b = true → tsw Dw ρ' S') ∧ (b = false → Xout ex ρ' S')), ?_, ?_⟩
  · rintro cls d σ' H' ⟨ex, ρ', S', hs', hh', r, b, e1, e2, e3⟩
    have rc := r.1
    refine ⟨b, by rw [rc]; exact e1, fun hbt a ha => ?_, fun hbf => px.l cls d σ' H' ex ρ' S' (hs'.rebase hs.bs) hh' r (e3 hbf)⟩
    exact (hsu a cls d).l σ' H' ρ' S' D Dw (hs'.rebase hs.bs) hh' (e2 hbt) (po.tk hs'.bs)
  · exact (hb H _).l σ H ρ S D Dw hs.top hh q (po.rebase hs.bs)⟩
theorem pss_weak {X : Cx} {body : List Stmt} {tb : WX → TS} {W : WX} (tk : Takes X W) (hb : ∀ W', Takes X W' → PSs X body (tb W')) : PSs X body (tWeak tb W) :=
  ⟨fun pins s σ H D I ⟨W', hi, h⟩ => (hb W' (tk.imp hi)).run pins s σ H D I h⟩
theorem ps_tryO (K : PySem.W.Frag) {X : Cx} {x : Str} {c : Value} {body suite : List Stmt} {b₀ : Stmt} {np pos pos' : Pos} {tb : WX → TS} {ts : Addr → Value → Option Addr → TS} {Wout : WX} {tbw : XW → TSW} (hs : X.stack = X.env :: X.outer) (hf : X.env.frame = some X.env.locals) (hc : Names X x c) (tk : Takes X Wout)
    (hb : ∀ (W : WX) (pn : List (Addr × Obj)) (xe : Value → Shared → Prop), Takes (X.tr pn xe) W → PassesOwn (model X.prog X.w) X.A X.env xe → PSs (X.tr pn xe) body (tb W))
    (hsu : ∀ (a : Addr) (oe : Obj) (cls : Value) (d : Option Addr) (pn : List (Addr × Obj)), Zc cls d oe → (∃ vs, oe.data = .fields vs) → PSs (X.suite a ((a, oe) :: pn)) (b₀ :: suite) (ts a cls d)) (hbw : HbW K tb tbw) (hK : X.K = K := by rfl) :
    PS X (.Try body [.ExceptHandler (some (.Name x np)) none (b₀ :: suite) pos'] [] [] pos) (tTryO K c tb ts Wout tbw hbw) := by
  subst hK
  exact ps_try_only (tb := tWeak tb) hs hf hc tk (fun W pn xe tkb pob => pss_weak tkb fun W' tk' => hb W' pn xe tk' pob) hsu
end Wl
set_option Elab.async false
set_option linter.all false
set_option maxRecDepth 100000
set_option maxHeartbeats 2000000
/-! More built-in things over data. -/
namespace Wl
open PySem PySem.Spec PyProof.Rows L2
variable {K : PySem.W.Frag} {B : Hp}
/-! ### sep.join(texts) -/
def rJoinA (K : PySem.W.Frag) : V → List V → Hp → VK → Prop := fun x xs H Q => ∃ a p, ∃ ys : List Str, x = .str a ∧ xs = [.ref p] ∧ (SqL K H p (ys.map V.str) ∨ SqT K H p (ys.map V.str)) ∧
    (ys.map (·.length)).sum + ys.length * a.length ≤ 16777216 ∧ Q (.str (Txt.join a ys)) H
theorem k_joinM (K : PySem.W.Frag) {X : Cx} (hK : X.K = K := by rfl) : MtR X "str.join" (rJoinA K) := by subst hK; exact mt_join
/-- the texts of a row -/
def strsOf : List W → Option (List Str)
  | [] => some []
  | .str x :: ws => (strsOf ws).map (x :: ·)
  | _ => none
theorem strsOf_map (ys : List Str) : strsOf (ys.map W.str) = some ys := by
  induction ys with
  | nil => rfl
  | cons y ys ih => show (strsOf (ys.map W.str)).map (y :: ·) = _; rw [ih]; rfl
theorem strsOf_eq : ∀ {ws : List W} {ys : List Str}, strsOf ws = some ys → ws = ys.map W.str
  | [], ys, h => by cases h; rfl
  | w :: ws, ys, h => by
    cases w with
    | str x =>
      have h : (strsOf ws).map (x :: ·) = some ys := h
      cases e : strsOf ws with
      | none => rw [e] at h; cases h
      | some zs =>
        rw [e] at h
        cases h
        rw [strsOf_eq e]
        rfl
    | _ => cases h
def joinAt (a : Str) (ws : List W) (S : Sto) (Q : WK) : Prop := ∃ ys, ws = List.map W.str ys ∧ (ys.map (·.length)).sum + ys.length * a.length ≤ 16777216 ∧ Q (.str (Txt.join a ys)) S
def wJoin : W → List W → Sto → WK → Prop := fun x ws S Q => match x, ws with
  | .str a, [.tup ws] => joinAt a ws S Q
  | .str a, [.rl ws] => joinAt a ws S Q
  | .str a, [.ref p] => ∃ ws, S p = some (.lst ws) ∧ joinAt a ws S Q
  | _, _ => False
instance lm_join : LMR K (rJoinA K) wJoin := ⟨fun H S x wx xs ws Q Qw hh rx r q po => by
  unfold wJoin at q
  split at q
  · cases (show x = _ from rx)
    obtain ⟨y, rfl, p, zs, rfl, h1, h2⟩ := rep1 r
    obtain ⟨ys, rfl, hl, q⟩ := q
    rw [h2.strs] at h1
    exact ⟨_, p, ys, rfl, rfl, .inr h1, hl, po.str (Tk.refl H) hh q⟩
  · cases (show x = _ from rx)
    obtain ⟨y, rfl, p, zs, rfl, h1, h2⟩ := rep1 r
    obtain ⟨ys, rfl, hl, q⟩ := q
    rw [h2.strs] at h1
    exact ⟨_, p, ys, rfl, rfl, .inl h1.sq, hl, po.str (Tk.refl H) hh q⟩
  · cases (show x = _ from rx)
    obtain ⟨y, rfl, ry⟩ := rep1 r
    cases (show y = _ from ry)
    obtain ⟨ws, e, ys, rfl, hl, q⟩ := q
    obtain ⟨zs, h1, h2⟩ := hh _ _ e
    rw [h2.strs] at h1
    exact ⟨_, _, ys, rfl, rfl, .inl (SqL.of h1), hl, po.str (Tk.refl H) hh q⟩
  · exact q.elim⟩
/-! ### xs.extend(ys) -/
def wExtend : W → List W → Sto → WK → Prop := fun x ws S Q => match x, ws with
  | .ref l, [.ref b] => ∃ xs ys, S l = some (.lst xs) ∧ S b = some (.lst ys) ∧ xs.length + ys.length ≤ sizeLine ∧ Q .non (put S l (.lst (xs ++ ys)))
  | _, _ => False
instance lm_extend : LMR K rExtend wExtend := ⟨fun H S x wx xs ws Q Qw hh rx r q po => by
  unfold wExtend at q
  split at q
  · cases (show x = _ from rx)
    obtain ⟨y, rfl, ry⟩ := rep1 r
    cases (show y = _ from ry)
    obtain ⟨xs, ys, e1, e2, hl, q⟩ := q
    obtain ⟨vs, h1, h2⟩ := hh _ _ e1
    obtain ⟨us, g1, g2⟩ := hh _ _ e2
    have t : Tk H (upd H _ (.lst (vs ++ us))) := Tk.mut h1 (fun _ z => (by cases z)) (fun _ _ z => (by cases z))
    obtain ⟨t, hm⟩ := hh.mut (c' := .lst _) (o := .lst (vs ++ us)) e1 ⟨_, upd_same, (RepL.tk t _ _ h2).append (RepL.tk t _ _ g2)⟩
    exact ⟨_, _, vs, us, rfl, rfl, h1, g1, by rw [h2.length, g2.length]; exact hl, po.non t hm q⟩
  · exact q.elim⟩
end Wl
set_option Elab.async false
set_option linter.all false
set_option maxRecDepth 100000
set_option maxHeartbeats 2000000
/-! A module's constants, the text's own errors. -/
namespace Wl
open PySem PySem.Spec PyProof.Rows L2
variable {K : PySem.W.Frag} {B : Hp}
structure ConstAt (K : PySem.W.Frag) (mg : Str → Option Value) (x : Str) (wd : W) : Prop where
  ex : ∃ u v, mg x = some u ∧ RelV v u ∧ ∀ H, Rep K H wd v
def tGl (K : PySem.W.Frag) (wd : W) : TE := fun _ H Q => ∀ v, (∀ H', Rep K H' wd v) → Q v H
instance le_gl {wd : W} : LE K B (tGl K wd) (wC wd) := ⟨fun σ H ρ S Q Qw hs hh q po v hv => po v H wd S (Tk.refl H) hh (hv H) q⟩
theorem k_gl (K : PySem.W.Frag) {X : Cx} {x : Str} {wd : W} {pos : Pos} (c : ConstAt K X.mg x wd) (hg : Gl X x) (hd : (x == ("__debug__" : Str)) = false := by decide) : PE X (.Name x pos) (tGl K wd) := by
  obtain ⟨u, v, hm, r, hv⟩ := c.ex
  exact ⟨fun pins s σ H Q I h => (pe_glob (pos := pos) hg hm r hd).run pins s σ H Q I (h v hv)⟩
theorem const_int {mg : Str → Option Value} {x : Str} {i : Int} {t : Tok} (h : mg x = some (.int i t)) : ConstAt K mg x (.int i) := ⟨⟨_, .int i, h, ⟨t, rfl⟩, fun _ => rfl⟩⟩
theorem const_str {mg : Str → Option Value} {x : Str} {i : Str} {t : Tok} (h : mg x = some (.str i t)) : ConstAt K mg x (.str i) := ⟨⟨_, .str i, h, ⟨t, rfl⟩, fun _ => rfl⟩⟩
/-- a value of the written part -/
def Wr (K : PySem.W.Frag) (wd : W) (u : Value) : Prop := ∃ v, RelV v u ∧ ∀ H, Rep K H wd v
theorem wr_int {i : Int} {t : Tok} : Wr K (.int i) (.int i t) := ⟨.int i, ⟨t, rfl⟩, fun _ => rfl⟩
theorem wr_str {i : Str} {t : Tok} : Wr K (.str i) (.str i t) := ⟨.str i, ⟨t, rfl⟩, fun _ => rfl⟩
theorem wr_bl {i : Bool} : Wr K (.bl i) (.bool i) := ⟨.bl i, rfl, fun _ => rfl⟩
theorem wr_non : Wr K .non .none := ⟨.non, rfl, fun _ => rfl⟩
inductive Wrs (K : PySem.W.Frag) : List W → List Value → Prop where
  | nil : Wrs K [] []
  | cons {wd : W} {u : Value} {ws : List W} {us : List Value} : Wr K wd u → Wrs K ws us → Wrs K (wd :: ws) (u :: us)
theorem Wrs.vals : ∀ {ws : List W} {us : List Value}, Wrs K ws us → ∃ vs, Vals vs us ∧ ∀ H, RepL K H ws vs
  | _, _, .nil => ⟨[], .nil, fun _ => rfl⟩
  | _, _, .cons ⟨v, r, hv⟩ t => by
    obtain ⟨vs, h1, h2⟩ := t.vals
    exact ⟨v :: vs, .cons r h1, fun H => .cons (hv H) (h2 H)⟩
theorem wr_tup {r : Addr} {od : Option Addr} {its : List Value} {n : Nat} {sl : Array (Option Value)} {ws : List W} (l : K.lookup r = some ⟨.type "tuple", od, .seq its.toArray n, sl⟩) (hz : its.length ≤ 1000) (h : Wrs K ws its) : Wr K (.tup ws) (.ref r) := by
  obtain ⟨vs, h1, h2⟩ := h.vals
  exact ⟨.ref r, rfl, fun H => ⟨r, vs, rfl, .inr ⟨_, _, _, l, rfl, rfl, by rw [List.size_toArray]; exact Nat.le_trans hz (by decide), by simpa using h1⟩, h2 H⟩⟩
theorem const_wr {mg : Str → Option Value} {x : Str} {u : Value} {wd : W} (h : mg x = some u) (r : Wr K wd u) : ConstAt K mg x wd := by
  obtain ⟨v, r, hv⟩ := r
  exact ⟨⟨_, v, h, r, hv⟩⟩
/-! ### an own error class over ValueError, without __init__ -/
structure ErrAt (K : PySem.W.Frag) (mg : Str → Option Value) (x : Str) (C : Addr) : Prop where
  gC : mg x = some (.ref C)
  xC : PySem.W.excIn K C [.type "ValueError", .type "Exception", .type "BaseException", .type "object"] "ValueError.__new__" = true
  kC : PySem.W.keepIn K (.ref C) = true
  bC : PySem.W.subIn K (.ref C) (.type "BaseException") = some true
  tC : PySem.W.typeIn K (.ref C) = some (.type "type")
/-- raise C() -/
theorem k_raise0 (K : PySem.W.Frag) {X : Cx} {W : WX} {C : Addr} {x : Str} {p pos pos' : Pos} (c : ErrAt K X.mg x C) (hc : X.calm = true) (tk : Takes X W) (hg : Gl X x) (hdb : (x == ("__debug__" : Str)) = false := by decide) (hK : X.K = K := by rfl) :
    PS X (.Raise (some (.Call (.Name x p) [] [] pos)) none pos') (tRaise (tMk0 C) W) := by
  subst hK
  exact ps_raiseW hc tk (pmk_own0 PySem.F.excBase_ValueError c.xC c.gC c.kC (raises_own c.bC c.tC) hg hdb)
theorem ErrAt.names {X : Cx} {mg : Str → Option Value} {x : Str} {C : Addr} (c : ErrAt K mg x C) (hg : Gl X x) (hmg : X.mg = mg := by rfl) (hdb : (x == ("__debug__" : Str)) = false := by decide) : Names X x (.ref C) := by
  subst hmg
  exact ⟨hg, hdb, .inl c.gC⟩
end Wl
set_option Elab.async false
set_option linter.all false
set_option maxRecDepth 100000
set_option maxHeartbeats 2000000
/-! Loops, comprehensions, meeting ways: hidden until asked. -/
namespace Wl
open PySem PySem.Spec PyProof.Rows L2
variable {K : PySem.W.Frag} {B : Hp}
@[irreducible] def ForQ (g : TGW) (tb : TSW) (D : EndsW) (ρ : StW) (ws : List W) (ok : Sto → Prop) (S1 : Sto) : Prop := ∃ P : Nat → StW → Sto → Prop, P 0 ρ S1 ∧ (∀ i ρ' S', P i ρ' S' → ok S') ∧
  (∀ i w ρ' S', ws[i]? = some w → P i ρ' S' → g w ρ' S' fun ρ2 S2 => tb { D with nx := P (i + 1), ct := P (i + 1), bk := D.nx } ρ2 S2) ∧ ∀ ρ' S', P ws.length ρ' S' → D.nx ρ' S'
theorem for_q {g : TGW} {tb : TSW} {D : EndsW} {ρ : StW} {ws : List W} {ok : Sto → Prop} {S1 : Sto} (P : Nat → StW → Sto → Prop) (h0 : P 0 ρ S1) (hok : ∀ i ρ' S', P i ρ' S' → ok S')
    (turn : ∀ i w ρ' S', ws[i]? = some w → P i ρ' S' → g w ρ' S' fun ρ2 S2 => tb { D with nx := P (i + 1), ct := P (i + 1), bk := D.nx } ρ2 S2) (fin : ∀ ρ' S', P ws.length ρ' S' → D.nx ρ' S') : ForQ g tb D ρ ws ok S1 := by
  unfold ForQ
  exact ⟨P, h0, hok, turn, fin⟩
def wForQ (wi : TIW) (g : TGW) (tb : TSW) : TSW := fun D ρ S => wi ρ S fun ws ok S1 => ForQ g tb D ρ ws ok S1
theorem wForQ_eq (wi : TIW) (g : TGW) (tb : TSW) : wForQ wi g tb = wFor wi g tb := by
  funext D ρ S
  unfold wForQ wFor ForQ
  rfl
instance (priority := high) ls_forQ {wi : TI} {g : TG} {tb : TS} {ww : TIW} {gw : TGW} {tw : TSW} [h : LI K B wi ww] [b : LG K B g gw] [a : LS K B tb tw] : LS K B (tFor wi g tb) (wForQ ww gw tw) := by
  rw [wForQ_eq]; infer_instance
@[irreducible] def LcQ (g : TGW) (tt : TTW) (te : TEW) (vs : List Nat) (ρ : StW) (Q : WK) (ws : List W) (ok : Sto → Prop) (S1 : Sto) : Prop := ∀ D, S1 D = none → ∃ P : Nat → List W → Sto → Prop, P 0 [] (put S1 D (.lst [])) ∧
  (∀ i acc S', P i acc S' → ok S') ∧
  (∀ i w acc S', ws[i]? = some w → P i acc S' → g w (wipeW ρ vs) S' fun ρ2 S2 => tt ρ2 S2 fun b S3 =>
    (b = true → te ρ2 S3 fun y S4 => S4 D = some (.lst acc) ∧ acc.length < sizeLine ∧ P (i + 1) (acc ++ [y]) (put S4 D (.lst (acc ++ [y])))) ∧ (b = false → P (i + 1) acc S3)) ∧
  ∀ acc S', P ws.length acc S' → Q (.ref D) S'
def wLcQ (wi : TIW) (g : TGW) (tt : TTW) (te : TEW) (vs : List Nat) : TEW := fun ρ S Q => wi ρ S fun ws ok S1 => LcQ g tt te vs ρ Q ws ok S1
theorem wLcQ_eq (wi : TIW) (g : TGW) (tt : TTW) (te : TEW) (vs : List Nat) : wLcQ wi g tt te vs = wLc wi g tt te vs := by
  funext ρ S Q
  unfold wLcQ wLc LcQ
  rfl
instance (priority := high + 1) le_lcQ {wi : TI} {g : TG} {tt : TT} {te : TE} {vs : List Nat} {ww : TIW} {gw : TGW} {tw : TTW} {ew : TEW} [h : LI K B wi ww] [b : LG K B g gw] [gg : GW g vs] [c : LT K B tt tw] [a : LE K B te ew] : LE K B (tLc wi g tt te vs) (wLcQ ww gw tw ew vs) := by
  rw [wLcQ_eq]; exact le_lc
section
variable {g : TGW} {tt : TTW} {te : TEW} {vs : List Nat} {ρ : StW} {Q : WK} {ws : List W} {ok : Sto → Prop} {S1 : Sto}
/-- any element: what holds behind the i-th -/
theorem lc_q (h : ∀ D, S1 D = none → ∃ P : Nat → List W → Sto → Prop, P 0 [] (put S1 D (.lst [])) ∧ (∀ i acc S', P i acc S' → ok S') ∧
    (∀ i w acc S', ws[i]? = some w → P i acc S' → g w (wipeW ρ vs) S' fun ρ2 S2 => tt ρ2 S2 fun b S3 =>
      (b = true → te ρ2 S3 fun y S4 => S4 D = some (.lst acc) ∧ acc.length < sizeLine ∧ P (i + 1) (acc ++ [y]) (put S4 D (.lst (acc ++ [y])))) ∧ (b = false → P (i + 1) acc S3)) ∧
    ∀ acc S', P ws.length acc S' → Q (.ref D) S') : LcQ g tt te vs ρ Q ws ok S1 := by unfold LcQ; exact h
theorem lc_map {j : Nat} (f : W → W) (hl : ws.length ≤ 100000) (hok : ∀ (D : Addr) (acc : List W), S1 D = none → ok (put S1 D (.lst acc)))
    (he : ∀ (i : Nat) (w : W) (D : Addr) (acc : List W), ws[i]? = some w → S1 D = none → ∀ Q' : WK, Q' (f w) (put S1 D (.lst acc)) → te ((wipeW ρ vs).set j (some w)) (put S1 D (.lst acc)) Q')
    (hd : ∀ (D : Addr), S1 D = none → Q (.ref D) (put S1 D (.lst (ws.map f)))) : LcQ (wName j) wYes te vs ρ Q ws ok S1 := by
  have h := lcMap (wi := fun ρ S R => R ws ok S) (ρ := ρ) (S := S1) f (fun R h => h) hl hok he hd
  unfold wLc at h
  unfold LcQ
  exact h
/-- with a test that changes nothing -/
theorem lc_fil {j : Nat} (p : W → Bool) (f : W → W) (hl : ws.length ≤ 100000) (hok : ∀ (D : Addr) (acc : List W), S1 D = none → ok (put S1 D (.lst acc)))
    (ht : ∀ (i : Nat) (w : W) (D : Addr) (acc : List W), ws[i]? = some w → S1 D = none → EvW tt ((wipeW ρ vs).set j (some w)) (put S1 D (.lst acc)) (p w))
    (he : ∀ (i : Nat) (w : W) (D : Addr) (acc : List W), ws[i]? = some w → p w = true → S1 D = none → ∀ Q' : WK, Q' (f w) (put S1 D (.lst acc)) → te ((wipeW ρ vs).set j (some w)) (put S1 D (.lst acc)) Q')
    (hd : ∀ (D : Addr), S1 D = none → Q (.ref D) (put S1 D (.lst ((ws.filter p).map f)))) : LcQ (wName j) tt te vs ρ Q ws ok S1 := by
  refine lc_q fun D hD => ⟨fun i acc S' => i ≤ ws.length ∧ acc = ((ws.take i).filter p).map f ∧ S' = put S1 D (.lst acc), ⟨Nat.zero_le _, rfl, rfl⟩, ?_, ?_, ?_⟩
  · rintro i acc S' ⟨_, _, rfl⟩
    exact hok D acc hD
  · rintro i w acc S' e ⟨_, ha, rfl⟩
    have hi : i < ws.length := (List.getElem?_eq_some_iff.mp e).1
    have tk : ws.take (i + 1) = ws.take i ++ [w] := by rw [List.take_add_one, e]; rfl
    refine ht i w D acc e hD _ ⟨fun hb => he i w D acc e hb hD _ ⟨put_same, ?_, ?_⟩, fun hb => ⟨hi, ?_, rfl⟩⟩
    · rw [ha, List.length_map]
      refine Nat.lt_of_le_of_lt (Nat.le_trans (List.length_filter_le _ _) (by rw [List.length_take]; exact Nat.min_le_left _ _)) (Nat.lt_of_lt_of_le (show i < 200000 by omega) (by decide))
    · refine ⟨hi, ?_, put_put⟩
      rw [tk, List.filter_append, List.map_append, ha]
      simp [hb]
    · rw [tk, List.filter_append, List.map_append, ha]
      simp [hb]
  · rintro acc S' ⟨_, ha, rfl⟩
    rw [List.take_of_length_le (Nat.le_refl _)] at ha
    rw [ha]
    exact hd D hD
end
@[irreducible] def WhQ (c : TTW) (tb : TSW) : TSW := wWhile c tb
theorem WhQ_eq (c : TTW) (tb : TSW) : WhQ c tb = wWhile c tb := by unfold WhQ; rfl
instance (priority := high) ls_whQ {c : TT} {tb : TS} {cw : TTW} {tw : TSW} [h : LT K B c cw] [a : LS K B tb tw] : LS K B (tWhile c tb) (WhQ cw tw) := by
  rw [WhQ_eq]; infer_instance
theorem wh_q {c : TTW} {tb : TSW} {D : EndsW} {ρ : StW} {S : Sto} (I : Nat → StW → Sto → Prop) (h0 : ∃ m, I m ρ S) (turn : ∀ m ρ S, I m ρ S → c ρ S fun b S1 =>
  (b = true → tb { D with nx := fun ρ' S' => ∃ m', m' < m ∧ I m' ρ' S', ct := fun ρ' S' => ∃ m', m' < m ∧ I m' ρ' S', bk := D.nx } ρ S1) ∧ (b = false → D.nx ρ S1)) : WhQ c tb D ρ S := by
  rw [WhQ_eq]; exact ⟨I, h0, turn⟩
@[irreducible] def MidQ (t u : TSW) : TSW := wMid t u
theorem MidQ_eq (t u : TSW) : MidQ t u = wMid t u := by unfold MidQ; rfl
instance (priority := high) ls_midQ {t u : TS} {tw uw : TSW} [a : LS K B t tw] [b : LS K B u uw] : LS K B (tMid t u) (MidQ tw uw) := by
  rw [MidQ_eq]; infer_instance
theorem mid_q {t u : TSW} {D : EndsW} {ρ : StW} {S : Sto} (M : StW → Sto → Prop) (h1 : t { D with nx := M } ρ S) (h2 : ∀ ρ' S', M ρ' S' → u D ρ' S') : MidQ t u D ρ S := by
  rw [MidQ_eq]; exact ⟨M, h1, h2⟩
end Wl
set_option Elab.async false
set_option linter.all false
set_option maxRecDepth 100000
set_option maxHeartbeats 2000000
/-! What stays; pools; joined texts. -/
namespace Wl
open PySem PySem.Spec PyProof.Rows L2
variable {K : PySem.W.Frag} {B : Hp}
/-! a + b, tuples of any length -/
def rAddB (K : PySem.W.Frag) : R2 := fun x y H Q => rAddA K x y H Q ∨ L2.rCatA K x y H Q
theorem k_addB (K : PySem.W.Frag) {X : Cx} (hK : X.K = K := by rfl) : OpR X (binaryOp .Add) (rAddB K) := by
  subst hK
  intro pins s σ H x y v u Q I rx ry h
  rcases h with h | h
  · exact op_addA pins s σ H x y v u Q I rx ry h
  · exact L2.op_catA pins s σ H x y v u Q I rx ry h
def wAddB : RW2 := fun x y S Q => match x, y with
  | .int i, .int j => Q (.int (i + j)) S
  | .str i, .str j => i.length + j.length ≤ sizeLine ∧ Q (.str (i ++ j)) S
  | .tup a, .tup b => a.length + b.length ≤ sizeLine ∧ Q (.tup (a ++ b)) S
  | .ref a, .ref b => ∃ xs ys, S a = some (.lst xs) ∧ S b = some (.lst ys) ∧ xs.length + ys.length ≤ sizeLine ∧ ∀ p, S p = none → Q (.ref p) (put S p (.lst (xs ++ ys)))
  | _, _ => False
instance l2_addB : L2R K (rAddB K) wAddB := ⟨fun H S x y wx wy Q Qw hh rx ry q po => by
  have old : wAdd wx wy S Qw → rAddB K x y H Q := fun q => .inl (l2_add.l H S x y wx wy Q Qw hh rx ry q po)
  cases wx <;> cases wy <;> first
    | exact q.elim
    | exact old q
    | skip
  obtain ⟨a, as, rfl, h1, r1⟩ := (show ∃ a xs, x = .ref a ∧ _ from rx)
  obtain ⟨b, bs, rfl, h2, r2⟩ := (show ∃ a xs, y = .ref a ∧ _ from ry)
  obtain ⟨hl, q⟩ := q
  refine .inr ⟨a, b, as, bs, rfl, rfl, h1, h2, by rw [r1.length, r2.length]; exact hl, fun z => ?_, fun _ z => ?_, fun _ _ p hp => po.ntup hp hh (r1.append r2) q⟩
  · subst z
    have e := List.length_eq_zero_iff.mp (r1.length.symm.trans (List.length_nil))
    rw [e, List.nil_append] at q
    exact po.tup (Tk.refl H) hh h2 r2 q
  · subst z
    have e := List.length_eq_zero_iff.mp (r2.length.symm.trans (List.length_nil))
    rw [e, List.append_nil] at q
    exact po.tup (Tk.refl H) hh h1 r1 q⟩
/-- just the cells of ps may be others -/
def OffL (ps : List Addr) (S S' : Sto) : Prop := ∀ a, a ∉ ps → S' a = S a
def KpL (ps : List Addr) (S T : Sto) : Prop := ∀ a c, a ∉ ps → S a = some c → T a = some c
theorem OffL.kp {ps : List Addr} {S T : Sto} (h : OffL ps S T) : KpL ps S T := fun a c ha e => by rw [h a ha]; exact e
theorem KpL.refl (ps : List Addr) (S : Sto) : KpL ps S S := fun _ _ _ h => h
theorem KpL.trans {ps : List Addr} {S T U : Sto} (h : KpL ps S T) (g : KpL ps T U) : KpL ps S U := fun a c ha e => g a c ha (h a c ha e)
theorem KpL.mono {ps qs : List Addr} {S T : Sto} (h : KpL ps S T) (hs : ∀ a ∈ ps, a ∈ qs) : KpL qs S T := fun a c ha e => h a c (fun z => ha (hs a z)) e
theorem KpL.new {ps : List Addr} {S T : Sto} {d : Addr} {c : Cell} (h : KpL ps S T) (n : T d = none) : KpL ps S (put T d c) := fun a e ha q => by
  have h1 := h a e ha q
  rw [put_ne (fun z => by rw [z, n] at h1; cases h1)]
  exact h1
theorem KpL.at {ps : List Addr} {S T : Sto} {d : Addr} {c : Cell} (h : KpL ps S T) (hd : d ∈ ps) : KpL ps S (put T d c) := fun a e ha q => by
  rw [put_ne (fun z => ha (by rw [z]; exact hd))]
  exact h a e ha q
/-- the free cells of S may be written -/
theorem KpL.own {ps : List Addr} {S T : Sto} {d : Addr} {c : Cell} (h : KpL ps S T) (n : S d = none) : KpL ps S (put T d c) := fun a e ha q => by
  rw [put_ne (fun z => by rw [z, n] at q; cases q)]
  exact h a e ha q
theorem KpL.off {ps qs : List Addr} {S T U : Sto} (h : KpL ps S T) (g : OffL qs T U) (hs : ∀ a ∈ qs, a ∈ ps ∨ S a = none) : KpL ps S U := fun a c ha e => by
  rw [g a (fun z => by
    rcases hs a z with h1 | h1
    · exact ha h1
    · rw [h1] at e; cases e)]
  exact h a c ha e
theorem KpL.free {ps : List Addr} {S T : Sto} {d : Addr} (h : KpL ps S T) (n : T d = none) (hd : d ∉ ps) : S d = none := by
  cases e : S d with
  | none => rfl
  | some x => rw [h d x hd e] at n; cases n
theorem fg_off {ps : List Addr} {S T : Sto} {Q : WK} {v : W} (h : KpL ps S T) (q : ∀ S', OffL ps S S' → (∀ a ∈ ps, S' a = T a) → Q v S') : FgI Q v T := by
  refine fg_sub (S' := fun a => if a ∈ ps then T a else S a) (fun a c e => ?_) (q _ (fun a ha => if_neg ha) (fun a ha => if_pos ha))
  have e : (if a ∈ ps then T a else S a) = some c := e
  by_cases ha : a ∈ ps
  · rw [if_pos ha] at e; exact e
  · rw [if_neg ha] at e; exact h a c ha e
theorem notin1 {a p : Addr} (h : a ≠ p) : a ∉ [p] := fun z => h (List.mem_singleton.mp z)
theorem notin2 {a p q : Addr} (h : a ≠ p) (g : a ≠ q) : a ∉ [p, q] := fun z => by
  rcases List.mem_cons.mp z with e | e
  · exact h e
  · exact g (List.mem_singleton.mp e)
theorem notin3 {a p q r : Addr} (h : a ≠ p) (g : a ≠ q) (f : a ≠ r) : a ∉ [p, q, r] := fun z => by
  rcases List.mem_cons.mp z with e | e
  · exact h e
  · exact notin2 g f e
/-- a pool of at most N drawn numbers -/
def Pl (S : Sto) (p : Addr) (N : Int) : Prop := ∃ c n b s, S p = some (.lst (poolL c n b s)) ∧ 0 ≤ c ∧ 0 ≤ n ∧ n ≤ N ∧ 0 ≤ s ∧ s < 2147483647
theorem Pl.some {S : Sto} {p : Addr} {N : Int} (h : Pl S p N) : ∃ c, S p = some c := by
  obtain ⟨c, n, b, s, e, _⟩ := h
  exact ⟨_, e⟩
theorem Pl.ne {S : Sto} {p d : Addr} {N : Int} (h : Pl S p N) (n : S d = none) : d ≠ p := by
  obtain ⟨c, e⟩ := h.some
  exact ne_free e n
theorem Pl.eq {S T : Sto} {p : Addr} {N : Int} (h : Pl S p N) (e : T p = S p) : Pl T p N := by
  obtain ⟨c, n, b, s, e1, r⟩ := h
  exact ⟨c, n, b, s, e.trans e1, r⟩
theorem Pl.mono {S : Sto} {p : Addr} {N M : Int} (h : Pl S p N) (l : N ≤ M) : Pl S p M := by
  obtain ⟨c, n, b, s, e1, h1, h2, h3, h4⟩ := h
  exact ⟨c, n, b, s, e1, h1, h2, by omega, h4⟩
def spTk : SpW := fun ws S Q => ∃ (p : Addr) (N many : Int), ws = [.ref p, .int many] ∧ Pl S p N ∧ N < 2 ^ 40 ∧ 0 < many ∧ many < 2 ^ 64 ∧ ∀ r S', 0 ≤ r → r < many → Pl S' p (N + 1) → OffL [p] S S' → Q (.int r) S'
theorem tk_go {p : Addr} {N many : Int} {S : Sto} {Q : WK} (h : Pl S p N) (hN : N < 2 ^ 40) (h0 : 0 < many) (h1 : many < 2 ^ 64) (q : ∀ r S', 0 ≤ r → r < many → Pl S' p (N + 1) → OffL [p] S S' → Q (.int r) S') : Hd spTk [.ref p, .int many] S Q := Hd.mk ⟨p, N, many, rfl, h, hN, h0, h1, q⟩
def spPl : SpW := fun ws S Q => ∃ (ns : List Int) (k : Int), ws = [.rl (ns.map W.int), .int k] ∧ 0 ≤ k ∧ k ≤ 1000 ∧ ns.length ≤ 63 ∧ ∀ p S', S p = none → Pl S' p 0 → OffL [p] S S' → Q (.ref p) S'
theorem pl_go {ns : List Int} {k : Int} {S : Sto} {Q : WK} (h0 : 0 ≤ k) (h1 : k ≤ 1000) (hl : ns.length ≤ 63) (q : ∀ p S', S p = none → Pl S' p 0 → OffL [p] S S' → Q (.ref p) S') : Hd spPl [.rl (ns.map W.int), .int k] S Q := Hd.mk ⟨ns, k, rfl, h0, h1, hl, q⟩
/-! texts -/
def tl (x : Str) : List Nat := x.cps.toList
theorem tl_len (x : Str) : (tl x).length = x.length := by unfold tl Str.length; simp
theorem tl_ext {x y : Str} (h : tl x = tl y) : x = y := by
  cases x; cases y
  unfold tl at h
  simp only at h
  congr 1
  exact Array.ext' h
theorem tl_append (x y : Str) : tl (x ++ y) = tl x ++ tl y := by
  show (x.cps ++ y.cps).toList = _
  simp [tl]
theorem tl_one (c : Nat) : tl ⟨#[c]⟩ = [c] := rfl
theorem tl_join0 : ∀ ys : List Str, tl (Txt.join "" ys) = (ys.map tl).flatten
  | [] => by decide +kernel
  | [x] => by
    have e : Txt.join "" [x] = Str.join "" [x] := StrLaws.glued_eq_join _ _
    rw [e]
    simp [Str.join]
  | x :: y :: r => by
    have e : ∀ zs, Txt.join "" zs = Str.join "" zs := fun zs => StrLaws.glued_eq_join _ _
    have ih := tl_join0 (y :: r)
    rw [e] at ih ⊢
    show tl (x ++ "" ++ Str.join "" (y :: r)) = _
    rw [tl_append, tl_append, ih]
    have z : tl ("" : Str) = [] := by decide +kernel
    rw [z]
    simp
/-- n letters from a to z -/
def Abc (x : Str) : Prop := ∀ c ∈ tl x, 97 ≤ c ∧ c ≤ 122
def NameOk (x : Str) : Prop := 1 ≤ (tl x).length ∧ (tl x).length ≤ 8 ∧ Abc x
theorem cut_tl (z : Str) (lo hi : Option Int) : tl (cutS z lo hi) = cutL (tl z) lo hi := by
  unfold cutS cutL tl
  simp [Str.length]
end Wl
set_option Elab.async false
set_option linter.all false
set_option maxRecDepth 100000
set_option maxHeartbeats 2000000
/-! Ifs over several tests: hidden until asked. -/
namespace Wl
open PySem PySem.Spec PyProof.Rows L2
variable {K : PySem.W.Frag} {B : Hp}
@[irreducible] def IfQ (c : TTW) (t u : TSW) : TSW := wIfS c t u
theorem IfQ_eq (c : TTW) (t u : TSW) : IfQ c t u = wIfS c t u := by unfold IfQ; rfl
instance (priority := high) ls_ifAnd {c1 c2 : TT} {t u : TS} {cw : TTW} {tw uw : TSW} [h : LT K B (tAnd c1 c2) cw] [a : LS K B t tw] [b : LS K B u uw] : LS K B (tIfS (tAnd c1 c2) t u) (IfQ cw tw uw) := by
  rw [IfQ_eq]; infer_instance
instance (priority := high) ls_ifOr {c1 c2 : TT} {t u : TS} {cw : TTW} {tw uw : TSW} [h : LT K B (tOr c1 c2) cw] [a : LS K B t tw] [b : LS K B u uw] : LS K B (tIfS (tOr c1 c2) t u) (IfQ cw tw uw) := by
  rw [IfQ_eq]; infer_instance
theorem if_q {c : TTW} {t u : TSW} {D : EndsW} {ρ : StW} {S : Sto} (h : wIfS c t u D ρ S) : IfQ c t u D ρ S := by rw [IfQ_eq]; exact h
/-- the tests change nothing -/
theorem if_ev {c : TTW} {t u : TSW} {D : EndsW} {ρ : StW} {S : Sto} (b : Bool) (h : EvW c ρ S b) (h1 : b = true → t D ρ S) (h2 : b = false → u D ρ S) : IfQ c t u D ρ S := by
  rw [IfQ_eq]; exact ifEv h h1 h2
theorem isTy_nb : isTy "NoneType" "bool" = some false := by decide +kernel
theorem isTy_ni : isTy "NoneType" "int" = some false := by decide +kernel
theorem isTy_ns : isTy "NoneType" "str" = some false := by decide +kernel
theorem isTy_nt : isTy "NoneType" "tuple" = some false := by decide +kernel
theorem isTy_nl : isTy "NoneType" "list" = some false := by decide +kernel
theorem isTy_bt : isTy "bool" "tuple" = some false := by decide +kernel
theorem isTy_bl : isTy "bool" "list" = some false := by decide +kernel
theorem isTy_td : isTy "tuple" "dict" = some false := by decide +kernel
theorem isTy_dd : isTy "dict" "dict" = some true := by decide +kernel
theorem OffL.trans1 {ps : List Addr} {S T U : Sto} (h : OffL ps S T) (g : OffL ps T U) : OffL ps S U := fun a ha => (g a ha).trans (h a ha)
end Wl
set_option Elab.async false
set_option linter.all false
set_option maxRecDepth 100000
set_option maxHeartbeats 2000000
/-! insert, str of a text, sorted texts. -/
namespace Wl
open PySem PySem.Spec PyProof.Rows L2
variable {K : PySem.W.Frag} {B : Hp}
/-! ### xs.insert(i, y), i not below 0 -/
def rInsA : V → List V → Hp → VK → Prop := fun x vs H Q => ∃ (l : Addr) (xs : List V) (i : Int) (y : V), x = .ref l ∧ vs = [.int i, y] ∧ H l = some (.lst xs) ∧ xs.length < sizeLine ∧ 0 ≤ i ∧ i < 2 ^ 63 ∧
    Q .non (upd H l (.lst (xs.take i.toNat ++ [y] ++ xs.drop i.toNat)))
theorem mt_insertA {X : Cx} : MtR X "list.insert" rInsA := mt_insert
def wInsA : W → List W → Sto → WK → Prop := fun x ws S Q => match x, ws with
  | .ref l, [.int i, y] => ∃ xs, S l = some (.lst xs) ∧ xs.length < sizeLine ∧ 0 ≤ i ∧ i < 2 ^ 63 ∧ Q .non (put S l (.lst (xs.take i.toNat ++ [y] ++ xs.drop i.toNat)))
  | _, _ => False
instance lm_insertA : LMR K rInsA wInsA := ⟨fun H S x wx xs ws Q Qw hh rx r q po => by
  unfold wInsA at q
  split at q
  · rename_i l i wy
    cases (show x = _ from rx)
    obtain ⟨y, ys, rfl, ry, r⟩ := r
    cases (show y = _ from ry)
    obtain ⟨z, rfl, rz⟩ := rep1 r
    obtain ⟨zs, e, hl, h0, h1, q⟩ := q
    obtain ⟨vs, g1, g2⟩ := hh _ _ e
    have t : Tk H (upd H _ (.lst (vs.take i.toNat ++ [z] ++ vs.drop i.toNat))) := Tk.mut g1 (fun _ z => (by cases z)) (fun _ _ z => (by cases z))
    obtain ⟨t, hm⟩ := hh.mut (c' := .lst _) (o := .lst (vs.take i.toNat ++ [z] ++ vs.drop i.toNat)) e ⟨_, upd_same, ((RepL.tk t _ _ (g2.take i.toNat)).append (.one (Rep.tk t _ _ rz))).append (RepL.tk t _ _ (g2.drop i.toNat))⟩
    exact ⟨_, vs, _, z, rfl, rfl, g1, by rw [g2.length]; exact hl, h0, h1, po.non t hm q⟩
  · exact q.elim⟩
/-! ### str(n), str(x) -/
def rStrA : List V → Hp → VK → Prop := fun xs H Q => (∃ i, xs = [.int i] ∧ i.natAbs.log2 < 1920 ∧ Q (.str (toString i)) H) ∨ ∃ a, xs = [.str a] ∧ Q (.str a) H
theorem call_strA {X : Cx} : CallR X (.type "str") rStrA := by
  intro pins s σ H xs us Q I r h
  rcases h with h | h
  · exact call_str_int pins s σ H xs us Q I r h
  · exact SkE.call_str_str pins s σ H xs us Q I r h
def wStrA : RWC := fun ws S Q => match ws with
  | [.int i] => i.natAbs.log2 < 1920 ∧ Q (.str (toString i)) S
  | [.str a] => Q (.str a) S
  | _ => False
instance lc_strA : LCR K rStrA wStrA := ⟨fun H S xs ws Q Qw hh r q po => by
  unfold wStrA at q
  split at q
  · obtain ⟨x, rfl, h1⟩ := rep1 r
    cases (show x = _ from h1)
    exact .inl ⟨_, rfl, q.1, po.str (Tk.refl H) hh q.2⟩
  · obtain ⟨x, rfl, h1⟩ := rep1 r
    cases (show x = _ from h1)
    exact .inr ⟨_, rfl, po.str (Tk.refl H) hh q⟩
  · exact q.elim⟩
/-! ### sorted(xs): ints, texts -/
def rSortA (K : PySem.W.Frag) : List V → Hp → VK → Prop := fun vs H Q => rSorted K vs H Q ∨ rSortedS K vs H Q
theorem k_sortA (K : PySem.W.Frag) {X : Cx} (hK : X.K = K := by rfl) : CallR X (.builtin "sorted") (rSortA K) := by
  intro pins s σ H xs us Q I r h
  subst hK
  rcases h with h | h
  · exact cr_sorted pins s σ H xs us Q I r h
  · exact cr_sortedS pins s σ H xs us Q I r h
def wSortA : RWC := fun vs S Q => match vs with
  | [.ref a] => (∃ ns : List Int, S a = some (.lst (ns.map W.int)) ∧ ns.length < 64 ∧ ∀ (ns' : List Int) p, ns'.Perm ns → ns'.Pairwise (· ≤ ·) → S p = none → Q (.ref p) (put S p (.lst (ns'.map W.int)))) ∨
      ∃ xs : List Str, S a = some (.lst (xs.map W.str)) ∧ xs.length < 64 ∧ ∀ (ys : List Str) p, ys.Perm xs → sortedS ys = true → S p = none → Q (.ref p) (put S p (.lst (ys.map W.str)))
  | _ => False
instance lc_sortA : LCR K (rSortA K) wSortA := ⟨fun H S xs ws Q Qw hh r q po => by
  unfold wSortA at q
  split at q
  · obtain ⟨x, rfl, h1⟩ := rep1 r
    cases (show x = _ from h1)
    rcases q with ⟨ns, e, hl, q⟩ | ⟨ns, e, hl, q⟩
    · obtain ⟨vs, g1, g2⟩ := hh _ _ e
      have g3 := g2.ints
      subst g3
      exact .inl ⟨_, ns, rfl, SqL.of g1, hl, fun ns' p h1 h2 hp => po.nlst hp hh RepL.ofInts fun p hp => q ns' p h1 h2 hp⟩
    · obtain ⟨vs, g1, g2⟩ := hh _ _ e
      have g3 := g2.strs
      subst g3
      exact .inr ⟨_, ns, rfl, SqL.of g1, hl, fun ns' p h1 h2 hp => po.nlst hp hh RepL.ofStrs fun p hp => q ns' p h1 h2 hp⟩
  · exact q.elim⟩
/-! ### a text times an int -/
def rMulS : R2 := fun x y H Q => ∃ a n, x = .str a ∧ y = .int n ∧ MulOk a n ∧ Q (.str (Txt.mul a n)) H
theorem op_mulS {X : Cx} : OpR X (binaryOp .Mult) rMulS := by
  intro pins s σ H x y v u Q I rx ry h
  obtain ⟨a, n, rfl, rfl, ok, q⟩ := h
  obtain ⟨t, rfl⟩ := rx
  obtain ⟨t2, rfl⟩ := ry
  exact SB.mul ok fun t' k => ⟨.str _, H, I.tok _, ⟨_, rfl⟩, q⟩
def wMulS : RW2 := fun x y S Q => match x, y with
  | .str a, .int n => MulOk a n ∧ Q (.str (Txt.mul a n)) S
  | _, _ => False
instance l2_mulS : L2R K rMulS wMulS := ⟨fun H S x y wx wy Q Qw hh rx ry q po => by
  unfold wMulS at q
  split at q
  · cases (show x = _ from rx)
    cases (show y = _ from ry)
    exact ⟨_, _, rfl, rfl, q.1, po.str (Tk.refl H) hh q.2⟩
  · exact q.elim⟩
end Wl
set_option Elab.async false
set_option linter.all false
set_option maxRecDepth 100000
set_option maxHeartbeats 2000000
/-! Truth of lists and tuples, ranges with a step, tuple targets in comprehensions, generators. -/
namespace Wl
open PySem PySem.Spec PyProof.Rows L2
variable {K : PySem.W.Frag} {B : Hp}
/-! ### truth -/
def tTruA (K : PySem.W.Frag) (ta : TE) : TT := fun σ H Q => ta σ H fun x H' => ∃ k, TruV K x H' k ∧ Q k H'
theorem k_truth (K : PySem.W.Frag) {X : Cx} {a : Expr} {ta : TE} (ha : PE X a ta) (he : ∀ whole, isTrue a X.env whole = (do let v ← whole; standAt a.pos; holding [v] (truthy v)) := by intro _; rfl) (hK : X.K = K := by rfl) : PT X a (tTruA K ta) := by
  subst hK; exact pt_truth ha he
def wTruA (t : TEW) : TTW := fun ρ S Q => t ρ S fun x S1 => match x with
  | .non => Q false S1
  | .bl k => Q k S1
  | .int i => Q (i != 0) S1
  | .str z => z.length ≤ sizeLine ∧ Q ((z.length : Int) != 0) S1
  | .tup ws => Q (!ws.isEmpty) S1
  | .rl ws => Q (!ws.isEmpty) S1
  | .ref a => ∃ ws, S1 a = some (.lst ws) ∧ Q (!ws.isEmpty) S1
  | _ => False
theorem RepL.isE {H : Hp} {ws : List W} {xs : List V} (r : RepL K H ws xs) : xs.isEmpty = ws.isEmpty := by
  have h := r.length
  cases xs <;> cases ws <;> first | rfl | (simp at h)
instance lt_truA {t : TE} {tw : TEW} [a : LE K B t tw] : LT K B (tTruA K t) (wTruA tw) := ⟨fun σ H ρ S Q Qw hs hh q po =>
  a.l σ H ρ S _ _ hs hh q fun x H1 wx S1 t1 hh1 r1 q1 => by
    cases wx <;> try exact q1.elim
    · cases (show x = _ from r1)
      exact ⟨_, rfl, po _ H1 S1 t1 hh1 q1⟩
    · cases (show x = _ from r1)
      exact ⟨_, rfl, po _ H1 S1 t1 hh1 q1⟩
    · cases (show x = _ from r1)
      exact ⟨_, rfl, po _ H1 S1 t1 hh1 q1⟩
    · cases (show x = _ from r1)
      exact ⟨_, ⟨q1.1, rfl⟩, po _ H1 S1 t1 hh1 q1.2⟩
    · cases (show x = _ from r1)
      obtain ⟨ws, e, q⟩ := q1
      obtain ⟨xs, h1, h2⟩ := hh1 _ _ e
      exact ⟨_, .inl ⟨xs, SqL.of h1, rfl⟩, po _ H1 S1 t1 hh1 (by rw [h2.isE]; exact q)⟩
    · obtain ⟨a, xs, rfl, h1, h2⟩ := r1
      exact ⟨_, .inr (.inl ⟨xs, h1, rfl⟩), po _ H1 S1 t1 hh1 (by rw [h2.isE]; exact q1)⟩
    · obtain ⟨a, xs, rfl, h1, h2⟩ := r1
      exact ⟨_, .inl ⟨xs, h1.sq, rfl⟩, po _ H1 S1 t1 hh1 (by rw [h2.isE]; exact q1)⟩⟩

/-! ### range(i, j, -1), any step -/
def stepsW (lo c : Int) (n : Nat) : List W := (List.range n).map fun i => W.int (lo + (i : Nat) * c)
theorem stepsW_len {lo c : Int} {n : Nat} : (stepsW lo c n).length = n := by unfold stepsW; simp
theorem stepsW_get {lo c : Int} {n i : Nat} (h : i < n) : (stepsW lo c n)[i]? = some (W.int (lo + (i : Nat) * c)) := by unfold stepsW; simp [h]
theorem stepsW_at {lo c : Int} {n i : Nat} {w : W} (h : (stepsW lo c n)[i]? = some w) : i < n ∧ w = W.int (lo + (i : Nat) * c) := by
  unfold stepsW at h
  rw [List.getElem?_map] at h
  by_cases q : i < n
  · rw [List.getElem?_range q] at h
    exact ⟨q, (Option.some.inj h).symm⟩
  · rw [List.getElem?_eq_none (by simpa using q)] at h
    cases h
theorem src_steps {H1 : Hp} {lo c : Int} {n : Nat} : IsSrc K H1 (Itc lo c n) (stepsW lo c n) anyS where
  go := fun i H S t hh ok hi => by rw [stepsW_len] at hi; exact hi
  yld := fun i H S x H' t hh ok hi y => by
    obtain ⟨e, y⟩ := y
    subst e y
    rw [stepsW_len] at hi
    exact ⟨Tk.refl _, hh, W.int (lo + (i : Nat) * c), stepsW_get hi, (show Rep K _ (W.int (lo + (i : Nat) * c)) _ from rfl)⟩
  stop := fun i H S t hh ok hi => by rw [stepsW_len] at hi; exact hi
def wiR3 (ta : TAW) : TIW := fun ρ S R => ta ρ S fun ws S1 => match ws with
  | [.int i, .int j, .int c] => ∃ n, RgC i j c n ∧ R (stepsW i c n) anyS S1
  | _ => False
theorem rep3 {H : Hp} {w z u : W} {xs : List V} (r : RepL K H [w, z, u] xs) : ∃ x y a, xs = [x, y, a] ∧ Rep K H w x ∧ Rep K H z y ∧ Rep K H u a := by
  obtain ⟨x, r, rfl, h1, h2⟩ := r
  obtain ⟨y, a, rfl, h3, h4⟩ := rep2 h2
  exact ⟨x, y, a, rfl, h1, h3, h4⟩
instance li_r3 {t : TA} {tw : TAW} [a : LA K B t tw] : LI K B (iRng3 t) (wiR3 tw) := ⟨fun σ H ρ S R Rw hs hh q po => a.l σ H ρ S _ _ hs hh q fun xs H1 ws S1 t1 hh1 r1 q1 => by
  split at q1
  · obtain ⟨x, y, z, rfl, h1, h2, h3⟩ := rep3 r1
    cases (show x = _ from h1)
    cases (show y = _ from h2)
    cases (show z = _ from h3)
    obtain ⟨n, hn, q⟩ := q1
    exact ⟨_, _, _, n, rfl, hn, po _ H1 S1 _ _ t1 hh1 src_steps q⟩
  · exact q1.elim⟩

/-! ### tuple targets in comprehensions -/
class GWg (g : TG) (vs : List Nat) : Prop where
  l : ∀ v σ H Q, g v σ H Q → g v σ H fun σ2 H2 => wipe σ2 vs = wipe σ vs ∧ Q σ2 H2
  m : ∀ v σ H (Q R : L2.St → Hp → Prop), (∀ a b, Q a b → R a b) → g v σ H Q → g v σ H R
class GWgs (g : TGs) (vs : List Nat) : Prop where
  l : ∀ v σ H Q, g v σ H Q → g v σ H fun σ2 H2 => wipe σ2 vs = wipe σ vs ∧ Q σ2 H2
  m : ∀ v σ H (Q R : L2.St → Hp → Prop), (∀ a b, Q a b → R a b) → g v σ H Q → g v σ H R
theorem wipe_set' {σ : L2.St} {vs : List Nat} {j : Nat} {x : V} (hj : j ∈ vs) : wipe (σ.set j (some x)) vs = wipe σ vs := by
  apply List.ext_getElem?
  intro i
  rw [wipe_at, wipe_at]
  by_cases hi : i ∈ vs
  · simp [hi]
  · rw [if_neg hi, if_neg hi, List.getElem?_set_ne (show j ≠ i from fun e => hi (by rw [← e]; exact hj))]
theorem wipe_wipe (σ : L2.St) (vs : List Nat) : wipe (wipe σ vs) vs = wipe σ vs := by
  apply List.ext_getElem?
  intro i
  rw [wipe_at, wipe_at]
  by_cases hi : i ∈ vs
  · simp [hi, wipe_length]
  · rw [if_neg hi, if_neg hi]
instance gwg_name {j : Nat} {vs : List Nat} [h : MemN j vs] : GWg (gName j) vs := ⟨fun v σ H Q q => ⟨wipe_set' h.h, q⟩, fun v σ H Q R hm q => hm _ _ q⟩
instance gwgs_nil {vs : List Nat} : GWgs gNil vs := ⟨fun v σ H Q q => ⟨q.1, rfl, q.2⟩, fun v σ H Q R hm q => ⟨q.1, hm _ _ q.2⟩⟩
instance gwgs_cons {t : TG} {u : TGs} {vs : List Nat} [a : GWg t vs] [b : GWgs u vs] : GWgs (gCons t u) vs := ⟨fun v σ H Q ⟨x, r, e, q⟩ => ⟨x, r, e, by
  refine a.m _ _ _ _ _ ?_ (a.l x σ H _ q)
  rintro σ2 H2 ⟨e2, q2⟩
  refine b.m _ _ _ _ _ ?_ (b.l r σ2 H2 Q q2)
  rintro σ3 H3 ⟨e3, q3⟩
  exact ⟨e3.trans e2, q3⟩⟩, fun v σ H Q R hm ⟨x, r, e, q⟩ => ⟨x, r, e, a.m _ _ _ _ _ (fun σ2 H2 q2 => b.m _ _ _ _ _ hm q2) q⟩⟩
instance gwg_tup {n : Nat} {u : TGs} {vs : List Nat} [b : GWgs u vs] : GWg (gTup K n u) vs := ⟨fun v σ H Q ⟨a, xs, h1, h2, h3, q⟩ => ⟨a, xs, h1, h2, h3, b.l xs σ H Q q⟩, fun v σ H Q R hm ⟨a, xs, h1, h2, h3, q⟩ => ⟨a, xs, h1, h2, h3, b.m _ _ _ _ _ hm q⟩⟩
instance gw_tup {n : Nat} {u : TGs} {vs : List Nat} [b : GWgs u vs] : GW (gTup K n u) vs := ⟨fun v σ H Q q => by
  have h := (gwg_tup (K := K) (n := n) (u := u) (vs := vs)).l v (wipe σ vs) H Q q
  refine (gwg_tup (K := K) (n := n) (u := u) (vs := vs)).m _ _ _ _ _ ?_ h
  rintro σ2 H2 ⟨e, q2⟩
  exact ⟨e.trans (wipe_wipe σ vs), q2⟩⟩

/-! ### generators -/
structure GEndsW where
  nx : List W → StW → Sto → Prop
  rt : List W → WK
  bk : List W → StW → Sto → Prop := fun _ _ _ => False
  ct : List W → StW → Sto → Prop := fun _ _ _ => False
abbrev TGnW := GEndsW → List W → StW → Sto → Prop
def PoGS (K : PySem.W.Frag) (B H : Hp) (Q : List V → L2.St → Hp → Prop) (Qw : List W → StW → Sto → Prop) : Prop := ∀ ys ws σ' H' ρ' S', Tk H H' → RepL K H' ws ys → SRep K B H' σ' ρ' → HRep K H' S' → Qw ws ρ' S' → Q ys σ' H'
theorem PoGS.tk {H H1 : Hp} {Q : List V → L2.St → Hp → Prop} {Qw : List W → StW → Sto → Prop} (h : PoGS K B H Q Qw) (t : Tk H H1) : PoGS K B H1 Q Qw := fun ys ws σ' H' ρ' S' t' => h ys ws σ' H' ρ' S' (t.trans t')
def PoGR (K : PySem.W.Frag) (H : Hp) (Q : List V → VK) (Qw : List W → WK) : Prop := ∀ ys ws v H' w S', Tk H H' → RepL K H' ws ys → HRep K H' S' → Rep K H' w v → Qw ws w S' → Q ys v H'
theorem PoGR.tk {H H1 : Hp} {Q : List V → VK} {Qw : List W → WK} (h : PoGR K H Q Qw) (t : Tk H H1) : PoGR K H1 Q Qw := fun ys ws v H' w S' t' => h ys ws v H' w S' (t.trans t')
structure PoG (K : PySem.W.Frag) (B H : Hp) (D : GEnds) (Dw : GEndsW) : Prop where
  nx : PoGS K B H D.nx Dw.nx
  bk : PoGS K B H D.bk Dw.bk
  ct : PoGS K B H D.ct Dw.ct
  rt : PoGR K H D.rt Dw.rt
theorem PoG.tk {H H1 : Hp} {D : GEnds} {Dw : GEndsW} (h : PoG K B H D Dw) (t : Tk H H1) : PoG K B H1 D Dw := ⟨h.nx.tk t, h.bk.tk t, h.ct.tk t, h.rt.tk t⟩
class LGn (K : PySem.W.Frag) (B : Hp) (t : TGn) (tw : outParam TGnW) : Prop where
  l : ∀ ys ws σ H ρ S D Dw, RepL K H ws ys → SRep K B H σ ρ → HRep K H S → tw Dw ws ρ S → PoG K B H D Dw → t D ys σ H
def GEndsW.at (D : GEndsW) (ys : List W) : EndsW := { nx := D.nx ys, rt := D.rt ys, bk := D.bk ys, ct := D.ct ys }
def wPlainG (t : TSW) : TGnW := fun D ys ρ S => t (D.at ys) ρ S
instance lgn_plain {t : TS} {tw : TSW} [a : LS K B t tw] : LGn K B (tPlain t) (wPlainG tw) := ⟨fun ys ws σ H ρ S D Dw hy hs hh q po =>
  a.l σ H ρ S (D.at ys) (Dw.at ws) hs hh q ⟨fun σ' H' ρ' S' t1 hs' hh' q' => po.nx ys ws σ' H' ρ' S' t1 (RepL.tk t1 _ _ hy) hs' hh' q', fun σ' H' ρ' S' t1 hs' hh' q' => po.bk ys ws σ' H' ρ' S' t1 (RepL.tk t1 _ _ hy) hs' hh' q',
    fun σ' H' ρ' S' t1 hs' hh' q' => po.ct ys ws σ' H' ρ' S' t1 (RepL.tk t1 _ _ hy) hs' hh' q', fun v H' w S' t1 hh' r q' => po.rt ys ws v H' w S' t1 (RepL.tk t1 _ _ hy) hh' r q'⟩⟩
def wG0 : TGnW := fun D ys ρ S => D.nx ys ρ S
instance lgn_0 : LGn K B tG0 wG0 := ⟨fun ys ws σ H ρ S D Dw hy hs hh q po => po.nx ys ws σ H ρ S (Tk.refl H) hy hs hh q⟩
def wGThen (t u : TGnW) : TGnW := fun D ys ρ S => t { D with nx := fun ys' ρ' S' => u D ys' ρ' S' } ys ρ S
instance lgn_then {t u : TGn} {tw uw : TGnW} [a : LGn K B t tw] [b : LGn K B u uw] : LGn K B (tGThen t u) (wGThen tw uw) := ⟨fun ys ws σ H ρ S D Dw hy hs hh q po =>
  a.l ys ws σ H ρ S _ _ hy hs hh q ⟨fun ys' ws' σ' H' ρ' S' t1 hy' hs' hh' q' => b.l ys' ws' σ' H' ρ' S' D Dw hy' hs' hh' q' (po.tk t1), po.bk, po.ct, po.rt⟩⟩
def wGYield (te : TEW) : TGnW := fun D ys ρ S => ys.length < sizeLine ∧ te ρ S fun x S1 => D.nx (ys ++ [x]) ρ S1
instance lgn_yield {te : TE} {we : TEW} [a : LE K B te we] : LGn K B (tGYield te) (wGYield we) := ⟨fun ys ws σ H ρ S D Dw hy hs hh q po =>
  ⟨by rw [hy.length]; exact q.1, a.l σ H ρ S _ _ hs hh q.2 fun x H1 wx S1 t1 hh1 r1 q1 => po.nx _ _ σ H1 ρ S1 t1 ((RepL.tk t1 _ _ hy).append (.one r1)) (hs.tk t1) hh1 q1⟩⟩
@[irreducible] def WhG (c : TTW) (tb : TGnW) : TGnW := fun D ys ρ S => ∃ I : Nat → List W → StW → Sto → Prop, (∃ m, I m ys ρ S) ∧ ∀ m ys ρ S, I m ys ρ S → c ρ S fun b S1 =>
  (b = true → tb { D with nx := fun ys' ρ' S' => ∃ m', m' < m ∧ I m' ys' ρ' S', ct := fun ys' ρ' S' => ∃ m', m' < m ∧ I m' ys' ρ' S', bk := D.nx } ys ρ S1) ∧ (b = false → D.nx ys ρ S1)
theorem wh_g {c : TTW} {tb : TGnW} {D : GEndsW} {ys : List W} {ρ : StW} {S : Sto} (I : Nat → List W → StW → Sto → Prop) (h0 : ∃ m, I m ys ρ S) (turn : ∀ m ys ρ S, I m ys ρ S → c ρ S fun b S1 =>
  (b = true → tb { D with nx := fun ys' ρ' S' => ∃ m', m' < m ∧ I m' ys' ρ' S', ct := fun ys' ρ' S' => ∃ m', m' < m ∧ I m' ys' ρ' S', bk := D.nx } ys ρ S1) ∧ (b = false → D.nx ys ρ S1)) : WhG c tb D ys ρ S := by
  unfold WhG; exact ⟨I, h0, turn⟩
instance lgn_while {c : TT} {tb : TGn} {cw : TTW} {tw : TGnW} [h : LT K B c cw] [a : LGn K B tb tw] : LGn K B (tGWhile c tb) (WhG cw tw) := ⟨fun ys ws σ H ρ S D Dw hy hs hh q po => by
  unfold WhG at q
  obtain ⟨I, ⟨m0, i0⟩, st⟩ := q
  refine ⟨fun m ys' σ' H' => ∃ ws' ρ' S', Tk H H' ∧ RepL K H' ws' ys' ∧ SRep K B H' σ' ρ' ∧ HRep K H' S' ∧ I m ws' ρ' S', ⟨m0, ws, ρ, S, Tk.refl H, hy, hs, hh, i0⟩, ?_⟩
  rintro m ys1 σ1 H1 ⟨ws1, ρ1, S1, t1, hy1, hs1, hh1, i1⟩
  refine h.l σ1 H1 ρ1 S1 _ _ hs1 hh1 (st m ws1 ρ1 S1 i1) fun b H2 S2 t2 hh2 q2 => ?_
  cases b with
  | true =>
    rw [if_pos rfl]
    refine ⟨fun ys' σ' H' => ∃ m', m' < m ∧ ∃ ws' ρ' S', Tk H H' ∧ RepL K H' ws' ys' ∧ SRep K B H' σ' ρ' ∧ HRep K H' S' ∧ I m' ws' ρ' S', fun ys' σ' H' z => z, ?_⟩
    refine a.l ys1 ws1 σ1 H2 ρ1 S2 _ _ (RepL.tk t2 _ _ hy1) (hs1.tk t2) hh2 (q2.1 rfl) ⟨?_, ?_, ?_, po.rt.tk (t1.trans t2)⟩
    · rintro ys' ws' σ' H' ρ' S' t3 hy3 hs3 hh3 ⟨m', hm, q⟩
      exact ⟨m', hm, ws', ρ', S', (t1.trans t2).trans t3, hy3, hs3, hh3, q⟩
    · exact po.nx.tk (t1.trans t2)
    · rintro ys' ws' σ' H' ρ' S' t3 hy3 hs3 hh3 ⟨m', hm, q⟩
      exact ⟨m', hm, ws', ρ', S', (t1.trans t2).trans t3, hy3, hs3, hh3, q⟩
  | false =>
    rw [if_neg Bool.false_ne_true]
    exact po.nx ys1 ws1 σ1 H2 ρ1 S2 (t1.trans t2) (RepL.tk t2 _ _ hy1) (hs1.tk t2) hh2 (q2.2 rfl)⟩
/-- a generator def's promise over data: the arguments, the store, what is wanted of all that is handed out -/
abbrev SpGW := List W → Sto → (List W → Sto → Prop) → Prop
def liftG (K : PySem.W.Frag) (sp : SpGW) : SpG := fun vs H cont _ => ∃ ws S cw, RepL K H ws vs ∧ HRep K H S ∧ sp ws S cw ∧ PoA K H cont cw
section
variable {P : Program} {w : World} {mg : Str → Option Value} {base : Heap}
structure CalG (P : Program) (w : World) (K : PySem.W.Frag) (mg : Str → Option Value) (base : Heap) (k : Nat) (x : Str) (sp : SpGW) : Prop where
  ex : ∃ (f : Addr) (fd : FuncData) (ps : List Str), GFn P w K mg base k f fd ps (liftG K sp) ∧ mg x = some (.ref f) ∧ PySem.W.keepIn K (.ref f) = true ∧ Binds K fd ps []
@[irreducible] def HdG (sp : SpGW) : SpGW := sp
theorem HdG_eq (sp : SpGW) : HdG sp = sp := by unfold HdG; rfl
theorem HdG.mk {sp : SpGW} {ws : List W} {S : Sto} {Q : List W → Sto → Prop} (h : sp ws S Q) : HdG sp ws S Q := by rw [HdG_eq]; exact h
theorem CalG.hd {k : Nat} {x : Str} {sp : SpGW} (c : CalG P w K mg base k x sp) : CalG P w K mg base k x (HdG sp) := by rw [HdG_eq]; exact c
theorem never_passes {X : Cx} : Passes (L2.CX X.prog X.w) X E0 := fun pins σ H s e s' I c => by
  obtain ⟨a, B, H', cls, d, rfl, fl, _, _, _, _, _, hW⟩ := c
  exact hW.elim
theorem never_stop : NoStop K E0 := fun _ _ _ h => h.elim
/-- list(f(e, ..)), f a generator def -/
theorem k_listG (K : PySem.W.Frag) {X : Cx} {k j : Nat} {x : Str} {sp : SpGW} {p pos pos' : Pos} {e : Expr} {es : List Expr} {t : TA} {nm : Str} {p2 : Pos} (c : CalG X.prog X.w K X.mg X.base k x sp) (hr : Room j X.A) (hk : k + 3 ≤ j) (hg : Gl X x) (hgl : Gl X nm) (hmg : X.mg nm = none) (hv : bootBuiltins nm = some (.type "list")) (ha : PA X (e :: es) t)
    (hdb : (x == ("__debug__" : Str)) = false := by decide) (he : starEach (e :: es) X.env = (false, eval e X.env) :: starEach es X.env := by rfl) (hpl : (backTo pos' (starEach es X.env)).any (·.1) = false := by rfl)
    (hnm : nm ≠ "__name__" := by decide) (hdb2 : (nm == ("__debug__" : Str)) = false := by decide)
    (he2 : starEach [.Call (.Name x p) (e :: es) [] pos'] X.env = (false, eval (.Call (.Name x p) (e :: es) [] pos') X.env) :: starEach [] X.env := by rfl) (hK : X.K = K := by rfl) :
    PE X (.Call (.Name nm p2) [.Call (.Name x p) (e :: es) [] pos'] [] pos) (tListG (tCallG (liftG K sp) [] E0 t)) := by
  subst hK
  obtain ⟨f, fd, ps, F, hm, kp, b⟩ := c.ex
  exact pe_listG (pgen_call (dvs := []) F (hr.mono (by omega)) hg hm kp b .nil ha hdb he hpl) never_passes never_stop (hr.mono hk) hgl hmg hv hnm hdb2 he2
def wListG (sp : SpGW) (t : TAW) : TEW := fun ρ S Q => t ρ S fun ws S1 => sp ws S1 fun outs S2 => ∀ p, S2 p = none → Q (.ref p) (put S2 p (.lst outs))
instance le_listG {sp : SpGW} {t : TA} {tw : TAW} [a : LA K B t tw] : LE K B (tListG (tCallG (liftG K sp) [] E0 t)) (wListG sp tw) := ⟨fun σ H ρ S Q Qw hs hh q po =>
  a.l σ H ρ S _ _ hs hh q fun xs H1 ws S1 t1 hh1 r1 q1 => ⟨ws, S1, _, by rw [List.append_nil]; exact r1, hh1, q1, fun vs H2 ws2 S2 t2 hh2 r2 q2 p hp => (po.tk (t1.trans t2)).nlst hp hh2 r2 q2⟩⟩
@[irreducible] def FgG (Q : List W → Sto → Prop) : List W → Sto → Prop := fun ws S => ∃ S', Sub S' S ∧ Q ws S'
theorem FgG_eq (Q : List W → Sto → Prop) (ws : List W) (S : Sto) : FgG Q ws S = ∃ S', Sub S' S ∧ Q ws S' := by unfold FgG; rfl
theorem fgg_here {Q : List W → Sto → Prop} {v : List W} {S : Sto} (h : Q v S) : FgG Q v S := by rw [FgG_eq]; exact ⟨S, Sub.refl S, h⟩
theorem fgg_sub {Q : List W → Sto → Prop} {v : List W} {S S' : Sto} (h : Sub S' S) (q : Q v S') : FgG Q v S := by rw [FgG_eq]; exact ⟨S', h, q⟩
theorem fgg_off {ps : List Addr} {S T : Sto} {Q : List W → Sto → Prop} {v : List W} (h : KpL ps S T) (q : ∀ S', OffL ps S S' → (∀ a ∈ ps, S' a = T a) → Q v S') : FgG Q v T := by
  refine fgg_sub (S' := fun a => if a ∈ ps then T a else S a) (fun a c e => ?_) (q _ (fun a ha => if_neg ha) (fun a ha => if_pos ha))
  have e : (if a ∈ ps then T a else S a) = some c := e
  by_cases ha : a ∈ ps
  · rw [if_pos ha] at e; exact e
  · rw [if_neg ha] at e; exact h a c ha e
/-- a generator def by its body -/
theorem calG {x : Str} {st : Stmt} {N ps : List Str} {k : Nat} {sp : SpGW} (d : DefAt K mg x st ps) (SC : GScope N ps (defScope st))
    (len : ∀ ws S Q, sp ws S Q → ws.length = ps.length)
    (hbody : ∀ (f : Addr) (cdv : Value) (A : Around) (outer : List Env) (s : Shared) (H : Hp) (E : XK) (pn : List (Addr × Obj)), Room k (A.deeper (envOfC x (defScope st) s.heap.objs.size f cdv)) →
      ∃ t tw, GSs (gcxOf P w K mg base N x (defScope st) f cdv A outer s H E pn) (defBody st) t ∧ LGn K H t tw ∧ ∀ ws S Q, sp ws S Q → tw { nx := fun ys _ S' => FgG Q ys S', rt := fun ys v S' => v = .non ∧ FgG Q ys S' } [] (startW N ws) S) :
    CalG P w K mg base (k + 1) x sp := by
  obtain ⟨f, fd, F, hm, b⟩ := d.ex
  obtain ⟨oc, od, kV, doc, pm, an, cdv, ct, osl, rfl, lk, hcd⟩ := id F.ex
  refine ⟨f, _, ps, gfn_of lk hcd SC (fun vs H Q E ⟨ws, S, cw, h1, _, h3, _⟩ => by rw [h1.length]; exact len _ _ _ h3) (fun A outer s H vs Q E pn hr hsp => ?_), hm, F.kp, b⟩
  obtain ⟨ws, S, cw, h1, h2, h3, h4⟩ := hsp
  obtain ⟨t, tw, ht, hl, hq⟩ := hbody f cdv A outer s H E pn hr
  have fin : ∀ ys ws' H' S', Tk H H' → RepL K H' ws' ys → HRep K H' S' → FgG cw ws' S' → Q ys H' := fun ys ws' H' S' t1 hy hh q => by
    rw [FgG_eq] at q
    obtain ⟨S2, sub, q⟩ := q
    exact h4 ys H' ws' S2 t1 (hh.sub sub) hy q
  refine ⟨t, ht, hl.l [] [] (start N vs) H (startW N ws) S _ _ RepL.nil (SRep.init h1) h2 (hq ws S cw h3) ⟨?_, ?_, ?_, ?_⟩⟩
  · exact fun ys ws' σ' H' ρ' S' t1 hy hs hh q => fin ys ws' H' S' t1 hy hh q
  · exact fun _ _ _ _ _ _ _ _ _ _ q => q.elim
  · exact fun _ _ _ _ _ _ _ _ _ _ q => q.elim
  · rintro ys ws' v H' w S' t1 hy hh r ⟨rfl, q⟩
    exact ⟨r, fin ys ws' H' S' t1 hy hh q⟩

end
end Wl
set_option Elab.async false
set_option linter.all false
set_option maxRecDepth 100000
set_option maxHeartbeats 2000000
/-! Dicts as data; dicts of the module. -/
namespace Wl
open PySem PySem.Spec PyProof.Rows L2
variable {K : PySem.W.Frag} {B : Hp}
def keyW : Key → W
  | .inl i => .int i
  | .inr x => .str x
def toKey : W → Option Key
  | .int i => some (.inl i)
  | .str x => some (.inr x)
  | _ => none
theorem toKey_rep {H : Hp} {w : W} {v : V} {k : Key} (r : Rep K H w v) (h : toKey w = some k) : v = kV k ∧ w = keyW k := by
  cases w with
  | int i => cases h; exact ⟨r, rfl⟩
  | str i => cases h; exact ⟨r, rfl⟩
  | _ => cases h
section
variable {κ : Type} [DecidableEq κ]
def valW (kvs : List (κ × W)) (k : κ) : Option W := (kvs.find? fun kv => decide (kv.1 = k)).map (·.2)
def putW (kvs : List (κ × W)) (k : κ) (v : W) : List (κ × W) :=
  if (kvs.any fun kv => decide (kv.1 = k)) = true then kvs.map (fun kv => if kv.1 = k then (kv.1, v) else kv) else kvs ++ [(k, v)]
theorem RepKV.length {H : Hp} : ∀ {ps : List (κ × W)} {ys : List (κ × V)}, RepKV K H ps ys → ys.length = ps.length
  | [], _, h => by cases (show _ = [] from h); rfl
  | p :: ps, _, h => by
    obtain ⟨v, r, rfl, _, h2⟩ := h
    rw [List.length_cons, List.length_cons, RepKV.length h2]
theorem RepKV.val {H : Hp} (k : κ) : ∀ {ps : List (κ × W)} {ys : List (κ × V)}, RepKV K H ps ys → match valW ps k, valV ys k with
    | some w, some v => Rep K H w v
    | none, none => True
    | _, _ => False
  | [], _, h => by cases (show _ = [] from h); exact True.intro
  | p :: ps, _, h => by
    obtain ⟨v, r, rfl, h1, h2⟩ := h
    by_cases e : p.1 = k
    · have a : valW (p :: ps) k = some p.2 := by simp [valW, List.find?_cons, e]
      have b : valV ((p.1, v) :: r) k = some v := valV_pos e
      rw [a, b]
      exact h1
    · have a : valW (p :: ps) k = valW ps k := by simp [valW, List.find?_cons, e]
      have b : valV ((p.1, v) :: r) k = valV r k := valV_neg e
      rw [a, b]
      exact RepKV.val k h2
theorem RepKV.of_some {H : Hp} {k : κ} {ps : List (κ × W)} {ys : List (κ × V)} {w : W} (r : RepKV K H ps ys) (h : valW ps k = some w) : ∃ v, valV ys k = some v ∧ Rep K H w v := by
  have q := r.val k
  rw [h] at q
  cases e : valV ys k with
  | none => rw [e] at q; exact q.elim
  | some v => rw [e] at q; exact ⟨v, rfl, q⟩
theorem RepKV.of_none {H : Hp} {k : κ} {ps : List (κ × W)} {ys : List (κ × V)} (r : RepKV K H ps ys) (h : valW ps k = none) : valV ys k = none := by
  have q := r.val k
  rw [h] at q
  cases e : valV ys k with
  | none => rfl
  | some v => rw [e] at q; exact q.elim
theorem RepKV.isSome {H : Hp} {k : κ} {ps : List (κ × W)} {ys : List (κ × V)} (r : RepKV K H ps ys) : (valV ys k).isSome = (valW ps k).isSome := by
  cases e : valW ps k with
  | none => rw [r.of_none e]; rfl
  | some w => obtain ⟨v, e2, _⟩ := r.of_some e; rw [e2]; rfl
theorem RepKV.any {H : Hp} {k : κ} : ∀ {ps : List (κ × W)} {ys : List (κ × V)}, RepKV K H ps ys → (ys.any fun kv => decide (kv.1 = k)) = ps.any fun kv => decide (kv.1 = k)
  | [], _, h => by cases (show _ = [] from h); rfl
  | p :: ps, _, h => by
    obtain ⟨v, r, rfl, h1, h2⟩ := h
    rw [List.any_cons, List.any_cons, RepKV.any h2]
theorem RepKV.append {H : Hp} : ∀ {ps qs : List (κ × W)} {ys zs : List (κ × V)}, RepKV K H ps ys → RepKV K H qs zs → RepKV K H (ps ++ qs) (ys ++ zs)
  | [], _, _, _, h, g => by cases (show _ = [] from h); exact g
  | p :: ps, _, _, _, h, g => by
    obtain ⟨v, r, rfl, h1, h2⟩ := h
    exact ⟨v, _, rfl, h1, RepKV.append h2 g⟩
theorem RepKV.repl {H : Hp} {k : κ} {w : W} {x : V} (q : Rep K H w x) : ∀ {ps : List (κ × W)} {ys : List (κ × V)}, RepKV K H ps ys → RepKV K H (ps.map fun kv => if kv.1 = k then (kv.1, w) else kv) (ys.map fun kv => if kv.1 = k then (kv.1, x) else kv)
  | [], _, h => by cases (show _ = [] from h); rfl
  | p :: ps, _, h => by
    obtain ⟨v, r, rfl, h1, h2⟩ := h
    by_cases e : p.1 = k
    · refine ⟨x, _, ?_, ?_, RepKV.repl q h2⟩
      · simp [e]
      · simp [e]; exact q
    · refine ⟨v, _, ?_, ?_, RepKV.repl q h2⟩
      · simp [e]
      · simp [e]; exact h1
theorem RepKV.put {H : Hp} {k : κ} {w : W} {x : V} {ps : List (κ × W)} {ys : List (κ × V)} (h : RepKV K H ps ys) (q : Rep K H w x) : RepKV K H (putW ps k w) (putK ys k x) := by
  unfold putW putK
  rw [h.any (k := k)]
  split
  · exact h.repl q
  · exact h.append ⟨x, [], rfl, q, rfl⟩
end
/-! ### dicts of the module -/
def lkW (kvs : List (Str × W)) (z : Str) : Option W := valW kvs z
structure DkAt (K : PySem.W.Frag) (w : World) (a : Addr) (kvs : List (Str × W)) : Prop where
  ex : ∃ es n, KDict K w a es n ∧ ∀ z : Str, ∃ r, PySem.W.nsIn K a z = some r ∧ match lkW kvs z, r with
    | some wd, some u => Wr K wd u
    | none, none => True
    | _, _ => False
/-- told by the written table: each key, each value -/
inductive DkEs (K : PySem.W.Frag) : List (Str × W) → List DictEntry → Prop where
  | nil : DkEs K [] []
  | cons {k : Str} {wd : W} {t : Tok} {hh : Int} {u : Value} {kvs : List (Str × W)} {es : List DictEntry} {e : DictEntry} : e.key = .str k t → e.val = u → e.refKey = false → Wr K wd u → DkEs K kvs es → DkEs K ((k, wd) :: kvs) (e :: es)
theorem DkEs.no_ref {kvs : List (Str × W)} {es : List DictEntry} (h : DkEs K kvs es) : es.any (·.refKey) = false := by
  induction h with
  | nil => rfl
  | cons h1 h2 h3 h4 h5 ih => rw [List.any_cons, h3, ih]; rfl
theorem DkEs.look {kvs : List (Str × W)} {es : List DictEntry} (h : DkEs K kvs es) (z : Str) : match lkW kvs z, (es.find? (·.key.isStr z)).map (·.val) with
    | some wd, some u => Wr K wd u
    | none, none => True
    | _, _ => False := by
  induction h with
  | nil => exact True.intro
  | @cons k wd t hh u kvs es e h1 h2 h3 h4 h5 ih =>
    have ek : e.key.isStr z = decide (k = z) := by
      rw [h1]
      show (k == z) = _
      by_cases q : k = z
      · subst q; simp
      · simp [q]
    by_cases q : k = z
    · have a : lkW ((k, wd) :: kvs) z = some wd := by simp [lkW, valW, List.find?_cons, q]
      have b : ((e :: es).find? (·.key.isStr z)).map (·.val) = some u := by
        rw [List.find?_cons, ek, decide_eq_true q]
        show some e.val = _
        rw [h2]
      rw [a, b]
      exact h4
    · have a : lkW ((k, wd) :: kvs) z = lkW kvs z := by simp [lkW, valW, List.find?_cons, q]
      have b : ((e :: es).find? (·.key.isStr z)).map (·.val) = (es.find? (·.key.isStr z)).map (·.val) := by
        rw [List.find?_cons, ek, decide_eq_false q]
      rw [a, b]
      exact ih
theorem dkAt_of {w : World} {a : Addr} {kvs : List (Str × W)} {es : Array DictEntry} {n : Nat} (hl : K.lookup a = some ⟨.type "dict", none, .dict es n, #[]⟩) (hk : PySem.W.KeysLit w.params es.toList) (low : (a == sysModules) = false) (h : DkEs K kvs es.toList) : DkAt K w a kvs := by
  refine ⟨es, n, ⟨hl, hk, low⟩, fun z => ?_⟩
  have q := h.look z
  refine ⟨(es.toList.find? (·.key.isStr z)).map (·.val), ?_, q⟩
  unfold PySem.W.nsIn
  rw [hl]
  dsimp only
  cases e : es.toList.find? (·.key.isStr z) with
  | some x => rfl
  | none => rw [h.no_ref]; rfl
theorem DkAt.of_some {w : World} {a : Addr} {kvs : List (Str × W)} (d : DkAt K w a kvs) {z : Str} {wd : W} (h : lkW kvs z = some wd) : ∃ es n u v, KDict K w a es n ∧ PySem.W.nsIn K a z = some (some u) ∧ RelV v u ∧ ∀ H, Rep K H wd v := by
  obtain ⟨es, n, kd, hz⟩ := d.ex
  obtain ⟨r, e, m⟩ := hz z
  rw [h] at m
  cases r with
  | none => exact m.elim
  | some u => obtain ⟨v, r, hv⟩ := m; exact ⟨es, n, u, v, kd, e, r, hv⟩
theorem DkAt.isSome {w : World} {a : Addr} {kvs : List (Str × W)} (d : DkAt K w a kvs) (z : Str) : ∃ es n r, KDict K w a es n ∧ PySem.W.nsIn K a z = some r ∧ r.isSome = (lkW kvs z).isSome := by
  obtain ⟨es, n, kd, hz⟩ := d.ex
  obtain ⟨r, e, m⟩ := hz z
  refine ⟨es, n, r, kd, e, ?_⟩
  cases hw : lkW kvs z <;> rw [hw] at m <;> cases r <;> first | rfl | exact m.elim
end Wl
set_option Elab.async false
set_option linter.all false
set_option maxRecDepth 100000
set_option maxHeartbeats 2000000
/-! Dicts over data: keys that are ints or texts; dicts of the module. -/
namespace Wl
open PySem PySem.Spec PyProof.Rows L2
variable {K : PySem.W.Frag} {B : Hp}
/-! ### in -/
def ngB (neg b : Bool) : Bool := if neg then !b else b
def rInB (K : PySem.W.Frag) (w : World) (neg : Bool) : R2 := fun x y H Q => rInA K neg x y H Q ∨ (∃ a o, y = .ref a ∧ DGet H a x o ∧ Q (.bl (ngB neg o.isSome)) H) ∨
  (∃ d es n z r, KDict K w d es n ∧ x = .str z ∧ y = .ref d ∧ PySem.W.nsIn K d z = some r ∧ Q (.bl (ngB neg r.isSome)) H)
theorem k_inB (K : PySem.W.Frag) (w : World) {X : Cx} (hu : X.A.units + 1 < cLine) (hK : X.K = K := by rfl) (hw : X.w = w := by rfl) : OpR X (compareOp .In) (rInB K w false) := by
  subst hK hw
  intro pins s σ H x y v u Q I rx ry h
  rcases h with h | ⟨a, o, e, g, q⟩ | ⟨d, es, n, z, r, kd, e1, e2, e3, q⟩
  · exact op_inA pins s σ H x y v u Q I rx ry h
  · subst e
    obtain rfl : u = Value.ref a := ry
    exact d_in hu I g rx fun s3 I3 => ⟨.bl o.isSome, H, I3, rfl, q⟩
  · exact op_in_kd kd pins s σ H x y v u Q I rx ry ⟨z, r, e1, e2, e3, q⟩
theorem k_notInB (K : PySem.W.Frag) (w : World) {X : Cx} (hu : X.A.units + 1 < cLine) (hK : X.K = K := by rfl) (hw : X.w = w := by rfl) : OpR X (compareOp .NotIn) (rInB K w true) := by
  subst hK hw
  intro pins s σ H x y v u Q I rx ry h
  rcases h with h | ⟨a, o, e, g, q⟩ | ⟨d, es, n, z, r, kd, e1, e2, e3, q⟩
  · exact op_notInA pins s σ H x y v u Q I rx ry h
  · subst e
    obtain rfl : u = Value.ref a := ry
    exact d_notIn hu I g rx fun s3 I3 => ⟨.bl (!o.isSome), H, I3, rfl, q⟩
  · exact op_notIn_kd kd pins s σ H x y v u Q I rx ry ⟨z, r, e1, e2, e3, q⟩
def wInB (K : PySem.W.Frag) (w : World) (neg : Bool) : RW2 := fun x y S Q => match x, y with
  | .str i, .str j => Q (.bl (ngB neg (!(Builtin.Str.occurrences j i 0 j.length 1).isEmpty))) S
  | x, .tup ws => flatW x = true ∧ ws.all flatW = true ∧ Q (.bl (ngB neg (isInW x ws))) S
  | x, .rl ws => flatW x = true ∧ ws.all flatW = true ∧ Q (.bl (ngB neg (isInW x ws))) S
  | x, .ref a => (flatW x = true ∧ ∃ ws, S a = some (.lst ws) ∧ ws.all flatW = true ∧ Q (.bl (ngB neg (isInW x ws))) S) ∨
      (∃ kvs k, S a = some (.dk kvs) ∧ toKey x = some k ∧ Q (.bl (ngB neg (valW kvs k).isSome)) S) ∨
      ∃ kvs z, DkAt K w a kvs ∧ x = .str z ∧ Q (.bl (ngB neg (lkW kvs z).isSome)) S
  | _, _ => False
instance l2_inB {w : World} {neg : Bool} : L2R K (rInB K w neg) (wInB K w neg) := ⟨fun H S x y wx wy Q Qw hh rx ry q po => by
  have old : wIn neg wx wy S Qw → rInB K w neg x y H Q := fun q => .inl (l2_in.l H S x y wx wy Q Qw hh rx ry q po)
  have ref : ∀ {a : Addr}, Rep K H (.ref a) y → ((flatW wx = true ∧ ∃ ws, S a = some (.lst ws) ∧ ws.all flatW = true ∧ Qw (.bl (ngB neg (isInW wx ws))) S) ∨
      (∃ kvs k, S a = some (.dk kvs) ∧ toKey wx = some k ∧ Qw (.bl (ngB neg (valW kvs k).isSome)) S) ∨
      ∃ kvs z, DkAt K w a kvs ∧ wx = .str z ∧ Qw (.bl (ngB neg (lkW kvs z).isSome)) S) → (wy = .ref a) → rInB K w neg x y H Q := fun {a} r q9 ey => by
    rcases q9 with q9 | ⟨kvs, k, e, ek, q9⟩ | ⟨kvs, z, d, ex, q9⟩
    · refine old ?_
      obtain ⟨f, ws, e, g, q9⟩ := q9
      have q8 : wInK wx (.ref a) S fun b => Qw (.bl (if neg then !b else b)) S := by
        cases wx <;> exact ⟨f, ws, e, g, q9⟩
      rw [ey]
      exact q8
    · obtain ⟨ys, h1, h2⟩ := hh _ _ e
      obtain ⟨ev, _⟩ := toKey_rep rx ek
      refine .inr (.inl ⟨a, valV ys k, r, by rw [ev]; exact DGet.k h1, ?_⟩)
      rw [h2.isSome]
      exact po.bl (Tk.refl H) hh q9
    · obtain ⟨es, n, rr, kd, e, ei⟩ := d.isSome z
      rw [ex] at rx
      refine .inr (.inr ⟨a, es, n, z, rr, kd, rx, r, e, ?_⟩)
      rw [ei]
      exact po.bl (Tk.refl H) hh q9
  cases wy with
  | ref a =>
    cases wx <;> exact ref ry q rfl
  | tup ws => cases wx <;> exact old q
  | rl ws => cases wx <;> exact old q
  | str z => cases wx <;> first | exact old q | exact q.elim
  | _ => cases wx <;> exact q.elim⟩
/-! ### d[k] -/
def rIxB (K : PySem.W.Frag) (w : World) : R2 := fun x y H Q => rIx K x y H Q ∨ (∃ a v, x = .ref a ∧ DGet H a y (some v) ∧ Q v H) ∨ rIxD K w x y H Q
theorem ix_dget {X : Cx} (hu : X.A.units + 1 < cLine) : IxR X (fun x y H Q => ∃ a v, x = .ref a ∧ DGet H a y (some v) ∧ Q v H) := by
  intro value slice pins s σ H x y v u Q I rx ry h hs
  obtain ⟨a, z, rfl, g, q⟩ := h
  obtain rfl : v = Value.ref a := rx
  exact tail_any (dict_typeIs I g) PySem.F.slot_dict_getitem.lookup (d_getItem hu I g ry fun w' s3 I3 rw' => ⟨z, H, I3, rw', q⟩) hs
theorem k_ixB (K : PySem.W.Frag) (w : World) {X : Cx} (hu : X.A.units + 1 < cLine) (hK : X.K = K := by rfl) (hw : X.w = w := by rfl) : IxR X (rIxB K w) := by
  subst hK hw
  exact ix_seq.or ((ix_dget hu).or ix_kdict)
def wIxB (K : PySem.W.Frag) (w : World) : RW2 := fun x y S Q => match x, y with
  | .tup ws, .int i => rdAt (atI ws i) S Q
  | .rl ws, .int i => rdAt (atI ws i) S Q
  | .ref a, .int i => (∃ ws, S a = some (.lst ws) ∧ rdAt (atI ws i) S Q) ∨ ∃ kvs, S a = some (.dk kvs) ∧ rdAt (valW kvs (.inl i)) S Q
  | .ref a, .str z => (∃ kvs, S a = some (.dk kvs) ∧ rdAt (valW kvs (.inr z)) S Q) ∨ ∃ kvs, DkAt K w a kvs ∧ rdAt (lkW kvs z) S Q
  | .str z, .int i => z.length ≤ sizeLine ∧ ∃ c, atI z.cps.toList i = some c ∧ Q (.str ⟨#[c]⟩) S
  | _, _ => False
instance l2_ixB {w : World} : L2R K (rIxB K w) (wIxB K w) := ⟨fun H S x y wx wy Q Qw hh rx ry q po => by
  have old : wIx wx wy S Qw → rIxB K w x y H Q := fun q => .inl (l2_ix.l H S x y wx wy Q Qw hh rx ry q po)
  have dk : ∀ {a : Addr} {k : Key} {kvs : List (Key × W)}, x = .ref a → y = kV k → S a = some (.dk kvs) → rdAt (valW kvs k) S Qw → rIxB K w x y H Q := fun {a k kvs} ex ey e q => by
    obtain ⟨wd, e2, q⟩ := rdAt_of q
    obtain ⟨ys, h1, h2⟩ := hh _ _ e
    obtain ⟨v, e3, r⟩ := h2.of_some e2
    exact .inr (.inl ⟨a, v, ex, by rw [ey, ← e3]; exact DGet.k h1, po v H wd S (Tk.refl H) hh r q⟩)
  cases wx with
  | tup ws => cases wy <;> first | exact old q | exact q.elim
  | rl ws => cases wy <;> first | exact old q | exact q.elim
  | str z => cases wy <;> first | exact old q | exact q.elim
  | ref a =>
    cases wy with
    | int i =>
      rcases q with ⟨ws, e, q⟩ | ⟨kvs, e, q⟩
      · exact old ⟨ws, e, q⟩
      · exact dk (k := .inl i) rx ry e q
    | str z =>
      rcases q with ⟨kvs, e, q⟩ | ⟨kvs, d, q⟩
      · exact dk (k := .inr z) rx ry e q
      · obtain ⟨wd, e2, q⟩ := rdAt_of q
        obtain ⟨es, n, u, v, kd, e3, r, hv⟩ := d.of_some e2
        exact .inr (.inr ⟨a, z, v, rx, ry, ⟨es, n, u, kd.at_, kd.lit, e3, r⟩, po v H wd S (Tk.refl H) hh (hv H) q⟩)
    | _ => exact q.elim
  | _ => cases wy <;> exact q.elim⟩
/-! ### d[k] = v -/
def rSetB : V → V → V → Hp → (Hp → Prop) → Prop := fun o i v H Q => rSetL o i v H Q ∨ ∃ a H', o = .ref a ∧ DPut H a i v H' ∧ Q H'
theorem set_B {X : Cx} (hu : X.A.units + 1 < cLine) : PSet X rSetB := by
  intro pins s σ H o i v ov iv u Q I ro ri rv h
  rcases h with h | ⟨a, H', e, g, q⟩
  · exact set_list pins s σ H o i v ov iv u Q I ro ri rv h
  · subst e
    obtain rfl : ov = Value.ref a := ro
    exact d_setItem hu I g ri rv fun s4 I4 => ⟨H', I4, q⟩
def wGSubB (to ti : TEW) : TGW := fun w ρ S Q => to ρ S fun o S1 => ti ρ S1 fun i S2 => match o, i with
  | .ref p, .int k => (∃ ws j, S2 p = some (.lst ws) ∧ ixN ws.length k = some j ∧ Q ρ (put S2 p (.lst (ws.set j w)))) ∨ ∃ kvs, S2 p = some (.dk kvs) ∧ kvs.length < sizeLine ∧ Q ρ (put S2 p (.dk (putW kvs (.inl k) w)))
  | .ref p, .str z => ∃ kvs, S2 p = some (.dk kvs) ∧ kvs.length < sizeLine ∧ Q ρ (put S2 p (.dk (putW kvs (.inr z) w)))
  | _, _ => False
instance lg_subB {to ti : TE} {wo wi : TEW} [a : LE K B to wo] [b : LE K B ti wi] : LG K B (gSub to ti rSetB) (wGSubB wo wi) := ⟨fun v w σ H ρ S Q Qw r hs hh q po =>
  a.l σ H ρ S _ _ hs hh q fun o H1 wo S1 t1 hh1 r1 q1 => b.l σ H1 ρ S1 _ _ (hs.tk t1) hh1 q1 fun i H2 wi S2 t2 hh2 r2 q2 => by
    have ro := Rep.tk t2 _ _ r1
    have rv := Rep.tk (t1.trans t2) _ _ r
    have lst : ∀ {p : Addr} {k : Int} {ws : List W} {j : Nat}, o = .ref p → i = .int k → S2 p = some (.lst ws) → ixN ws.length k = some j → Qw ρ (put S2 p (.lst (ws.set j w))) → rSetB o i v H2 fun H3 => Q σ H3 := fun {p k ws j} eo ei e hj q => by
      obtain ⟨xs, h1, h2⟩ := hh2 _ _ e
      have t : Tk H2 (upd H2 p (.lst (xs.set j v))) := Tk.mut h1 (fun _ z => (by cases z)) (fun _ _ z => (by cases z))
      obtain ⟨t, hm⟩ := hh2.mut (c' := .lst (ws.set j w)) (o := .lst (xs.set j v)) e ⟨_, upd_same, RepL.set (Rep.tk t _ _ rv) j (RepL.tk t _ _ h2)⟩
      exact .inl ⟨_, xs, _, j, eo, ei, h1, by rw [h2.length]; exact hj, po _ _ _ _ ((t1.trans t2).trans t) (hs.tk ((t1.trans t2).trans t)) hm q⟩
    have dk : ∀ {p : Addr} {k : Key} {kvs : List (Key × W)}, o = .ref p → i = kV k → S2 p = some (.dk kvs) → kvs.length < sizeLine → Qw ρ (put S2 p (.dk (putW kvs k w))) → rSetB o i v H2 fun H3 => Q σ H3 := fun {p k kvs} eo ei e hl q => by
      obtain ⟨ys, h1, h2⟩ := hh2 _ _ e
      have t : Tk H2 (upd H2 p (.dK (putK ys k v))) := Tk.mut h1 (fun _ z => (by cases z)) (fun _ _ z => (by cases z))
      obtain ⟨t, hm⟩ := hh2.mut (c' := .dk (putW kvs k w)) (o := .dK (putK ys k v)) e ⟨_, upd_same, RepKV.put (RepKV.tk t _ _ h2) (Rep.tk t _ _ rv)⟩
      exact .inr ⟨p, _, eo, by rw [ei]; exact DPut.k h1 (by rw [h2.length]; exact hl), po _ _ _ _ ((t1.trans t2).trans t) (hs.tk ((t1.trans t2).trans t)) hm q⟩
    cases wo <;> cases wi <;> try exact q2.elim
    · rcases q2 with ⟨ws, j, e, hj, q⟩ | ⟨kvs, e, hl, q⟩
      · exact lst ro r2 e hj q
      · exact dk (k := .inl _) ro r2 e hl q
    · obtain ⟨kvs, e, hl, q⟩ := q2
      exact dk (k := .inr _) ro r2 e hl q⟩
/-! ### displays -/
def wDNew : TEW := fun _ S Q => ∀ p, S p = none → Q (.ref p) (put S p (.dk []))
instance le_dnew : LE K B tDNewK wDNew := ⟨fun σ H ρ S Q Qw hs hh q po p hp => po.ref (Tk.new hp) (hh.new (c := .dk []) hp ⟨[], upd_same, rfl⟩) (q p (hh.fresh hp))⟩
abbrev TPW := StW → Sto → (List (W × W) → Sto → Prop) → Prop
class LPs (K : PySem.W.Frag) (B : Hp) (t : List (TE × TE)) (tw : outParam TPW) : Prop where
  l : ∀ σ H ρ S Q Qw, SRep K B H σ ρ → HRep K H S → tw ρ S Qw → (∀ ps H' qs S', Tk H H' → HRep K H' S' → RepL K H' (qs.map (·.1)) (ps.map (·.1)) → RepL K H' (qs.map (·.2)) (ps.map (·.2)) → Qw qs S' → Q ps H') → tPairs t σ H Q
def wPs0 : TPW := fun _ S Q => Q [] S
def wPsC (tk tv : TEW) (r : TPW) : TPW := fun ρ S Q => tk ρ S fun x S1 => tv ρ S1 fun y S2 => r ρ S2 fun ps S3 => Q ((x, y) :: ps) S3
instance lps_nil : LPs K B [] wPs0 := ⟨fun σ H ρ S Q Qw hs hh q po => po [] H [] S (Tk.refl H) hh (show RepL K H [] [] from rfl) (show RepL K H [] [] from rfl) q⟩
instance lps_cons {tk tv : TE} {r : List (TE × TE)} {wk wv : TEW} {wr : TPW} [a : LE K B tk wk] [b : LE K B tv wv] [c : LPs K B r wr] : LPs K B ((tk, tv) :: r) (wPsC wk wv wr) := ⟨fun σ H ρ S Q Qw hs hh q po =>
  a.l σ H ρ S _ _ hs hh q fun x H1 wx S1 t1 hh1 r1 q1 => b.l σ H1 ρ S1 _ _ (hs.tk t1) hh1 q1 fun y H2 wy S2 t2 hh2 r2 q2 => c.l σ H2 ρ S2 _ _ (hs.tk (t1.trans t2)) hh2 q2 fun ps H3 qs S3 t3 hh3 r3 r4 q3 =>
    po ((x, y) :: ps) H3 ((wx, wy) :: qs) S3 ((t1.trans t2).trans t3) hh3 (RepL.cons (Rep.tk (t2.trans t3) _ _ r1) r3) (RepL.cons (Rep.tk t3 _ _ r2) r4) q3⟩
def keysW : List (W × W) → Option (List (Key × W))
  | [] => some []
  | (k, v) :: ps => match toKey k, keysW ps with
    | some k, some r => some ((k, v) :: r)
    | _, _ => none
def mergeW (kvs more : List (Key × W)) : List (Key × W) := more.foldl (fun acc kv => putW acc kv.1 kv.2) kvs
theorem RepKV.merge {H : Hp} : ∀ {ps : List (Key × W)} {ys : List (Key × V)} {qs : List (Key × W)} {zs : List (Key × V)}, RepKV K H qs zs → RepKV K H ps ys → RepKV K H (mergeW ps qs) (mergeK ys zs)
  | _, _, [], _, h, g => by cases (show _ = [] from h); exact g
  | ps, ys, p :: qs, _, h, g => by
    obtain ⟨v, r, rfl, h1, h2⟩ := h
    exact RepKV.merge (ps := putW ps p.1 p.2) (ys := putK ys p.1 v) h2 (g.put h1)
theorem keysW_rep {H : Hp} : ∀ {qs : List (W × W)} {ps : List (V × V)} {kvs : List (Key × W)}, RepL K H (qs.map (·.1)) (ps.map (·.1)) → RepL K H (qs.map (·.2)) (ps.map (·.2)) → keysW qs = some kvs →
    ∃ ys : List (Key × V), ps = ys.map (fun kv => (kV kv.1, kv.2)) ∧ RepKV K H kvs ys
  | [], ps, kvs, r1, r2, e => by
    cases e
    have : ps.map (·.1) = [] := r1
    cases ps with
    | nil => exact ⟨[], rfl, rfl⟩
    | cons p ps => cases this
  | (k, v) :: qs, ps, kvs, r1, r2, e => by
    cases ps with
    | nil => obtain ⟨x, r, e, _⟩ := r1; cases e
    | cons p ps =>
      obtain ⟨x, r, e1, h1, h2⟩ := r1
      obtain ⟨y, r', e2, h3, h4⟩ := r2
      cases e1
      cases e2
      unfold keysW at e
      split at e
      · rename_i k' r' ek er
        cases e
        obtain ⟨ys, rfl, h5⟩ := keysW_rep h2 h4 er
        obtain ⟨ev, _⟩ := toKey_rep h1 ek
        refine ⟨(k', p.2) :: ys, ?_, p.2, ys, rfl, h3, h5⟩
        rw [List.map_cons]
        show p :: _ = (kV k', p.2) :: _
        rw [← ev]
      · cases e
def wDisp (t : TPW) : TEW := fun ρ S Q => ∀ p, S p = none → t ρ (put S p (.dk [])) fun ps S2 => S2 p = some (.dk []) ∧ ∃ kvs, keysW ps = some kvs ∧ kvs.length ≤ 15 ∧ Q (.ref p) (put S2 p (.dk (mergeW [] kvs)))
theorem RepKV.len' {H : Hp} {ps : List (Key × W)} {ys : List (Key × V)} (h : RepKV K H ps ys) : ys.length = ps.length := h.length
instance le_disp {t : List (TE × TE)} {tw : TPW} [a : LPs K B t tw] : LE K B (tDisp t) (wDisp tw) := ⟨fun σ H ρ S Q Qw hs hh q po p hp => by
  have t0 : Tk H (upd H p (.dK [])) := Tk.new hp
  have hh0 : HRep K (upd H p (.dK [])) (put S p (.dk [])) := hh.new hp ⟨[], upd_same, rfl⟩
  refine a.l σ _ ρ _ _ _ (hs.tk t0) hh0 (q p (hh.fresh hp)) fun ps H2 qs S2 t2 hh2 r1 r2 q2 => ?_
  obtain ⟨e, kvs, ek, hl, q3⟩ := q2
  obtain ⟨ys, h1, h2⟩ := hh2 _ _ e
  cases (show ys = [] from h2)
  obtain ⟨zs, rfl, h3⟩ := keysW_rep r1 r2 ek
  have t : Tk H2 (upd H2 p (.dK (mergeK [] zs))) := Tk.mut h1 (fun _ z => (by cases z)) (fun _ _ z => (by cases z))
  obtain ⟨t, hm⟩ := hh2.mut (c' := .dk (mergeW [] kvs)) (o := .dK (mergeK [] zs)) e ⟨_, upd_same, RepKV.merge (RepKV.tk t _ _ h3) (show RepKV K _ [] [] from rfl)⟩
  exact ⟨h1, zs, rfl, by rw [h3.len']; exact hl, po.ref ((t0.trans t2).trans t) hm q3⟩⟩
/-! ### d.get -/
def wGet1 (td ty : TEW) : TEW := fun ρ S Q => td ρ S fun x S1 => match x with
  | .ref a => (∃ kvs, S1 a = some (.dk kvs)) ∧ ty ρ S1 fun y S2 => ∃ kvs k, S2 a = some (.dk kvs) ∧ toKey y = some k ∧ Q ((valW kvs k).getD .non) S2
  | _ => False
def wGet2 (td ty tx : TEW) : TEW := fun ρ S Q => td ρ S fun x S1 => match x with
  | .ref a => (∃ kvs, S1 a = some (.dk kvs)) ∧ ty ρ S1 fun y S2 => tx ρ S2 fun z S3 => ∃ kvs k, S3 a = some (.dk kvs) ∧ toKey y = some k ∧ Q ((valW kvs k).getD z) S3
  | _ => False
theorem getD_rep {H : Hp} {k : Key} {ps : List (Key × W)} {ys : List (Key × V)} {w : W} {v : V} (r : RepKV K H ps ys) (q : Rep K H w v) : Rep K H ((valW ps k).getD w) ((valV ys k).getD v) := by
  cases e : valW ps k with
  | none => rw [r.of_none e]; exact q
  | some w => obtain ⟨v, e2, r⟩ := r.of_some e; rw [e2]; exact r
instance le_get1 {td ty : TE} {wd wy : TEW} [a : LE K B td wd] [b : LE K B ty wy] : LE K B (tDGet1 td ty) (wGet1 wd wy) := ⟨fun σ H ρ S Q Qw hs hh q po =>
  a.l σ H ρ S _ _ hs hh q fun x H1 wx S1 t1 hh1 r1 q1 => by
    cases wx <;> try exact q1.elim
    rename_i a
    obtain ⟨⟨kvs, e⟩, q1⟩ := q1
    obtain ⟨ys, h1, h2⟩ := hh1 _ _ e
    refine ⟨a, r1, .inl ⟨ys, .inl h1⟩, b.l σ H1 ρ S1 _ _ (hs.tk t1) hh1 q1 fun y H2 wy S2 t2 hh2 r2 q2 => ?_⟩
    obtain ⟨kvs, k, e, ek, q⟩ := q2
    obtain ⟨ys, h1, h2⟩ := hh2 _ _ e
    obtain ⟨ev, _⟩ := toKey_rep r2 ek
    exact ⟨valV ys k, by rw [ev]; exact DGet.k h1, po _ H2 _ S2 (t1.trans t2) hh2 (getD_rep h2 (show Rep K H2 .non .non from rfl)) q⟩⟩
instance le_get2 {td ty tx : TE} {wd wy wx : TEW} [a : LE K B td wd] [b : LE K B ty wy] [c : LE K B tx wx] : LE K B (tDGet2 td ty tx) (wGet2 wd wy wx) := ⟨fun σ H ρ S Q Qw hs hh q po =>
  a.l σ H ρ S _ _ hs hh q fun x H1 wx S1 t1 hh1 r1 q1 => by
    cases wx <;> try exact q1.elim
    rename_i a
    obtain ⟨⟨kvs, e⟩, q1⟩ := q1
    obtain ⟨ys, h1, h2⟩ := hh1 _ _ e
    refine ⟨a, r1, .inl ⟨ys, .inl h1⟩, b.l σ H1 ρ S1 _ _ (hs.tk t1) hh1 q1 fun y H2 wy S2 t2 hh2 r2 q2 => c.l σ H2 ρ S2 _ _ (hs.tk (t1.trans t2)) hh2 q2 fun z H3 wz S3 t3 hh3 r3 q3 => ?_⟩
    obtain ⟨kvs, k, e, ek, q⟩ := q3
    obtain ⟨ys, h1, h2⟩ := hh3 _ _ e
    obtain ⟨ev, _⟩ := toKey_rep (Rep.tk t3 _ _ r2) ek
    exact ⟨valV ys k, by rw [ev]; exact DGet.k h1, po _ H3 _ S3 ((t1.trans t2).trans t3) hh3 (getD_rep h2 r3) q⟩⟩
/-! ### list(range(..)), tuple(range(..)) -/
abbrev TRgW := StW → Sto → (Int → Int → Sto → Prop) → Prop
class LRg (K : PySem.W.Frag) (B : Hp) (t : L2.St → Hp → (Int → Int → Hp → Prop) → Prop) (tw : outParam TRgW) : Prop where
  l : ∀ σ H ρ S Q Qw, SRep K B H σ ρ → HRep K H S → tw ρ S Qw → (∀ a b H' S', Tk H H' → HRep K H' S' → Qw a b S' → Q a b H') → t σ H Q
def wRg1 (ta : TEW) : TRgW := fun ρ S Q => ta ρ S fun x S1 => match x with
  | .int n => Q 0 n S1
  | _ => False
def wRg2 (ta tb : TEW) : TRgW := fun ρ S Q => ta ρ S fun x S1 => tb ρ S1 fun y S2 => match x, y with
  | .int n, .int m => Q n m S2
  | _, _ => False
instance lrg_1 {t : TE} {tw : TEW} [a : LE K B t tw] : LRg K B (tRg1 t) (wRg1 tw) := ⟨fun σ H ρ S Q Qw hs hh q po => a.l σ H ρ S _ _ hs hh q fun x H1 wx S1 t1 hh1 r1 q1 => by
  cases wx <;> try exact q1.elim
  cases (show x = _ from r1)
  exact ⟨_, rfl, po _ _ H1 S1 t1 hh1 q1⟩⟩
instance lrg_2 {t u : TE} {tw uw : TEW} [a : LE K B t tw] [b : LE K B u uw] : LRg K B (tRg2 t u) (wRg2 tw uw) := ⟨fun σ H ρ S Q Qw hs hh q po => a.l σ H ρ S _ _ hs hh q fun x H1 wx S1 t1 hh1 r1 q1 =>
  b.l σ H1 ρ S1 _ _ (hs.tk t1) hh1 q1 fun y H2 wy S2 t2 hh2 r2 q2 => by
    cases wx <;> cases wy <;> try exact q2.elim
    cases (show x = _ from r1)
    cases (show y = _ from r2)
    exact ⟨_, _, rfl, rfl, po _ _ H2 S2 (t1.trans t2) hh2 q2⟩⟩
theorem rgV_rep {H : Hp} (a b : Int) : RepL K H (intsW a (b - a).toNat) (rgV a b) := by
  have e1 : intsW a (b - a).toNat = ((List.range (b - a).toNat).map fun i => a + ((i : Nat) : Int)).map W.int := by unfold intsW; rw [List.map_map]; rfl
  have e2 : rgV a b = ((List.range (b - a).toNat).map fun i => a + ((i : Nat) : Int)).map V.int := by unfold rgV; rw [List.map_map]; rfl
  rw [e1, e2]
  exact RepL.ofInts
def wLstRg (t : TRgW) : TEW := fun ρ S Q => t ρ S fun a b S1 => RgOk a b ∧ ∀ p, S1 p = none → Q (.ref p) (put S1 p (.lst (intsW a (b - a).toNat)))
def wTupRg (t : TRgW) : TEW := fun ρ S Q => t ρ S fun a b S1 => RgOk a b ∧ Q (.tup (intsW a (b - a).toNat)) S1
instance le_lstRg {t : L2.St → Hp → (Int → Int → Hp → Prop) → Prop} {tw : TRgW} [a : LRg K B t tw] : LE K B (tLstRg t) (wLstRg tw) := ⟨fun σ H ρ S Q Qw hs hh q po =>
  a.l σ H ρ S _ _ hs hh q fun x y H1 S1 t1 hh1 q1 => ⟨q1.1, fun p hp => (po.tk t1).nlst hp hh1 (rgV_rep x y) q1.2⟩⟩
instance le_tupRg {t : L2.St → Hp → (Int → Int → Hp → Prop) → Prop} {tw : TRgW} [a : LRg K B t tw] : LE K B (tTupRg t) (wTupRg tw) := ⟨fun σ H ρ S Q Qw hs hh q po =>
  a.l σ H ρ S _ _ hs hh q fun x y H1 S1 t1 hh1 q1 => ⟨q1.1, fun p hp => (po.tk t1).ntup hp hh1 (rgV_rep x y) q1.2⟩⟩
end Wl
set_option Elab.async false
set_option linter.all false
set_option maxRecDepth 100000
set_option maxHeartbeats 2000000
/-! Methods of texts; reversed; comprehensions with a tuple target. -/
namespace Wl
open PySem PySem.Spec PyProof.Rows L2
variable {K : PySem.W.Frag} {B : Hp}
def wS0 (C : Str → Prop) (f : Str → W) : W → List W → Sto → WK → Prop := fun x ws S Q => match x, ws with
  | .str a, [] => C a ∧ Q (f a) S
  | _, _ => False
def wS1 (C : Str → Str → Prop) (f : Str → Str → W) : W → List W → Sto → WK → Prop := fun x ws S Q => match x, ws with
  | .str a, [.str b] => C a b ∧ Q (f a b) S
  | _, _ => False
instance lm_s0s {C : Str → Prop} {f : Str → Str} : LMR K (fun x xs H Q => ∃ a, x = .str a ∧ xs = [] ∧ C a ∧ Q (.str (f a)) H) (wS0 C fun a => .str (f a)) := ⟨fun H S x wx xs ws Q Qw hh rx r q po => by
  unfold wS0 at q
  split at q
  · cases (show x = _ from rx)
    cases (show xs = [] from r)
    exact ⟨_, rfl, rfl, q.1, po.str (Tk.refl H) hh q.2⟩
  · exact q.elim⟩
instance lm_s0b {C : Str → Prop} {f : Str → Bool} : LMR K (fun x xs H Q => ∃ a, x = .str a ∧ xs = [] ∧ C a ∧ Q (.bl (f a)) H) (wS0 C fun a => .bl (f a)) := ⟨fun H S x wx xs ws Q Qw hh rx r q po => by
  unfold wS0 at q
  split at q
  · cases (show x = _ from rx)
    cases (show xs = [] from r)
    exact ⟨_, rfl, rfl, q.1, po.bl (Tk.refl H) hh q.2⟩
  · exact q.elim⟩
def wS1p (f : Str → Str → W) : W → List W → Sto → WK → Prop := fun x ws S Q => match x, ws with
  | .str a, [.str b] => Q (f a b) S
  | _, _ => False
instance lm_s1b {f : Str → Str → Bool} : LMR K (fun x xs H Q => ∃ a b, x = .str a ∧ xs = [.str b] ∧ Q (.bl (f a b)) H) (wS1p fun a b => .bl (f a b)) := ⟨fun H S x wx xs ws Q Qw hh rx r q po => by
  unfold wS1p at q
  split at q
  · cases (show x = _ from rx)
    obtain ⟨y, rfl, ry⟩ := rep1 r
    cases (show y = _ from ry)
    exact ⟨_, _, rfl, rfl, po.bl (Tk.refl H) hh q⟩
  · exact q.elim⟩
instance lm_s1i {f : Str → Str → Int} : LMR K (fun x xs H Q => ∃ a b, x = .str a ∧ xs = [.str b] ∧ Q (.int (f a b)) H) (wS1p fun a b => .int (f a b)) := ⟨fun H S x wx xs ws Q Qw hh rx r q po => by
  unfold wS1p at q
  split at q
  · cases (show x = _ from rx)
    obtain ⟨y, rfl, ry⟩ := rep1 r
    cases (show y = _ from ry)
    exact ⟨_, _, rfl, rfl, po.int (Tk.refl H) hh q⟩
  · exact q.elim⟩
instance lm_s1s {C : Str → Str → Prop} {f : Str → Str → Str} : LMR K (fun x xs H Q => ∃ a b, x = .str a ∧ xs = [.str b] ∧ C a b ∧ Q (.str (f a b)) H) (wS1 C fun a b => .str (f a b)) := ⟨fun H S x wx xs ws Q Qw hh rx r q po => by
  unfold wS1 at q
  split at q
  · cases (show x = _ from rx)
    obtain ⟨y, rfl, ry⟩ := rep1 r
    cases (show y = _ from ry)
    exact ⟨_, _, rfl, rfl, q.1, po.str (Tk.refl H) hh q.2⟩
  · exact q.elim⟩
/-- s.split(t) -/
def wSplit : W → List W → Sto → WK → Prop := fun x ws S Q => match x, ws with
  | .str a, [.str b] => (b.length == 0) = false ∧ a.length + 2 ≤ sizeLine ∧ ∀ p, S p = none → Q (.ref p) (put S p (.lst ((Txt.split a b).map W.str)))
  | _, _ => False
def rSplit1 : V → List V → Hp → VK → Prop := fun x xs H Q => ∃ a b, x = .str a ∧ xs = [.str b] ∧ (b.length == 0) = false ∧ a.length + 2 ≤ sizeLine ∧ ∀ p, H p = none → Q (.ref p) (upd H p (.lst ((Txt.split a b).map V.str)))
theorem mt_split1 {X : Cx} : MtR X "str.split" rSplit1 := fun pins s σ H x xs v us Q I rx rs ⟨a, b, h1, h2, h3, h4, h5⟩ => mt_split pins s σ H x xs v us Q I rx rs ⟨a, b, h1, h2, h3, h4, h5⟩
instance lm_split : LMR K rSplit1 wSplit := ⟨fun H S x wx xs ws Q Qw hh rx r q po => by
  unfold wSplit at q
  split at q
  · cases (show x = _ from rx)
    obtain ⟨y, rfl, ry⟩ := rep1 r
    cases (show y = _ from ry)
    exact ⟨_, _, rfl, rfl, q.1, q.2.1, fun p hp => po.nlst hp hh RepL.ofStrs q.2.2⟩
  · exact q.elim⟩
/-- s.partition(t) -/
def partW (a b : Str) : W := .tup [.str (Txt.partition a b).1, .str (Txt.partition a b).2.1, .str (Txt.partition a b).2.2]
def wPartition : W → List W → Sto → WK → Prop := fun x ws S Q => match x, ws with
  | .str a, [.str b] => (b.length == 0) = false ∧ a.length ≤ sizeLine ∧ Q (partW a b) S
  | _, _ => False
def rPart1 : V → List V → Hp → VK → Prop := fun x xs H Q => ∃ a b, x = .str a ∧ xs = [.str b] ∧ (b.length == 0) = false ∧ a.length ≤ sizeLine ∧ ∀ p, H p = none → Q (.ref p) (upd H p (.tup [.str (Txt.partition a b).1, .str (Txt.partition a b).2.1, .str (Txt.partition a b).2.2]))
theorem mt_part1 {X : Cx} : MtR X "str.partition" rPart1 := fun pins s σ H x xs v us Q I rx rs ⟨a, b, h1, h2, h3, h4, h5⟩ => mt_partition pins s σ H x xs v us Q I rx rs ⟨a, b, h1, h2, h3, h4, h5⟩
instance lm_part : LMR K rPart1 wPartition := ⟨fun H S x wx xs ws Q Qw hh rx r q po => by
  unfold wPartition at q
  split at q
  · cases (show x = _ from rx)
    obtain ⟨y, rfl, ry⟩ := rep1 r
    cases (show y = _ from ry)
    exact ⟨_, _, rfl, rfl, q.1, q.2.1, fun p hp => po.ntup (ws := [.str _, .str _, .str _]) hp hh (.cons rfl (.cons rfl (.one rfl))) q.2.2⟩
  · exact q.elim⟩
/-! ### reversed -/
theorem k_rev (K : PySem.W.Frag) {X : Cx} {tg e : Expr} {ta : TA} {p pos : Pos} (hg : Gl X "reversed") (hm : X.mg "reversed" = none) (ha : PA X [e] ta) (hs : starEach [e] X.env = [(false, eval e X.env)] := by rfl) (hK : X.K = K := by rfl) : PI X tg (.Call (.Name "reversed" p) [e] [] pos) (iRev K ta) := by
  subst hK; exact pi_reversed hg hm ha hs
def keepR (a : Addr) (ws : List W) : Sto → Prop := fun S => S a = some (.lst ws)
theorem src_rev {H1 : Hp} {a : Addr} {n : Nat} {ws : List W} (hn : n = ws.length) : IsSrc K H1 (Itv K a n) ws.reverse (keepR a ws) where
  go := fun i H S t hh ok hi => by
    obtain ⟨xs, h1, h2⟩ := hh _ _ ok
    rw [List.length_reverse] at hi
    refine ⟨by omega, xs, xs[n - 1 - i]'(by rw [h2.length]; omega), SqL.of h1, ?_⟩
    exact List.getElem?_eq_getElem (by rw [h2.length]; omega)
  yld := fun i H S x H' t hh ok hi y => by
    obtain ⟨e, y⟩ := y
    subst e
    obtain ⟨xs, h1, h2⟩ := hh _ _ ok
    rw [List.length_reverse] at hi
    obtain ⟨w, e, r⟩ := h2.get' (y xs (SqL.of h1))
    refine ⟨Tk.refl _, hh, w, ?_, r⟩
    rw [List.getElem?_reverse hi, ← hn]
    exact e
  stop := fun i H S t hh ok hi => by rw [List.length_reverse] at hi; show n ≤ i; omega
def wiRev (ta : TAW) : TIW := fun ρ S R => ta ρ S fun ws S1 => match ws with
  | [.ref a] => ∃ ws, S1 a = some (.lst ws) ∧ R ws.reverse (keepR a ws) S1
  | _ => False
instance li_rev {t : TA} {tw : TAW} [a : LA K B t tw] : LI K B (iRev K t) (wiRev tw) := ⟨fun σ H ρ S R Rw hs hh q po => a.l σ H ρ S _ _ hs hh q fun xs H1 ws S1 t1 hh1 r1 q1 => by
  split at q1
  · obtain ⟨x, rfl, h1⟩ := rep1 r1
    cases (show x = _ from h1)
    obtain ⟨ws, e, q⟩ := q1
    obtain ⟨ys, h2, h3⟩ := hh1 _ _ e
    exact ⟨_, ys, rfl, SqL.of h2, po _ H1 S1 _ _ t1 hh1 (src_rev h3.length) q⟩
  · exact q1.elim⟩
/-! ### comprehensions: any target that only stores -/
section
variable {g : TGW} {tt : TTW} {te : TEW} {vs : List Nat} {ρ : StW} {Q : WK} {ws : List W} {ok : Sto → Prop} {S1 : Sto}
theorem lc_filG (r : W → StW) (p : W → Bool) (f : W → W) (hl : ws.length ≤ 100000) (hok : ∀ (D : Addr) (acc : List W), S1 D = none → ok (put S1 D (.lst acc)))
    (hg : ∀ (i : Nat) (w : W) (S : Sto) (R : StW → Sto → Prop), ws[i]? = some w → R (r w) S → g w (wipeW ρ vs) S R)
    (ht : ∀ (i : Nat) (w : W) (D : Addr) (acc : List W), ws[i]? = some w → S1 D = none → EvW tt (r w) (put S1 D (.lst acc)) (p w))
    (he : ∀ (i : Nat) (w : W) (D : Addr) (acc : List W), ws[i]? = some w → p w = true → S1 D = none → ∀ Q' : WK, Q' (f w) (put S1 D (.lst acc)) → te (r w) (put S1 D (.lst acc)) Q')
    (hd : ∀ (D : Addr), S1 D = none → Q (.ref D) (put S1 D (.lst ((ws.filter p).map f)))) : LcQ g tt te vs ρ Q ws ok S1 := by
  refine lc_q fun D hD => ⟨fun i acc S' => i ≤ ws.length ∧ acc = ((ws.take i).filter p).map f ∧ S' = put S1 D (.lst acc), ⟨Nat.zero_le _, rfl, rfl⟩, ?_, ?_, ?_⟩
  · rintro i acc S' ⟨_, _, rfl⟩
    exact hok D acc hD
  · rintro i w acc S' e ⟨_, ha, rfl⟩
    have hi : i < ws.length := (List.getElem?_eq_some_iff.mp e).1
    have tk : ws.take (i + 1) = ws.take i ++ [w] := by rw [List.take_add_one, e]; rfl
    refine hg i w _ _ e ?_
    refine ht i w D acc e hD _ ⟨fun hb => he i w D acc e hb hD _ ⟨put_same, ?_, ?_⟩, fun hb => ⟨hi, ?_, rfl⟩⟩
    · rw [ha, List.length_map]
      refine Nat.lt_of_le_of_lt (Nat.le_trans (List.length_filter_le _ _) (by rw [List.length_take]; exact Nat.min_le_left _ _)) (Nat.lt_of_lt_of_le (show i < 200000 by omega) (by decide))
    · refine ⟨hi, ?_, put_put⟩
      rw [tk, List.filter_append, List.map_append, ha]
      simp [hb]
    · rw [tk, List.filter_append, List.map_append, ha]
      simp [hb]
  · rintro acc S' ⟨_, ha, rfl⟩
    rw [List.take_of_length_le (Nat.le_refl _)] at ha
    rw [ha]
    exact hd D hD
end
theorem isTy_nd : isTy "NoneType" "dict" = some false := by decide +kernel
theorem isTy_ld : isTy "list" "dict" = some false := by decide +kernel
theorem isTy_sd : isTy "str" "dict" = some false := by decide +kernel
theorem isTy_id : isTy "int" "dict" = some false := by decide +kernel
theorem isTy_bd : isTy "bool" "dict" = some false := by decide +kernel
theorem isTy_db : isTy "dict" "bool" = some false := by decide +kernel
theorem isTy_di : isTy "dict" "int" = some false := by decide +kernel
theorem isTy_ds : isTy "dict" "str" = some false := by decide +kernel
theorem isTy_dt : isTy "dict" "tuple" = some false := by decide +kernel
theorem isTy_dl : isTy "dict" "list" = some false := by decide +kernel
theorem put_none {S : Sto} {a b : Addr} {c : Cell} (h : put S a c b = none) : b ≠ a ∧ S b = none := by
  by_cases e : b = a
  · rw [e, put_same] at h; cases h
  · rw [put_ne e] at h; exact ⟨e, h⟩
theorem evYes {ρ : StW} {S : Sto} : EvW wYes ρ S true := fun Q q => q
end Wl
set_option Elab.async false
set_option linter.all false
set_option maxRecDepth 100000
set_option maxHeartbeats 2000000
/-! Own classes over data: made, their fields, their methods, + and the like, isinstance. -/
namespace Wl
open PySem PySem.Spec PyProof.Rows L2
variable {K : PySem.W.Frag} {B : Hp}
/-! ### fields -/
def putFW (f : Str) (v : W) : List (Str × W) → List (Str × W)
  | [] => [(f, v)]
  | (g, x) :: r => if g = f then (g, v) :: r else (g, x) :: putFW f v r
theorem RepKV.putF {H : Hp} {f : Str} {w : W} {x : V} (q : Rep K H w x) : ∀ {ps : List (Str × W)} {ys : List (Str × V)}, RepKV K H ps ys → RepKV K H (putFW f w ps) (L2.putF f x ys)
  | [], _, h => by
    cases (show _ = [] from h)
    exact ⟨x, [], rfl, q, rfl⟩
  | (g, z) :: ps, _, h => by
    obtain ⟨v, r, rfl, h1, h2⟩ := h
    unfold putFW L2.putF
    by_cases e : g = f
    · rw [if_pos e, if_pos e]
      exact ⟨x, r, rfl, q, h2⟩
    · rw [if_neg e, if_neg e]
      exact ⟨v, _, rfl, h1, RepKV.putF q h2⟩
theorem RepKV.look {H : Hp} {f : Str} : ∀ {ps : List (Str × W)} {ys : List (Str × V)} {w : W}, RepKV K H ps ys → ps.lookup f = some w → ∃ v, ys.lookup f = some v ∧ Rep K H w v
  | [], _, _, h, e => by cases e
  | (g, z) :: ps, _, w, h, e => by
    obtain ⟨v, r, rfl, h1, h2⟩ := h
    unfold List.lookup at e ⊢
    cases q : f == g with
    | true => rw [q] at e; cases e; exact ⟨v, rfl, h1⟩
    | false => rw [q] at e; exact RepKV.look h2 e
theorem RepKV.lookN {H : Hp} {f : Str} : ∀ {ps : List (Str × W)} {ys : List (Str × V)}, RepKV K H ps ys → ps.lookup f = none → ys.lookup f = none
  | [], _, h, e => by cases (show _ = [] from h); rfl
  | (g, z) :: ps, _, h, e => by
    obtain ⟨v, r, rfl, h1, h2⟩ := h
    unfold List.lookup at e ⊢
    cases q : f == g with
    | true => rw [q] at e; cases e
    | false => rw [q] at e; exact RepKV.lookN h2 e
structure FldOk (K : PySem.W.Frag) (C : Addr) (f : Str) : Prop where
  cl : Cls K C
  no : NoAttr K C f
theorem k_fld (K : PySem.W.Frag) {X : Cx} {e : Expr} {f : Str} {pos : Pos} {ta : TE} (he : PE X e ta) (hb : attributeBase e f X.env (eval e X.env) = eval e X.env := by rfl) (hK : X.K = K := by rfl) : PE X (.Attribute e f pos) (tFld K ta f) := by
  subst hK; exact pe_fld he hb
def wFld (K : PySem.W.Frag) (t : TEW) (f : Str) : TEW := fun ρ S Q => t ρ S fun x S1 => match x with
  | .ref a => ∃ C fs v, S1 a = some (.ins C fs) ∧ FldOk K C f ∧ fs.lookup f = some v ∧ Q v S1
  | _ => False
instance le_fld {t : TE} {tw : TEW} {f : Str} [a : LE K B t tw] : LE K B (tFld K t f) (wFld K tw f) := ⟨fun σ H ρ S Q Qw hs hh q po => a.l σ H ρ S _ _ hs hh q fun x H1 wx S1 t1 hh1 r1 q1 => by
  cases wx <;> try exact q1.elim
  cases (show x = _ from r1)
  obtain ⟨C, fs, v, e, ok, l, q⟩ := q1
  obtain ⟨dx, gs, h1, h2⟩ := hh1 _ _ e
  obtain ⟨y, l2, r⟩ := h2.look l
  exact ⟨_, C, dx, gs, y, rfl, h1, ok.cl, ok.no, l2, po y H1 v S1 t1 hh1 r q⟩⟩
def wSFld (K : PySem.W.Frag) (to tv : TEW) (f : Str) : TSW := fun D ρ S => tv ρ S fun y S1 => to ρ S1 fun x S2 => match x with
  | .ref a => ∃ C fs, S2 a = some (.ins C fs) ∧ FldOk K C f ∧ fs.length < 1000 ∧ D.nx ρ (put S2 a (.ins C (putFW f y fs)))
  | _ => False
instance ls_sfld {to tv : TE} {wo wv : TEW} {f : Str} [a : LE K B to wo] [b : LE K B tv wv] : LS K B (sFld K to tv f) (wSFld K wo wv f) := ⟨fun σ H ρ S D Dw hs hh q po =>
  b.l σ H ρ S _ _ hs hh q fun y H1 wy S1 t1 hh1 r1 q1 => a.l σ H1 ρ S1 _ _ (hs.tk t1) hh1 q1 fun x H2 wx S2 t2 hh2 r2 q2 => by
    cases wx <;> try exact q2.elim
    cases (show x = _ from r2)
    rename_i a
    obtain ⟨C, fs, e, ok, hl, q⟩ := q2
    obtain ⟨dx, gs, h1, h2⟩ := hh2 _ _ e
    have t : Tk H2 (upd H2 a (.ins C dx (L2.putF f y gs))) := Tk.mut h1 (fun _ z => (by cases z)) (fun _ _ z => (by cases z))
    obtain ⟨t, hm⟩ := hh2.mut (c' := .ins C (putFW f wy fs)) (o := .ins C dx (L2.putF f y gs)) e ⟨dx, _, upd_same, RepKV.putF (Rep.tk t _ _ (Rep.tk t2 _ _ r1)) (RepKV.tk t _ _ h2)⟩
    exact ⟨a, C, dx, gs, rfl, h1, ok.cl, ok.no, by rw [h2.length]; exact hl, po.nx σ _ ρ _ ((t1.trans t2).trans t) (hs.tk ((t1.trans t2).trans t)) hm q⟩⟩
theorem k_sfld (K : PySem.W.Frag) {X : Cx} {o value : Expr} {f : Str} {tpos pos : Pos} {ta tv : TE} (ho : PE X o ta) (hv : PE X value tv) (hsw : swapsWith value (some (.Attribute o f tpos)) pos.line X.env = pure false := by rfl) (hK : X.K = K := by rfl) : PS X (.Assign [.Attribute o f tpos] value pos) (sFld K ta tv f) := by
  subst hK; exact ps_fld ho hv hsw
/-! ### instances made -/
section
variable {P : Program} {w : World} {mg : Str → Option Value} {base : Heap}
structure CalI (P : Program) (w : World) (K : PySem.W.Frag) (mg : Str → Option Value) (base : Heap) (k : Nat) (C : Addr) (sp : SpW) : Prop where
  ex : ∃ (f : Addr) (fd : FuncData) (ps : List Str), FnOk P w K mg base CX0 k f fd ps (liftSp K sp) ∧ Mk K C f ∧ Binds K fd ps []
structure CalM (P : Program) (w : World) (K : PySem.W.Frag) (mg : Str → Option Value) (base : Heap) (k : Nat) (C : Addr) (m : Str) (sp : SpW) : Prop where
  ex : ∃ (f : Addr) (fd : FuncData) (ps : List Str), FnOk P w K mg base CX0 k f fd ps (liftSp K sp) ∧ Meth K C m f ∧ Binds K fd ps []
theorem CalI.hd {k : Nat} {C : Addr} {sp : SpW} (c : CalI P w K mg base k C sp) : CalI P w K mg base k C (Hd sp) := by rw [Hd_eq]; exact c
theorem CalM.hd {k : Nat} {C : Addr} {m : Str} {sp : SpW} (c : CalM P w K mg base k C m sp) : CalM P w K mg base k C m (Hd sp) := by rw [Hd_eq]; exact c
theorem CalI.mono {j k : Nat} {C : Addr} {sp : SpW} (c : CalI P w K mg base j C sp) (h : j ≤ k) : CalI P w K mg base k C sp := by
  obtain ⟨f, fd, ps, F, r⟩ := c.ex
  exact ⟨f, fd, ps, F.mono h, r⟩
theorem CalM.mono {j k : Nat} {C : Addr} {m : Str} {sp : SpW} (c : CalM P w K mg base j C m sp) (h : j ≤ k) : CalM P w K mg base k C m sp := by
  obtain ⟨f, fd, ps, F, r⟩ := c.ex
  exact ⟨f, fd, ps, F.mono h, r⟩
/-- a method of the text at its class -/
structure MethAt (K : PySem.W.Frag) (C : Addr) (x qual : Str) (st : Stmt) (ps : List Str) : Prop where
  ex : ∃ (f : Addr) (fd : FuncData), Fun K x qual st f fd ∧ Meth K C x f ∧ Binds K fd ps []
theorem fnM {x qual : Str} {st : Stmt} {N ps : List Str} {k : Nat} {sp : SpW} {f : Addr} {fd : FuncData} (F : Fun K x qual st f fd) (SC : FnScope N ps (defScope st))
    (len : ∀ ws S Q, sp ws S Q → ws.length = ps.length)
    (hbody : ∀ (f : Addr) (cdv : Value) (A : Around) (outer : List Env) (s : Shared) (H : Hp) (E : XK), Room k (A.deeper (envOfC qual (defScope st) s.heap.objs.size f cdv)) →
      ∃ t tw, PSs (cxOf CX0 P w K mg base N qual (defScope st) f cdv A outer s H E).nox (defBody st) t ∧ LS K H t tw ∧ ∀ ws S Q, sp ws S Q → tw { nx := fun _ S' => FgI Q .non S', rt := FgI Q } (startW N ws) S) :
    FnOk P w K mg base CX0 (k + 1) f fd ps (liftSp K sp) :=
  F.ok SC (fun vs H Q E ⟨ws, S, Qw, h1, _, h3, _⟩ => by rw [h1.length]; exact len _ _ _ h3) (fun cdv A outer s H vs Q E hr ⟨ws, S, Qw, h1, h2, h3, h4⟩ => by
    obtain ⟨t, tw, ht, hl, hq⟩ := hbody f cdv A outer s H E hr
    refine ⟨t, ht, hl.l _ H (startW N ws) S _ _ (SRep.init h1) h2 (hq ws S Qw h3) ⟨?_, fun _ _ _ _ _ _ _ z => z.elim, fun _ _ _ _ _ _ _ z => z.elim, ?_⟩⟩
    · intro σ' H' ρ' S' t1 _ hh q
      have q : FgI Qw .non S' := q
      rw [FgI_eq] at q
      obtain ⟨S2, sub, q⟩ := q
      exact h4.non t1 (hh.sub sub) q
    · intro v H' w S' t1 hh r q
      have q : FgI Qw w S' := q
      rw [FgI_eq] at q
      obtain ⟨S2, sub, q⟩ := q
      exact h4 v H' w S2 t1 (hh.sub sub) r q)
theorem calM {C : Addr} {x qual : Str} {st : Stmt} {N ps : List Str} {k : Nat} {sp : SpW} (d : MethAt K C x qual st ps) (SC : FnScope N ps (defScope st))
    (len : ∀ ws S Q, sp ws S Q → ws.length = ps.length)
    (hbody : ∀ (f : Addr) (cdv : Value) (A : Around) (outer : List Env) (s : Shared) (H : Hp) (E : XK), Room k (A.deeper (envOfC qual (defScope st) s.heap.objs.size f cdv)) →
      ∃ t tw, PSs (cxOf CX0 P w K mg base N qual (defScope st) f cdv A outer s H E).nox (defBody st) t ∧ LS K H t tw ∧ ∀ ws S Q, sp ws S Q → tw { nx := fun _ S' => FgI Q .non S', rt := FgI Q } (startW N ws) S) :
    CalM P w K mg base (k + 1) C x sp := by
  obtain ⟨f, fd, F, hm, b⟩ := d.ex
  exact ⟨f, fd, ps, fnM F SC len hbody, hm, b⟩
structure InitAt (K : PySem.W.Frag) (C : Addr) (qual : Str) (st : Stmt) (ps : List Str) : Prop where
  ex : ∃ (f : Addr) (fd : FuncData), Fun K "__init__" qual st f fd ∧ Mk K C f ∧ Binds K fd ps []
theorem calI {C : Addr} {qual : Str} {st : Stmt} {N ps : List Str} {k : Nat} {sp : SpW} (d : InitAt K C qual st ps) (SC : FnScope N ps (defScope st))
    (len : ∀ ws S Q, sp ws S Q → ws.length = ps.length)
    (hbody : ∀ (f : Addr) (cdv : Value) (A : Around) (outer : List Env) (s : Shared) (H : Hp) (E : XK), Room k (A.deeper (envOfC qual (defScope st) s.heap.objs.size f cdv)) →
      ∃ t tw, PSs (cxOf CX0 P w K mg base N qual (defScope st) f cdv A outer s H E).nox (defBody st) t ∧ LS K H t tw ∧ ∀ ws S Q, sp ws S Q → tw { nx := fun _ S' => FgI Q .non S', rt := FgI Q } (startW N ws) S) :
    CalI P w K mg base (k + 1) C sp := by
  obtain ⟨f, fd, F, hm, b⟩ := d.ex
  exact ⟨f, fd, ps, fnM F SC len hbody, hm, b⟩
theorem k_make (K : PySem.W.Frag) {X : Cx} {C : Addr} {k j : Nat} {x : Str} {sp : SpW} {p pos : Pos} {e : Expr} {es : List Expr} {t : TA} (c : CalI X.prog X.w K X.mg X.base k C sp) (hm : X.mg x = some (.ref C)) (hr : Room j X.A) (hk : k + 1 ≤ j) (hg : Gl X x) (ha : PA X (e :: es) t)
    (hdb : (x == ("__debug__" : Str)) = false := by decide) (he : starEach (e :: es) X.env = (false, eval e X.env) :: starEach es X.env := by rfl) (hpl : (backTo pos (starEach es X.env)).any (·.1) = false := by rfl) (hK : X.K = K := by rfl) :
    PE X (.Call (.Name x p) (e :: es) [] pos) (tMake C (liftSp K sp) [] E0 t) := by
  subst hK
  obtain ⟨f, fd, ps, F, M, b⟩ := c.ex
  exact pe_make M F (hr.mono hk) hg hm b .nil pass0 ha hdb he hpl
def wMake (C : Addr) (sp : SpW) (t : TAW) : TEW := fun ρ S Q => t ρ S fun ws S1 => ∀ x, S1 x = none → sp (.ref x :: ws) (put S1 x (.ins C [])) fun v S2 => v = .non ∧ Q (.ref x) S2
instance le_make {C : Addr} {sp : SpW} {E : XK} {t : TA} {tw : TAW} [a : LA K B t tw] : LE K B (tMake C (liftSp K sp) [] E t) (wMake C sp tw) := ⟨fun σ H ρ S Q Qw hs hh q po =>
  a.l σ H ρ S _ _ hs hh q fun xs H1 ws S1 t1 hh1 r1 q1 => fun x dx hx hdx ne => by
    have tD : Tk H1 (upd H1 dx (.own x)) := Tk.new hdx
    have hx2 : upd H1 dx (.own x) x = none := by rw [upd_ne (Ne.symm ne)]; exact hx
    have tX : Tk (upd H1 dx (.own x)) (upd (upd H1 dx (.own x)) x (.ins C dx [])) := Tk.new hx2
    have hh2 : HRep K (upd H1 dx (.own x)) S1 := hh1.laid hdx
    have hh3 : HRep K (upd (upd H1 dx (.own x)) x (.ins C dx [])) (put S1 x (.ins C [])) := hh2.new hx2 ⟨dx, [], upd_same, rfl⟩
    refine ⟨.ref x :: ws, put S1 x (.ins C []), _, ?_, hh3, q1 x (hh1.fresh hx), ?_⟩
    · rw [List.append_nil]
      exact .cons rfl (RepL.tk (tD.trans tX) _ _ r1)
    · rintro v H4 wv S4 t4 hh4 r4 ⟨e, q4⟩
      subst e
      exact ⟨r4, po.ref (((t1.trans tD).trans tX).trans t4) hh4 q4⟩⟩
/-! ### methods -/
theorem k_meth (K : PySem.W.Frag) {X : Cx} {C : Addr} {k j : Nat} {m : Str} {sp : SpW} {apos pos : Pos} {o e : Expr} {es : List Expr} {ta : TE} {t : TA} {pl : Sem Bool} (cl : Cls K C) (c : CalM X.prog X.w K X.mg X.base k C m sp) (hr : Room j X.A) (hk : k ≤ j) (ho : PE X o ta) (ha : PA X (e :: es) t)
    (hst : starEach (e :: es) X.env = (false, eval e X.env) :: starEach es X.env := by rfl) (hpl : (backTo pos (starEach es X.env)).any (·.1) = false := by rfl)
    (ht : eval (.Call (.Attribute o m apos) (e :: es) [] pos) X.env = (do
      let ov ← eval o X.env
      standAt apos.atName
      let (f, first) ← holding [ov] (getMethod ov m pl)
      callWith pos f first (backTo pos (starEach (e :: es) X.env)) (backToKw pos (keywordEach [] X.env))) := by rfl) (hK : X.K = K := by rfl) :
    PE X (.Call (.Attribute o m apos) (e :: es) [] pos) (tMeth C m (liftSp K sp) [] E0 ta t) := by
  subst hK
  obtain ⟨f, fd, ps, F, M, b⟩ := c.ex
  exact pe_meth (pl := pl) ho cl M F (hr.mono hk) b .nil pass0 ha hst hpl ht
theorem k_meth0 (K : PySem.W.Frag) {X : Cx} {C : Addr} {k j : Nat} {m : Str} {sp : SpW} {apos pos : Pos} {o : Expr} {ta : TE} {pl : Sem Bool} (cl : Cls K C) (c : CalM X.prog X.w K X.mg X.base k C m sp) (hr : Room j X.A) (hk : k ≤ j) (ho : PE X o ta)
    (ht : eval (.Call (.Attribute o m apos) [] [] pos) X.env = (do
      let ov ← eval o X.env
      standAt apos.atName
      let (f, first) ← holding [ov] (getMethod ov m pl)
      callWith pos f first (backTo pos (starEach [] X.env)) (backToKw pos (keywordEach [] X.env))) := by rfl) (hK : X.K = K := by rfl) :
    PE X (.Call (.Attribute o m apos) [] [] pos) (tMeth C m (liftSp K sp) [] E0 ta tNil) := by
  subst hK
  obtain ⟨f, fd, ps, F, M, b⟩ := c.ex
  exact pe_meth0 (pl := pl) ho cl M F (hr.mono hk) b .nil pass0 ht
def wMeth (C : Addr) (m : Str) (sp : SpW) (to : TEW) (t : TAW) : TEW := fun ρ S Q => to ρ S fun x S1 => match x with
  | .ref a => (∃ fs, S1 a = some (.ins C fs) ∧ fs.lookup m = none) ∧ t ρ S1 fun ws S2 => sp (.ref a :: ws) S2 Q
  | _ => False
instance le_meth {C : Addr} {m : Str} {sp : SpW} {E : XK} {to : TE} {t : TA} {wo : TEW} {tw : TAW} [a : LE K B to wo] [b : LA K B t tw] : LE K B (tMeth C m (liftSp K sp) [] E to t) (wMeth C m sp wo tw) := ⟨fun σ H ρ S Q Qw hs hh q po =>
  a.l σ H ρ S _ _ hs hh q fun x H1 wx S1 t1 hh1 r1 q1 => by
    cases wx <;> try exact q1.elim
    cases (show x = _ from r1)
    rename_i a
    obtain ⟨⟨fs, e, l⟩, q1⟩ := q1
    obtain ⟨dx, gs, h1, h2⟩ := hh1 _ _ e
    exact ⟨a, dx, gs, rfl, h1, h2.lookN l, b.l σ H1 ρ S1 _ _ (hs.tk t1) hh1 q1 fun vs H2 ws S2 t2 hh2 r2 q2 => ⟨.ref a :: ws, S2, Qw, by rw [List.append_nil]; exact .cons rfl r2, hh2, q2, po.tk (t1.trans t2)⟩⟩⟩
/-! ### a + b and the like, by the class's own def -/
structure OwnOp (K : PySem.W.Frag) (C : Addr) : Prop where
  sf : PySem.W.selfFirst K C = true
def rOwnB (C : Addr) (sp : Sp) : R2 := fun x y H Q => ∃ a dx fs b dy gs, x = .ref a ∧ y = .ref b ∧ H a = some (.ins C dx fs) ∧ H b = some (.ins C dy gs) ∧ sp [x, y] H Q E0
theorem op_ownB {X : Cx} {C f : Addr} {fd : FuncData} {ps : List Str} {sp : Sp} {op : Operator} {k : Nat} (F : FnOk X.prog X.w X.K X.mg X.base CX0 k f fd ps sp) (hs : PySem.W.findIn X.K (.ref C) (PySem.dunder op.info.2) = some (some (.ref f))) (hf : PySem.W.isFn X.K (.ref f) = true) (hc : PySem.W.selfFirst X.K C = true)
    (hr : Room k X.A) (hb : Binds X.K fd ps []) : OpR X (binaryOp op) (rOwnB C sp) := by
  intro pins s σ H x y v u Q I rx ry h
  obtain ⟨a, dx, fs, b, dy, gs, rfl, rfl, ha, hb', q⟩ := h
  cases (show v = Value.ref a from rx)
  cases (show u = Value.ref b from ry)
  obtain ⟨mA, J, _⟩ := ins_get I.hok ha
  obtain ⟨mB, J', _⟩ := ins_get I.hok hb'
  obtain ⟨od, J, _⟩ := J.look
  obtain ⟨od', J', _⟩ := J'.look
  obtain ⟨m, hF⟩ := I.fr
  refine PySem.W.binop_K hF I.ok.mod.kin J J'.type hc hs hf ?_
  refine wpAny_mono (run_fn (us := [.ref a, .ref b]) (vs := [.ref a, .ref b]) F hr hb .nil pass0 I (.cons rfl (.cons rfl .nil)) q) (fun w s' z => ?_) fun _ _ x => x
  obtain ⟨z', H', I', rz, qz⟩ := z
  exact SlX.cmpback rz ⟨z', H', I', rz, qz⟩
def rAddO (K : PySem.W.Frag) (C : Addr) (sp : SpW) : R2 := fun x y H Q => rAddB K x y H Q ∨ rOwnB C (liftSp K sp) x y H Q
theorem k_addO (K : PySem.W.Frag) {X : Cx} {C : Addr} {k j : Nat} {sp : SpW} (ow : OwnOp K C) (c : CalM X.prog X.w K X.mg X.base k C "__add__" sp) (hr : Room j X.A) (hk : k ≤ j) (hK : X.K = K := by rfl) : OpR X (binaryOp .Add) (rAddO K C sp) := by
  subst hK
  obtain ⟨f, fd, ps, F, M, b⟩ := c.ex
  exact (k_addB X.K).or (op_ownB F M.at_ M.fn ow.sf (hr.mono hk) b)
def wAddO (C : Addr) (sp : SpW) : RW2 := fun x y S Q => match x, y with
  | .ref a, .ref b => wAddB (.ref a) (.ref b) S Q ∨ ((∃ fs, S a = some (.ins C fs)) ∧ (∃ gs, S b = some (.ins C gs)) ∧ sp [.ref a, .ref b] S Q)
  | x, y => wAddB x y S Q
theorem ownB_rep {H : Hp} {S : Sto} {C : Addr} {sp : SpW} {x y : V} {a b : Addr} {Q : VK} {Qw : WK} (hh : HRep K H S) (rx : Rep K H (.ref a) x) (ry : Rep K H (.ref b) y) (q : (∃ fs, S a = some (.ins C fs)) ∧ (∃ gs, S b = some (.ins C gs)) ∧ sp [.ref a, .ref b] S Qw) (po : PoE K H Q Qw) : rOwnB C (liftSp K sp) x y H Q := by
  obtain ⟨⟨fs, e1⟩, ⟨gs, e2⟩, q⟩ := q
  obtain ⟨dx, xs, h1, _⟩ := hh _ _ e1
  obtain ⟨dy, ys, h2, _⟩ := hh _ _ e2
  exact ⟨a, dx, xs, b, dy, ys, rx, ry, h1, h2, [.ref a, .ref b], S, Qw, .cons rx (.one ry), hh, q, po⟩
instance l2_addO {C : Addr} {sp : SpW} : L2R K (rAddO K C sp) (wAddO C sp) := ⟨fun H S x y wx wy Q Qw hh rx ry q po => by
  have old : wAddB wx wy S Qw → rAddO K C sp x y H Q := fun q => .inl (l2_addB.l H S x y wx wy Q Qw hh rx ry q po)
  cases wx with
  | ref a =>
    cases wy with
    | ref b =>
      rcases q with q | q
      · exact old q
      · exact .inr (ownB_rep hh rx ry q po)
    | _ => exact old q
  | _ => cases wy <;> exact old q⟩
/-! ### isinstance, own classes too -/
structure IsiO (K : PySem.W.Frag) (C : Addr) : Prop where
  cl : Cls K C
  ha : PySem.W.findIn K (.ref C) "__class__" = some (some (.builtin "object.__class__"))
  hn : PySem.W.specialIn K (.builtin "object.__class__") "__get__" = some (some (.builtin "getset_descriptor.__get__"))
  ht : PySem.W.takesIn K (.builtin "object.__class__") = some true
  hm : PySem.W.mroIn K C (.type "object") = some true
def rIsiO (K : PySem.W.Frag) : List V → Hp → VK → Prop := rIsi K
theorem k_isiO (K : PySem.W.Frag) {X : Cx} (hK : X.K = K := by rfl) : CallR X (.builtin "isinstance") (rIsiO K) := by subst hK; exact call_isi
def wIsiO (K : PySem.W.Frag) : RWC := fun ws S Q => match ws with
  | [x, .ty n] => ∃ t b, tyName x S = some t ∧ isTy t n = some b ∧ Q (.bl b) S
  | [.ref a, .ref C] => ∃ D fs b, S a = some (.ins D fs) ∧ IsiO K D ∧ PySem.W.kitOne K (.ref D) (.ref C) = some b ∧ Q (.bl b) S
  | _ => False
instance lc_isiO : LCR K (rIsiO K) (wIsiO K) := ⟨fun H S xs ws Q Qw hh r q po => by
  unfold wIsiO at q
  split at q
  · exact lc_isi.l H S xs _ Q Qw hh r q po
  · obtain ⟨x, y, rfl, h1, h2⟩ := rep2 r
    cases (show x = _ from h1)
    cases (show y = _ from h2)
    obtain ⟨D, fs, b, e, io, k, q⟩ := q
    obtain ⟨dx, gs, h1, _⟩ := hh _ _ e
    exact ⟨_, _, _, _, b, rfl, .own _, .base (.ins h1 io.cl io.ha io.hn io.ht io.hm), k, po.bl (Tk.refl H) hh q⟩
  · exact q.elim⟩
end
end Wl
set_option Elab.async false
set_option linter.all false
set_option maxRecDepth 100000
set_option maxHeartbeats 2000000
/-! sum of lists and tuples. -/
namespace Wl
open PySem PySem.Spec PyProof.Rows L2
variable {K : PySem.W.Frag} {B : Hp}
def rSumT (K : PySem.W.Frag) : List V → Hp → VK → Prop := fun vs H Q => ∃ (a : Addr) (ns : List Int), vs = [V.ref a] ∧ SqT K H a (ns.map V.int) ∧ Q (.int ns.sum) H
theorem cr_sumT {X : Cx} (hc : X.calm = true) : CallR X (.builtin "sum") (rSumT X.K) := by
  intro pins s σ H vs us Q I r h
  obtain ⟨a, ns, rfl, hs, q⟩ := h
  obtain ⟨its, rv, hl, _⟩ := I.tuple hs
  rw [Vals.ref1 r]
  have hi := rv.ints
  obtain ⟨xs, hx⟩ := hi.allInts.items
  have hn : numsOf its.toArray.toList = ns := by rw [show its.toArray.toList = its from rfl, hi.numsOf]
  have hl : s.heap.IsTuple a its.toArray := hl
  rw [hx] at hl hn
  rw [PySem.nums_intItems] at hn
  refine PySem.W.ktm_sumG (I.ok.hd hc) hl fun h' tk t' hk => ⟨.int _, H, I.kept hk, ⟨_, rfl⟩, ?_⟩
  rw [PySem.preSum_eq, List.take_of_length_le (by simp), hn]
  exact q
def rSumA (K : PySem.W.Frag) : List V → Hp → VK → Prop := fun vs H Q => rSum K vs H Q ∨ rSumT K vs H Q
theorem k_sumA (K : PySem.W.Frag) {X : Cx} (hc : X.calm = true) (hK : X.K = K := by rfl) : CallR X (.builtin "sum") (rSumA K) := by
  subst hK
  intro pins s σ H vs us Q I r h
  rcases h with h | h
  · exact cr_sum hc pins s σ H vs us Q I r h
  · exact cr_sumT hc pins s σ H vs us Q I r h
def sumAt (ws : List W) (S : Sto) (Q : WK) : Prop := ∃ ns : List Int, ws = List.map W.int ns ∧ Q (.int ns.sum) S
def wSumA : RWC := fun ws S Q => match ws with
  | [.tup ws] => sumAt ws S Q
  | [.rl ws] => sumAt ws S Q
  | [.ref a] => ∃ ws, S a = some (.lst ws) ∧ sumAt ws S Q
  | _ => False
instance lc_sumA : LCR K (rSumA K) wSumA := ⟨fun H S xs ws Q Qw hh r q po => by
  unfold wSumA at q
  split at q
  · obtain ⟨x, rfl, a, xs, rfl, h1, h2⟩ := rep1 r
    obtain ⟨ns, rfl, q⟩ := q
    rw [h2.ints] at h1
    exact .inr ⟨a, ns, rfl, h1, po.int (Tk.refl H) hh q⟩
  · obtain ⟨x, rfl, a, xs, rfl, h1, h2⟩ := rep1 r
    obtain ⟨ns, rfl, q⟩ := q
    rw [h2.ints] at h1
    exact .inl ⟨a, ns, rfl, h1.sq, po.int (Tk.refl H) hh q⟩
  · obtain ⟨x, rfl, h1⟩ := rep1 r
    cases (show x = _ from h1)
    obtain ⟨ws, e, ns, rfl, q⟩ := q
    obtain ⟨ys, h1, h2⟩ := hh _ _ e
    rw [h2.ints] at h1
    exact .inl ⟨_, ns, rfl, SqL.of h1, po.int (Tk.refl H) hh q⟩
  · exact q.elim⟩
end Wl
set_option Elab.async false
set_option linter.all false
set_option maxRecDepth 100000
set_option maxHeartbeats 2000000
/-! keyword-only parameters, static methods. -/
namespace Wl
open PySem PySem.Spec PyProof.Rows L2
variable {K : PySem.W.Frag} {B : Hp}
/-- a default -/
inductive KC where
  | i (n : Int) | s (x : Str)
def KC.v : KC → V
  | .i n => .int n
  | .s x => .str x
def KC.w : KC → W
  | .i n => .int n
  | .s x => .str x
theorem KC.rep {H : Hp} : ∀ c : KC, Rep K H c.w c.v
  | .i _ => rfl
  | .s _ => rfl
theorem KC.reps {H : Hp} : ∀ cs : List KC, RepL K H (cs.map KC.w) (cs.map KC.v)
  | [] => .nil
  | c :: cs => .cons c.rep (KC.reps cs)
inductive KwAll (K : PySem.W.Frag) (D : Addr) : List (Str × KC) → Prop where
  | nil : KwAll K D []
  | cons {x : Str} {c : KC} {u : Value} {l : List (Str × KC)} : PySem.W.nsIn K D x = some (some u) → RelV c.v u → KwAll K D l → KwAll K D ((x, c) :: l)
theorem kwAll_mem {D : Addr} {l : List (Str × KC)} (h : KwAll K D l) : ∀ q ∈ l.map (fun q => (q.1, q.2.v)), ∃ u, PySem.W.nsIn K D q.1 = some (some u) ∧ RelV q.2 u := by
  induction h with
  | nil => exact fun q hq => by cases hq
  | cons e r _ ih =>
    intro q hq
    rcases List.mem_cons.mp hq with hq | hq
    · rw [hq]; exact ⟨_, e, r⟩
    · exact ih q hq
section
variable {P : Program} {w : World} {mg : Str → Option Value} {base : Heap}
structure InitK (K : PySem.W.Frag) (C : Addr) (qual : Str) (st : Stmt) (kws : List (Str × KC)) : Prop where
  ex : ∃ (f : Addr) (fd : FuncData), FunD K "__init__" qual (defArgs st) (defBody st) (defScope st) [] (kws.map fun q => (q.1, q.2.v)) f fd ∧ Mk K C f
/-- C(n values, k = v for the names ks), ms the defaults that are taken -/
structure CalK (P : Program) (w : World) (K : PySem.W.Frag) (mg : Str → Option Value) (base : Heap) (k : Nat) (C : Addr) (n : Nat) (ks : List Str) (ms : List KC) (sp : SpW) : Prop where
  ex : ∃ (f : Addr) (fd : FuncData) (ps : List Str) (g : List Value → List Value → List Value), FnOk P w K mg base CX0 k f fd ps (liftSp K sp) ∧ Mk K C f ∧ KBn K fd ps (n + 1) ks g (fun vs zs => vs ++ ms.map KC.v ++ zs)
theorem CalK.hd {k : Nat} {C : Addr} {n : Nat} {ks : List Str} {ms : List KC} {sp : SpW} (c : CalK P w K mg base k C n ks ms sp) : CalK P w K mg base k C n ks ms (Hd sp) := by rw [Hd_eq]; exact c
theorem CalK.mono {j k : Nat} {C : Addr} {n : Nat} {ks : List Str} {ms : List KC} {sp : SpW} (c : CalK P w K mg base j C n ks ms sp) (h : j ≤ k) : CalK P w K mg base k C n ks ms sp := by
  obtain ⟨f, fd, ps, g, F, r⟩ := c.ex
  exact ⟨f, fd, ps, g, F.mono h, r⟩
theorem fun_of' {x qual : Str} {st : Stmt} {f : Addr} {fd : FuncData} {kws : List (Str × V)} (F : FunD K x qual (defArgs st) (defBody st) (defScope st) [] kws f fd) : Fun K x qual st f fd := by
  obtain ⟨oc, od, dV, kV, doc, pm, an, cdv, ct, osl, e, l, c, hd, _⟩ := F.ex
  rcases hd with ⟨_, e2⟩ | ⟨e2, _⟩
  · subst e2
    exact ⟨⟨oc, od, kV, doc, pm, an, cdv, ct, osl, e, l, c⟩, F.kp⟩
  · exact absurd rfl e2
def wMakeK (C : Addr) (n m : Nat) (sp : SpW) (ms : List KC) (t tk : TAW) : TEW := fun ρ S Q => t ρ S fun ws S1 => tk ρ S1 fun xs S2 => ws.length = n ∧ xs.length = m ∧ ∀ x, S2 x = none →
  sp (.ref x :: ws ++ ms.map KC.w ++ xs) (put S2 x (.ins C [])) fun v S3 => v = .non ∧ Q (.ref x) S3
def tMakeKK (C : Addr) (n m : Nat) (sp : Sp) (ms : List KC) (E : XK) (t tk : TA) : TE := tMakeK C n m sp (fun vs zs => vs ++ ms.map KC.v ++ zs) E t tk
theorem k_makeK (K : PySem.W.Frag) {X : Cx} {C : Addr} {k j n : Nat} {ks : List Str} {ms : List KC} {x : Str} {sp : SpW} {p pos : Pos} {e : Expr} {es : List Expr} {kws : List Keyword} {t tk : TA} (c : CalK X.prog X.w K X.mg X.base k C n ks ms sp) (hm : X.mg x = some (.ref C)) (hr : Room j X.A) (hk : k + 1 ≤ j) (hg : Gl X x) (ha : PA X (e :: es) t) (hkw : PK X kws tk)
    (hall : (backToKw pos (keywordEach kws X.env)).all (·.1.isSome) = true := by rfl) (hks : (backToKw pos (keywordEach kws X.env)).filterMap (·.1) = ks := by rfl) (hdb : (x == ("__debug__" : Str)) = false := by decide)
    (he : starEach (e :: es) X.env = (false, eval e X.env) :: starEach es X.env := by rfl) (hpl : ((backTo pos (starEach (e :: es) X.env)).any (·.1) || (backToKw pos (keywordEach kws X.env)).any (·.1.isNone)) = false := by rfl) (hK : X.K = K := by rfl) :
    PE X (.Call (.Name x p) (e :: es) kws pos) (tMakeKK C n ks.length (liftSp K sp) ms E0 t tk) := by
  subst hK
  obtain ⟨f, fd, ps, g, F, M, b⟩ := c.ex
  exact pe_makeK M F (hr.mono hk) hg hm b pass0 ha hkw hall hks hdb he hpl
instance le_makeK {C : Addr} {n m : Nat} {ms : List KC} {sp : SpW} {E : XK} {t tk : TA} {tw tkw : TAW} [a : LA K B t tw] [b : LA K B tk tkw] : LE K B (tMakeKK C n m (liftSp K sp) ms E t tk) (wMakeK C n m sp ms tw tkw) := ⟨fun σ H ρ S Q Qw hs hh q po =>
  a.l σ H ρ S _ _ hs hh q fun xs H1 ws S1 t1 hh1 r1 q1 => b.l σ H1 ρ S1 _ _ (hs.tk t1) hh1 q1 fun zs H2 us S2 t2 hh2 r2 ⟨l1, l2, q2⟩ => ⟨by rw [r1.length]; exact l1, by rw [r2.length]; exact l2, fun x dx hx hdx ne => by
    have tD : Tk H2 (upd H2 dx (.own x)) := Tk.new hdx
    have hx2 : upd H2 dx (.own x) x = none := by rw [upd_ne (Ne.symm ne)]; exact hx
    have tX : Tk (upd H2 dx (.own x)) (upd (upd H2 dx (.own x)) x (.ins C dx [])) := Tk.new hx2
    have hh3 : HRep K (upd H2 dx (.own x)) S2 := hh2.laid hdx
    have hh4 : HRep K (upd (upd H2 dx (.own x)) x (.ins C dx [])) (put S2 x (.ins C [])) := hh3.new hx2 ⟨dx, [], upd_same, rfl⟩
    refine ⟨.ref x :: ws ++ ms.map KC.w ++ us, put S2 x (.ins C []), _, ?_, hh4, q2 x (hh2.fresh hx), ?_⟩
    · exact RepL.append (RepL.append (.cons rfl (RepL.tk ((t2.trans tD).trans tX) _ _ r1)) (KC.reps ms)) (RepL.tk (tD.trans tX) _ _ r2)
    · rintro v H4 wv S4 t4 hh4 r4 ⟨e, q4⟩
      subst e
      exact ⟨r4, po.ref ((((t1.trans t2).trans tD).trans tX).trans t4) hh4 q4⟩⟩⟩
/-! ### static methods -/
structure CStat (K : PySem.W.Frag) (C : Addr) (m : Str) (g : Addr) : Prop where
  rd : PySem.W.readsIn K C (.type "type") = true
  ga : PySem.W.specialIn K (.ref C) "__getattribute__" = some (some (.builtin "type.__getattribute__"))
  sm : ∃ (p : Addr) (rest : List Value), PySem.W.findCls K (.ref C) (.type "type") m = some (.get (.builtin "staticmethod.__get__") (.ref p) .none (.ref C)) ∧ PySem.W.recIn K p "staticmethod" = some (.ref g :: rest)
  kp : PySem.W.keepIn K (.ref g) = true
structure StatAt (K : PySem.W.Frag) (C : Addr) (x qual : Str) (st : Stmt) (ps : List Str) : Prop where
  ex : ∃ (f : Addr) (fd : FuncData), Fun K x qual st f fd ∧ CStat K C x f ∧ Binds K fd ps []
structure CalS (P : Program) (w : World) (K : PySem.W.Frag) (mg : Str → Option Value) (base : Heap) (k : Nat) (C : Addr) (m : Str) (sp : SpW) : Prop where
  ex : ∃ (f : Addr) (fd : FuncData) (ps : List Str), FnOk P w K mg base CX0 k f fd ps (liftSp K sp) ∧ CStat K C m f ∧ Binds K fd ps []
theorem CalS.hd {k : Nat} {C : Addr} {m : Str} {sp : SpW} (c : CalS P w K mg base k C m sp) : CalS P w K mg base k C m (Hd sp) := by rw [Hd_eq]; exact c
theorem CalS.mono {j k : Nat} {C : Addr} {m : Str} {sp : SpW} (c : CalS P w K mg base j C m sp) (h : j ≤ k) : CalS P w K mg base k C m sp := by
  obtain ⟨f, fd, ps, F, r⟩ := c.ex
  exact ⟨f, fd, ps, F.mono h, r⟩
theorem getsm_ok {X : Cx} {pins : List (Addr × Obj)} {σ : L2.St} {H : Hp} {s : Shared} {C g : Addr} {m : Str} {A : Around} {E : Value → Shared → Prop} {pl : Sem Bool} {Q : Value × List Value → Shared → Prop} (I : Inv X pins σ H s) (c : CStat X.K C m g)
    (h : ∀ s', Inv X pins σ H s' → Q (.ref g, []) s') : wpAny (model X.prog X.w) A (getMethod (.ref C) m pl) Q E s := by
  obtain ⟨p, rest, e1, e2⟩ := c.sm
  refine PySem.W.method_cls I.kIn c.ga ?_
  refine PySem.W.cls_bind I.kIn c.rd e1 ?_
  refine wpAny_call (PySem.W.sm_get (s := { s with toks := s.toks + 1 }) I.kIn e2 (PySem.W.handed_on rfl ?_))
  exact h _ (I.tok _)
def tStat (C : Addr) (sp : Sp) (E : XK) (ta : TE) (t : TA) : TE := fun σ H Q => ta σ H fun x H1 => x = .ref C ∧ t σ H1 fun vs H2 => sp vs H2 Q E
theorem k_stat (K : PySem.W.Frag) {X : Cx} {C : Addr} {k j : Nat} {m : Str} {sp : SpW} {apos pos : Pos} {o e : Expr} {es : List Expr} {ta : TE} {t : TA} {pl : Sem Bool} (c : CalS X.prog X.w K X.mg X.base k C m sp) (hr : Room j X.A) (hk : k ≤ j) (ho : PE X o ta) (ha : PA X (e :: es) t)
    (hst : starEach (e :: es) X.env = (false, eval e X.env) :: starEach es X.env := by rfl) (hpl : (backTo pos (starEach es X.env)).any (·.1) = false := by rfl)
    (ht : eval (.Call (.Attribute o m apos) (e :: es) [] pos) X.env = (do
      let ov ← eval o X.env
      standAt apos.atName
      let (f, first) ← holding [ov] (getMethod ov m pl)
      callWith pos f first (backTo pos (starEach (e :: es) X.env)) (backToKw pos (keywordEach [] X.env))) := by rfl) (hK : X.K = K := by rfl) :
    PE X (.Call (.Attribute o m apos) (e :: es) [] pos) (tStat C (liftSp K sp) E0 ta t) := by
  subst hK
  obtain ⟨f, fd, ps, F, c, b⟩ := c.ex
  refine ⟨fun pins s σ H Q I h => ?_⟩
  refine PySem.W.methodCall_KW (pl := pl) (thn (ho.run pins s σ H _ I h) fun u s1 ⟨x, H1, I1, rx, ex, q⟩ => ?_) ht
  subst ex
  obtain rfl : u = Value.ref C := rx
  refine getsm_ok I1 c fun s2 I2 => ?_
  refine PySem.W.callWith_K (first := []) (h₀ := X.base) I.ok.mod.kin c.kp (thn (ha.run pos pins s2 σ H1 _ I2 q) fun us s3 ⟨vs, H2, I3, r, q2⟩ => ⟨I3.kIn, ?_⟩) hst hpl
  exact run_fn (us := us) (vs := vs) F (hr.mono hk) b .nil pass0 I3 r (by rw [List.append_nil]; exact q2)
def wStat (C : Addr) (sp : SpW) (to : TEW) (t : TAW) : TEW := fun ρ S Q => to ρ S fun x S1 => x = .ref C ∧ t ρ S1 fun ws S2 => sp ws S2 Q
instance le_stat {C : Addr} {sp : SpW} {E : XK} {to : TE} {t : TA} {wo : TEW} {tw : TAW} [a : LE K B to wo] [b : LA K B t tw] : LE K B (tStat C (liftSp K sp) E to t) (wStat C sp wo tw) := ⟨fun σ H ρ S Q Qw hs hh q po =>
  a.l σ H ρ S _ _ hs hh q fun x H1 wx S1 t1 hh1 r1 ⟨e, q1⟩ => by
    subst e
    exact ⟨r1, b.l σ H1 ρ S1 _ _ (hs.tk t1) hh1 q1 fun vs H2 ws S2 t2 hh2 r2 q2 => ⟨ws, S2, Qw, r2, hh2, q2, po.tk (t1.trans t2)⟩⟩⟩
theorem calS {C : Addr} {x qual : Str} {st : Stmt} {N ps : List Str} {k : Nat} {sp : SpW} (d : StatAt K C x qual st ps) (SC : FnScope N ps (defScope st))
    (len : ∀ ws S Q, sp ws S Q → ws.length = ps.length)
    (hbody : ∀ (f : Addr) (cdv : Value) (A : Around) (outer : List Env) (s : Shared) (H : Hp) (E : XK), Room k (A.deeper (envOfC qual (defScope st) s.heap.objs.size f cdv)) →
      ∃ t tw, PSs (cxOf CX0 P w K mg base N qual (defScope st) f cdv A outer s H E).nox (defBody st) t ∧ LS K H t tw ∧ ∀ ws S Q, sp ws S Q → tw { nx := fun _ S' => FgI Q .non S', rt := FgI Q } (startW N ws) S) :
    CalS P w K mg base (k + 1) C x sp := by
  obtain ⟨f, fd, F, hm, b⟩ := d.ex
  exact ⟨f, fd, ps, fnM F SC len hbody, hm, b⟩
/-- ms: the keyword-only names that lack, ks: those that are told, in their order -/
theorem calK {C : Addr} {qual : Str} {st : Stmt} {N ps : List Str} {k : Nat} {sp : SpW} {kws : List (Str × KC)} (d : InitK K C qual st kws) (SC : FnScope N ps (defScope st))
    (len : ∀ ws S Q, sp ws S Q → ws.length = ps.length)
    (hbody : ∀ (f : Addr) (cdv : Value) (A : Around) (outer : List Env) (s : Shared) (H : Hp) (E : XK), Room k (A.deeper (envOfC qual (defScope st) s.heap.objs.size f cdv)) →
      ∃ t tw, PSs (cxOf CX0 P w K mg base N qual (defScope st) f cdv A outer s H E).nox (defBody st) t ∧ LS K H t tw ∧ ∀ ws S Q, sp ws S Q → tw { nx := fun _ S' => FgI Q .non S', rt := FgI Q } (startW N ws) S)
    (n : Nat) (ks : List Str) (ms : List (Str × KC)) (hk : kws ≠ []) (hms : ∀ q ∈ ms, q ∈ kws)
    (h : ∀ (D : Addr) (doc pm : Value) (an : Option Addr) (cdv ct : Value) (us mv ws : List Value), us.length = n + 1 → mv.length = ms.length → ws.length = ks.length →
      KwChain D ((ms.map (·.1)).zip mv) (bindArgs (PySem.W.fnOf "__init__" qual (defArgs st) (defBody st) (defScope st) .none (.ref D) doc pm an cdv ct) ⟨us, ks.zip ws⟩) (ps.zip (us ++ mv ++ ws))) :
    CalK P w K mg base (k + 1) C n ks (ms.map (·.2)) sp := by
  obtain ⟨f, fd, F, hm⟩ := d.ex
  obtain ⟨mv, b⟩ := F.kbinds0 (ps := ps) (n + 1) ks (ms.map fun q => (q.1, q.2.v)) (fun us mv ws => us ++ mv ++ ws) (fun e => hk (List.map_eq_nil_iff.mp e))
    (fun q hq => by
      obtain ⟨r, hr, rfl⟩ := List.mem_map.mp hq
      exact List.mem_map.mpr ⟨r, hms r hr, rfl⟩) (fun r1 r2 r3 => Vals.append (Vals.append r1 r2) r3)
    (fun D doc pm an cdv ct us mv ws l1 l2 l3 => by
      have := h D doc pm an cdv ct us mv ws l1 (by rw [l2, List.length_map]) l3
      rw [List.map_map]
      exact this)
  refine ⟨f, fd, ps, (fun us ws => us ++ mv ++ ws), fnM (fun_of' F) SC len hbody, hm, ?_⟩
  rw [List.map_map] at b
  rw [List.map_map]
  exact b
end
end Wl
set_option Elab.async false
set_option linter.all false
set_option maxRecDepth 100000
set_option maxHeartbeats 2000000
/-! keyword arguments in any order. -/
namespace Wl
open PySem PySem.Spec PyProof.Rows L2
variable {K : PySem.W.Frag} {B : Hp}
def pickL {α : Type} (ix : List Nat) (l : List α) : List α := ix.filterMap fun i => l[i]?
theorem pickL_rep {H : Hp} : ∀ (ix : List Nat) {ws : List W} {xs : List V}, RepL K H ws xs → RepL K H (pickL ix ws) (pickL ix xs)
  | [], _, _, _ => .nil
  | i :: ix, ws, xs, h => by
    unfold pickL
    rw [List.filterMap_cons, List.filterMap_cons]
    cases e : ws[i]? with
    | none =>
      have e2 : xs[i]? = none := by rw [List.getElem?_eq_none_iff, h.length]; exact List.getElem?_eq_none_iff.mp e
      rw [e2]
      exact pickL_rep ix h
    | some w =>
      obtain ⟨x, e2, r⟩ := h.get e
      rw [e2]
      exact .cons r (pickL_rep ix h)
theorem Vals.get' : ∀ {vs : List V} {us : List Value} {i : Nat}, Vals vs us → (∀ v, vs[i]? = some v → ∃ u, us[i]? = some u ∧ RelV v u) ∧ (vs[i]? = none → us[i]? = none)
  | [], _, _, .nil => ⟨(fun v e => by cases e), fun _ => rfl⟩
  | _ :: _, _, 0, .cons r t => ⟨(fun v e => by cases e; exact ⟨_, rfl, r⟩), (fun e => by cases e)⟩
  | _ :: _, _, i + 1, .cons r t => Vals.get' (i := i) t
theorem pickL_vals : ∀ (ix : List Nat) {vs : List V} {us : List Value}, Vals vs us → Vals (pickL ix vs) (pickL ix us)
  | [], _, _, _ => .nil
  | i :: ix, vs, us, h => by
    unfold pickL
    rw [List.filterMap_cons, List.filterMap_cons]
    cases e : vs[i]? with
    | none =>
      rw [(Vals.get' h).2 e]
      exact pickL_vals ix h
    | some v =>
      obtain ⟨u, e2, r⟩ := (Vals.get' h).1 v e
      rw [e2]
      exact .cons r (pickL_vals ix h)
section
variable {P : Program} {w : World} {mg : Str → Option Value} {base : Heap}
/-- C(n values, k = v for the names ks), ms the defaults that are taken, ix: where each parameter stands in values, defaults, told ones -/
structure CalJ (P : Program) (w : World) (K : PySem.W.Frag) (mg : Str → Option Value) (base : Heap) (k : Nat) (C : Addr) (n : Nat) (ks : List Str) (ms : List KC) (ix : List Nat) (sp : SpW) : Prop where
  ex : ∃ (f : Addr) (fd : FuncData) (ps : List Str) (g : List Value → List Value → List Value), FnOk P w K mg base CX0 k f fd ps (liftSp K sp) ∧ Mk K C f ∧ KBn K fd ps (n + 1) ks g (fun vs zs => pickL ix (vs ++ ms.map KC.v ++ zs))
theorem CalJ.hd {k : Nat} {C : Addr} {n : Nat} {ks : List Str} {ms : List KC} {ix : List Nat} {sp : SpW} (c : CalJ P w K mg base k C n ks ms ix sp) : CalJ P w K mg base k C n ks ms ix (Hd sp) := by rw [Hd_eq]; exact c
theorem CalJ.mono {j k : Nat} {C : Addr} {n : Nat} {ks : List Str} {ms : List KC} {ix : List Nat} {sp : SpW} (c : CalJ P w K mg base j C n ks ms ix sp) (h : j ≤ k) : CalJ P w K mg base k C n ks ms ix sp := by
  obtain ⟨f, fd, ps, g, F, r⟩ := c.ex
  exact ⟨f, fd, ps, g, F.mono h, r⟩
def wMakeJ (C : Addr) (n m : Nat) (sp : SpW) (ms : List KC) (ix : List Nat) (t tk : TAW) : TEW := fun ρ S Q => t ρ S fun ws S1 => tk ρ S1 fun xs S2 => ws.length = n ∧ xs.length = m ∧ ∀ x, S2 x = none →
  sp (pickL ix (.ref x :: ws ++ ms.map KC.w ++ xs)) (put S2 x (.ins C [])) fun v S3 => v = .non ∧ Q (.ref x) S3
def tMakeJ (C : Addr) (n m : Nat) (sp : Sp) (ms : List KC) (ix : List Nat) (E : XK) (t tk : TA) : TE := tMakeK C n m sp (fun vs zs => pickL ix (vs ++ ms.map KC.v ++ zs)) E t tk
theorem k_makeJ (K : PySem.W.Frag) {X : Cx} {C : Addr} {k j n : Nat} {ks : List Str} {ms : List KC} {ix : List Nat} {x : Str} {sp : SpW} {p pos : Pos} {e : Expr} {es : List Expr} {kws : List Keyword} {t tk : TA} (c : CalJ X.prog X.w K X.mg X.base k C n ks ms ix sp) (hm : X.mg x = some (.ref C)) (hr : Room j X.A) (hk : k + 1 ≤ j) (hg : Gl X x) (ha : PA X (e :: es) t) (hkw : PK X kws tk)
    (hall : (backToKw pos (keywordEach kws X.env)).all (·.1.isSome) = true := by rfl) (hks : (backToKw pos (keywordEach kws X.env)).filterMap (·.1) = ks := by rfl) (hdb : (x == ("__debug__" : Str)) = false := by decide)
    (he : starEach (e :: es) X.env = (false, eval e X.env) :: starEach es X.env := by rfl) (hpl : ((backTo pos (starEach (e :: es) X.env)).any (·.1) || (backToKw pos (keywordEach kws X.env)).any (·.1.isNone)) = false := by rfl) (hK : X.K = K := by rfl) :
    PE X (.Call (.Name x p) (e :: es) kws pos) (tMakeJ C n ks.length (liftSp K sp) ms ix E0 t tk) := by
  subst hK
  obtain ⟨f, fd, ps, g, F, M, b⟩ := c.ex
  exact pe_makeK M F (hr.mono hk) hg hm b pass0 ha hkw hall hks hdb he hpl
instance le_makeJ {C : Addr} {n m : Nat} {ms : List KC} {ix : List Nat} {sp : SpW} {E : XK} {t tk : TA} {tw tkw : TAW} [a : LA K B t tw] [b : LA K B tk tkw] : LE K B (tMakeJ C n m (liftSp K sp) ms ix E t tk) (wMakeJ C n m sp ms ix tw tkw) := ⟨fun σ H ρ S Q Qw hs hh q po =>
  a.l σ H ρ S _ _ hs hh q fun xs H1 ws S1 t1 hh1 r1 q1 => b.l σ H1 ρ S1 _ _ (hs.tk t1) hh1 q1 fun zs H2 us S2 t2 hh2 r2 ⟨l1, l2, q2⟩ => ⟨by rw [r1.length]; exact l1, by rw [r2.length]; exact l2, fun x dx hx hdx ne => by
    have tD : Tk H2 (upd H2 dx (.own x)) := Tk.new hdx
    have hx2 : upd H2 dx (.own x) x = none := by rw [upd_ne (Ne.symm ne)]; exact hx
    have tX : Tk (upd H2 dx (.own x)) (upd (upd H2 dx (.own x)) x (.ins C dx [])) := Tk.new hx2
    have hh3 : HRep K (upd H2 dx (.own x)) S2 := hh2.laid hdx
    have hh4 : HRep K (upd (upd H2 dx (.own x)) x (.ins C dx [])) (put S2 x (.ins C [])) := hh3.new hx2 ⟨dx, [], upd_same, rfl⟩
    refine ⟨pickL ix (.ref x :: ws ++ ms.map KC.w ++ us), put S2 x (.ins C []), _, ?_, hh4, q2 x (hh2.fresh hx), ?_⟩
    · exact pickL_rep ix (RepL.append (RepL.append (.cons rfl (RepL.tk ((t2.trans tD).trans tX) _ _ r1)) (KC.reps ms)) (RepL.tk (tD.trans tX) _ _ r2))
    · rintro v H4 wv S4 t4 hh4 r4 ⟨e, q4⟩
      subst e
      exact ⟨r4, po.ref ((((t1.trans t2).trans tD).trans tX).trans t4) hh4 q4⟩⟩⟩
theorem calJ {C : Addr} {qual : Str} {st : Stmt} {N ps : List Str} {k : Nat} {sp : SpW} {kws : List (Str × KC)} (d : InitK K C qual st kws) (SC : FnScope N ps (defScope st))
    (len : ∀ ws S Q, sp ws S Q → ws.length = ps.length)
    (hbody : ∀ (f : Addr) (cdv : Value) (A : Around) (outer : List Env) (s : Shared) (H : Hp) (E : XK), Room k (A.deeper (envOfC qual (defScope st) s.heap.objs.size f cdv)) →
      ∃ t tw, PSs (cxOf CX0 P w K mg base N qual (defScope st) f cdv A outer s H E).nox (defBody st) t ∧ LS K H t tw ∧ ∀ ws S Q, sp ws S Q → tw { nx := fun _ S' => FgI Q .non S', rt := FgI Q } (startW N ws) S)
    (n : Nat) (ks : List Str) (ms : List (Str × KC)) (ix : List Nat) (hk : kws ≠ []) (hms : ∀ q ∈ ms, q ∈ kws)
    (h : ∀ (D : Addr) (doc pm : Value) (an : Option Addr) (cdv ct : Value) (us mv ws : List Value), us.length = n + 1 → mv.length = ms.length → ws.length = ks.length →
      KwChain D ((ms.map (·.1)).zip mv) (bindArgs (PySem.W.fnOf "__init__" qual (defArgs st) (defBody st) (defScope st) .none (.ref D) doc pm an cdv ct) ⟨us, ks.zip ws⟩) (ps.zip (pickL ix (us ++ mv ++ ws)))) :
    CalJ P w K mg base (k + 1) C n ks (ms.map (·.2)) ix sp := by
  obtain ⟨f, fd, F, hm⟩ := d.ex
  obtain ⟨mv, b⟩ := F.kbinds0 (ps := ps) (n + 1) ks (ms.map fun q => (q.1, q.2.v)) (fun us mv ws => pickL ix (us ++ mv ++ ws)) (fun e => hk (List.map_eq_nil_iff.mp e))
    (fun q hq => by
      obtain ⟨r, hr, rfl⟩ := List.mem_map.mp hq
      exact List.mem_map.mpr ⟨r, hms r hr, rfl⟩) (fun r1 r2 r3 => pickL_vals ix (Vals.append (Vals.append r1 r2) r3))
    (fun D doc pm an cdv ct us mv ws l1 l2 l3 => by
      have := h D doc pm an cdv ct us mv ws l1 (by rw [l2, List.length_map]) l3
      rw [List.map_map]
      exact this)
  refine ⟨f, fd, ps, (fun us ws => pickL ix (us ++ mv ++ ws)), fnM (fun_of' F) SC len hbody, hm, ?_⟩
  rw [List.map_map] at b
  rw [List.map_map]
  exact b
end
end Wl
set_option Elab.async false
set_option linter.all false
set_option maxRecDepth 100000
set_option maxHeartbeats 2000000
/-! list.clear over data. -/
namespace Wl
open PySem PySem.Spec PyProof.Rows L2
variable {K : PySem.W.Frag} {B : Hp}
def wClear : W → List W → Sto → WK → Prop := fun x ws S Q => match x, ws with
  | .ref l, [] => ∃ xs, S l = some (.lst xs) ∧ Q .non (put S l (.lst []))
  | _, _ => False
instance lm_clear : LMR K rClear wClear := ⟨fun H S x wx xs ws Q Qw hh rx r q po => by
  unfold wClear at q
  split at q
  · cases (show x = _ from rx)
    cases (show xs = [] from r)
    obtain ⟨zs, e, q⟩ := q
    obtain ⟨vs, h1, h2⟩ := hh _ _ e
    have t : Tk H (upd H _ (.lst [])) := Tk.mut h1 (fun _ z => (by cases z)) (fun _ _ z => (by cases z))
    obtain ⟨t, hm⟩ := hh.mut (c' := .lst []) (o := .lst []) e ⟨[], upd_same, .nil⟩
    exact ⟨_, vs, rfl, rfl, h1, po.non t hm q⟩
  · exact q.elim⟩
end Wl
set_option Elab.async false
set_option linter.all false
set_option maxRecDepth 100000
set_option maxHeartbeats 2000000
/-! enumerate(t), t a tuple, over data. -/
namespace Wl
open PySem PySem.Spec PyProof.Rows L2
variable {K : PySem.W.Frag} {B : Hp}
set_option maxHeartbeats 4000000 in
/-- enumerate(v), whatever v's iterator is -/
theorem en_new {v : Value} {ob : Obj} {Hh : Heap → Prop} (G : Begins v ob Hh) :
    Meets (Builtin.«enumerate.__new__» ⟨[.type "enumerate", v], []⟩) (fun _ R st => Hh st.heap ∧
      R (.ok (.ret (.ref (st.heap.push ob).objs.size))) { st with heap := (st.heap.push ob).push { cls := .type "enumerate", data := .fields #[.none, .bool false, .ref st.heap.objs.size, rawInt 0, .none, .none] } }) :=
  .of_wp fun P w A R st hst => by
    obtain ⟨hp, gl, dp, tk, os⟩ := st
    obtain ⟨hh, hr⟩ := hst
    have known := sub_enumerate
    have begun : ∀ {A' : Around} {E : Value → Shared → Prop} {Q : Value → Shared → Prop}, Q (.ref hp.objs.size) ⟨hp.push ob, gl, dp, tk, os⟩ → wpAny (model P w) A' (pyIter v) Q E ⟨hp, gl, dp, tk, os⟩ :=
      fun q => G.iter P w _ _ ⟨hp, gl, dp, tk, os⟩ _ hh q
    wp_walk using begun
    refine wpAny_stack_any (fun fr => wpAny_pure ?_)
    split
    · rename_i c _ _ _ _ _
      cases (c == Value.type "enumerate") <;> (wp_walk using begun; exact ⟨_, rfl, hr⟩)
    · (wp_walk using begun; exact ⟨_, rfl, hr⟩)
section
variable {P : Program} {w : World} {A : Around} {E : Value → Shared → Prop} {s : Shared}
theorem en_call {v : Value} {ob : Obj} {Hh : Heap → Prop} {Q : Value → Shared → Prop} (G : Begins v ob Hh) (hh : Hh s.heap)
    (fin : ∀ g, IsEnum g (s.heap.objs.size + 1) s.heap.objs.size 0 .none → g.get? s.heap.objs.size = some ob → g.objs.size = s.heap.objs.size + 2 → (∀ b o, s.heap.get? b = some o → g.get? b = some o) → Q (.ref (s.heap.objs.size + 1)) { s with heap := g }) :
    wpAny (model P w) A (call (.type "enumerate") [v]) Q E s := by
  refine callType_new F.called_enumerate (by decide) (F.typeCall_enumerate_1 _) (F.newCall_enumerate_1 _) (fun x => F.args_object_init_2 x _) F.entry_enumerate_new (en_new G) ⟨hh, ?_⟩
  have z1 : (s.heap.push ob).objs.size = s.heap.objs.size + 1 := Heap.size_push ..
  have z2 := Heap.get?_push_size (s.heap.push ob) (o := { cls := .type "enumerate", data := .fields #[.none, .bool false, .ref s.heap.objs.size, rawInt 0, .none, .none] }) rfl
  show _ ∧ _
  rw [z1] at z2 ⊢
  exact ⟨⟨_, z2, rfl⟩, fin _ z2 (Heap.get?_push_of_some _ (Heap.get?_push_size _ G.free)) (by rw [Heap.size_push, z1]) fun b o x => Heap.get?_push_of_some _ (Heap.get?_push_of_some _ x)⟩
end
/-- the tuple at a, each item in a new pair -/
def ItEn (K : PySem.W.Frag) (a : Addr) : It where
  go := fun i H => ∃ (xs : List V) (x : V), SqT K H a xs ∧ xs[i]? = some x
  yld := fun i H v H' => ∃ T x, v = .ref T ∧ H T = none ∧ H' = upd H T (.tup [.int (i : Nat), x]) ∧ ∀ xs, SqT K H a xs → xs[i]? = some x
  stop := fun i H => ∃ xs : List V, SqT K H a xs ∧ xs.length ≤ i
theorem turn_en {P : Program} {w : World} {K : PySem.W.Frag} {elts : List Expr} {kk : Nat} {tpos : Pos} (a e it : Addr) : Turn P w K (.Tuple elts kk tpos) (ItEn K a) [e, it] e (fun i h => (∃ old, IsEnum h e it (i : Nat) old) ∧ h.IsTupleIter it a i ∧ e ≠ it) where
  mem := by simp
  obj := by
    rintro i h ⟨⟨old, en⟩, ⟨o, ho, _, hd⟩, _⟩ b hb
    rcases (by simpa using hb : b = e ∨ b = it) with z | z <;> rw [z]
    · exact ⟨_, en, fun v q => nomatch q⟩
    · exact ⟨o, ho, fun v q => by rw [hd] at q; cases q⟩
  keep := by
    rintro i h h' ⟨⟨old, en⟩, ti, ne⟩ k
    exact ⟨⟨old, k e (by simp) _ en⟩, ti.at fun o q => k it (by simp) o q, ne⟩
  item := by
    intro X hP hw hK hc i pins s σ H E I hf st hg
    subst hP hw hK
    obtain ⟨⟨old, en⟩, ti, ne⟩ := st
    obtain ⟨xs, x, hq, hx⟩ := hg
    obtain ⟨its, rv, tp, _⟩ := I.tuple hq
    have tp : s.heap.IsTuple a its.toArray := tp
    obtain ⟨u, hu, ru⟩ := rv.get hx
    obtain ⟨o1, ho1, hc1, _⟩ := id tp
    obtain ⟨o2, ho2, hc2, _⟩ := id ti
    have cls_ne : ∀ {b : Addr} {o : Obj} {n : String}, s.heap.get? b = some o → o.cls = .type n → ("tuple" == n) = false → a ≠ b := fun {b o n} hb hn ht z => by
      rw [z, hb] at ho1
      rw [← Option.some.inj ho1, hn] at hc1
      rw [Value.type.inj hc1] at ht
      simp at ht
    have ae : a ≠ e := cls_ne en rfl (by decide)
    have ai : a ≠ it := cls_ne ho2 hc2 (by decide)
    have le : e < s.heap.objs.size := Heap.lt_size en
    have li : it < s.heap.objs.size := Heap.lt_size ho2
    have hlt : i < its.toArray.size := by
      have := (List.getElem?_eq_some_iff.mp hu).1
      simpa using this
    refine wpAny_pyNext_enum_itemD (Draws.tuple (show X.A.in1.handled = none from I.ok.hd hc) it a ai its.toArray) en ⟨ti, tp⟩ hlt ne (by simp [ne, Ne.symm ae]) fun y g tk hy ho ti2 hT hz hk => ?_
    have ey : y = u := by
      have hy : its.toArray[i]? = some y := hy
      rw [List.getElem?_toArray, hu] at hy
      exact (Option.some.inj hy).symm
    subst ey
    refine ⟨_, rfl, wpAny_letOwnedTupleGo_enum (s := { s with heap := g, toks := tk + 1 }) ho fun g2 en2 sb => ?_⟩
    have hT2 : g2.get? s.heap.objs.size = some { cls := .type "tuple", data := .seq #[.int i tk, y] } := (sb.2 _ (Nat.ne_of_gt le)).trans hT
    have made : ObjOk X.prog X.w (upd H s.heap.objs.size (.tup [.int (i : Nat), x])) g2 s.heap.objs.size (.tup [.int (i : Nat), x]) := ⟨by show 2 ≤ sizeLine; decide, [.int i tk, y], .cons ⟨_, rfl⟩ (.cons ru .nil), _, hT2, rfl, _, rfl⟩
    have I1 : Inv X pins σ (upd H s.heap.objs.size (.tup [.int (i : Nat), x])) { s with heap := g2, toks := tk + 1 } :=
      I.turnedNew (ch := [e, it]) (fun b ob hb q => (sb.2 b (fun z => hb (by simp [z]))).trans (hk b ob (fun z => hb (by simp [z])) (fun z => hb (by simp [z])) q)) hf (Nat.le_refl _) made
    refine ⟨.ref s.heap.objs.size, _, I1, rfl, ⟨_, x, rfl, I.hok.fresh (Nat.le_refl _), rfl, fun ys hy => by rw [I.tuple_inj hy hq]; exact hx⟩, ⟨⟨y, by rw [show ((i + 1 : Nat) : Int) = (i : Int) + 1 by omega]; exact en2⟩, ti2.1.at fun o q => (sb.2 it (Ne.symm ne)).trans q, ne⟩, fun b hb => ?_⟩
    have lb : b < s.heap.objs.size := by rcases (by simpa using hb : b = e ∨ b = it) with z | z <;> rw [z] <;> assumption
    rw [upd_ne (Nat.ne_of_lt lb)]
    exact (hf b hb).1
  done := by
    intro X hP hw hK hc i pins s σ H E I hf st hg
    subst hP hw hK
    obtain ⟨⟨old, en⟩, ti, ne⟩ := st
    obtain ⟨xs, hq, hx⟩ := hg
    obtain ⟨its, rv, tp, _⟩ := I.tuple hq
    have tp : s.heap.IsTuple a its.toArray := tp
    have none : its.toArray[i]? = none := by
      rw [List.getElem?_toArray]
      exact List.getElem?_eq_none (by rw [← rv.length]; exact hx)
    have D : Draws X.prog X.w X.A.in1 it [it, a] 0 (fun _ _ => False) (fun j h => h.IsTupleIter it a (i + j) ∧ h.IsTuple a its.toArray) := by
      refine ⟨fun j h q => ?_, fun j h h' q k => ⟨q.1.at fun o z => k it (by simp) o z, q.2.at fun o z => k a (by simp) o z⟩, fun j _ _ _ z => absurd z (Nat.not_lt_zero _), fun st Q' E' q hE => ?_⟩
      · obtain ⟨o, ho, _⟩ := q.1
        exact ⟨o, ho⟩
      · exact wpAny_nextOf_tuple_end (show X.A.in1.handled = _ from I.ok.hd hc) q.1 q.2 none hE
    obtain ⟨f0, f1, f2, f3, f4, f5⟩ := hf it (by simp)
    exact wpAny_pyNext_enum_endD D en ⟨ti, tp⟩ fun g eb => ⟨rfl, I.turned (t' := s.toks) (fun b o hb q => eb b o hb q) f0 f1 f3 f4 f5⟩
  self := fun A i s Q E ⟨⟨_, en⟩, _⟩ h => wpAny_pyIter_enum en h
def iEn (K : PySem.W.Frag) (ta : TA) : TI := fun σ H R => ta σ H fun vs H1 => ∃ a xs, vs = [.ref a] ∧ SqT K H1 a xs ∧ R (ItEn K a) H1
theorem k_enum (K : PySem.W.Frag) {X : Cx} {e : Expr} {ta : TA} {p pos tpos : Pos} {elts : List Expr} {kk : Nat} (hg : Gl X "enumerate") (hm : X.mg "enumerate" = none) (ha : PA X [e] ta) (hs : starEach [e] X.env = [(false, eval e X.env)] := by rfl) (hK : X.K = K := by rfl) :
    PI X (.Tuple elts kk tpos) (.Call (.Name "enumerate" p) [e] [] pos) (iEn K ta) := by
  subst hK
  refine ⟨fun pins s σ H R I h => Call_ (ld_blt I hg hm boot_enumerate (PyProof.Rows.callWith_type1 (thn (ha.run pos pins s σ H _ I h) fun us s1 ⟨vs, H1, I1, r1, a, xs, ex, hq, q⟩ => ?_) hs rfl))⟩
  subst ex
  cases r1 with
  | cons r rr =>
    cases rr
    cases r
    obtain ⟨its, rv, tp, _⟩ := I1.tuple hq
    have tp : s1.heap.IsTuple a its.toArray := tp
    refine en_call (begins_tuple a its.toArray) tp fun g en hi hz hk => wpAny_pyIter_enum en ?_
    have I2 : Inv X pins σ H1 { s1 with heap := g } := I1.kept (t' := s1.toks) hk
    refine ⟨s1.heap.objs.size + 1, [s1.heap.objs.size + 1, s1.heap.objs.size], _, _, H1, rfl, I2, turn_en a (s1.heap.objs.size + 1) s1.heap.objs.size, ⟨⟨.none, en⟩, ⟨_, hi, rfl, rfl⟩, Nat.succ_ne_self _⟩, fun b hb => ?_, q⟩
    have le : s1.heap.objs.size ≤ b := (by simpa using hb : b = s1.heap.objs.size + 1 ∨ b = s1.heap.objs.size).elim (fun z => z ▸ Nat.le_succ _) fun z => z ▸ Nat.le_refl _
    exact I1.fpOk le (I1.hok.fresh le)
/-- the items with their numbers -/
def enW (ws : List W) : List W := (List.range ws.length).map fun i => .tup [.int (i : Nat), (ws[i]?).getD .non]
theorem enW_at {ws : List W} {i : Nat} {w : W} (h : (enW ws)[i]? = some w) : ∃ x, ws[i]? = some x ∧ w = .tup [.int (i : Nat), x] := by
  unfold enW at h
  rw [List.getElem?_map] at h
  by_cases hi : i < ws.length
  · rw [List.getElem?_range hi] at h
    refine ⟨ws[i], List.getElem?_eq_getElem hi, ?_⟩
    have h : W.tup [.int (i : Nat), (ws[i]?).getD .non] = w := Option.some.inj h
    rw [List.getElem?_eq_getElem hi] at h
    exact h.symm
  · rw [List.getElem?_eq_none (by rw [List.length_range]; omega)] at h
    cases h
theorem enW_len (ws : List W) : (enW ws).length = ws.length := by unfold enW; rw [List.length_map, List.length_range]
theorem src_en {H1 : Hp} {a : Addr} {xs : List V} {ws : List W} (h : SqT K H1 a xs) (r : RepL K H1 ws xs) : IsSrc K H1 (ItEn K a) (enW ws) anyS where
  go := fun i H S t hh ok hi => by
    rw [enW_len] at hi
    exact ⟨xs, xs[i]'(by rw [r.length]; exact hi), t.sqt h, by simp [r.length, hi]⟩
  yld := fun i H S x H' t hh ok hi y => by
    rw [enW_len] at hi
    obtain ⟨T, z, rfl, hT, rfl, hz⟩ := y
    obtain ⟨w, ew, rw'⟩ := (RepL.tk t _ _ r).get' (hz xs (t.sqt h))
    have tn : Tk H (upd H T (.tup [.int (i : Nat), z])) := Tk.new hT
    refine ⟨tn, hh.laid hT, .tup [.int (i : Nat), w], ?_, ⟨T, _, rfl, SqT.of upd_same, RepL.tk tn _ _ (.cons rfl (.one rw'))⟩⟩
    unfold enW
    rw [List.getElem?_map, List.getElem?_range hi]
    show some (W.tup [.int (i : Nat), (ws[i]?).getD .non]) = _
    rw [ew]
    rfl
  stop := fun i H S t hh ok hi => by
    rw [enW_len] at hi
    exact ⟨xs, t.sqt h, by rw [r.length]; exact hi⟩
def wiEn (ta : TAW) : TIW := fun ρ S R => ta ρ S fun ws S1 => match ws with
  | [.tup ws] => R (enW ws) anyS S1
  | _ => False
instance li_en {t : TA} {tw : TAW} [a : LA K B t tw] : LI K B (iEn K t) (wiEn tw) := ⟨fun σ H ρ S R Rw hs hh q po => a.l σ H ρ S _ _ hs hh q fun xs H1 ws S1 t1 hh1 r1 q1 => by
  split at q1
  · obtain ⟨x, rfl, h1⟩ := rep1 r1
    obtain ⟨p, ys, rfl, h2, h3⟩ := h1
    exact ⟨_, ys, rfl, h2, po _ H1 S1 _ _ t1 hh1 (src_en h2 h3) q1⟩
  · exact q1.elim⟩
end Wl
set_option Elab.async false
set_option linter.all false
set_option maxRecDepth 100000
set_option maxHeartbeats 2000000
/-! yield from a list; comprehensions with two for; tuples of ints compared. -/
namespace Wl
open PySem PySem.Spec PyProof.Rows L2 GenW
variable {K : PySem.W.Frag} {B : Hp}
section
variable {P : Program} {w : World} {A : Around} {E : Value → Shared → Prop} {s : Shared} {it l : Addr} {i : Nat} {items : Array Value}
/-- the special method of a list's iterator, an item is left -/
theorem ln_item {x : Value} {Q : Option Value → Shared → Prop} (ho : s.heap.get? it = some (GNX.itObj l i)) (hl : s.heap.IsList l items) (hx : items[i]? = some x) (hQ : ∀ g, g.get? it = some (GNX.itObj l (i + 1)) → Heap.SameBut it s.heap g → Q (some x) { s with heap := g }) :
    wpAny (model P w) A (callSpecial? (.ref it) "__next__") Q E s := by
  have ty : s.heap.IsListIter it l i := ⟨_, ho, rfl, rfl⟩
  exact wpAny_callSpecial?_slot (name := Str.ofString "__next__") ty.typeIs slot_listiter_next (wpAny_call_entry slot_listiter_next ty.typeIs entry_listiter_next (GNX.next_item ho hl hx fun g e sb => hQ g e sb) (args_listiter_next _))
/-- nothing is left: the exception carries no value -/
theorem ln_end {Q : Option Value → Shared → Prop} (hh : A.handled = none) (ho : s.heap.get? it = some (GNX.itObj l i)) (hl : s.heap.IsList l items) (hx : items[i]? = none) (hE : ∀ e g, StopX e g → Heap.ExtBut it s.heap g → E e { s with heap := g }) :
    wpAny (model P w) A (callSpecial? (.ref it) "__next__") Q E s := by
  have ty : s.heap.IsListIter it l i := ⟨_, ho, rfl, rfl⟩
  refine wpAny_callSpecial?_slot (name := Str.ofString "__next__") ty.typeIs slot_listiter_next (wpAny_call_entry slot_listiter_next ty.typeIs entry_listiter_next ?_ (args_listiter_next _))
  obtain ⟨ol, hol, _, nl, dl⟩ := hl
  refine (show wpAny _ _ (field (.ref it) 0 >>= _) _ _ s from wpAny_bind (wpAny_field ho rfl (x := .ref l) rfl ?_))
  refine (show wpAny _ _ (if (Value.ref l == Value.none) = true then _ else _) _ _ s from ?_)
  rw [if_neg (show (Value.ref l == Value.none) ≠ true from fun z => nomatch z)]
  refine (show wpAny _ _ (field (.ref it) 1 >>= _) _ _ s from wpAny_bind (wpAny_field ho rfl (x := .int i 0) rfl ?_))
  refine (show wpAny _ _ (seqItems? (.ref l) >>= _) _ _ s from wpAny_bind (wpAny_seqItems hol dl ?_))
  simp only [hx, Int.toNat_natCast]
  refine wpAny_bind (wpAny_rule (wpAny_bind (wpAny_setField ho rfl (by simp [GNX.itObj]) ?_)))
  refine (show wpAny _ _ (newExc (.type "StopIteration") [] >>= _) _ _ _ from wpAny_bind ?_)
  simp only [newTuple, newExc]
  refine wpAny_bind (wpAny_newObj_type (wpAny_bind (m := firstArgMember _ _) (wpAny_of_eq (a := Value.none) (by first | rfl | (simp only [firstArgMember]; rfl)) (wpAny_newObj_type ?_ (by size_fits)))) (by size_fits))
  simp only [raiseNew]
  refine wpAny_bind (wpAny_handled ?_)
  have h1 : A.in1.handled = none := hh
  rw [h1]
  refine (show wpAny _ _ (throw _) _ _ _ from wpAny_throw (hE _ _ ⟨_, _, _, rfl, Heap.get?_push_size _ rfl, rfl, rfl, ?_⟩ (((Heap.SameBut.update ..).extBut.push _).push _)))
  first
    | rfl
    | (rw [Array.getElem?_append_left (by decide)]; rfl)
end
/-! ### yield from a list -/
def tYl (te : TE) : TYf := fun σ H Q => te σ H fun x H1 => ∃ a xs, x = .ref a ∧ H1 a = some (.lst xs) ∧ Q xs H1
theorem yf_l {X : Cx} {e : Expr} {te : TE} (he : PE X e te) : YfE X e (tYl te) := ⟨fun pins s σ H Q I h => thn (he.run pins s σ H _ I h) fun v s1 ⟨x, H1, I1, r1, a, xs, ex, ha, hq⟩ => by
  subst ex
  cases (show v = Value.ref a from r1)
  obtain ⟨its, rits, pl, _⟩ := I1.list (SqL.of ha)
  have hl : s1.heap.IsList a its.toArray := pl.isList
  have grow : ∀ b o, s1.heap.get? b = some o → (s1.heap.push (GNX.itObj a 0)).get? b = some o := fun b o z => Heap.get?_push_of_some _ z
  have lt : ∀ b o, s1.heap.get? b = some o → b ≠ s1.heap.objs.size := fun b o z => Nat.ne_of_lt (Heap.lt_size z)
  have ne : a ≠ s1.heap.objs.size := by
    obtain ⟨o, ho, _⟩ := id hl
    exact lt a o ho
  refine ⟨"list", hl.typeIs, by decide, wpAny_pyIter_list hl ⟨s1.heap.objs.size, H1, xs, fun j h => h.get? s1.heap.objs.size = some (GNX.itObj a j) ∧ h.IsList a its.toArray, rfl, I1.kept (t' := s1.toks) grow, .inr I1.sz, Nat.ne_of_gt I1.lt, ?_, I1.hok.fresh (Nat.le_refl _), fun p hp => lt p.1 _ (I1.pin p hp).1,
    ⟨Heap.get?_push_size _ rfl, hl.push _⟩, ⟨⟨"list_iterator", fun j h q => ⟨_, q.1, rfl⟩, by rw [typeLookup_type, builtinLookup_eq_fast]; kernel_rfl, by decide⟩, fun j h h' q hk => ?_, fun A' j x s2 Q' E' hA hx q hQ => ?_, fun A' s2 Q' E' hA q hE => ?_⟩, hq⟩⟩
  · intro y c hy
    obtain ⟨v, o, ho, _⟩ := I1.cell y c hy
    exact lt c o ho
  · obtain ⟨q1, o2, ho2, r2⟩ := q
    exact ⟨hk _ _ (.inl rfl) q1, o2, hk _ o2 (.inr (by rw [ha]; exact fun z => by cases z)) ho2, r2⟩
  · obtain ⟨u, hu, ru⟩ := rits.get hx
    exact ln_item q.1 q.2 (x := u) (by simpa using hu) fun g q1 hs => hQ u g s2.toks ru ⟨q1, q.2.extBut hs.extBut ne⟩ fun b o hb eb => hs.extBut b o hb eb
  · refine ln_end hA q.1 q.2 ?_ fun e g hS hk => hE e g s2.toks hS fun b o hb eb => hk b o hb eb
    rw [List.getElem?_toArray]
    exact List.getElem?_eq_none (Nat.le_of_eq rits.length.symm)⟩
def wGFrom (te : TEW) : TGnW := fun D ys ρ S => te ρ S fun x S1 => match x with
  | .ref a => ∃ ws, S1 a = some (.lst ws) ∧ ys.length + ws.length ≤ sizeLine ∧ D.nx (ys ++ ws) ρ S1
  | _ => False
instance lgn_from {te : TE} {we : TEW} [a : LE K B te we] : LGn K B (tGFrom (tYl te)) (wGFrom we) := ⟨fun ys ws σ H ρ S D Dw hy hs hh q po =>
  a.l σ H ρ S _ _ hs hh q fun x H1 wx S1 t1 hh1 r1 q1 => by
    split at q1
    · cases (show x = _ from r1)
      obtain ⟨ws', e, hz, q⟩ := q1
      obtain ⟨xs, h1, h2⟩ := hh1 _ _ e
      exact ⟨_, xs, rfl, h1, by rw [hy.length, h2.length]; exact hz, po.nx _ _ σ H1 ρ S1 t1 ((RepL.tk t1 _ _ hy).append h2) (hs.tk t1) hh1 q⟩
    · exact q1.elim⟩
/-! ### tuples of ints compared -/
def wLtT : RW2 := fun x y S Q => match x, y with
  | .tup xs, .tup ys => ∃ ns ms : List Int, xs = ns.map W.int ∧ ys = ms.map W.int ∧ Q (.bl (HT.lexLt ns ms)) S
  | _, _ => False
theorem k_ltT (K : PySem.W.Frag) {X : Cx} (hu : X.A.units + 64 < cLine) (hK : X.K = K := by rfl) : OpR X (compareOp .Lt) (rLtT K) := by subst hK; exact op_ltT (by omega)
instance l2_ltT : L2R K (rLtT K) wLtT := ⟨fun H S x y wx wy Q Qw hh rx ry q po => by
  unfold wLtT at q
  split at q
  · obtain ⟨a, xs, rfl, h1, h2⟩ := rx
    obtain ⟨b, ys, rfl, h3, h4⟩ := ry
    obtain ⟨ns, ms, rfl, rfl, q⟩ := q
    rw [h2.ints] at h1
    rw [h4.ints] at h3
    exact ⟨a, b, ns, ms, rfl, rfl, h1, h3, po.bl (Tk.refl H) hh q⟩
  · exact q.elim⟩
/-! ### comprehensions with two for -/
@[irreducible] def Lc2Q (g : TGW) (tt : TTW) (wi1 : TIW) (g1 : TGW) (tt1 : TTW) (te : TEW) (vs vs1 : List Nat) (ρ : StW) (Q : WK) (ws : List W) (ok : Sto → Prop) (S1 : Sto) : Prop := ∀ D, S1 D = none → ∃ P : Nat → List W → Sto → Prop, P 0 [] (put S1 D (.lst [])) ∧
  (∀ i acc S', P i acc S' → ok S') ∧
  (∀ i w acc S', ws[i]? = some w → P i acc S' → g w (wipeW ρ vs) S' fun ρ2 S2 => tt ρ2 S2 fun b S3 => (b = true → wi1 ρ2 S3 fun ws1 ok1 S4 => ∃ P1 : Nat → List W → Sto → Prop, P1 0 acc S4 ∧
    (∀ j acc1 S', P1 j acc1 S' → ok1 S') ∧
    (∀ j w1 acc1 S', ws1[j]? = some w1 → P1 j acc1 S' → g1 w1 (wipeW ρ2 vs1) S' fun ρ3 S5 => tt1 ρ3 S5 fun b1 S6 =>
      (b1 = true → te ρ3 S6 fun y S7 => S7 D = some (.lst acc1) ∧ acc1.length < sizeLine ∧ P1 (j + 1) (acc1 ++ [y]) (put S7 D (.lst (acc1 ++ [y])))) ∧ (b1 = false → P1 (j + 1) acc1 S6)) ∧
    ∀ acc1 S', P1 ws1.length acc1 S' → P (i + 1) acc1 S') ∧ (b = false → P (i + 1) acc S3)) ∧
  ∀ acc S', P ws.length acc S' → Q (.ref D) S'
def wLc2 (wi : TIW) (g : TGW) (tt : TTW) (wi1 : TIW) (g1 : TGW) (tt1 : TTW) (te : TEW) (vs vs1 : List Nat) : TEW := fun ρ S Q => wi ρ S fun ws ok S1 => Lc2Q g tt wi1 g1 tt1 te vs vs1 ρ Q ws ok S1
instance le_lc2 {wi wi1 : TI} {g g1 : TG} {tt tt1 : TT} {te : TE} {vs vs1 : List Nat} {ww ww1 : TIW} {gw gw1 : TGW} {tw tw1 : TTW} {ew : TEW} [h : LI K B wi ww] [b : LG K B g gw] [gg : GW g vs] [c : LT K B tt tw] [h1 : LI K B wi1 ww1] [b1 : LG K B g1 gw1] [gg1 : GW g1 vs1] [c1 : LT K B tt1 tw1] [a : LE K B te ew] :
    LE K B (tLc2 wi g tt wi1 g1 tt1 te vs vs1) (wLc2 ww gw tw ww1 gw1 tw1 ew vs vs1) := ⟨fun σ H ρ S Q Qw hs hh q po => by
  refine h.l σ H ρ S _ _ hs hh q fun J H1 S1 ws ok t1 hh1 src hD => fun D hDn => ?_
  unfold Lc2Q at hD
  obtain ⟨P, p0, pok, pst, pend⟩ := hD D (hh1.fresh hDn)
  have tD : Tk H1 (upd H1 D (.lst [])) := Tk.new hDn
  have hhD : HRep K (upd H1 D (.lst [])) (put S1 D (.lst [])) := hh1.new hDn ⟨[], upd_same, rfl⟩
  refine ⟨fun i m H' => m = ws.length - i ∧ i ≤ ws.length ∧ ∃ acc S', Tk H1 H' ∧ HRep K H' S' ∧ P i acc S', ⟨ws.length, by simp, Nat.zero_le _, [], _, tD, hhD, p0⟩, ?_⟩
  rintro i m H2 ⟨rfl, hi, acc, S2, t2, hh2, p2⟩
  by_cases hlt : i < ws.length
  · refine .inr ⟨src.go i H2 S2 t2 hh2 (pok _ _ _ p2) hlt, fun H' => ∃ acc S', Tk H1 H' ∧ HRep K H' S' ∧ P (i + 1) acc S', fun H' z => ⟨ws.length - (i + 1), by omega, rfl, hlt, z⟩, fun x H3 y => ?_⟩
    obtain ⟨t3, hh3, w, e, r⟩ := src.yld i H2 S2 x H3 t2 hh2 (pok _ _ _ p2) hlt y
    refine gg.l x σ H3 _ ?_
    have hs3 : SRep K B H3 (wipe σ vs) (wipeW ρ vs) := srep_wipe (hs.tk ((t1.trans t2).trans t3)) vs
    refine b.l x w (wipe σ vs) H3 (wipeW ρ vs) S2 _ _ r hs3 hh3 (pst i w acc S2 e p2) fun σ4 H4 ρ4 S4 t4 hs4 hh4 q4 => ?_
    refine c.l σ4 H4 ρ4 S4 _ _ hs4 hh4 q4 fun bb H5 S5 t5 hh5 q5 => ?_
    have t15 := ((t2.trans t3).trans t4).trans t5
    cases bb with
    | false =>
      rw [if_neg Bool.false_ne_true]
      exact ⟨acc, S5, t15, hh5, q5.2 rfl⟩
    | true =>
      rw [if_pos rfl]
      refine h1.l σ4 H5 ρ4 S5 _ _ (hs4.tk t5) hh5 (q5.1 rfl) fun J1 H6 S6 ws1 ok1 t6 hh6 src1 hP => ?_
      obtain ⟨P1, p10, p1ok, p1st, p1end⟩ := hP
      refine ⟨fun j k H' => k = ws1.length - j ∧ j ≤ ws1.length ∧ ∃ acc1 S', Tk H6 H' ∧ HRep K H' S' ∧ P1 j acc1 S', ⟨ws1.length, by simp, Nat.zero_le _, acc, S6, Tk.refl _, hh6, p10⟩, ?_⟩
      rintro j k H7 ⟨rfl, hj, acc1, S7, t7, hh7, p7⟩
      by_cases hjt : j < ws1.length
      · refine .inr ⟨src1.go j H7 S7 t7 hh7 (p1ok _ _ _ p7) hjt, fun H' => ∃ acc1 S', Tk H6 H' ∧ HRep K H' S' ∧ P1 (j + 1) acc1 S', fun H' z => ⟨ws1.length - (j + 1), by omega, rfl, hjt, z⟩, fun x1 H8 y1 => ?_⟩
        obtain ⟨t8, hh8, w1, e1, r1⟩ := src1.yld j H7 S7 x1 H8 t7 hh7 (p1ok _ _ _ p7) hjt y1
        refine gg1.l x1 σ4 H8 _ ?_
        have hs8 : SRep K B H8 (wipe σ4 vs1) (wipeW ρ4 vs1) := srep_wipe (hs4.tk (((t5.trans t6).trans t7).trans t8)) vs1
        refine b1.l x1 w1 (wipe σ4 vs1) H8 (wipeW ρ4 vs1) S7 _ _ r1 hs8 hh8 (p1st j w1 acc1 S7 e1 p7) fun σ9 H9 ρ9 S9 t9 hs9 hh9 q9 => ?_
        refine c1.l σ9 H9 ρ9 S9 _ _ hs9 hh9 q9 fun b2 H10 S10 t10 hh10 q10 => ?_
        have t710 := ((t7.trans t8).trans t9).trans t10
        cases b2 with
        | false =>
          rw [if_neg Bool.false_ne_true]
          exact ⟨acc1, S10, t710, hh10, q10.2 rfl⟩
        | true =>
          rw [if_pos rfl]
          refine a.l σ9 H10 ρ9 S10 _ _ (hs9.tk t10) hh10 (q10.1 rfl) fun z H11 wz S11 t11 hh11 r11 ⟨eD, hl, q11⟩ => ?_
          obtain ⟨vs', k1, k2⟩ := hh11 _ _ eD
          have t : Tk H11 (upd H11 D (.lst (vs' ++ [z]))) := Tk.mut k1 (fun _ z => (by cases z)) (fun _ _ z => (by cases z))
          obtain ⟨t, hm⟩ := hh11.mut (c' := .lst (acc1 ++ [wz])) (o := .lst (vs' ++ [z])) eD ⟨_, upd_same, (RepL.tk t _ _ k2).append (.one (Rep.tk t _ _ r11))⟩
          exact ⟨vs', k1, by rw [k2.length]; exact hl, _, _, (t710.trans t11).trans t, hm, q11⟩
      · have e : j = ws1.length := by omega
        subst e
        exact .inl ⟨src1.stop _ H7 S7 t7 hh7 (p1ok _ _ _ p7) (Nat.le_refl _), acc1, S7, (t15.trans t6).trans t7, hh7, p1end _ _ p7⟩
  · have e : i = ws.length := by omega
    subst e
    exact .inl ⟨src.stop _ H2 S2 t2 hh2 (pok _ _ _ p2) (Nat.le_refl _), po.ref (t1.trans t2) hh2 (pend _ _ p2)⟩⟩
theorem lc2_q {g : TGW} {tt : TTW} {wi1 : TIW} {g1 : TGW} {tt1 : TTW} {te : TEW} {vs vs1 : List Nat} {ρ : StW} {Q : WK} {ws : List W} {ok : Sto → Prop} {S1 : Sto} (h : ∀ D, S1 D = none → ∃ P : Nat → List W → Sto → Prop, P 0 [] (put S1 D (.lst [])) ∧
  (∀ i acc S', P i acc S' → ok S') ∧
  (∀ i w acc S', ws[i]? = some w → P i acc S' → g w (wipeW ρ vs) S' fun ρ2 S2 => tt ρ2 S2 fun b S3 => (b = true → wi1 ρ2 S3 fun ws1 ok1 S4 => ∃ P1 : Nat → List W → Sto → Prop, P1 0 acc S4 ∧
    (∀ j acc1 S', P1 j acc1 S' → ok1 S') ∧
    (∀ j w1 acc1 S', ws1[j]? = some w1 → P1 j acc1 S' → g1 w1 (wipeW ρ2 vs1) S' fun ρ3 S5 => tt1 ρ3 S5 fun b1 S6 =>
      (b1 = true → te ρ3 S6 fun y S7 => S7 D = some (.lst acc1) ∧ acc1.length < sizeLine ∧ P1 (j + 1) (acc1 ++ [y]) (put S7 D (.lst (acc1 ++ [y])))) ∧ (b1 = false → P1 (j + 1) acc1 S6)) ∧
    ∀ acc1 S', P1 ws1.length acc1 S' → P (i + 1) acc1 S') ∧ (b = false → P (i + 1) acc S3)) ∧
  ∀ acc S', P ws.length acc S' → Q (.ref D) S') : Lc2Q g tt wi1 g1 tt1 te vs vs1 ρ Q ws ok S1 := by unfold Lc2Q; exact h
end Wl
set_option Elab.async false
set_option linter.all false
set_option maxRecDepth 100000
set_option maxHeartbeats 2000000
/-! dict(d), list(d) over data. -/
namespace Wl
open PySem PySem.Spec PyProof.Rows L2
variable {K : PySem.W.Frag} {B : Hp} {w : World}
/-- a written dict of the module, in its order -/
structure DcAt (K : PySem.W.Frag) (w : World) (a : Addr) (kvs : List (Str × W)) : Prop where
  ex : ∃ es n, KDict K w a es n ∧ DkEs K kvs es.toList
  nd : (kvs.map (·.1)).Nodup
  sz : kvs.length ≤ sizeLine
theorem dcAt_of {a : Addr} {kvs : List (Str × W)} {es : Array DictEntry} {n : Nat} (hl : K.lookup a = some ⟨.type "dict", none, .dict es n, #[]⟩) (hk : PySem.W.KeysLit w.params es.toList) (low : (a == sysModules) = false) (h : DkEs K kvs es.toList) (nd : (kvs.map (·.1)).Nodup) (sz : kvs.length ≤ sizeLine) : DcAt K w a kvs :=
  ⟨⟨es, n, ⟨hl, hk, low⟩, h⟩, nd, sz⟩
def skW (kvs : List (Str × W)) : List (Key × W) := kvs.map fun kv => (.inr kv.1, kv.2)
/-- a dict of the module whose entries are told by xs -/
structure CpAt (K : PySem.W.Frag) (w : World) (a : Addr) (xs : List (Key × V)) : Prop where
  low : (a == sysModules) = false
  sz : xs.length ≤ sizeLine
  at_ : ∀ (P : Program) (h : Heap), K.In h → ∃ vs, KV xs vs ∧ h.DictOf (mixKind P w) a vs
theorem DkEs.told {kvs : List (Str × W)} {es : List DictEntry} (h : DkEs K kvs es) : ∃ (xs : List (Key × V)) (vs : List (Key × Value)), KV xs vs ∧ (∀ P : Program, Pairs (mixKind P w) es vs) ∧ xs.length = kvs.length ∧ vs.map (·.1) = kvs.map (fun kv => (Sum.inr kv.1 : Key)) ∧ ∀ H, RepKV K H (skW kvs) xs := by
  induction h with
  | nil => exact ⟨[], [], .nil, fun _ => .nil, rfl, rfl, fun _ => rfl⟩
  | @cons k wd t hh u kvs es e h1 h2 h3 h4 h5 ih =>
    obtain ⟨xs, vs, r1, r2, r3, r4, r5⟩ := ih
    obtain ⟨v, hv, rv⟩ := h4
    refine ⟨(.inr k, v) :: xs, (.inr k, u) :: vs, .cons ⟨rfl, hv⟩ r1, fun P => .cons ?_ h2 (r2 P), by rw [List.length_cons, r3, List.length_cons], by rw [List.map_cons, r4]; rfl, fun H => ⟨v, xs, rfl, rv H, r5 H⟩⟩
    rw [h1]
    show Value.isStrOf k (.str k t) = true
    exact decide_eq_true rfl
theorem DcAt.cp {a : Addr} {kvs : List (Str × W)} (d : DcAt K w a kvs) : ∃ xs : List (Key × V), CpAt K w a xs ∧ ∀ H, RepKV K H (skW kvs) xs := by
  obtain ⟨es, n, D, E⟩ := d.ex
  obtain ⟨xs, vs, r1, r2, r3, r4, r5⟩ := E.told (w := w)
  refine ⟨xs, ⟨D.low, by rw [r3]; exact d.sz, fun P h hK => ⟨vs, r1, _, es, n, hK _ _ D.at_, ⟨rfl, rfl, rfl⟩, rfl, fun e he => ?_, r2 P, ?_⟩⟩, r5⟩
  · obtain ⟨x, t, e1, e2⟩ := D.lit.all e (Array.mem_toList_iff.mpr he)
    refine ⟨.inr x, ?_, e2⟩
    rw [e1]
    show Value.isStrOf x (.str x t) = true
    exact decide_eq_true rfl
  · rw [r4]
    have e : kvs.map (fun kv => (Sum.inr kv.1 : Key)) = (kvs.map (·.1)).map Sum.inr := by rw [List.map_map]; rfl
    rw [e]
    exact d.nd.map _ fun a b h q => h (Sum.inr.inj q)
def rDictA (K : PySem.W.Frag) (w : World) : List V → Hp → VK → Prop := fun xs H Q => ∃ (a : Addr) (kvs : List (Key × V)), xs = [.ref a] ∧ (Rd H a (.dK kvs) ∨ CpAt K w a kvs) ∧ ∀ p, H p = none → Q (.ref p) (upd H p (.dK kvs))
theorem k_dictA (K : PySem.W.Frag) (w : World) {X : Cx} (hK : X.K = K := by rfl) (hw : X.w = w := by rfl) : CallR X (.type "dict") (rDictA K w) := by
  subst hK hw
  intro pins s σ H vs us Q I r h
  obtain ⟨a, kvs, rfl, hd, q⟩ := h
  rw [Vals.ref1 r]
  rcases hd with hd | hd
  · exact d_copyOf I hd fun p s' hp I' => ⟨.ref p, _, I', rfl, q p hp⟩
  · obtain ⟨vs, rel, dd⟩ := hd.at_ X.prog s.heap I.kIn
    refine kt_call_dict hd.low dd (by rw [← rel.length]; exact hd.sz) fun g dd' hs => ⟨.ref s.heap.objs.size, _, I.laid (a := s.heap.objs.size) (o := .dK kvs) (t' := s.toks) (fun b z hz => (hs.2 b (Nat.ne_of_lt (Heap.lt_size hz))).trans (Heap.get?_push_of_some _ hz)) (Nat.le_refl _) (dk_new hd.sz (beq_eq_false_iff_ne.mpr (Ne.symm (Nat.ne_of_lt I.big))) rel dd'), rfl, q _ (I.hok.fresh (Nat.le_refl _))⟩
def wDictA (K : PySem.W.Frag) (w : World) : RWC := fun ws S Q => match ws with
  | [.ref a] => (∃ kvs, S a = some (.dk kvs) ∧ ∀ p, S p = none → Q (.ref p) (put S p (.dk kvs))) ∨ ∃ ks, DcAt K w a ks ∧ ∀ p, S p = none → Q (.ref p) (put S p (.dk (skW ks)))
  | _ => False
instance lc_dictA : LCR K (rDictA K w) (wDictA K w) := ⟨fun H S xs ws Q Qw hh r q po => by
  unfold wDictA at q
  split at q
  · obtain ⟨x, rfl, rx⟩ := rep1 r
    cases (show x = _ from rx)
    rcases q with ⟨kvs, e, q⟩ | ⟨ks, d, q⟩
    · obtain ⟨ys, h1, h2⟩ := hh _ _ e
      exact ⟨_, ys, rfl, .inl (Rd.of h1), fun p hp => po.ref (Tk.new hp) (hh.new (c := .dk kvs) hp ⟨ys, upd_same, RepKV.tk (Tk.new hp) _ _ h2⟩) (q p (hh.fresh hp))⟩
    · obtain ⟨ys, c, h2⟩ := d.cp
      exact ⟨_, ys, rfl, .inr c, fun p hp => po.ref (Tk.new hp) (hh.new (c := .dk (skW ks)) hp ⟨ys, upd_same, h2 _⟩) (q p (hh.fresh hp))⟩
  · exact q.elim⟩
/-! ### list(d) -/
def rListB (K : PySem.W.Frag) : List V → Hp → VK → Prop := fun xs H Q => rListA K xs H Q ∨ ∃ p kvs, xs = [.ref p] ∧ H p = some (.dK kvs) ∧ ∀ q, H q = none → Q (.ref q) (upd H q (.lst (kvs.map fun kv => kV kv.1)))
theorem k_listB (K : PySem.W.Frag) {X : Cx} (hc : X.calm = true) (hK : X.K = K := by rfl) : CallR X (.type "list") (rListB K) := by
  subst hK
  intro pins s σ H vs us Q I r h
  rcases h with h | h
  · exact call_list_of pins s σ H vs us Q I r h
  · exact call_list_dK hc pins s σ H vs us Q I r h
def wListB : RWC := fun ws S Q => match ws with
  | [.ref a] => (∃ ws, S a = some (.lst ws) ∧ ∀ p, S p = none → Q (.ref p) (put S p (.lst ws))) ∨ ∃ kvs, S a = some (.dk kvs) ∧ ∀ p, S p = none → Q (.ref p) (put S p (.lst (kvs.map fun kv => keyW kv.1)))
  | ws => wList ws S Q
theorem keys_rep {H : Hp} : ∀ {kvs : List (Key × W)} {ys : List (Key × V)}, RepKV K H kvs ys → RepL K H (kvs.map fun kv => keyW kv.1) (ys.map fun kv => kV kv.1)
  | [], _, rfl => .nil
  | (.inl k, x) :: kvs, _, ⟨v, r, rfl, _, h⟩ => .cons rfl (keys_rep h)
  | (.inr k, x) :: kvs, _, ⟨v, r, rfl, _, h⟩ => .cons rfl (keys_rep h)
instance lc_listB : LCR K (rListB K) wListB := ⟨fun H S xs ws Q Qw hh r q po => by
  unfold wListB at q
  split at q
  · rcases q with q | ⟨kvs, e, q⟩
    · exact .inl (lc_list.l H S xs _ Q Qw hh r (by unfold wList; exact q) po)
    · obtain ⟨x, rfl, rx⟩ := rep1 r
      cases (show x = _ from rx)
      obtain ⟨ys, h1, h2⟩ := hh _ _ e
      exact .inr ⟨_, ys, rfl, h1, fun p hp => po.nlst hp hh (keys_rep h2) q⟩
  · exact .inl (lc_list.l H S xs _ Q Qw hh r q po)⟩
end Wl
set_option Elab.async false
set_option linter.all false
set_option maxRecDepth 100000
set_option maxHeartbeats 2000000
/-! try: .. except C as e: .. over data; isinstance of the error that the suite holds. -/
namespace Wl
open PySem PySem.Spec PyProof.Rows L2
variable {K : PySem.W.Frag} {B : Hp}
theorem SRep.gone {H : Hp} {σ : L2.St} {ρ : StW} (h : SRep K B H σ ρ) (i : Nat) : SRep K B H (σ.set i none) (ρ.set i none) := ⟨h.bs, by rw [List.length_set, List.length_set, h.len], fun j z e => by
  by_cases q : i = j
  · subst q
    by_cases hl : i < ρ.length
    · rw [List.getElem?_set_self hl] at e
      cases e
    · rw [List.getElem?_eq_none (by rw [List.length_set]; omega)] at e
      cases e
  · rw [List.getElem?_set_ne q] at e ⊢
    exact h.at_ j z e⟩
/-- behind the suite the name of the error is gone -/
abbrev goneD (i : Nat) (D : Ends) : Ends := { nx := fun σ' H' => D.nx (σ'.set i none) H', rt := D.rt, bk := fun σ' H' => D.bk (σ'.set i none) H', ct := fun σ' H' => D.ct (σ'.set i none) H' }
abbrev goneW (i : Nat) (D : EndsW) : EndsW := { nx := fun σ' H' => D.nx (σ'.set i none) H', rt := D.rt, bk := fun σ' H' => D.bk (σ'.set i none) H', ct := fun σ' H' => D.ct (σ'.set i none) H' }
theorem PoD.gone {H : Hp} {D : Ends} {Dw : EndsW} (h : PoD K B H D Dw) (i : Nat) : PoD K B H (goneD i D) (goneW i Dw) :=
  ⟨fun σ' H' ρ' S' t hs => h.nx _ H' _ S' t (hs.gone i), fun σ' H' ρ' S' t hs => h.bk _ H' _ S' t (hs.gone i), fun σ' H' ρ' S' t hs => h.ct _ H' _ S' t (hs.gone i), h.rt⟩
def tTryAs (K : PySem.W.Frag) (c : Value) (i : Nat) (tb : WX → TS) (ts : Addr → Value → Option Addr → TS) (Wout : WX) (tbw : XW → TSW) (_ : HbW K tb tbw) : TS := fun D σ H => tWeak tb (wAs K c i ts Wout D) D σ H
def wTryAs (K : PySem.W.Frag) (c : Value) (i : Nat) (tb : XW → TSW) (ts : Addr → Value → Option Addr → TSW) (Xout : XW) : TSW := fun D ρ S =>
  tb (fun ex ρ' S' => ∃ b, PySem.W.exmOne K ex.cls c = some b ∧ (b = true → ∀ a d, S' a = none → (ex.fs = [] → d = none) → ts a ex.cls d (goneW i D) (ρ'.set i (some (.ref a))) S') ∧ (b = false → Xout ex ρ' S')) D ρ S
instance ls_tryAs {c : Value} {i : Nat} {tb : WX → TS} {ts : Addr → Value → Option Addr → TS} {Wout : WX} {tbw : XW → TSW} {hb : HbW K tb tbw} {tsw : Addr → Value → Option Addr → TSW} {Xout : XW} [px : PX K B Wout Xout]
    [hsu : ∀ a cls d, LS K B (ts a cls d) (tsw a cls d)] : LS K B (tTryAs K c i tb ts Wout tbw hb) (wTryAs K c i tbw tsw Xout) := ⟨fun σ H ρ S D Dw hs hh q po => by
  refine ⟨Wc K H (fun ex ρ' S' => ∃ b, PySem.W.exmOne K ex.cls c = some b ∧ (b = true → ∀ a d, S' a = none → (ex.fs = [] → d = none) → tsw a ex.cls d (goneW i Dw) (ρ'.set i (some (.ref a))) S') ∧ (b = false → Xout ex ρ' S')), ?_, ?_⟩
  · rintro cls d σ' H' ⟨ex, ρ', S', hs', hh', r, b, e1, e2, e3⟩
    have rc := r.1
    have rd := r.2
    refine ⟨b, by rw [rc]; exact e1, fun hbt a ha => ?_, fun hbf => px.l cls d σ' H' ex ρ' S' (hs'.rebase hs.bs) hh' r (e3 hbf)⟩
    have hna : S' a = none := by
      cases q : S' a with
      | none => rfl
      | some c0 =>
        have z := hh' a c0 q
        cases c0 with
        | lst ys => obtain ⟨x, z, _⟩ := z; rw [ha] at z; cases z
        | dk ys => obtain ⟨x, z, _⟩ := z; rw [ha] at z; cases z
        | ins C0 fs0 => obtain ⟨x, gs, z, _⟩ := z; rw [ha] at z; cases z
    have hdn : ex.fs = [] → d = none := by
      rcases rd with ⟨h1, _⟩ | ⟨h1, _⟩
      · exact fun _ => h1
      · exact fun z => absurd z h1
    rw [rc]
    exact (hsu a ex.cls d).l (σ'.set i (some (.ref a))) H' (ρ'.set i (some (.ref a))) S' (goneD i D) (goneW i Dw) ((hs'.rebase hs.bs).set i rfl) hh' (e2 hbt a d hna hdn) ((po.tk hs'.bs).gone i)
  · exact (hb H _).l σ H ρ S D Dw hs.top hh q (po.rebase hs.bs)⟩
theorem ps_tryAs (K : PySem.W.Frag) {X : Cx} {x n : Str} {c : Value} {i : Nat} {body suite : List Stmt} {b₀ : Stmt} {np pos pos' : Pos} {tb : WX → TS} {ts : Addr → Value → Option Addr → TS} {Wout : WX} {tbw : XW → TSW} (hs : X.stack = X.env :: X.outer) (hf : X.env.frame = some X.env.locals)
    (hN : X.N.Nodup) (hi : X.N[i]? = some n) (hln : X.env.kindOf n = some .local) (hc : Names X x c) (tk : Takes X Wout)
    (hb : ∀ (W : WX) (pn : List (Addr × Obj)) (xe : Value → Shared → Prop), Takes (X.tr pn xe) W → PassesOwn (model X.prog X.w) X.A X.env xe → PSs (X.tr pn xe) body (tb W))
    (hsu : ∀ (a : Addr) (oe : Obj) (cls : Value) (d : Option Addr) (pn : List (Addr × Obj)), Zc cls d oe → (∃ vs, oe.data = .fields vs) → PSs (X.suite a ((a, oe) :: pn)) (b₀ :: suite) (ts a cls d)) (hbw : HbW K tb tbw) (hK : X.K = K := by rfl) :
    PS X (.Try body [.ExceptHandler (some (.Name x np)) (some n) (b₀ :: suite) pos'] [] [] pos) (tTryAs K c i tb ts Wout tbw hbw) := by
  subst hK
  exact ps_try_as (tb := tWeak tb) hs hf hN hi hln hc tk (fun W pn xe tkb pob => pss_weak tkb fun W' tk' => hb W' pn xe tk' pob) hsu

/-! ### isinstance(e, C), isinstance(e, (C, ..)) -/
def rIsEW (K : PySem.W.Frag) (cls : Value) (d : Option Addr) (a : Addr) : List V → Hp → VK → Prop := fun xs H Q => ∃ (D : Addr) (c : V) (b : Bool), cls = .ref D ∧ d = none ∧ ExcC K D ∧ xs = [.ref a, c] ∧
  ((∃ cv, ClsV c cv ∧ PySem.W.kitOne K (.ref D) cv = some b) ∨ (∃ tp cs us, c = .ref tp ∧ SqT K H tp cs ∧ Paired ClsV cs us ∧ PySem.W.kitAny K (.ref D) us = some b)) ∧ Q (.bl b) H
theorem k_isE (K : PySem.W.Frag) {X : Cx} {a : Addr} {oe : Obj} {cls : Value} {d : Option Addr} {pn : List (Addr × Obj)} (hz : Zc cls d oe) (hf : ∃ vs, oe.data = .fields vs) (hK : X.K = K := by rfl) : CallR (X.suite a ((a, oe) :: pn)) (.builtin "isinstance") (rIsEW K cls d a) := by
  subst hK
  intro pins s σ H xs us Q I r h
  obtain ⟨D, c, b, rfl, rfl, C, rfl, h, q⟩ := h
  cases r with
  | cons rx rr =>
    cases rr with
    | cons rt rr =>
      cases rr
      cases rx
      obtain ⟨hget, _⟩ := I.pin (a, oe) (List.mem_append.mpr (.inl List.mem_cons_self))
      obtain ⟨vs, hv⟩ := hf
      have J : PySem.W.InstAt s.heap a oe D none := by
        obtain ⟨oc, od, oda, osl⟩ := oe
        obtain ⟨h1, h2⟩ := hz
        dsimp only at h1 h2 hv
        subst h1 h2 hv
        exact ⟨hget, rfl, rfl, trivial⟩
      have Z := PySem.W.handS_kitx_exc (x := a) (ox := oe) C.hg C.hk C.hs C.hd C.ha C.hn C.ht C.hm
      rcases h with ⟨cv, k, e⟩ | ⟨tp, cs, ws, rfl, hT, k, e⟩
      · have ec := k.eq rt
        subst ec
        exact PySem.W.kia_one Z I.kIn J e (fun z => nomatch z) fun tk => ⟨.bl b, H, I.kept (t' := tk) fun _ _ z => z, rfl, q⟩
      · cases (show _ = Value.ref tp from rt)
        obtain ⟨its, rv, ⟨o, h1, h2, n, h3⟩, _⟩ := I.tuple hT
        have e3 := ClsV.all k rv
        subst e3
        obtain ⟨oc, od, dt, sl⟩ := o
        simp only at h2 h3
        subst h2 h3
        exact PySem.W.kia_tup Z I.kIn J h1 e (fun z => nomatch z) fun tk => ⟨.bl b, H, I.kept (t' := tk) fun _ _ z => z, rfl, q⟩
/-- a class as data -/
def clsW : W → Option Value
  | .ref C => some (.ref C)
  | .ty n => some (.type n)
  | _ => none
def clsWs : List W → Option (List Value)
  | [] => some []
  | x :: xs => match clsW x, clsWs xs with
    | some u, some us => some (u :: us)
    | _, _ => none
theorem clsW_rep {H : Hp} {x : W} {v : V} {u : Value} (r : Rep K H x v) (e : clsW x = some u) : ClsV v u := by
  cases x <;> first | cases e | skip
  · cases (show v = _ from r); exact .ty _
  · cases (show v = _ from r); exact .own _
theorem clsWs_rep {H : Hp} : ∀ {xs : List W} {vs : List V} {us : List Value}, RepL K H xs vs → clsWs xs = some us → Paired ClsV vs us
  | [], _, _, r, e => by
    cases (show _ = [] from r); cases e; exact .nil
  | x :: xs, _, _, r, e => by
    obtain ⟨v, vs, rfl, h1, h2⟩ := r
    unfold clsWs at e
    split at e
    · rename_i u us e1 e2
      cases e
      exact .cons (clsW_rep h1 e1) (clsWs_rep h2 e2)
    · cases e
def wIsE (K : PySem.W.Frag) (cls : Value) (d : Option Addr) (a : Addr) : RWC := fun ws S Q => match ws with
  | [.ref a', .tup cs] => a' = a ∧ d = none ∧ ∃ D us b, cls = .ref D ∧ ExcC K D ∧ clsWs cs = some us ∧ PySem.W.kitAny K (.ref D) us = some b ∧ Q (.bl b) S
  | [.ref a', c] => a' = a ∧ d = none ∧ ∃ D u b, cls = .ref D ∧ ExcC K D ∧ clsW c = some u ∧ PySem.W.kitOne K (.ref D) u = some b ∧ Q (.bl b) S
  | _ => False
instance lc_isE {cls : Value} {d : Option Addr} {a : Addr} : LCR K (rIsEW K cls d a) (wIsE K cls d a) := ⟨fun H S xs ws Q Qw hh r q po => by
  unfold wIsE at q
  split at q
  · obtain ⟨x, y, rfl, h1, h2⟩ := rep2 r
    cases (show x = _ from h1)
    obtain ⟨p, vs, rfl, h3, h4⟩ := h2
    obtain ⟨rfl, rfl, D, us, b, rfl, C, e1, e2, q⟩ := q
    exact ⟨D, _, b, rfl, rfl, C, rfl, .inr ⟨p, vs, us, rfl, h3, clsWs_rep h4 e1, e2⟩, po.bl (Tk.refl H) hh q⟩
  · obtain ⟨x, y, rfl, h1, h2⟩ := rep2 r
    cases (show x = _ from h1)
    obtain ⟨rfl, rfl, D, u, b, rfl, C, e1, e2, q⟩ := q
    exact ⟨D, _, b, rfl, rfl, C, rfl, .inl ⟨u, clsW_rep h2 e1, e2⟩, po.bl (Tk.refl H) hh q⟩
  · exact q.elim⟩
end Wl
set_option Elab.async false
set_option linter.all false
set_option maxRecDepth 100000
set_option maxHeartbeats 2000000
/-! chains of three, try with several clauses, a call of a local that holds a def that may raise. -/
namespace Wl
open PySem PySem.Spec PyProof.Rows L2
variable {K : PySem.W.Frag} {B : Hp}
/-! ### a o1 b o2 c o3 d -/
def tChain3 (r1 r2 r3 : R2) (ta tb tc td : TE) : TE := fun σ H Q => ta σ H fun x H1 => tb σ H1 fun y H2 => r1 x y H2 fun z H3 => ∃ k, z = .bl k ∧
  (if k = true then tc σ H3 fun w H4 => r2 y w H4 fun z2 H5 => ∃ k2, z2 = .bl k2 ∧ (if k2 = true then td σ H5 fun u H6 => r3 w u H6 Q else Q (.bl false) H5) else Q (.bl false) H3)
theorem pe_chain3 {X : Cx} {a b c d : Expr} {ta tb tc td : TE} {pos : Pos} {o1 o2 o3 : CmpOp} {r1 r2 r3 : R2} (h1 : OpR X (compareOp o1) r1) (h2 : OpR X (compareOp o2) r2) (h3 : OpR X (compareOp o3) r3) (ha : PE X a ta) (hb : PE X b tb) (hc : PE X c tc) (hd : PE X d td)
    (hm : lastMarks [o1, o2, o3] [b, c, d] = false := by with_unfolding_all rfl) : PE X (.Compare a [o1, o2, o3] [b, c, d] pos) (tChain3 r1 r2 r3 ta tb tc td) := by
  refine ⟨fun pins s σ H Q I h => ?_⟩
  refine Compare_chain (thn (ha.run pins s σ H _ I h) fun v s1 ⟨x, H1, I1, e1, q1⟩ => chain_link (thn (hb.run pins s1 σ H1 _ I1 q1) fun u s2 ⟨y, H2, I2, e2, q2⟩ =>
    thn (h1 pins s2 σ H2 x y v u _ I2 e1 e2 q2) fun d s3 ⟨z, H3, I3, e3, k, e, q3⟩ => ?_)) hm
  subst e
  cases e3
  refine wpAny_truthy_bool ?_
  cases k with
  | false => exact ite_ff ⟨.bl false, H3, I3, rfl, q3⟩
  | true =>
    refine ite_tt (chain_link (thn (hc.run pins s3 σ H3 _ I3 q3) fun u' s4 ⟨w', H4, I4, e4, q4⟩ => thn (h2 pins s4 σ H4 y w' u u' _ I4 e2 e4 q4) fun d' s5 ⟨z2, H5, I5, e5, k2, e', q5⟩ => ?_))
    subst e'
    cases e5
    refine wpAny_truthy_bool ?_
    cases k2 with
    | false => exact ite_ff ⟨.bl false, H5, I5, rfl, q5⟩
    | true => exact ite_tt (chain_last (thn (hd.run pins s5 σ H5 _ I5 q5) fun u2 s6 ⟨z', H6, I6, e6, q6⟩ => h3 pins s6 σ H6 w' z' u' u2 Q I6 e4 e6 q6))
theorem pt_chain3 {X : Cx} {a b c d : Expr} {ta tb tc td : TE} {pos : Pos} {o1 o2 o3 : CmpOp} {r1 r2 r3 : R2} (h1 : OpR X (compareOp o1) r1) (h2 : OpR X (compareOp o2) r2) (h3 : OpR X (compareOp o3) r3) (ha : PE X a ta) (hb : PE X b tb) (hc : PE X c tc) (hd : PE X d td)
    (hm : lastMarks [o1, o2, o3] [b, c, d] = false := by with_unfolding_all rfl) : PT X (.Compare a [o1, o2, o3] [b, c, d] pos) (tTest (tChain3 r1 r2 r3 ta tb tc td)) := by
  refine ⟨fun pins s σ H Q I h => ?_⟩
  refine isTrue_chain (thn (ha.run pins s σ H _ I h) fun v s1 ⟨x, H1, I1, e1, q1⟩ => test_link (thn (hb.run pins s1 σ H1 _ I1 q1) fun u s2 ⟨y, H2, I2, e2, q2⟩ =>
    thn (h1 pins s2 σ H2 x y v u _ I2 e1 e2 q2) fun d s3 ⟨z, H3, I3, e3, k, e, q3⟩ => ?_)) hm
  subst e
  cases e3
  refine wpAny_truthy_bool ?_
  cases k with
  | false =>
    obtain ⟨k', e', q'⟩ := q3
    cases e'
    exact ite_ff ⟨H3, I3, q'⟩
  | true =>
    refine ite_tt (test_link (thn (hc.run pins s3 σ H3 _ I3 q3) fun u' s4 ⟨w', H4, I4, e4, q4⟩ => thn (h2 pins s4 σ H4 y w' u u' _ I4 e2 e4 q4) fun d' s5 ⟨z2, H5, I5, e5, k2, e', q5⟩ => ?_))
    subst e'
    cases e5
    refine wpAny_truthy_bool ?_
    cases k2 with
    | false =>
      obtain ⟨k', e', q'⟩ := q5
      cases e'
      exact ite_ff ⟨H5, I5, q'⟩
    | true =>
      refine ite_tt (test_last (thn (hd.run pins s5 σ H5 _ I5 q5) fun u2 s6 ⟨z', H6, I6, e6, q6⟩ => thn (h3 pins s6 σ H6 w' z' u' u2 _ I6 e4 e6 q6) fun d' s7 ⟨z7, H7, I7, r7, k7, e7, q7⟩ => ?_))
      subst e7
      cases r7
      exact wpAny_truthy_bool ⟨H7, I7, q7⟩
def wChain3 (r1 r2 r3 : RW2) (ta tb tc td : TEW) : TEW := fun ρ S Q => ta ρ S fun x S1 => tb ρ S1 fun y S2 => r1 x y S2 fun z S3 => match z with
  | .bl k => (k = true → tc ρ S3 fun w S4 => r2 y w S4 fun z2 S5 => match z2 with
    | .bl k2 => (k2 = true → td ρ S5 fun u S6 => r3 w u S6 Q) ∧ (k2 = false → Q (.bl false) S5)
    | _ => False) ∧ (k = false → Q (.bl false) S3)
  | _ => False
instance le_chain3 {r1 r2 r3 : R2} {ta tb tc td : TE} {rw1 rw2 rw3 : RW2} {wa wb wc wd : TEW} [h1 : L2R K r1 rw1] [h2 : L2R K r2 rw2] [h3 : L2R K r3 rw3] [a : LE K B ta wa] [b : LE K B tb wb] [c : LE K B tc wc] [d : LE K B td wd] : LE K B (tChain3 r1 r2 r3 ta tb tc td) (wChain3 rw1 rw2 rw3 wa wb wc wd) := ⟨fun σ H ρ S Q Qw hs hh q po =>
  a.l σ H ρ S _ _ hs hh q fun x H1 wx S1 t1 hh1 e1 q1 => b.l σ H1 ρ S1 _ _ (hs.tk t1) hh1 q1 fun y H2 wy S2 t2 hh2 e2 q2 =>
    h1.l H2 S2 x y wx wy _ _ hh2 (Rep.tk t2 _ _ e1) e2 q2 fun z H3 wz S3 t3 hh3 e3 q3 => by
      cases wz <;> try exact q3.elim
      rename_i k
      cases (show z = _ from e3)
      refine ⟨k, rfl, ?_⟩
      have t03 := (t1.trans t2).trans t3
      cases k with
      | true =>
        rw [if_pos rfl]
        refine c.l σ H3 ρ S3 _ _ (hs.tk t03) hh3 (q3.1 rfl) fun w H4 ww S4 t4 hh4 e4 q4 => h2.l H4 S4 y w wy ww _ _ hh4 (Rep.tk (t3.trans t4) _ _ e2) e4 q4 fun z2 H5 wz2 S5 t5 hh5 e5 q5 => ?_
        cases wz2 <;> try exact q5.elim
        rename_i k2
        cases (show z2 = _ from e5)
        refine ⟨k2, rfl, ?_⟩
        have t05 := (t03.trans t4).trans t5
        cases k2 with
        | true =>
          rw [if_pos rfl]
          exact d.l σ H5 ρ S5 _ _ (hs.tk t05) hh5 (q5.1 rfl) fun u H6 wu S6 t6 hh6 e6 q6 => h3.l H6 S6 w u ww wu Q Qw hh6 (Rep.tk (t5.trans t6) _ _ e4) e6 q6 (po.tk (t05.trans t6))
        | false =>
          rw [if_neg Bool.false_ne_true]
          exact po.bl t05 hh5 (q5.2 rfl)
      | false =>
        rw [if_neg Bool.false_ne_true]
        exact po.bl t03 hh3 (q3.2 rfl)⟩

/-! ### try: .. except C1: .. except C2: .. -/
abbrev HsL := List (Value × (Addr → Value → Option Addr → TS))
abbrev HsW := List (Value × TSW)
class LHs (K : PySem.W.Frag) (l : HsL) (lw : outParam HsW) : Prop where
  l : ∀ {B : Hp} {Wout : WX} {Xout : XW} {D : Ends} {Dw : EndsW} {cls : Value} {d : Option Addr} {σ : L2.St} {H H0 : Hp} {ex : Ex} {ρ : StW} {S : Sto}, PX K B Wout Xout → PoD K B H0 D Dw → Tk H0 H → SRep K B H σ ρ → HRep K H S → RepX K H ex cls d →
    (lw.foldr (fun (h : Value × TSW) (X : XW) => (fun ex ρ S => ∃ b, PySem.W.exmOne K ex.cls h.1 = some b ∧ (b = true → h.2 Dw ρ S) ∧ (b = false → X ex ρ S) : XW)) Xout) ex ρ S → wMany K Wout D l cls d σ H
instance lhs_nil : LHs K [] [] := ⟨fun px po t hs hh r q => px.l _ _ _ _ _ _ _ hs hh r q⟩
instance lhs_cons {c : Value} {ts : Addr → Value → Option Addr → TS} {l : HsL} {tsw : TSW} {lw : HsW} [hsu : ∀ (B : Hp) a cls d, LS K B (ts a cls d) tsw] [r : LHs K l lw] : LHs K ((c, ts) :: l) ((c, tsw) :: lw) :=
  ⟨fun {B Wout Xout D Dw cls d σ H H0 ex ρ S} px po t hs hh rx q => by
    obtain ⟨b, e1, e2, e3⟩ := q
    refine ⟨b, by rw [rx.1]; exact e1, fun hb a ha => (hsu B a cls d).l σ H ρ S D Dw hs hh (e2 hb) (po.tk t), fun hb => r.l px po t hs hh rx (e3 hb)⟩⟩
def tTryM (K : PySem.W.Frag) (l : HsL) (tb : WX → TS) (Wout : WX) (tbw : XW → TSW) (_ : HbW K tb tbw) : TS := fun D σ H => tWeak tb (wMany K Wout D l) D σ H
def wTryM (K : PySem.W.Frag) (lw : HsW) (tb : XW → TSW) (Xout : XW) : TSW := fun D ρ S =>
  tb (lw.foldr (fun (h : Value × TSW) (X : XW) => (fun ex ρ S => ∃ b, PySem.W.exmOne K ex.cls h.1 = some b ∧ (b = true → h.2 D ρ S) ∧ (b = false → X ex ρ S) : XW)) Xout) D ρ S
instance ls_tryM {l : HsL} {lw : HsW} {tb : WX → TS} {Wout : WX} {tbw : XW → TSW} {hb : HbW K tb tbw} {Xout : XW} [px : PX K B Wout Xout] [hl : LHs K l lw] : LS K B (tTryM K l tb Wout tbw hb) (wTryM K lw tbw Xout) := ⟨fun σ H ρ S D Dw hs hh q po => by
  refine ⟨Wc K H _, ?_, (hb H _).l σ H ρ S D Dw hs.top hh q (po.rebase hs.bs)⟩
  rintro cls d σ' H' ⟨ex, ρ', S', hs', hh', r, q'⟩
  exact hl.l px po hs'.bs (hs'.rebase hs.bs) hh' r q'⟩
theorem ps_tryM (K : PySem.W.Frag) {X : Cx} {body : List Stmt} {h₀ : ExceptHandler} {hds : List ExceptHandler} {l : HsL} {pos : Pos} {tb : WX → TS} {Wout : WX} {tbw : XW → TSW} (hs : X.stack = X.env :: X.outer) (hf : X.env.frame = some X.env.locals) (tk : Takes X Wout)
    (hb : ∀ (W : WX) (pn : List (Addr × Obj)) (xe : Value → Shared → Prop), Takes (X.tr pn xe) W → PassesOwn (model X.prog X.w) X.A X.env xe → PSs (X.tr pn xe) body (tb W))
    (hh : HdsOk X (h₀ :: hds) l) (hbw : HbW K tb tbw) (hK : X.K = K := by rfl) : PS X (.Try body (h₀ :: hds) [] [] pos) (tTryM K l tb Wout tbw hbw) := by
  subst hK
  exact ps_try_many (tb := tWeak tb) hs hf tk (fun W pn xe tkb pob => pss_weak tkb fun W' tk' => hb W' pn xe tk' pob) hh

/-! ### a call of a local -/
structure HeldX (P : Program) (w : World) (K : PySem.W.Frag) (mg : Str → Option Value) (base : Heap) (k : Nat) (f : Addr) (sp : SpX) : Prop where
  ex : ∃ (fd : FuncData) (ps : List Str), FnOk P w K mg base (L2.CX P w) k f fd ps (liftX K sp) ∧ PySem.W.keepIn K (.ref f) = true ∧ Binds K fd ps []
theorem CalX.held {P : Program} {w : World} {mg : Str → Option Value} {base : Heap} {k j : Nat} {x : Str} {sp : SpX} {f : Addr} (c : CalX P w K mg base k x sp) (hm : mg x = some (.ref f)) (h : k ≤ j) : HeldX P w K mg base j f sp := by
  obtain ⟨f', fd, ps, F, hm', kp, b⟩ := c.ex
  rw [hm] at hm'
  cases hm'
  exact ⟨fd, ps, F.mono h, kp, b⟩
def tCallXV (K : PySem.W.Frag) (HX : Addr → SpX → Prop) (i : Nat) (W : WX) (t : TA) : TE := fun σ H Q => ∃ f sp, σ[i]? = some (some (.ref f)) ∧ HX f sp ∧ t σ H fun vs H1 => liftX K sp vs H1 Q (WE W σ)
theorem k_xv (K : PySem.W.Frag) {X : Cx} {W : WX} {k i : Nat} {x : Str} {p pos : Pos} {e : Expr} {es : List Expr} {t : TA} (tk : Takes X W) (hr : Room k X.A) (hN : X.N[i]? = some x) (hv : Vis X.env.scope x) (ha : PA X (e :: es) t)
    (hdb : (x == ("__debug__" : Str)) = false := by decide) (hcd : (x == ("__classdict__" : Str)) = false := by decide) (he : starEach (e :: es) X.env = (false, eval e X.env) :: starEach es X.env := by rfl) (hpl : (backTo pos (starEach es X.env)).any (·.1) = false := by rfl) (hK : X.K = K := by rfl) :
    PE X (.Call (.Name x p) (e :: es) [] pos) (tCallXV K (HeldX X.prog X.w K X.mg X.base k) i W t) := by
  subst hK
  refine ⟨fun pins s σ H Q I h => ?_⟩
  obtain ⟨f, sp, hs, HX, ht⟩ := h
  obtain ⟨fd, ps, F, hk, hb⟩ := HX.ex
  refine wpAny_Call_Name_kw (thn ((pe_var (pos := p) hN hv hdb hcd).run pins s σ H (fun v H1 => v = .ref f ∧ H1 = H) I ⟨.ref f, hs, rfl, rfl⟩) fun u s1 ⟨v, H1, I1, r1, q1⟩ => ?_)
  obtain ⟨rfl, rfl⟩ := q1
  cases r1
  refine PySem.W.callWith_K (h₀ := X.base) I.ok.mod.kin hk (thn (ha.run pos pins s1 σ _ _ I1 ht) fun us s2 ⟨vs, H2, I2, r, q⟩ => ⟨I2.kIn, ?_⟩) he hpl
  exact run_fnS F hr hb (passAt tk σ) I2 r q
def wCallXV (HX : Addr → SpX → Prop) (i : Nat) (Xw : XW) (t : TAW) : TEW := fun ρ S Q => ∃ f sp, ρ[i]? = some (some (.ref f)) ∧ HX f sp ∧ t ρ S fun ws S1 => sp ws S1 Q fun ex S2 => Xw ex ρ S2
instance le_callXV {HX : Addr → SpX → Prop} {i : Nat} {W : WX} {Xw : XW} {t : TA} {tw : TAW} [px : PX K B W Xw] [a : LA K B t tw] : LE K B (tCallXV K HX i W t) (wCallXV HX i Xw tw) := ⟨fun σ H ρ S Q Qw hs hh q po => by
  obtain ⟨f, sp, e, hx, q⟩ := q
  obtain ⟨v, e1, r1⟩ := hs.at_ i _ e
  cases (show v = _ from r1)
  exact ⟨f, sp, e1, hx, a.l σ H ρ S _ _ hs hh q fun xs H1 ws S1 t1 hh1 r1 q1 => ⟨ws, S1, Qw, _, r1, hh1, q1, po.tk t1, fun cls d H' ex S' t hh' r q' => px.l cls d σ H' ex ρ S' (hs.tk (t1.trans t)) hh' r q'⟩⟩⟩
theorem wr_ref {a : Addr} : Wr K (.ref a) (.ref a) := ⟨.ref a, rfl, fun _ => rfl⟩
end Wl
set_option Elab.async false
set_option linter.all false
set_option maxRecDepth 100000
set_option maxHeartbeats 2000000
/-! max(xs, default=d) over ints. -/
namespace Wl
open PySem PySem.Spec PyProof.Rows L2
variable {K : PySem.W.Frag} {B : Hp}
def rMaxDf (K : PySem.W.Frag) : List V → List V → Hp → VK → Prop := fun vs zs H Q => ∃ (a : Addr) (ns : List Int) (d : V), vs = [V.ref a] ∧ zs = [d] ∧ SqL K H a (ns.map V.int) ∧ (ns = [] → Q d H) ∧ ∀ m, m ∈ ns → (∀ y, y ∈ ns → y ≤ m) → Q (.int m) H
theorem maxOf_int : ∀ (ys : List Int) (y : Int), (PySem.W.maxOf y ys ∈ y :: ys) ∧ ∀ z, z ∈ y :: ys → z ≤ PySem.W.maxOf y ys
  | [], y => ⟨List.mem_cons_self, fun z hz => by rw [List.mem_singleton.mp hz]; exact Int.le_refl _⟩
  | x :: ys, y => by
    have e : PySem.W.maxOf y (x :: ys) = PySem.W.maxOf (if y < x then x else y) ys := by
      show PySem.W.maxOf (if decide (y < x) = true then x else y) ys = _
      simp only [decide_eq_true_eq]
    rw [e]
    obtain ⟨h1, h2⟩ := maxOf_int ys (if y < x then x else y)
    have h3 := h2 _ List.mem_cons_self
    refine ⟨?_, fun z hz => ?_⟩
    · rcases List.mem_cons.mp h1 with h | h
      · rw [h]
        split
        · exact List.mem_cons_of_mem _ List.mem_cons_self
        · exact List.mem_cons_self
      · exact List.mem_cons_of_mem _ (List.mem_cons_of_mem _ h)
    · have h4 : y ≤ (if y < x then x else y) ∧ x ≤ (if y < x then x else y) := by split <;> omega
      rcases List.mem_cons.mp hz with h | h
      · rw [h]; exact Int.le_trans h4.1 h3
      · rcases List.mem_cons.mp h with h | h
        · rw [h]; exact Int.le_trans h4.2 h3
        · exact h2 z (List.mem_cons_of_mem _ h)
theorem ck_maxD {X : Cx} {j : Nat} (hr : Room j X.A) : CallRK X (.builtin "max") [Str.ofString "default"] (rMaxDf X.K) := by
  intro pins s σ H xs zs us ws Q I r1 r2 h
  obtain ⟨a, ns, d, rfl, rfl, hs, h0, q⟩ := h
  obtain ⟨its, rv, hl, _⟩ := I.list hs
  rw [Vals.ref1 r1]
  cases r2 with
  | cons rd t =>
  cases t
  rename_i dv
  show wpAny _ _ (call (.builtin "max") [.ref a] [(Str.ofString "default", dv)]) _ _ s
  refine PySem.W.max_list_datum_default hr.hd hl.isList (PySem.W.HoldAll.of_ints rv.ints) (by have := hr.un; show X.A.units + 1 + 0 < cLine; omega) (fun e h' tk hk => ?_) fun y ys i v h' tk e hi hv hk => ?_
  · exact ⟨d, H, I.kept hk, rd, h0 e⟩
  · obtain ⟨m1, m2⟩ := maxOf_int ys y
    obtain ⟨as, hv⟩ := hv
    cases hv with
    | int _ t => exact ⟨.int _, H, I.kept hk, ⟨t, rfl⟩, q _ (by rw [e]; exact m1) (by rw [e]; exact m2)⟩
def wMaxDf (t tk : TAW) : TEW := fun ρ S Q => t ρ S fun ws S1 => tk ρ S1 fun zs S2 => match ws, zs with
  | [.ref a], [d] => ∃ ns : List Int, S2 a = some (.lst (ns.map W.int)) ∧ (ns = [] → Q d S2) ∧ ∀ m, m ∈ ns → (∀ y, y ∈ ns → y ≤ m) → Q (.int m) S2
  | _, _ => False
theorem k_maxD (K : PySem.W.Frag) {X : Cx} {j : Nat} {x : Str} {p pos : Pos} {e : Expr} {es : List Expr} {kws : List Keyword} {t tk : TA} (hr : Room j X.A) (hg : Gl X x) (hm : X.mg x = none) (hv : bootBuiltins x = some (.builtin "max")) (ha : PA X (e :: es) t) (hkw : PK X kws tk) (hn : x ≠ "__name__" := by decide) (hdb : (x == ("__debug__" : Str)) = false := by decide)
    (he : backTo pos (starEach (e :: es) X.env) = (false, eval e X.env) :: backTo pos (starEach es X.env) := by rfl) (hpl : (backTo pos (starEach (e :: es) X.env)).any (·.1) = false := by rfl)
    (hall : (backToKw pos (keywordEach kws X.env)).all (·.1.isSome) = true := by rfl) (hnone : (backToKw pos (keywordEach kws X.env)).any (·.1.isNone) = false := by rfl) (hks : (backToKw pos (keywordEach kws X.env)).filterMap (·.1) = [Str.ofString "default"] := by rfl) (hK : X.K = K := by rfl) :
    PE X (.Call (.Name x p) (e :: es) kws pos) (tCKw (rMaxDf K) t tk) := by
  subst hK
  exact pe_callBK (ck_maxD hr) hg hm hv ha hkw hn hdb he hpl hall hnone hks
instance le_maxD {t tk : TA} {tw tkw : TAW} [a : LA K B t tw] [b : LA K B tk tkw] : LE K B (tCKw (rMaxDf K) t tk) (wMaxDf tw tkw) := ⟨fun σ H ρ S Q Qw hs hh q po =>
  a.l σ H ρ S _ _ hs hh q fun xs H1 ws S1 t1 hh1 r1 q1 => b.l σ H1 ρ S1 _ _ (hs.tk t1) hh1 q1 fun zs H2 us S2 t2 hh2 r2 q2 => by
    split at q2
    · rename_i a d
      obtain ⟨x, rfl, h1⟩ := rep1 r1
      cases (show x = _ from h1)
      obtain ⟨dv, rfl, h2⟩ := rep1 r2
      obtain ⟨ns, hl, h0, hm⟩ := q2
      obtain ⟨ys, h3, h4⟩ := hh2 _ _ hl
      rw [h4.ints] at h3
      exact ⟨_, ns, dv, rfl, rfl, SqL.of h3, fun e => po dv H2 _ S2 (t1.trans t2) hh2 h2 (h0 e), fun m m1 m2 => po.int (t1.trans t2) hh2 (hm m m1 m2)⟩
    · exact q2.elim⟩
end Wl
set_option Elab.async false
set_option linter.all false
set_option maxRecDepth 100000
set_option maxHeartbeats 4000000
/-! a tuple times an int. -/
namespace Wl
open PySem PySem.Spec PyProof.Rows L2
variable {K : PySem.W.Frag} {B : Hp}
theorem tuple_mul1 (l : Addr) (items : Array Value) (n : Nat) (dd : Option Addr) (sl : Array (Option Value)) (u : Tok) (c1 : (items.isEmpty || (1 : Int) == 1) = true) :
    Meets (Builtin.«tuple.__mul__» ⟨[.ref l, .int 1 u], []⟩) (fun _ R s => s.heap.get? l = some { cls := .type "tuple", dict := dd, data := .seq items n, slots := sl } ∧
      R (.ok (.ret (Value.ref l))) s) :=
  .of_wp fun prog w A R s h => by
    obtain ⟨hp, g, d, tk, os⟩ := s
    obtain ⟨hl, h⟩ := h
    have f1 := AutoSeq1.idx_int
    wp_walk using wpAny_loadPart' hl
    repeat (first
      | (refine wpAny_ite_false (decide_eq_false (by decide)) ?_; wp_walk using wpAny_loadPart' hl)
      | (refine wpAny_ite_true (decide_eq_true (by rw [c1])) ?_; wp_walk using wpAny_loadPart' hl))
    exact ⟨_, rfl, h⟩
theorem tuple_mul0 (l : Addr) (items : Array Value) (n : Nat) (dd : Option Addr) (sl : Array (Option Value)) (x : Int) (u : Tok) (c0 : (decide (x < -(2 ^ 63)) || decide (x ≥ 2 ^ 63)) = false) (c1 : (items.isEmpty || x == 1) = false) (c2 : (decide (x ≤ 0) || items.isEmpty) = true) :
    Meets (Builtin.«tuple.__mul__» ⟨[.ref l, .int x u], []⟩) (fun _ R s => s.heap.get? l = some { cls := .type "tuple", dict := dd, data := .seq items n, slots := sl } ∧
      R (.ok (.ret (Value.ref s.heap.objs.size))) { s with heap := s.heap.push { cls := Value.type "tuple", data := Data.seq #[] }, toks := s.toks }) :=
  .of_wp fun prog w A R s h => by
    obtain ⟨hp, g, d, tk, os⟩ := s
    obtain ⟨hl, h⟩ := h
    have f1 := AutoSeq1.idx_int
    wp_walk using wpAny_loadPart' hl
    repeat (first
      | (refine wpAny_ite_false (decide_eq_false (by rw [c0]; exact Bool.false_ne_true)) ?_; wp_walk using wpAny_loadPart' hl)
      | (refine wpAny_ite_false (decide_eq_false (by rw [c1]; exact Bool.false_ne_true)) ?_; wp_walk using wpAny_loadPart' hl)
      | (refine wpAny_ite_true (decide_eq_true (by rw [c2])) ?_; wp_walk using wpAny_loadPart' hl))
    exact ⟨_, rfl, h⟩
/-- a tuple times a small number -/
def rRepN (K : PySem.W.Frag) : R2 := fun x y H Q => ∃ l k xs, x = .ref l ∧ y = .int k ∧ SqT K H l xs ∧ xs ≠ [] ∧ 0 ≤ k ∧ k ≤ 1000 ∧ xs.length ≤ 1000 ∧ (k = 1 → Q (.ref l) H) ∧ (k ≠ 1 → ∀ p, H p = none → Q (.ref p) (upd H p (.tup (List.replicate k.toNat xs).flatten)))
theorem op_repN {X : Cx} : OpR X (binaryOp .Mult) (rRepN X.K) := by
  intro pins s σ H x y v u Q I rx ry h
  obtain ⟨l, k, xs, rfl, rfl, hT, hne, h1, h2, hz, q1, q⟩ := h
  by_cases h2k : 2 ≤ k
  · exact op_repT pins s σ H _ _ v u Q I rx ry ⟨l, k, xs, rfl, rfl, hT, hne, h2k, h2, hz, q (by omega)⟩
  cases rx
  obtain ⟨t, rfl⟩ := ry
  obtain ⟨its, r, ⟨⟨cls, dd, data, sl⟩, ho, hc, n, hd⟩, hs⟩ := I.tuple hT
  simp only at hc hd
  subst hc hd
  have hle : its.length = xs.length := r.length.symm
  have hn : its ≠ [] := fun e => hne (by
    rw [e] at hle
    exact List.eq_nil_of_length_eq_zero hle.symm)
  have hi : its.toArray.isEmpty = false := by
    cases its with
    | nil => exact absurd rfl hn
    | cons a b => rfl
  obtain rfl | rfl : k = 0 ∨ k = 1 := by omega
  · refine PySem.wpAny_binaryOp_repeat_ref (T := "tuple") (U := "int") (by decide) ⟨_, ho, rfl⟩ (fun s' => typeIs_int s' 0 t) noFill_tuple_mul F.fills_int_mul F.slot_int_rmul repeat_tuple F.slot_int_index.lookup
      (call_meets F.slot_int_rmul (typeIs_int s 0 t) F.entry_int_rmul (F.args_int_rmul_2 _ _) (int_rmul_tuple 0 t l its.toArray n dd sl)
        ⟨ho, rfl, ⟨_, ho, rfl⟩, call_meets F.slot_tuple_mul ⟨_, ho, rfl⟩ F.entry_tuple_mul (F.args_tuple_mul_2 _ _) (tuple_mul0 l its.toArray n dd sl 0 t (by decide) (by rw [hi]; rfl) (by rfl)) ⟨ho, ?_⟩⟩)
    refine ⟨.ref s.heap.objs.size, _, I.laid (t' := s.toks) (o := .tup []) (fun b ob q => Heap.get?_push_of_some _ q) (Nat.le_refl _) ?_, rfl, q (by decide) _ (I.hok.fresh (Nat.le_refl _))⟩
    exact ⟨by decide, [], .nil, IsTup.new _ _⟩
  · refine PySem.wpAny_binaryOp_repeat_ref (T := "tuple") (U := "int") (by decide) ⟨_, ho, rfl⟩ (fun s' => typeIs_int s' 1 t) noFill_tuple_mul F.fills_int_mul F.slot_int_rmul repeat_tuple F.slot_int_index.lookup
      (call_meets F.slot_int_rmul (typeIs_int s 1 t) F.entry_int_rmul (F.args_int_rmul_2 _ _) (int_rmul_tuple 1 t l its.toArray n dd sl)
        ⟨ho, rfl, ⟨_, ho, rfl⟩, call_meets F.slot_tuple_mul ⟨_, ho, rfl⟩ F.entry_tuple_mul (F.args_tuple_mul_2 _ _) (tuple_mul1 l its.toArray n dd sl t (by rw [hi]; rfl)) ⟨ho, ?_⟩⟩)
    exact ⟨.ref l, H, I, rfl, q1 rfl⟩
theorem RepL.rep {H : Hp} {ws : List W} {xs : List V} (r : RepL K H ws xs) : ∀ n : Nat, RepL K H (List.replicate n ws).flatten (List.replicate n xs).flatten
  | 0 => .nil
  | n + 1 => by
    rw [List.replicate_succ, List.replicate_succ, List.flatten_cons, List.flatten_cons]
    exact RepL.append r (RepL.rep r n)
theorem k_repN (K : PySem.W.Frag) {X : Cx} (hK : X.K = K := by rfl) : OpR X (binaryOp .Mult) (rRepN K) := by
  subst hK
  exact op_repN
def wRepN : RW2 := fun x y S Q => match x, y with
  | .tup ws, .int k => ws ≠ [] ∧ 0 ≤ k ∧ k ≤ 1000 ∧ ws.length ≤ 1000 ∧ Q (.tup (List.replicate k.toNat ws).flatten) S
  | _, _ => False
instance l2_repN : L2R K (rRepN K) wRepN := ⟨fun H S x y wx wy Q Qw hh rx ry q po => by
  unfold wRepN at q
  split at q
  · rename_i ws k
    obtain ⟨hne, h0, h1, hl, q⟩ := q
    obtain ⟨a, xs, rfl, hT, r⟩ := rx
    cases (show y = _ from ry)
    have hlen := r.length
    refine ⟨a, k, xs, rfl, rfl, hT, fun e => hne (by rw [e] at hlen; exact List.eq_nil_of_length_eq_zero (by rw [← hlen]; rfl)), h0, h1, by omega, fun e => ?_, fun _ p hp => ?_⟩
    · subst e
      have e2 : (List.replicate (1 : Int).toNat ws).flatten = ws := by
        show (List.replicate 1 ws).flatten = ws
        rw [List.replicate_succ, List.replicate_zero, List.flatten_cons, List.flatten_nil, List.append_nil]
      rw [e2] at q
      exact po.tup (Tk.refl H) hh hT r q
    · exact po.ntup hp hh (RepL.rep r k.toNat) q
  · exact q.elim⟩
end Wl
set_option Elab.async false
set_option linter.all false
set_option maxRecDepth 100000
set_option maxHeartbeats 4000000
/-! sorted(set(xs)) of a list of ints; d.setdefault(k, x). -/
namespace Wl
open PySem PySem.Spec PyProof.Rows L2
section
variable {P : Program} {w : World} {A : Around} {E : Value → Shared → Prop} {s : Shared}
abbrev bareSet (w : World) : Obj := { cls := .type "set", dict := none, data := .set #[] 0 (.fresh 0 0 (!w.params.followText "set-order")) }
/-- what `set(xs)` leaves behind when its list is walked -/
abbrev Filled (w : World) (s : Shared) (ns : List Int) (s' : Shared) : Prop :=
  ∃ h' tk c, s' = { s with heap := h', toks := tk } ∧ SetR w h' s.heap.objs.size (fun j => decide (j ∈ ns)) c ∧ c ≤ ns.length ∧ ∀ b o, s.heap.get? b = some o → h'.get? b = some o
theorem fill_list {l : Addr} {items : Array Value} (ns : List Int) (hh : A.handled = none) (hl : s.heap.IsList l items) (hit : IntsAre items.toList ns) (hb : ns.length + 1 < scanBound) :
    codeAny (model P w) A (.call (.builtin "set.__init__") ⟨[.ref s.heap.objs.size, .ref l], []⟩) (wants (fun r s₂ => r = .none ∧ Filled w s ns s₂) E) { s with heap := s.heap.push (bareSet w) } := by
  have hsz : items.size = ns.length := by
    have q := IntsAre.length hit
    rw [Array.length_toList] at q
    exact q
  have hS : (s.heap.push (bareSet w)).get? s.heap.objs.size = some (bareSet w) := Heap.get?_push_size _ rfl
  have hT : Shared.TypeIs { s with heap := s.heap.push (bareSet w) } (.ref s.heap.objs.size) "set" := ⟨_, hS, rfl⟩
  refine codeAny_call_builtin PySem.F.called_set.init.plain PySem.F.entry_set_init (check_set_init_1 hT ?_)
  obtain ⟨⟨ocls, odict, odata, oslots⟩, hol, hcl, nl, hdl⟩ := hl
  dsimp only at hcl hdl
  subst hcl hdl
  have hol' : (s.heap.push (bareSet w)).get? l = some { cls := .type "list", dict := odict, data := .seq items nl, slots := oslots } := Heap.get?_push_of_some _ hol
  have h1 := PySem.F.sub_list_set
  have h2 := PySem.F.sub_list_frozenset
  have h3 : (Value.type "list" == Value.type "dict") = false := by decide
  have hl1 : (s.heap.push (bareSet w)).IsList l items := ⟨_, hol', rfl, nl, rfl⟩
  unfold Builtin.«set.__init__» noKeywords Builtin.Frozenset.updateFrom
  generalize hPI : pyIter = PI
  wp_walk
  subst hPI
  refine wpAny_pyIter_list hl1 (wpAny_bind (wpAny_runValue ?_))
  have hlS : l < s.heap.objs.size := Heap.lt_size hol
  have hz : (s.heap.push (bareSet w)).objs.size = s.heap.objs.size + 1 := Heap.size_push ..
  have hh3 : A.in1.in1.handled = none := by simp [hh]
  have hne : l ≠ (s.heap.push (bareSet w)).objs.size := by rw [hz]; exact Nat.ne_of_lt (Nat.lt_succ_of_lt hlS)
  have hSf : s.heap.objs.size ∉ [(s.heap.push (bareSet w)).objs.size, l] := by
    rw [hz]
    simp only [List.mem_cons, List.not_mem_nil, or_false, not_or]
    exact ⟨Nat.ne_of_lt (Nat.lt_succ_self _), Nat.ne_of_gt hlS⟩
  refine set_update_ints ((Walks.list hh3 (s.heap.push (bareSet w)).objs.size l hne items).toS) s.heap.objs.size hSf ns hsz hb (fun i v hv => ?_) items.size 0 _ (by omega) (Nat.zero_le _)
    ⟨⟨_, Heap.get?_push_size _ rfl, rfl, rfl⟩, hl1.push _⟩ ?_ ?_
  case refine_2 =>
    have hg : ((s.heap.push (bareSet w)).push { cls := .type "list_iterator", data := .fields #[.ref l, .int 0 0] }).get? s.heap.objs.size = some (bareSet w) := Heap.get?_push_of_some _ hS
    exact ⟨0, Nat.le_refl 0, setR_new_at hg⟩
  · have hi : i < ns.length := by rw [← hsz]; exact (Array.getElem?_eq_some_iff.mp hv).1
    obtain ⟨t, e⟩ := PyProof.Rows.IntsAre.int_at hit i v (by rw [Array.getElem?_toList]; exact hv)
    exact ⟨ns[i], t, List.getElem?_eq_getElem hi, by rw [e, List.getD_eq_getElem?_getD, List.getElem?_eq_getElem hi]; rfl⟩
  · rintro ⟨h', g2, d', tk', os'⟩ c' hm hc' hS'
    obtain rfl : g2 = s.gens := hm.gens
    obtain rfl : d' = s.drawn := hm.drawn
    obtain rfl : os' = s.os := hm.os
    refine wpAny_pure ?_
    show wpAny _ _ (ret Value.none) _ _ _
    refine wpAny_pure ⟨rfl, h', tk', c', rfl, hS', by omega, fun b o e => ?_⟩
    have hb0 : b < s.heap.objs.size := Heap.lt_size e
    exact hm.heap b o (by rw [hz]; simp only [List.mem_cons, List.not_mem_nil, or_false, not_or]; exact ⟨Nat.ne_of_lt hb0, Nat.ne_of_lt (Nat.lt_succ_of_lt hb0)⟩) (Heap.get?_push_of_some _ (Heap.get?_push_of_some _ e))
theorem set_of_list {l : Addr} {items : Array Value} (ns : List Int) {Q : Value → Shared → Prop} (hh : A.handled = none) (hl : s.heap.IsList l items) (hit : IntsAre items.toList ns) (hb : ns.length + 1 < scanBound)
    (h : ∀ s', Filled w s ns s' → Q (.ref s.heap.objs.size) s') : wpAny (model P w) A (call (.type "set") [.ref l]) Q E s := by
  obtain ⟨c, tl, hmro⟩ := PySem.F.called_set.mro
  have hmade := PySem.F.called_set.made
  have hsub := PySem.F.called_set.sub
  refine wpAny_call (codeAny_of_tree ?_)
  show wpAny _ _ (callAny (.type "set") _) _ _ _
  refine wpAny_pure ⟨Code.quiet_builtin _ (by decide +kernel), codeAny_builtin PySem.F.entry_type_call ?_⟩
  rw [Around.under_plain (weight_type_call_type "set" [.ref l] []) rfl]
  have h1 := PySem.F.called_set.notType
  have h2 := PySem.F.called_set.canCreate
  have hct := PySem.F.typeCall_set_1 (.ref l)
  repeat (any_goals (first | assumption | wp_step))
  refine codeAny_mono (code_set_led1 (P := P) (.ref l) (E := E) (Q₁ := fun obj s₁ => obj = .ref s.heap.objs.size ∧ s₁ = { s with heap := s.heap.push (bareSet w) }) ⟨rfl, rfl⟩) fun r s₁ hr => ?_
  cases r with
  | error e => exact hr
  | ok f =>
    cases f with
    | ret obj =>
      obtain ⟨rfl, rfl⟩ := hr
      have hS : (s.heap.push (bareSet w)).get? s.heap.objs.size = some (bareSet w) := Heap.get?_push_size _ rfl
      have hT : Shared.TypeIs { s with heap := s.heap.push (bareSet w) } (.ref s.heap.objs.size) "set" := ⟨_, hS, rfl⟩
      have hli := PySem.F.called_set.init.lookup
      have hbi := PySem.F.called_set.init.bind (.ref s.heap.objs.size)
      repeat (any_goals (first | assumption | wp_step))
      refine codeAny_mono (fill_list (P := P) (E := E) ns (A := _) (by simp [hh]) hl hit hb) fun r₂ s₂ hr₂ => ?_
      cases r₂ with
      | error e => exact hr₂
      | ok f₂ =>
        cases f₂ with
        | ret r =>
          obtain ⟨rfl, f⟩ := hr₂
          repeat (any_goals (first | assumption | wp_step))
          exact h _ f
        | _ => exact hr₂.elim
    | _ => exact hr.elim
end
/-! ### sorted(set(xs)) -/
def rSetI (K : PySem.W.Frag) (w : World) : List V → Hp → VK → Prop := fun vs H Q => ∃ (l : Addr) (ns : List Int), vs = [V.ref l] ∧ SqL K H l (ns.map V.int) ∧ ns.length < 64 ∧
  ∀ a n, H a = none → n ≤ ns.length → Q (.ref a) (upd H a (SetO w a (fun j => decide (j ∈ ns)) n))
theorem cr_setI {X : Cx} (hc : X.calm = true) : CallR X (.type "set") (rSetI X.K X.w) := by
  intro pins s σ H xs us Q I r h
  obtain ⟨l, ns, rfl, hl, hf, q⟩ := h
  rw [Vals.ref1 r]
  obtain ⟨its, rv, pl, hz⟩ := I.list hl
  have hn : H s.heap.objs.size = none := I.hok.fresh (Nat.le_refl _)
  refine set_of_list (P := X.prog) (w := X.w) ns (I.ok.hd hc) pl.isList (by simpa using ints_of_vals rv) (by unfold scanBound; omega) fun s' ⟨h', tk, c, e, R, hc', k⟩ => ?_
  rw [e]
  exact ⟨.ref s.heap.objs.size, upd H s.heap.objs.size (SetO X.w s.heap.objs.size (fun j => decide (j ∈ ns)) c), I.laid (t' := tk) k (Nat.le_refl _) (setO_new R), rfl, q _ _ hn hc'⟩
/-- the reading: the list's ints, each once, rising -/
def wSortSet (tw : TAW) : TEW := fun ρ S Q => tw ρ S fun ws S1 => match ws with
  | [.ref l] => ∃ ns : List Int, S1 l = some (.lst (ns.map W.int)) ∧ ns.length < 64 ∧ ∀ (ys : List Int) p, ys.Pairwise (· < ·) → (∀ k, k ∈ ys ↔ k ∈ ns) → S1 p = none → Q (.ref p) (put S1 p (.lst (ys.map W.int)))
  | _ => False
variable {K : PySem.W.Frag} {B : Hp}
instance le_sortSet {w : World} {t : TA} {tw : TAW} [a : LA K B t tw] : LE K B (tCB (rSortedSet w) (tCons (tCB (rSetI K w) t) tNil)) (wSortSet tw) := ⟨fun σ H ρ S Q Qw hs hh q po =>
  a.l σ H ρ S _ _ hs hh q fun xs H1 ws S1 t1 hh1 r1 q1 => by
    split at q1
    · rename_i l
      obtain ⟨x, rfl, h1⟩ := rep1 r1
      cases (show x = _ from h1)
      obtain ⟨ns, e, hl, q⟩ := q1
      obtain ⟨vs, g1, g2⟩ := hh1 _ _ e
      have g3 := g2.ints
      subst g3
      refine ⟨l, ns, rfl, SqL.of g1, hl, fun p n hp hn => ⟨p, _, n, rfl, upd_same, by omega, fun ys p2 h1 h2 h3 hp2 => ?_⟩⟩
      have t2 : Tk H1 (upd H1 p (SetO w p (fun j => decide (j ∈ ns)) n)) := Tk.new hp
      exact ((po.tk t1).tk t2).nlst hp2 (hh1.laid hp) RepL.ofInts fun p hp => q ys p h1 (fun k => by rw [h2]; simp) hp
    · exact q1.elim⟩
theorem k_sortSet (K : PySem.W.Frag) (w : World) {X : Cx} {e : Expr} {ta : TA} {p p2 pos pos2 : Pos} (hc : X.calm = true) (hg : Gl X "sorted") (hm : X.mg "sorted" = none) (hg2 : Gl X "set") (hm2 : X.mg "set" = none) (ha : PA X [e] ta)
    (hs : starEach [.Call (.Name "set" p2) [e] [] pos2] X.env = [(false, eval (.Call (.Name "set" p2) [e] [] pos2) X.env)] := by rfl) (hs2 : starEach [e] X.env = [(false, eval e X.env)] := by rfl) (hK : X.K = K := by rfl) (hw : X.w = w := by rfl) :
    PE X (.Call (.Name "sorted" p) [.Call (.Name "set" p2) [e] [] pos2] [] pos) (tCB (rSortedSet w) (tCons (tCB (rSetI K w) ta) tNil)) := by
  subst hK hw
  exact pe_callB (cr_sortedSet hc) hg hm rfl (pa_cons (pe_callTy (cr_setI hc) hg2 hm2 rfl ha (he := hs2)) pa_nil (hs := hs)) (he := hs)
/-! ### d.setdefault(k, x) -/
def wSetd (to tk tx : TEW) : TEW := fun ρ S Q => to ρ S fun x S1 => match x with
  | .ref a => (∃ kvs, S1 a = some (.dk kvs)) ∧ tk ρ S1 fun y S2 => tx ρ S2 fun z S3 => ∃ kvs k, S3 a = some (.dk kvs) ∧ toKey y = some k ∧ kvs.length < sizeLine ∧
      (∀ v, valW kvs k = some v → Q v S3) ∧ (valW kvs k = none → Q z (put S3 a (.dk (putW kvs k z))))
  | _ => False
instance le_setd {td ty tx : TE} {wd wy wx : TEW} [a : LE K B td wd] [b : LE K B ty wy] [c : LE K B tx wx] : LE K B (tDSetd td ty tx) (wSetd wd wy wx) := ⟨fun σ H ρ S Q Qw hs hh q po =>
  a.l σ H ρ S _ _ hs hh q fun x H1 wx S1 t1 hh1 r1 q1 => by
    cases wx <;> try exact q1.elim
    rename_i a
    obtain ⟨⟨kvs, e⟩, q1⟩ := q1
    obtain ⟨ys, h1, h2⟩ := hh1 _ _ e
    refine ⟨a, r1, .inl ⟨ys, .inl h1⟩, b.l σ H1 ρ S1 _ _ (hs.tk t1) hh1 q1 fun y H2 wy S2 t2 hh2 r2 q2 => c.l σ H2 ρ S2 _ _ (hs.tk (t1.trans t2)) hh2 q2 fun z H3 wz S3 t3 hh3 r3 q3 => ?_⟩
    obtain ⟨kvs, k, e, ek, hl, q, q0⟩ := q3
    obtain ⟨ys, h1, h2⟩ := hh3 _ _ e
    obtain ⟨ev, _⟩ := toKey_rep (Rep.tk t3 _ _ r2) ek
    have po' := po.tk ((t1.trans t2).trans t3)
    refine ⟨ys, k, h1, ev, by rw [h2.length]; exact hl, fun v hv => ?_, fun hn => ?_⟩
    · cases ew : valW kvs k with
      | none => rw [h2.of_none ew] at hv; cases hv
      | some wv =>
        obtain ⟨v', e1, e2⟩ := h2.of_some ew
        rw [e1] at hv
        cases hv
        exact po' v H3 wv S3 (Tk.refl H3) hh3 e2 (q wv ew)
    · have t : Tk H3 (upd H3 a (.dK (putK ys k z))) := Tk.mut h1 (fun _ z => (by cases z)) (fun _ _ z => (by cases z))
      obtain ⟨t, hm⟩ := hh3.mut (c' := .dk (putW kvs k wz)) (o := .dK (putK ys k z)) e ⟨_, upd_same, RepKV.put (RepKV.tk t _ _ h2) (Rep.tk t _ _ r3)⟩
      exact po' z _ wz _ t hm (Rep.tk t _ _ r3) (q0 (by
        cases ew : valW kvs k with
        | none => rfl
        | some wv =>
          obtain ⟨v', e1, e2⟩ := h2.of_some ew
          rw [e1] at hn
          cases hn))⟩
/-! ### != where one side may be None and the other a list -/
def rNeN (K : PySem.W.Frag) : R2 := rNeA K
theorem k_neN (K : PySem.W.Frag) {X : Cx} (hu : X.A.units + 64 < cLine) (hK : X.K = K := by rfl) : OpR X (compareOp .NotEq) (rNeN K) := by subst hK; exact op_neA hu
def wNeN : RW2 := fun x y S Q => match x, y with
  | .non, .ref b => ∃ ys, S b = some (.lst ys) ∧ shW (.rl ys) ∧ Q (.bl true) S
  | .ref a, .non => ∃ xs, S a = some (.lst xs) ∧ shW (.rl xs) ∧ Q (.bl true) S
  | x, y => wNe x y S Q
theorem dp_lst {H : Hp} {S : Sto} {a : Addr} {ys : List W} {v : V} (hh : HRep K H S) (e : S a = some (.lst ys)) (h : datW (.rl ys) = true) (r : Rep K H (.ref a) v) : Dp K H v (.list (toDs ys)) := by
  cases (show v = _ from r)
  obtain ⟨bs, g2, r2⟩ := hh _ _ e
  exact .lst (SqL.of g2) (dps_of ys bs (by unfold datW at h; exact h) r2)
instance l2_neN : L2R K (rNeN K) wNeN := ⟨fun H S x y wx wy Q Qw hh rx ry q po => by
  unfold wNeN at q
  split at q
  · obtain ⟨ys, e, sh, q⟩ := q
    cases (show x = _ from rx)
    exact .inr ⟨.none, .list (toDs ys), .non, dp_lst hh e sh.1 ry, rfl, sh.2, po.bl (Tk.refl H) hh q⟩
  · obtain ⟨ys, e, sh, q⟩ := q
    cases (show y = _ from ry)
    exact .inr ⟨.list (toDs ys), .none, dp_lst hh e sh.1 rx, .non, sh.2, rfl, po.bl (Tk.refl H) hh q⟩
  · exact l2_ne.l H S x y _ _ Q Qw hh rx ry q po⟩
end Wl
set_option Elab.async false
set_option linter.all false
set_option maxRecDepth 100000
set_option maxHeartbeats 4000000
set_option synthInstance.maxHeartbeats 4000000
set_option synthInstance.maxSize 100000
namespace K83
open PySem PySem.Spec PyProof.Rows L2 Wl
/-! ### the text -/
def topS (i : Nat) : Stmt := PySem.Challenge.pw_stylepages_k83_changed_pages.main.body.getD i (.Pass ⟨0, 0, 0, 0⟩)
abbrev s__pages_by_number : Stmt := topS 1
theorem sc__pages_by_number : FnScope ["result", "found", "page"] ["result"] (defScope s__pages_by_number) := ⟨rfl, rfl, rfl, by decide +kernel, rfl, by decide +kernel, by decide +kernel⟩
abbrev s_changed_pages : Stmt := topS 2
theorem sc_changed_pages : FnScope ["before", "after", "one", "other", "numbers", "number"] ["before", "after"] (defScope s_changed_pages) := ⟨rfl, rfl, rfl, by decide +kernel, rfl, by decide +kernel, by decide +kernel⟩
abbrev s__law_pool : Stmt := topS 4
theorem sc__law_pool : FnScope ["_law_script", "_law_at", "_law_cell"] ["_law_script", "_law_at"] (defScope s__law_pool) := ⟨rfl, rfl, rfl, by decide +kernel, rfl, by decide +kernel, by decide +kernel⟩
abbrev s__law_take : Stmt := topS 5
theorem sc__law_take : FnScope ["_law_pool_here", "_law_many", "_law_got", "_law_one", "_law_two"] ["_law_pool_here", "_law_many"] (defScope s__law_take) := ⟨rfl, rfl, rfl, by decide +kernel, rfl, by decide +kernel, by decide +kernel⟩
abbrev s__law_same : Stmt := topS 6
theorem sc__law_same : FnScope ["_law_one", "_law_two", "_law_both", "_law_k"] ["_law_one", "_law_two"] (defScope s__law_same) := ⟨rfl, rfl, rfl, by decide +kernel, rfl, by decide +kernel, by decide +kernel⟩
abbrev s__law_line : Stmt := topS 7
theorem sc__law_line : FnScope ["_law_pool_here", "_law_chars", "_law_x", "_law_down", "_law_letters", "_law_j", "_law_char"] ["_law_pool_here"] (defScope s__law_line) := ⟨rfl, rfl, rfl, by decide +kernel, rfl, by decide +kernel, by decide +kernel⟩
abbrev s__law_page : Stmt := topS 8
theorem sc__law_page : FnScope ["_law_pool_here", "_law_number", "_law_cols", "_law_floats", "_law_columns", "_law_c", "_law_k", "_law_notes"] ["_law_pool_here", "_law_number", "_law_cols"] (defScope s__law_page) := ⟨rfl, rfl, rfl, by decide +kernel, rfl, by decide +kernel, by decide +kernel⟩
abbrev s__law_bent : Stmt := topS 9
theorem sc__law_bent : FnScope ["_law_pool_here", "_law_block", "_law_line_here", "_law_one", "_law_way"] ["_law_pool_here", "_law_block"] (defScope s__law_bent) := ⟨rfl, rfl, rfl, by decide +kernel, rfl, by decide +kernel, by decide +kernel⟩
abbrev s__law_turned : Stmt := topS 10
theorem sc__law_turned : FnScope ["_law_pool_here", "_law_page_here", "_law_kind", "_law_columns", "_law_bent_here"] ["_law_pool_here", "_law_page_here"] (defScope s__law_turned) := ⟨rfl, rfl, rfl, by decide +kernel, rfl, by decide +kernel, by decide +kernel⟩
abbrev s__law_second : Stmt := topS 11
theorem sc__law_second : FnScope ["_law_script", "_law_pages", "_law_number", "_law_many", "_law_mode", "_law_cols", "_law_rows", "_law_k", "_law_own", "_law_elder", "_law_page_here"] ["_law_script", "_law_pages", "_law_number", "_law_many", "_law_mode", "_law_cols"] (defScope s__law_second) := ⟨rfl, rfl, rfl, by decide +kernel, rfl, by decide +kernel, by decide +kernel⟩
abbrev s__law_result : Stmt := topS 12
theorem sc__law_result : FnScope ["_law_pool_here", "_law_pages", "_law_unset", "_law_forms", "_law_k"] ["_law_pool_here", "_law_pages", "_law_unset"] (defScope s__law_result) := ⟨rfl, rfl, rfl, by decide +kernel, rfl, by decide +kernel, by decide +kernel⟩
abbrev s__law_due : Stmt := topS 13
theorem sc__law_due : FnScope ["_law_one", "_law_two", "_law_changed", "_law_page_here", "_law_here", "_law_other", "_law_there", "_law_number"] ["_law_one", "_law_two"] (defScope s__law_due) := ⟨rfl, rfl, rfl, by decide +kernel, rfl, by decide +kernel, by decide +kernel⟩
abbrev s_law : Stmt := topS 14
theorem sc_law : FnScope ["_law_script", "_law_pool_here", "_law_start", "_law_many", "_law_shift", "_law_other", "_law_mode", "_law_cols", "_law_unset", "_law_pages", "_law_k", "_law_rows", "_law_one", "_law_two", "_law_due_here", "_law_told"] ["_law_script"] (defScope s_law) := ⟨rfl, rfl, rfl, by decide +kernel, rfl, by decide +kernel, by decide +kernel⟩
structure Txt (K : PySem.W.Frag) (mg : Str → Option Value) : Prop where
  b_abs : mg "abs" = none
  b_bool : mg "bool" = none
  b_int : mg "int" = none
  b_isinstance : mg "isinstance" = none
  b_len : mg "len" = none
  b_list : mg "list" = none
  b_max : mg "max" = none
  b_range : mg "range" = none
  b_set : mg "set" = none
  b_sorted : mg "sorted" = none
  b_str : mg "str" = none
  b_tuple : mg "tuple" = none
local macro_rules | `(tactic| walk_at "w") => `(tactic| (conv => whnf))
/-! what a store holds -/
local macro_rules | `(tactic| walk_at "ne") => `(tactic| first | assumption | (apply Ne.symm; assumption) | exact ne_free (by assumption) (by assumption) | exact (ne_free (by assumption) (by assumption)).symm | exact Pl.ne (by assumption) (by assumption) | exact (Pl.ne (by assumption) (by assumption)).symm)
local macro_rules | `(tactic| walk_at "s") => `(tactic| first
  | exact put_same
  | assumption
  | (refine (put_ne ?_).trans ?_; (· walk_at "ne"); (· walk_at "s")))
/-! a side condition -/
local macro_rules | `(tactic| walk_at "c") => `(tactic| first
  | exact Or.inl (Or.inl ⟨by omega, by omega⟩)
  | exact Or.inl (Or.inr ⟨by omega, by omega⟩)
  | exact Or.inl ⟨by omega, by omega⟩
  | exact Or.inl ⟨rfl, _, by walk_at "s"⟩
  | rfl
  | omega
  | decide
  | exact Nat.le_trans (by omega) sizeLine_ge)
/-! one question is answered, if the answer is plain -/
local macro_rules | `(tactic| walk_at "g1") => `(tactic| first
  | refine ⟨fun _ => ?_, fun h => absurd (show true = false from h) (by decide)⟩
  | refine ⟨fun h => absurd (show false = true from h) Bool.false_ne_true, fun _ => ?_⟩
  | refine ⟨_, by walk_at "s", ?_⟩
  | refine ⟨_, _, by walk_at "s", by walk_at "s", ?_⟩
  | refine ⟨_, by walk_at "s", by simpa using (by omega), ?_⟩
  | refine ⟨_, rfl, ?_⟩
  | refine ⟨_, _, rfl, (by first | exact isTy_tt | exact isTy_ii | exact isTy_ll | exact isTy_ss | exact isTy_ib | exact isTy_tb | exact isTy_ti | exact isTy_ts | exact isTy_tl | exact isTy_lb | exact isTy_li | exact isTy_ls | exact isTy_lt | exact isTy_sb | exact isTy_si | exact isTy_st | exact isTy_sl | exact isTy_is | exact isTy_it | exact isTy_il | exact isTy_bi | exact isTy_bs | exact isTy_bb | exact isTy_nb | exact isTy_ni | exact isTy_ns | exact isTy_nt | exact isTy_nl | exact isTy_bt | exact isTy_bl | exact isTy_nd | exact isTy_td | exact isTy_ld | exact isTy_sd | exact isTy_id | exact isTy_bd | exact isTy_dd | exact isTy_db | exact isTy_di | exact isTy_ds | exact isTy_dt | exact isTy_dl), ?_⟩
  | refine ⟨_, _, tyName_lst (by walk_at "s"), (by first | exact isTy_ll | exact isTy_lb | exact isTy_li | exact isTy_ls | exact isTy_lt), ?_⟩
  | refine if_q ?_
  | refine ⟨by walk_at "c", ?_⟩)
local macro_rules | `(tactic| walk_at "go") => `(tactic| (walk_at "w"; repeat (walk_at "g1"; walk_at "w")))
/-! a branch that cannot be -/
local macro_rules | `(tactic| walk_at "two") => `(tactic| refine ⟨fun h => ?_, fun h => ?_⟩)
section
variable {P : Program} {w : World} {K : PySem.W.Frag} {mg : Str → Option Value} {base : Heap}
theorem ok__law_take (T : Txt K mg) (d : DefAt K mg "_law_take" s__law_take ["_law_pool_here", "_law_many"]) : CalW P w K mg base 1 "_law_take" spTk :=
  calDI d sc__law_take (fun ws S Q ⟨p, N, many, e, _⟩ => by rw [e]; rfl) fun f cdv A outer s H E hr => ⟨_, _,
    (pss_cons (ps_asg (pe_op (k_addB K) (pe_ix (k_ix K) (pv 0) pe_int (fun _ _ => rfl)) pe_int) (pg_sub (pv 0) pe_int set_list))
      (pss_cons (ps_if (pt_cmpR (k_eq K hr.units) (pe_ix (k_ix K) (pv 0) pe_int (fun _ _ => rfl)) pe_int (nomark _))
       (pss_cons (ps_set (i := 2) sc__law_take.nd rfl (Or.inl rfl) (pe_op op_mod (pe_callTy call_int1 (by rfl) T.b_int (by decide +kernel) (pa_cons (pe_ix (k_ix K) (pv 0) pe_int (fun _ _ => rfl)) pa_nil)) (pv 1)))
       (pss_cons (ps_asg (pe_op op_fdivA (pe_ix (k_ix K) (pv 0) pe_int (fun _ _ => rfl)) (pv 1)) (pg_sub (pv 0) pe_int set_list))
       (pss_one (ps_ret (pv 2)))))
       pss_nil)
      (pss_cons (ps_set (i := 3) sc__law_take.nd rfl (Or.inl rfl) (pe_op op_mod (pe_callTy call_int1 (by rfl) T.b_int (by decide +kernel) (pa_cons (pe_op (k_addB K) (pe_op (k_addB K) (pe_op op_mulA (pe_ix (k_ix K) (pv 0) pe_int (fun _ _ => rfl)) pe_int) (pe_op op_mulA (pe_ix (k_ix K) (pv 0) pe_int (fun _ _ => rfl)) pe_int)) pe_int) pa_nil)) pe_int))
      (pss_cons (ps_set (i := 4) sc__law_take.nd rfl (Or.inl rfl) (pe_op op_mod (pe_callTy call_int1 (by rfl) T.b_int (by decide +kernel) (pa_cons (pe_op (k_addB K) (pe_op (k_addB K) (pe_op op_mulA (pv 3) pe_int) (pe_op op_fdivA (pv 3) pe_int)) (pe_op op_mulA (pe_op op_mulA (pe_ix (k_ix K) (pv 0) pe_int (fun _ _ => rfl)) (pe_ix (k_ix K) (pv 0) pe_int (fun _ _ => rfl))) pe_int)) pa_nil)) pe_int))
      (pss_one (ps_ret (pe_op op_mod (pe_callTy call_int1 (by rfl) T.b_int (by decide +kernel) (pa_cons (pe_op op_fdivA (pv 4) (pe_op (k_addB K) (pe_ix (k_ix K) (pv 0) pe_int (fun _ _ => rfl)) pe_int)) pa_nil)) (pv 1)))))))), inferInstance, by
    rintro ws S Q ⟨p, N, many, rfl, ⟨c, n, b, sd, hp, c0, n0, n1, s0, s1⟩, hN, hm, hm2, q⟩
    have ok' : ∀ c' b', 0 ≤ c' → Pl (put S p (.lst (poolL c' (n + 1) b' sd))) p (N + 1) := fun c' b' h => ⟨c', n + 1, b', sd, put_same, h, by omega, by omega, s0, s1⟩
    have off : ∀ c', OffL [p] S (put S p c') := fun c' a ha => put_ne (fun e => ha (by rw [e]; exact List.mem_singleton.mpr rfl))
    have dv : CDivA c many := .inr (wide_div hm (b := 64) (by omega) (by decide) (by decide))
    walk_at "w"
    refine ⟨_, hp, ?_⟩
    walk_at "w"
    refine ⟨_, 1, hp, rfl, ?_⟩
    walk_at "w"
    refine ⟨_, put_same, ?_⟩
    walk_at "w"
    refine ⟨fun h => ?_, fun h => ?_⟩
    · walk_at "w"
      refine ⟨_, put_same, ?_⟩
      walk_at "w"
      refine ⟨hm, ?_⟩
      walk_at "w"
      refine ⟨_, put_same, ?_⟩
      walk_at "w"
      refine ⟨dv, ?_⟩
      walk_at "w"
      refine ⟨_, 0, put_same, rfl, ?_⟩
      rw [put_put]
      exact fg_here (q _ _ (Int.emod_nonneg _ (by omega)) (Int.emod_lt_of_pos _ hm) (ok' _ b (Int.ediv_nonneg c0 (by omega))) (off _))
    · walk_at "w"
      refine ⟨_, put_same, ?_⟩
      walk_at "w"
      refine ⟨.inl (.inl ⟨by omega, by omega⟩), ?_⟩
      walk_at "w"
      refine ⟨_, put_same, ?_⟩
      walk_at "w"
      refine ⟨.inl (.inl ⟨by omega, by omega⟩), ?_⟩
      walk_at "w"
      refine ⟨(by show (0 : Int) < 2147483647; decide), ?_⟩
      generalize ho : (sd * 48271 + (n + 1) * 69621 + 11) % 2147483647 = one
      have o0 : 0 ≤ one := by rw [← ho]; exact Int.emod_nonneg _ (by decide)
      have o1 : one < 2147483647 := by rw [← ho]; exact Int.emod_lt_of_pos _ (by decide)
      walk_at "w"
      refine ⟨.inl (.inl ⟨by omega, by omega⟩), ?_⟩
      walk_at "w"
      refine ⟨.inl ⟨by decide, by decide⟩, ?_⟩
      walk_at "w"
      refine ⟨_, put_same, ?_⟩
      walk_at "w"
      refine ⟨_, put_same, ?_⟩
      walk_at "w"
      refine ⟨.inl (.inl ⟨by omega, by omega⟩), ?_⟩
      walk_at "w"
      refine ⟨.inl (.inr ⟨by decide, by decide⟩), ?_⟩
      walk_at "w"
      refine ⟨(by show (0 : Int) < 2147483399; decide), ?_⟩
      generalize ht : (one * 16807 + one / 65536 + (n + 1) * (n + 1) * 40692) % 2147483399 = two
      walk_at "w"
      refine ⟨_, put_same, ?_⟩
      walk_at "w"
      refine ⟨.inr (wide_div (by omega) (b := 64) (by omega) (by decide) (by decide)), ?_⟩
      walk_at "w"
      refine ⟨hm, ?_⟩
      exact fg_here (q _ _ (Int.emod_nonneg _ (by omega)) (Int.emod_lt_of_pos _ hm) (ok' c b c0) (off _))⟩
theorem ok__law_pool (T : Txt K mg) (d : DefAt K mg "_law_pool" s__law_pool ["_law_script", "_law_at"]) : CalW P w K mg base 1 "_law_pool" spPl :=
  calDI d sc__law_pool (fun ws S Q ⟨n, k, e, _⟩ => by rw [e]; rfl) fun f cdv A outer s H E hr => ⟨_, _,
    (pss_cons (ps_set (i := 2) sc__law_pool.nd rfl (Or.inl rfl) pe_int)
      (pss_mid (ps_if (pt_cmpR op_ltA (pv 1) (pe_callB (k_len K) (by rfl) T.b_len (by decide +kernel) (pa_cons (pv 0) pa_nil)) (nomark _))
       (pss_one (ps_set (i := 2) sc__law_pool.nd rfl (Or.inl rfl) (pe_callB call_abs (by rfl) T.b_abs (by decide +kernel) (pa_cons (pe_callTy call_int1 (by rfl) T.b_int (by decide +kernel) (pa_cons (pe_ix (k_ix K) (pv 0) (pv 1) (fun _ _ => rfl)) pa_nil)) pa_nil))))
       pss_nil)
      (pss_one (ps_ret (pe_lst (pa_cons (pv 2) (pa_cons pe_int (pa_cons (pe_callTy call_int1 (by rfl) T.b_int (by decide +kernel) (pa_cons (pe_cmpR op_geA (pv 2) (pe_op op_pow pe_int pe_int) (nomark _)) pa_nil)) (pa_cons (pe_op op_mod (pe_callTy call_int1 (by rfl) T.b_int (by decide +kernel) (pa_cons (pe_op (k_addB K) (pv 2) (pe_op op_mulA (pv 1) pe_int)) pa_nil)) pe_int) (pa_cons pe_int pa_nil)))))))))), inferInstance, by
    rintro ws S Q ⟨ns, k, rfl, h0, h1, hl, q⟩
    walk_at "w"
    refine mid_q (fun ρ S' => S' = S ∧ ∃ c : Int, 0 ≤ c ∧ ρ = [some (.rl (ns.map W.int)), some (.int k), some (.int c)]) ?_ ?_
    · walk_at "w"
      refine ⟨fun h => ?_, fun h => ?_⟩
      · have h := of_decide_eq_true h
        rw [List.length_map] at h
        obtain ⟨n, e⟩ := atI_int (ns := ns) h0 h
        show rdAt (atI (ns.map W.int) k) S _
        rw [e]
        refine ⟨rfl, _, ?_, rfl⟩
        show 0 ≤ if n < 0 then -n else n
        split <;> omega
      · exact ⟨rfl, 0, Int.le_refl 0, rfl⟩
    · rintro ρ S' ⟨rfl, c, hc, rfl⟩
      walk_at "w"
      refine ⟨⟨by decide, by decide, by decide⟩, .inl (.inl ⟨by omega, by omega⟩), (by show (0 : Int) < 2147483647; decide), ?_⟩
      intro p hp
      refine fg_here (q p _ hp ⟨c, 0, _, _, put_same, hc, Int.le_refl 0, Int.le_refl 0, ?_, ?_⟩ fun a ha => put_ne (fun e => ha (by rw [e]; exact List.mem_singleton.mpr rfl)))
      · exact Int.emod_nonneg _ (by decide)
      · exact Int.emod_lt_of_pos _ (by decide)⟩
theorem lc_filD {α : Type} (F : α → W) (rs : List α) (r : α → StW) (p : α → Bool) (f : α → W) {g : TGW} {tt : TTW} {te : TEW} {vs : List Nat} {ρ : StW} {Q : WK} {ok : Sto → Prop} {S1 : Sto} (hl : rs.length ≤ 100000) (hok : ∀ (D : Addr) (acc : List W), S1 D = none → ok (put S1 D (.lst acc)))
    (hg : ∀ (x : α) (S : Sto) (R : StW → Sto → Prop), x ∈ rs → R (r x) S → g (F x) (wipeW ρ vs) S R)
    (ht : ∀ (x : α) (D : Addr) (acc : List W), x ∈ rs → S1 D = none → EvW tt (r x) (put S1 D (.lst acc)) (p x))
    (he : ∀ (x : α) (D : Addr) (acc : List W), x ∈ rs → p x = true → S1 D = none → ∀ Q' : WK, Q' (f x) (put S1 D (.lst acc)) → te (r x) (put S1 D (.lst acc)) Q')
    (hd : ∀ (D : Addr), S1 D = none → Q (.ref D) (put S1 D (.lst ((rs.filter p).map f)))) : LcQ g tt te vs ρ Q (rs.map F) ok S1 := by
  refine lc_q fun D hD => ⟨fun i acc S' => i ≤ rs.length ∧ acc = ((rs.take i).filter p).map f ∧ S' = put S1 D (.lst acc), ⟨Nat.zero_le _, rfl, rfl⟩, ?_, ?_, ?_⟩
  · rintro i acc S' ⟨_, _, rfl⟩
    exact hok D acc hD
  · rintro i w acc S' e ⟨_, ha, rfl⟩
    obtain ⟨x, ex, rfl⟩ : ∃ x, rs[i]? = some x ∧ F x = w := by
      rw [List.getElem?_map] at e
      cases hc : rs[i]? with
      | none => rw [hc] at e; cases e
      | some x => rw [hc] at e; exact ⟨x, rfl, Option.some.inj e⟩
    have hm := List.mem_of_getElem? ex
    have hi : i < rs.length := (List.getElem?_eq_some_iff.mp ex).1
    have tk : rs.take (i + 1) = rs.take i ++ [x] := by rw [List.take_add_one, ex]; rfl
    refine hg x _ _ hm ?_
    refine ht x D acc hm hD _ ⟨fun hb => he x D acc hm hb hD _ ⟨put_same, ?_, ?_⟩, fun hb => ⟨hi, ?_, rfl⟩⟩
    · rw [ha, List.length_map]
      refine Nat.lt_of_le_of_lt (Nat.le_trans (List.length_filter_le _ _) (by rw [List.length_take]; exact Nat.min_le_left _ _)) (Nat.lt_of_lt_of_le (show i < 200000 by omega) (by decide))
    · refine ⟨hi, ?_, put_put⟩
      rw [tk, List.filter_append, List.map_append, ha]
      simp [hb]
    · rw [tk, List.filter_append, List.map_append, ha]
      simp [hb]
  · rintro acc S' ⟨_, ha, rfl⟩
    rw [List.length_map, List.take_of_length_le (Nat.le_refl _)] at ha
    rw [ha]
    exact hd D hD
theorem lc_mapD {α : Type} (F : α → W) (rs : List α) (f : α → W) {j : Nat} {te : TEW} {vs : List Nat} {ρ : StW} {Q : WK} {ok : Sto → Prop} {S1 : Sto} (hl : rs.length ≤ 100000) (hok : ∀ (D : Addr) (acc : List W), S1 D = none → ok (put S1 D (.lst acc)))
    (he : ∀ (x : α) (D : Addr) (acc : List W), x ∈ rs → S1 D = none → ∀ Q' : WK, Q' (f x) (put S1 D (.lst acc)) → te ((wipeW ρ vs).set j (some (F x))) (put S1 D (.lst acc)) Q')
    (hd : ∀ (D : Addr), S1 D = none → Q (.ref D) (put S1 D (.lst (rs.map f)))) : LcQ (wName j) wYes te vs ρ Q (rs.map F) ok S1 :=
  lc_filD F rs (fun x => (wipeW ρ vs).set j (some (F x))) (fun _ => true) f hl hok (fun _ _ _ _ h => h) (fun _ _ _ _ _ => fun Q q => q) (fun x D acc hx _ hD => he x D acc hx hD) (fun D hD => by rw [List.filter_eq_self.mpr (fun _ _ => rfl)]; exact hd D hD)
end
end K83
set_option Elab.async false
set_option linter.all false
set_option maxRecDepth 100000
set_option maxHeartbeats 4000000
set_option synthInstance.maxHeartbeats 4000000
set_option synthInstance.maxSize 100000
namespace K83
open PySem PySem.Spec PyProof.Rows L2 Wl
local macro_rules | `(tactic| walk_at "w") => `(tactic| (conv => whnf))
/-! what a store holds -/
local macro_rules | `(tactic| walk_at "ne") => `(tactic| first | assumption | (apply Ne.symm; assumption) | exact ne_free (by assumption) (by assumption) | exact (ne_free (by assumption) (by assumption)).symm | exact Pl.ne (by assumption) (by assumption) | exact (Pl.ne (by assumption) (by assumption)).symm)
local macro_rules | `(tactic| walk_at "s") => `(tactic| first
  | exact put_same
  | assumption
  | (refine (put_ne ?_).trans ?_; (· walk_at "ne"); (· walk_at "s")))
/-! a side condition -/
local macro_rules | `(tactic| walk_at "c") => `(tactic| first
  | exact Or.inl (Or.inl ⟨by omega, by omega⟩)
  | exact Or.inl (Or.inr ⟨by omega, by omega⟩)
  | exact Or.inl ⟨by omega, by omega⟩
  | exact Or.inl ⟨rfl, _, by walk_at "s"⟩
  | rfl
  | omega
  | decide
  | exact Nat.le_trans (by omega) sizeLine_ge)
/-! one question is answered, if the answer is plain -/
local macro_rules | `(tactic| walk_at "g1") => `(tactic| first
  | refine ⟨fun _ => ?_, fun h => absurd (show true = false from h) (by decide)⟩
  | refine ⟨fun h => absurd (show false = true from h) Bool.false_ne_true, fun _ => ?_⟩
  | refine ⟨_, by walk_at "s", ?_⟩
  | refine ⟨_, _, by walk_at "s", by walk_at "s", ?_⟩
  | refine ⟨_, by walk_at "s", by simpa using (by omega), ?_⟩
  | refine ⟨_, rfl, ?_⟩
  | refine ⟨_, _, rfl, (by first | exact isTy_tt | exact isTy_ii | exact isTy_ll | exact isTy_ss | exact isTy_ib | exact isTy_tb | exact isTy_ti | exact isTy_ts | exact isTy_tl | exact isTy_lb | exact isTy_li | exact isTy_ls | exact isTy_lt | exact isTy_sb | exact isTy_si | exact isTy_st | exact isTy_sl | exact isTy_is | exact isTy_it | exact isTy_il | exact isTy_bi | exact isTy_bs | exact isTy_bb | exact isTy_nb | exact isTy_ni | exact isTy_ns | exact isTy_nt | exact isTy_nl | exact isTy_bt | exact isTy_bl | exact isTy_nd | exact isTy_td | exact isTy_ld | exact isTy_sd | exact isTy_id | exact isTy_bd | exact isTy_dd | exact isTy_db | exact isTy_di | exact isTy_ds | exact isTy_dt | exact isTy_dl), ?_⟩
  | refine ⟨_, _, tyName_lst (by walk_at "s"), (by first | exact isTy_ll | exact isTy_lb | exact isTy_li | exact isTy_ls | exact isTy_lt), ?_⟩
  | refine if_q ?_
  | refine ⟨by walk_at "c", ?_⟩)
local macro_rules | `(tactic| walk_at "go") => `(tactic| (walk_at "w"; repeat (walk_at "g1"; walk_at "w")))
/-! a branch that cannot be -/
local macro_rules | `(tactic| walk_at "two") => `(tactic| refine ⟨fun h => ?_, fun h => ?_⟩)
section
variable {P : Program} {w : World} {K : PySem.W.Frag} {mg : Str → Option Value} {base : Heap}
/-! two things compared, both answers -/
theorem eqv_tup (xs ys : List W) : PyData.eqv (toD (.tup xs)) (toD (.tup ys)) = PyData.eqvAll (toDs xs) (toDs ys) := by
  show PyData.eqv (.tuple (toDs xs)) (.tuple (toDs ys)) = _
  first | rfl | simp [PyData.eqv]
theorem eqv_int (a b : Int) : PyData.eqv (toD (.int a)) (toD (.int b)) = decide (a = b) := by
  show PyData.eqv (.int a) (.int b) = _
  first | rfl | (simp [PyData.eqv]; rw [Bool.eq_iff_iff]; simp)
theorem eqv_str (a b : Str) : PyData.eqv (toD (.str a)) (toD (.str b)) = decide (a = b) := by
  show PyData.eqv (.str a) (.str b) = _
  first | rfl | (simp [PyData.eqv]; rw [Bool.eq_iff_iff]; simp)
theorem eqAll_iff : ∀ xs ys : List W, PyData.eqvAll (toDs xs) (toDs ys) = true ↔ xs.length = ys.length ∧ ∀ (i : Nat) (x y : W), xs[i]? = some x → ys[i]? = some y → PyData.eqv (toD x) (toD y) = true
  | [], [] => by
    show PyData.eqvAll [] [] = true ↔ _
    simp [PyData.eqvAll]
  | [], y :: ys => by
    show PyData.eqvAll [] (toD y :: toDs ys) = true ↔ _
    simp [PyData.eqvAll]
  | x :: xs, [] => by
    show PyData.eqvAll (toD x :: toDs xs) [] = true ↔ _
    simp [PyData.eqvAll]
  | x :: xs, y :: ys => by
    show PyData.eqvAll (toD x :: toDs xs) (toD y :: toDs ys) = true ↔ _
    have e : PyData.eqvAll (toD x :: toDs xs) (toD y :: toDs ys) = (PyData.eqv (toD x) (toD y) && PyData.eqvAll (toDs xs) (toDs ys)) := by first | rfl | simp [PyData.eqvAll]
    rw [e, Bool.and_eq_true, eqAll_iff xs ys]
    constructor
    · rintro ⟨h1, h2, h3⟩
      refine ⟨by simp [h2], fun i a b ea eb => ?_⟩
      cases i with
      | zero => cases ea; cases eb; exact h1
      | succ i => exact h3 i a b ea eb
    · rintro ⟨h2, h3⟩
      exact ⟨h3 0 x y rfl rfl, by simpa using h2, fun i a b ea eb => h3 (i + 1) a b ea eb⟩
/-- things of one shape, and whether they are equal -/
inductive Shp (S : Sto) : Nat → W → W → Bool → Prop where
  | int {n : Nat} {a b : Int} : Shp S n (.int a) (.int b) (PyData.eqv (toD (.int a)) (toD (.int b)))
  | str {n : Nat} {a b : Str} : Shp S n (.str a) (.str b) (PyData.eqv (toD (.str a)) (toD (.str b)))
  | tup {n : Nat} {xs ys : List W} : xs.length ≤ 1000000 → ys.length ≤ 1000000 → (∀ (i : Nat) (x y : W), xs[i]? = some x → ys[i]? = some y → Shp S n x y (PyData.eqv (toD x) (toD y))) → Shp S (n + 1) (.tup xs) (.tup ys) (PyData.eqv (toD (.tup xs)) (toD (.tup ys)))
  | lst {n : Nat} {a b : Addr} {xs ys : List W} : S a = some (.lst xs) → S b = some (.lst ys) → xs.length ≤ 1000000 → ys.length ≤ 1000000 → (∀ (i : Nat) (x y : W), xs[i]? = some x → ys[i]? = some y → Shp S n x y (PyData.eqv (toD x) (toD y))) →
      Shp S (n + 1) (.ref a) (.ref b) (PyData.eqvAll (toDs xs) (toDs ys))
def spSameB (n : Nat) : SpW := fun ws S Q => ∃ v w b, ws = [v, w] ∧ Shp S n v w b ∧ Q (.bl b) S
theorem sameb_go {n : Nat} {v w : W} {b : Bool} {S : Sto} {Q : WK} (h : Shp S n v w b) (q : Q (.bl b) S) : Hd (spSameB n) [v, w] S Q := Hd.mk ⟨v, w, b, rfl, h, q⟩
theorem at_zero {xs : List W} {i : Nat} {x : W} (h : xs[i]? = some x) : atI xs (0 + (i : Int)) = some x := by
  rw [Int.zero_add]
  exact atI_nat h
theorem sameb_step (T : Txt K mg) (k n : Nat) (sp' : SpW) (c__law_same : CalW P w K mg base k "_law_same" (Hd sp')) (hn : ∀ (m : Nat) (v w : W) (b : Bool) (S : Sto) (Q : WK), n = m + 1 → Shp S m v w b → Q (.bl b) S → sp' [v, w] S Q)
    (d : DefAt K mg "_law_same" s__law_same ["_law_one", "_law_two"]) : CalW P w K mg base (k + 1) "_law_same" (spSameB n) :=
  calDI d sc__law_same (fun ws S Q ⟨v, w, b, e, _⟩ => by rw [e]; rfl) fun f cdv A outer s H E hr => ⟨_, _,
    (pss_cons (ps_if (PW.pt (pw_or (pt_val (pe_callB (k_isi K) (by rfl) T.b_isinstance (by decide +kernel) (pa_cons (pv 0) (pa_cons (pe_bltn (v := .ty "bool") (by rfl) T.b_bool (by decide +kernel) rfl) pa_nil)))) (pw_or1 (pt_val (pe_callB (k_isi K) (by rfl) T.b_isinstance (by decide +kernel) (pa_cons (pv 1) (pa_cons (pe_bltn (v := .ty "bool") (by rfl) T.b_bool (by decide +kernel) rfl) pa_nil)))))))
       (pss_one (ps_ret (pe_and (pe_callB (k_isi K) (by rfl) T.b_isinstance (by decide +kernel) (pa_cons (pv 0) (pa_cons (pe_bltn (v := .ty "bool") (by rfl) T.b_bool (by decide +kernel) rfl) pa_nil))) (pe_and (pe_callB (k_isi K) (by rfl) T.b_isinstance (by decide +kernel) (pa_cons (pv 1) (pa_cons (pe_bltn (v := .ty "bool") (by rfl) T.b_bool (by decide +kernel) rfl) pa_nil))) (pe_one (pe_cmpR (k_eq K hr.units) (pv 0) (pv 1) (nomark _)))))))
       pss_nil)
      (pss_cons (ps_if (PW.pt (pw_and (pt_val (pe_callB (k_isi K) (by rfl) T.b_isinstance (by decide +kernel) (pa_cons (pv 0) (pa_cons (pe_bltn (v := .ty "int") (by rfl) T.b_int (by decide +kernel) rfl) pa_nil)))) (pw_and1 (pt_val (pe_callB (k_isi K) (by rfl) T.b_isinstance (by decide +kernel) (pa_cons (pv 1) (pa_cons (pe_bltn (v := .ty "int") (by rfl) T.b_int (by decide +kernel) rfl) pa_nil)))))))
       (pss_one (ps_ret (pe_cmpR (k_eq K hr.units) (pv 0) (pv 1) (nomark _))))
       pss_nil)
      (pss_cons (ps_if (PW.pt (pw_and (pt_val (pe_callB (k_isi K) (by rfl) T.b_isinstance (by decide +kernel) (pa_cons (pv 0) (pa_cons (pe_bltn (v := .ty "str") (by rfl) T.b_str (by decide +kernel) rfl) pa_nil)))) (pw_and1 (pt_val (pe_callB (k_isi K) (by rfl) T.b_isinstance (by decide +kernel) (pa_cons (pv 1) (pa_cons (pe_bltn (v := .ty "str") (by rfl) T.b_str (by decide +kernel) rfl) pa_nil)))))))
       (pss_one (ps_ret (pe_cmpR (k_eq K hr.units) (pv 0) (pv 1) (nomark _))))
       pss_nil)
      (pss_cons (ps_set (i := 2) sc__law_same.nd rfl (Or.inl rfl) (pe_and (pe_callB (k_isi K) (by rfl) T.b_isinstance (by decide +kernel) (pa_cons (pv 0) (pa_cons (pe_bltn (v := .ty "tuple") (by rfl) T.b_tuple (by decide +kernel) rfl) pa_nil))) (pe_one (pe_callB (k_isi K) (by rfl) T.b_isinstance (by decide +kernel) (pa_cons (pv 1) (pa_cons (pe_bltn (v := .ty "tuple") (by rfl) T.b_tuple (by decide +kernel) rfl) pa_nil))))))
      (pss_cons (ps_if (PW.pt (pw_or (k_truth K (pv 2)) (pw_or1 (PW.pt (pw_and (pt_val (pe_callB (k_isi K) (by rfl) T.b_isinstance (by decide +kernel) (pa_cons (pv 0) (pa_cons (pe_bltn (v := .ty "list") (by rfl) T.b_list (by decide +kernel) rfl) pa_nil)))) (pw_and1 (pt_val (pe_callB (k_isi K) (by rfl) T.b_isinstance (by decide +kernel) (pa_cons (pv 1) (pa_cons (pe_bltn (v := .ty "list") (by rfl) T.b_list (by decide +kernel) rfl) pa_nil))))))))))
       (pss_cons (ps_if (pt_cmpR (k_ne K hr.units) (pe_callB (k_len K) (by rfl) T.b_len (by decide +kernel) (pa_cons (pv 0) pa_nil)) (pe_callB (k_len K) (by rfl) T.b_len (by decide +kernel) (pa_cons (pv 1) pa_nil)) (nomark _))
        (pss_one (ps_ret pe_bl))
        pss_nil)
       (pss_cons (ps_for PassesOwn.never rfl (pi_range1 rfl T.b_range (pa_cons (pe_callB (k_len K) (by rfl) T.b_len (by decide +kernel) (pa_cons (pv 0) pa_nil)) pa_nil)) (pg_name (i := 3) sc__law_same.nd rfl (Or.inl rfl))
        (pss_one (ps_if (pt_not (pt_val (k_w K c__law_same hr (Nat.le_refl _) rfl (pa_cons (pe_ix (k_ix K) (pv 0) (pv 3) (fun _ _ => rfl)) (pa_cons (pe_ix (k_ix K) (pv 1) (pv 3) (fun _ _ => rfl)) pa_nil)))))
         (pss_one (ps_ret pe_bl))
         pss_nil)))
       (pss_one (ps_ret pe_bl))))
       pss_nil)
      (pss_one (ps_ret (pe_and (pe_cmpR op_isN (pv 0) pe_non (nomark _)) (pe_one (pe_cmpR op_isN (pv 1) pe_non (nomark _))))))))))), inferInstance, by
    rintro ws S Q ⟨v, w, b, rfl, h, q⟩
    cases h with
    | @int _ a b =>
      rw [eqv_int] at q
      walk_at "go"
      exact fg_here q
    | @str _ a b =>
      rw [eqv_str] at q
      walk_at "go"
      exact fg_here q
    | @tup m xs ys hl hl2 hx =>
      rw [eqv_tup] at q
      walk_at "go"
      refine ⟨fun h => ?_, fun h => ?_⟩
      · walk_at "w"
        have hne : ¬ xs.length = ys.length := fun e => by
          have h : (!decide ((xs.length : Int) = (ys.length : Int))) = true := h
          rw [e] at h; simp at h
        cases hb : PyData.eqvAll (toDs xs) (toDs ys) with
        | true => exact absurd ((eqAll_iff _ _).mp hb).1 hne
        | false => rw [hb] at q; exact fg_here q
      have hl3 : xs.length = ys.length := by
        have h : (!decide ((xs.length : Int) = (ys.length : Int))) = false := h
        simp at h
        omega
      walk_at "w"
      refine ⟨by omega, by omega, ?_⟩
      refine for_q (fun i ρ' S' => S' = S ∧ (∀ (j : Nat) (x y : W), j < i → xs[j]? = some x → ys[j]? = some y → PyData.eqv (toD x) (toD y) = true) ∧ ∃ a2 a3, ρ' = [some (.tup xs), some (.tup ys), a2, a3]) ⟨rfl, fun _ _ _ h => absurd h (Nat.not_lt_zero _), _, _, rfl⟩ (fun _ _ _ _ => trivial) ?_ ?_
      · rintro i w ρ' S' e ⟨rfl, hb, a2, a3, rfl⟩
        obtain ⟨hi, rfl⟩ := intsW_at e
        have hi : i < xs.length := by
          have : i < ((xs.length : Nat) : Int).toNat := hi
          omega
        have ex : xs[i]? = some xs[i] := List.getElem?_eq_getElem hi
        have ey : ys[i]? = some (ys[i]'(by omega)) := List.getElem?_eq_getElem (by omega)
        walk_at "w"
        rw [at_zero ex]
        walk_at "w"
        rw [at_zero ey]
        walk_at "w"
        refine Hd.mk (hn m _ _ _ _ _ rfl (hx i _ _ ex ey) ?_)
        refine ⟨fun h => ?_, fun h => ?_⟩
        · walk_at "w"
          have hf : PyData.eqvAll (toDs xs) (toDs ys) = false := by
            cases hc : PyData.eqvAll (toDs xs) (toDs ys) with
            | false => rfl
            | true =>
              have h : (!PyData.eqv (toD xs[i]) (toD (ys[i]'(by omega)))) = true := h
              rw [((eqAll_iff _ _).mp hc).2 i _ _ ex ey] at h
              exact absurd h (by decide)
          rw [hf] at q
          exact fg_here q
        · refine ⟨rfl, fun j x y hj e1 e2 => ?_, _, _, rfl⟩
          rcases Nat.lt_or_eq_of_le (Nat.le_of_lt_succ hj) with hj | rfl
          · exact hb j x y hj e1 e2
          · rw [ex] at e1; rw [ey] at e2; cases e1; cases e2
            have h : (!PyData.eqv (toD xs[j]) (toD (ys[j]'(by omega)))) = false := h
            simpa using h
      · rintro ρ' S' ⟨rfl, hb, a2, a3, rfl⟩
        have ht : PyData.eqvAll (toDs xs) (toDs ys) = true := (eqAll_iff _ _).mpr ⟨hl3, fun i x y e1 e2 => hb i x y (by
          have := (List.getElem?_eq_some_iff.mp e1).1
          rw [intsW_len]; omega) e1 e2⟩
        rw [ht] at q
        exact fg_here q
    | @lst m a b xs ys ha hb0 hl hl2 hx =>
      walk_at "go"
      refine ⟨fun h => ?_, fun h => ?_⟩
      · walk_at "w"
        have hne : ¬ xs.length = ys.length := fun e => by
          have h : (!decide ((xs.length : Int) = (ys.length : Int))) = true := h
          rw [e] at h; simp at h
        cases hb : PyData.eqvAll (toDs xs) (toDs ys) with
        | true => exact absurd ((eqAll_iff _ _).mp hb).1 hne
        | false => rw [hb] at q; exact fg_here q
      have hl3 : xs.length = ys.length := by
        have h : (!decide ((xs.length : Int) = (ys.length : Int))) = false := h
        simp at h
        omega
      walk_at "w"
      refine ⟨_, ha, ?_⟩
      walk_at "w"
      refine ⟨by omega, by omega, ?_⟩
      refine for_q (fun i ρ' S' => S' = S ∧ (∀ (j : Nat) (x y : W), j < i → xs[j]? = some x → ys[j]? = some y → PyData.eqv (toD x) (toD y) = true) ∧ ∃ a2 a3, ρ' = [some (.ref a), some (.ref b), a2, a3]) ⟨rfl, fun _ _ _ h => absurd h (Nat.not_lt_zero _), _, _, rfl⟩ (fun _ _ _ _ => trivial) ?_ ?_
      · rintro i w ρ' S' e ⟨rfl, hb, a2, a3, rfl⟩
        obtain ⟨hi, rfl⟩ := intsW_at e
        have hi : i < xs.length := by
          have : i < ((xs.length : Nat) : Int).toNat := hi
          omega
        have ex : xs[i]? = some xs[i] := List.getElem?_eq_getElem hi
        have ey : ys[i]? = some (ys[i]'(by omega)) := List.getElem?_eq_getElem (by omega)
        walk_at "w"
        refine ⟨_, ha, ?_⟩
        refine rdAt_ok (at_zero ex) ?_
        walk_at "w"
        refine ⟨_, hb0, ?_⟩
        refine rdAt_ok (at_zero ey) ?_
        walk_at "w"
        refine Hd.mk (hn m _ _ _ _ _ rfl (hx i _ _ ex ey) ?_)
        refine ⟨fun h => ?_, fun h => ?_⟩
        · walk_at "w"
          have hf : PyData.eqvAll (toDs xs) (toDs ys) = false := by
            cases hc : PyData.eqvAll (toDs xs) (toDs ys) with
            | false => rfl
            | true =>
              have h : (!PyData.eqv (toD xs[i]) (toD (ys[i]'(by omega)))) = true := h
              rw [((eqAll_iff _ _).mp hc).2 i _ _ ex ey] at h
              exact absurd h (by decide)
          rw [hf] at q
          exact fg_here q
        · refine ⟨rfl, fun j x y hj e1 e2 => ?_, _, _, rfl⟩
          rcases Nat.lt_or_eq_of_le (Nat.le_of_lt_succ hj) with hj | rfl
          · exact hb j x y hj e1 e2
          · rw [ex] at e1; rw [ey] at e2; cases e1; cases e2
            have h : (!PyData.eqv (toD xs[j]) (toD (ys[j]'(by omega)))) = false := h
            simpa using h
      · rintro ρ' S' ⟨rfl, hb, a2, a3, rfl⟩
        have ht : PyData.eqvAll (toDs xs) (toDs ys) = true := (eqAll_iff _ _).mpr ⟨hl3, fun i x y e1 e2 => hb i x y (by
          have := (List.getElem?_eq_some_iff.mp e1).1
          rw [intsW_len]; omega) e1 e2⟩
        rw [ht] at q
        exact fg_here q⟩
theorem ok_sameb (T : Txt K mg) (d : DefAt K mg "_law_same" s__law_same ["_law_one", "_law_two"]) : ∀ n : Nat, CalW P w K mg base (n + 2) "_law_same" (spSameB n)
  | 0 => sameb_step T 1 0 spNever ((calNever d sc__law_same).hd) (fun m v w b S Q e => by cases e) d
  | n + 1 => sameb_step T (n + 2) (n + 1) (spSameB n) (ok_sameb T d n).hd (fun m v w b S Q e h q => ⟨v, w, b, rfl, by rw [Nat.succ.inj e]; exact h, q⟩) d
end
end K83
set_option Elab.async false
set_option linter.all false
set_option maxRecDepth 100000
set_option maxHeartbeats 4000000
set_option synthInstance.maxHeartbeats 4000000
set_option synthInstance.maxSize 100000
namespace K83
open PySem PySem.Spec PyProof.Rows L2 Wl
local macro_rules | `(tactic| walk_at "w") => `(tactic| (conv => whnf))
/-! what a store holds -/
local macro_rules | `(tactic| walk_at "ne") => `(tactic| first | assumption | (apply Ne.symm; assumption) | exact ne_free (by assumption) (by assumption) | exact (ne_free (by assumption) (by assumption)).symm | exact Pl.ne (by assumption) (by assumption) | exact (Pl.ne (by assumption) (by assumption)).symm)
local macro_rules | `(tactic| walk_at "s") => `(tactic| first
  | exact put_same
  | assumption
  | (refine (put_ne ?_).trans ?_; (· walk_at "ne"); (· walk_at "s")))
/-! a side condition -/
local macro_rules | `(tactic| walk_at "c") => `(tactic| first
  | exact Or.inl (Or.inl ⟨by omega, by omega⟩)
  | exact Or.inl (Or.inr ⟨by omega, by omega⟩)
  | exact Or.inl ⟨by omega, by omega⟩
  | exact Or.inl ⟨rfl, _, by walk_at "s"⟩
  | rfl
  | omega
  | decide
  | exact Nat.le_trans (by omega) sizeLine_ge)
/-! one question is answered, if the answer is plain -/
local macro_rules | `(tactic| walk_at "g1") => `(tactic| first
  | refine ⟨fun _ => ?_, fun h => absurd (show true = false from h) (by decide)⟩
  | refine ⟨fun h => absurd (show false = true from h) Bool.false_ne_true, fun _ => ?_⟩
  | refine ⟨_, by walk_at "s", ?_⟩
  | refine ⟨_, _, by walk_at "s", by walk_at "s", ?_⟩
  | refine ⟨_, by walk_at "s", by simpa using (by omega), ?_⟩
  | refine ⟨_, rfl, ?_⟩
  | refine ⟨_, _, rfl, (by first | exact isTy_tt | exact isTy_ii | exact isTy_ll | exact isTy_ss | exact isTy_ib | exact isTy_tb | exact isTy_ti | exact isTy_ts | exact isTy_tl | exact isTy_lb | exact isTy_li | exact isTy_ls | exact isTy_lt | exact isTy_sb | exact isTy_si | exact isTy_st | exact isTy_sl | exact isTy_is | exact isTy_it | exact isTy_il | exact isTy_bi | exact isTy_bs | exact isTy_bb | exact isTy_nb | exact isTy_ni | exact isTy_ns | exact isTy_nt | exact isTy_nl | exact isTy_bt | exact isTy_bl | exact isTy_nd | exact isTy_td | exact isTy_ld | exact isTy_sd | exact isTy_id | exact isTy_bd | exact isTy_dd | exact isTy_db | exact isTy_di | exact isTy_ds | exact isTy_dt | exact isTy_dl), ?_⟩
  | refine ⟨_, _, tyName_lst (by walk_at "s"), (by first | exact isTy_ll | exact isTy_lb | exact isTy_li | exact isTy_ls | exact isTy_lt), ?_⟩
  | refine if_q ?_
  | refine ⟨by walk_at "c", ?_⟩)
local macro_rules | `(tactic| walk_at "go") => `(tactic| (walk_at "w"; repeat (walk_at "g1"; walk_at "w")))
/-! a branch that cannot be -/
local macro_rules | `(tactic| walk_at "two") => `(tactic| refine ⟨fun h => ?_, fun h => ?_⟩)
section
variable {P : Program} {w : World} {K : PySem.W.Frag} {mg : Str → Option Value} {base : Heap}
/-- a comprehension that draws: at most c numbers a turn -/
theorem lc_poolA {α : Type} (F : α → W) (c : Int) (hc : 0 ≤ c) {p : Addr} {N : Int} {j : Nat} {n : Nat} {te : TEW} {vs : List Nat} {ρ : StW} {Q : WK} {ws : List W} {ok : Sto → Prop} {S1 : Sto} (Pr : α → Prop) (h : Pl S1 p N) (hN : N + c * n < 2 ^ 37) (hn : ws.length = n) (hl : n ≤ 1000) (hok : ∀ S', KpL [p] S1 S' → ok S')
    (he : ∀ (i : Nat) (w : W) (M : Int) S', ws[i]? = some w → KpL [p] S1 S' → Pl S' p M → M < 2 ^ 37 → ∀ Q' : WK, (∀ (r : α) S2, Pr r → Pl S2 p (M + c) → OffL [p] S' S2 → Q' (F r) S2) → te ((wipeW ρ vs).set j (some w)) S' Q')
    (hd : ∀ (D : Addr) (hs : List α) S', hs.length = n → (∀ x ∈ hs, Pr x) → S1 D = none → S' D = some (.lst (hs.map F)) → Pl S' p (N + c * n) → KpL [p] S1 S' → Q (.ref D) S') : LcQ (wName j) wYes te vs ρ Q ws ok S1 := by
  refine lc_q fun D hD => ⟨fun i acc S' => i ≤ n ∧ (∃ hs : List α, hs.length = i ∧ (∀ x ∈ hs, Pr x) ∧ acc = hs.map F) ∧ S' D = some (.lst acc) ∧ Pl S' p (N + c * i) ∧ KpL [p] S1 S', ⟨Nat.zero_le _, ⟨[], rfl, (fun _ h => by cases h), rfl⟩, put_same, ?_, (KpL.refl [p] S1).own hD⟩, fun _ _ S' hh => hok S' hh.2.2.2.2, ?_, ?_⟩
  · exact (h.eq (put_ne (h.ne hD).symm)).mono (by simp)
  · rintro i w acc S' e ⟨hi, ⟨hs, hh, hP, rfl⟩, hD', hp, k⟩
    have hiw : i < ws.length := (List.getElem?_eq_some_iff.mp e).1
    have hci : c * i ≤ c * n := Int.mul_le_mul_of_nonneg_left (by omega) hc
    have hcs : c * ((i + 1 : Nat) : Int) = c * i + c := by rw [Int.natCast_add, Int.mul_add]; simp
    refine ⟨fun _ => ?_, fun h => absurd h (by decide)⟩
    refine he i w _ S' e k hp (by omega) _ fun r S2 hr hp2 o2 => ?_
    have hDp : D ≠ p := h.ne hD
    have hD2 := (o2 D (notin1 hDp)).trans hD'
    refine ⟨hD2, ?_, by omega, ⟨hs ++ [r], by rw [List.length_append, hh]; rfl, ?_, by rw [List.map_append]; rfl⟩, put_same, ?_, (k.trans o2.kp).own hD⟩
    · rw [List.length_map]
      exact Nat.lt_of_lt_of_le (show hs.length < 2000 by omega) (by decide)
    · intro x hx
      rcases List.mem_append.mp hx with h' | h'
      · exact hP x h'
      · rw [List.mem_singleton.mp h']; exact hr
    · exact (hp2.eq (put_ne hDp.symm)).mono (by omega)
  · rintro acc S' ⟨_, ⟨hs, hh, hP, rfl⟩, hD', hp, k⟩
    exact hd D hs S' (hh.trans hn) hP hD hD' (by rw [← hn]; exact hp) k
/-! lines and pages -/
structure Lt where
  x : Int
  c : Str
  i : Int
  f : Str
structure Ln where
  d : Int
  ls : List Lt
structure Pg where
  n : Int
  fl : List (List Ln)
  co : List (List Ln)
  no : List (List Ln)
def Lt.v (l : Lt) : W := .tup [.int l.x, .str l.c, .int l.i, .str l.f]
def Ln.v (l : Ln) : W := .tup [.int l.d, .tup (l.ls.map Lt.v)]
def blk (b : List Ln) : W := .tup (b.map Ln.v)
def Pg.v (p : Pg) : W := .tup [.int p.n, .tup (p.fl.map blk), .tup (p.co.map blk), .tup (p.no.map blk)]
structure LtOk (l : Lt) : Prop where
  c : PyData.strOk l.c = true
  f : PyData.strOk l.f = true
structure LnOk (l : Ln) : Prop where
  one : 1 ≤ l.ls.length
  few : l.ls.length ≤ 3
  ok : ∀ x ∈ l.ls, LtOk x
structure BkOk (b : List Ln) : Prop where
  few : b.length ≤ 2
  ok : ∀ x ∈ b, LnOk x
structure PgOk (p : Pg) : Prop where
  fl : p.fl.length ≤ 2
  co : p.co.length ≤ 2
  no : p.no.length ≤ 2
  one : 1 ≤ p.co.length
  okf : ∀ b ∈ p.fl, BkOk b
  okc : ∀ b ∈ p.co, BkOk b
  okn : ∀ b ∈ p.no, BkOk b
theorem map_at {α : Type} {F : α → W} {l : List α} {i : Nat} {x : W} (h : (l.map F)[i]? = some x) : ∃ a, l[i]? = some a ∧ F a = x := by
  rw [List.getElem?_map] at h
  cases hc : l[i]? with
  | none => rw [hc] at h; cases h
  | some p => rw [hc] at h; exact ⟨p, rfl, Option.some.inj h⟩
theorem shp_map {α : Type} {S : Sto} {n : Nat} {F : α → W} {Ok : α → Prop} (h : ∀ a b, Ok a → Ok b → Shp S n (F a) (F b) (PyData.eqv (toD (F a)) (toD (F b)))) {xs ys : List α} (hx : ∀ a ∈ xs, Ok a) (hy : ∀ a ∈ ys, Ok a) :
    ∀ (i : Nat) (x y : W), (xs.map F)[i]? = some x → (ys.map F)[i]? = some y → Shp S n x y (PyData.eqv (toD x) (toD y)) := by
  intro i x y e1 e2
  obtain ⟨a, ea, rfl⟩ := map_at e1
  obtain ⟨b, eb, rfl⟩ := map_at e2
  exact h a b (hx a (List.mem_of_getElem? ea)) (hy b (List.mem_of_getElem? eb))
theorem lt_shp {S : Sto} (a b : Lt) : Shp S 1 a.v b.v (PyData.eqv (toD a.v) (toD b.v)) := by
  refine .tup (by show 4 ≤ 1000000; decide) (by show 4 ≤ 1000000; decide) fun i x y e1 e2 => ?_
  match i with
  | 0 => cases e1; cases e2; exact .int
  | 1 => cases e1; cases e2; exact .str
  | 2 => cases e1; cases e2; exact .int
  | 3 => cases e1; cases e2; exact .str
  | n + 4 => cases e1
theorem ln_shp {S : Sto} (a b : Ln) (ha : LnOk a) (hb : LnOk b) : Shp S 3 a.v b.v (PyData.eqv (toD a.v) (toD b.v)) := by
  refine .tup (by show 2 ≤ 1000000; decide) (by show 2 ≤ 1000000; decide) fun i x y e1 e2 => ?_
  match i with
  | 0 => cases e1; cases e2; exact .int
  | 1 =>
    cases e1; cases e2
    refine .tup (by rw [List.length_map]; have := ha.few; omega) (by rw [List.length_map]; have := hb.few; omega) ?_
    exact shp_map (Ok := fun _ => True) (fun a b _ _ => lt_shp a b) (fun _ _ => trivial) (fun _ _ => trivial)
  | n + 2 => cases e1
theorem bk_shp {S : Sto} (a b : List Ln) (ha : BkOk a) (hb : BkOk b) : Shp S 4 (blk a) (blk b) (PyData.eqv (toD (blk a)) (toD (blk b))) :=
  .tup (by rw [List.length_map]; have := ha.few; omega) (by rw [List.length_map]; have := hb.few; omega) (shp_map (Ok := LnOk) ln_shp ha.ok hb.ok)
theorem pg_shp {S : Sto} (a b : Pg) (ha : PgOk a) (hb : PgOk b) : Shp S 6 a.v b.v (PyData.eqv (toD a.v) (toD b.v)) := by
  refine .tup (by show 4 ≤ 1000000; decide) (by show 4 ≤ 1000000; decide) fun i x y e1 e2 => ?_
  match i with
  | 0 => cases e1; cases e2; exact .int
  | 1 =>
    cases e1; cases e2
    exact .tup (by rw [List.length_map]; have := ha.fl; omega) (by rw [List.length_map]; have := hb.fl; omega) (shp_map (Ok := BkOk) bk_shp ha.okf hb.okf)
  | 2 =>
    cases e1; cases e2
    exact .tup (by rw [List.length_map]; have := ha.co; omega) (by rw [List.length_map]; have := hb.co; omega) (shp_map (Ok := BkOk) bk_shp ha.okc hb.okc)
  | 3 =>
    cases e1; cases e2
    exact .tup (by rw [List.length_map]; have := ha.no; omega) (by rw [List.length_map]; have := hb.no; omega) (shp_map (Ok := BkOk) bk_shp ha.okn hb.okn)
  | n + 4 => cases e1
theorem shN_map {α : Type} {n : Nat} {F : α → W} {l : List α} (h : ∀ a ∈ l, shN n (F a)) : shN (n + 1) (.tup (l.map F)) := shN_tup fun w hw => by
  obtain ⟨a, ha, rfl⟩ := List.mem_map.mp hw
  exact h a ha
theorem lt_sh {a : Lt} (h : LtOk a) : shN 1 a.v := shN_tup fun w hw => by
  simp only [List.mem_cons, List.not_mem_nil, or_false] at hw
  rcases hw with rfl | rfl | rfl | rfl
  · exact shN_int _
  · exact shN_str h.c
  · exact shN_int _
  · exact shN_str h.f
theorem ln_sh {a : Ln} (h : LnOk a) : shN 3 a.v := shN_tup fun w hw => by
  simp only [List.mem_cons, List.not_mem_nil, or_false] at hw
  rcases hw with rfl | rfl
  · exact shN_up (shN_int _) (by decide)
  · exact shN_map fun x hx => lt_sh (h.ok x hx)
theorem bk_sh {a : List Ln} (h : BkOk a) : shN 4 (blk a) := shN_map fun x hx => ln_sh (h.ok x hx)
theorem pg_sh {a : Pg} (h : PgOk a) : shN 6 a.v := shN_tup fun w hw => by
  simp only [List.mem_cons, List.not_mem_nil, or_false] at hw
  rcases hw with rfl | rfl | rfl | rfl
  · exact shN_up (shN_int _) (by decide)
  · exact shN_map fun x hx => bk_sh (h.okf x hx)
  · exact shN_map fun x hx => bk_sh (h.okc x hx)
  · exact shN_map fun x hx => bk_sh (h.okn x hx)
theorem pgs_sh {l : List Pg} (h : ∀ p ∈ l, PgOk p) : shW (.rl (l.map Pg.v)) := shN_sh (n := 7) (shN_rl fun w hw => by
  obtain ⟨a, ha, rfl⟩ := List.mem_map.mp hw
  exact pg_sh (h a ha)) (by decide)
end
end K83
set_option Elab.async false
set_option linter.all false
set_option maxRecDepth 100000
set_option maxHeartbeats 4000000
set_option synthInstance.maxHeartbeats 4000000
set_option synthInstance.maxSize 100000
namespace K83
open PySem PySem.Spec PyProof.Rows L2 Wl
local macro_rules | `(tactic| walk_at "w") => `(tactic| (conv => whnf))
/-! what a store holds -/
local macro_rules | `(tactic| walk_at "ne") => `(tactic| first | assumption | (apply Ne.symm; assumption) | exact ne_free (by assumption) (by assumption) | exact (ne_free (by assumption) (by assumption)).symm | exact Pl.ne (by assumption) (by assumption) | exact (Pl.ne (by assumption) (by assumption)).symm)
local macro_rules | `(tactic| walk_at "s") => `(tactic| first
  | exact put_same
  | assumption
  | (refine (put_ne ?_).trans ?_; (· walk_at "ne"); (· walk_at "s")))
/-! a side condition -/
local macro_rules | `(tactic| walk_at "c") => `(tactic| first
  | exact Or.inl (Or.inl ⟨by omega, by omega⟩)
  | exact Or.inl (Or.inr ⟨by omega, by omega⟩)
  | exact Or.inl ⟨by omega, by omega⟩
  | exact Or.inl ⟨rfl, _, by walk_at "s"⟩
  | rfl
  | omega
  | decide
  | exact Nat.le_trans (by omega) sizeLine_ge)
/-! one question is answered, if the answer is plain -/
local macro_rules | `(tactic| walk_at "g1") => `(tactic| first
  | refine ⟨fun _ => ?_, fun h => absurd (show true = false from h) (by decide)⟩
  | refine ⟨fun h => absurd (show false = true from h) Bool.false_ne_true, fun _ => ?_⟩
  | refine ⟨_, by walk_at "s", ?_⟩
  | refine ⟨_, _, by walk_at "s", by walk_at "s", ?_⟩
  | refine ⟨_, by walk_at "s", by simpa using (by omega), ?_⟩
  | refine ⟨_, rfl, ?_⟩
  | refine ⟨_, _, rfl, (by first | exact isTy_tt | exact isTy_ii | exact isTy_ll | exact isTy_ss | exact isTy_ib | exact isTy_tb | exact isTy_ti | exact isTy_ts | exact isTy_tl | exact isTy_lb | exact isTy_li | exact isTy_ls | exact isTy_lt | exact isTy_sb | exact isTy_si | exact isTy_st | exact isTy_sl | exact isTy_is | exact isTy_it | exact isTy_il | exact isTy_bi | exact isTy_bs | exact isTy_bb | exact isTy_nb | exact isTy_ni | exact isTy_ns | exact isTy_nt | exact isTy_nl | exact isTy_bt | exact isTy_bl | exact isTy_nd | exact isTy_td | exact isTy_ld | exact isTy_sd | exact isTy_id | exact isTy_bd | exact isTy_dd | exact isTy_db | exact isTy_di | exact isTy_ds | exact isTy_dt | exact isTy_dl), ?_⟩
  | refine ⟨_, _, tyName_lst (by walk_at "s"), (by first | exact isTy_ll | exact isTy_lb | exact isTy_li | exact isTy_ls | exact isTy_lt), ?_⟩
  | refine if_q ?_
  | refine ⟨by walk_at "c", ?_⟩)
local macro_rules | `(tactic| walk_at "go") => `(tactic| (walk_at "w"; repeat (walk_at "g1"; walk_at "w")))
/-! a branch that cannot be -/
local macro_rules | `(tactic| walk_at "two") => `(tactic| refine ⟨fun h => ?_, fun h => ?_⟩)
section
variable {P : Program} {w : World} {K : PySem.W.Frag} {mg : Str → Option Value} {base : Heap}
def chs : Str := Str.ofString "abcdefghijklmnopqrstuvwxyzABCDEFGHIJKLMNOPQRSTUVWXYZ0123456789.,;:!?'()-"
theorem chs_len : chs.cps.toList.length = 72 := by decide +kernel
theorem chs_ok : ∀ c ∈ chs.cps.toList, c < 0x110000 := by decide +kernel
theorem one_ok {c : Nat} (h : c < 0x110000) : PyData.strOk ⟨#[c]⟩ = true := by
  unfold PyData.strOk
  simp [h]
def spLn : SpW := fun ws S Q => ∃ (p : Addr) (N : Int), ws = [.ref p] ∧ Pl S p N ∧ N < 2 ^ 37 ∧ ∀ (l : Ln) S', LnOk l → Pl S' p (N + 6) → OffL [p] S S' → Q l.v S'
theorem ok__law_line (T : Txt K mg) (c__law_take : CalW P w K mg base 1 "_law_take" (Hd spTk)) (d : DefAt K mg "_law_line" s__law_line ["_law_pool_here"]) : CalW P w K mg base 2 "_law_line" spLn :=
  calDI d sc__law_line (fun ws S Q ⟨p, N, h, _⟩ => by rw [h]; rfl) fun f cdv A outer s H E hr => ⟨_, _,
    (pss_cons (ps_set (i := 1) sc__law_line.nd rfl (Or.inl rfl) pe_str)
      (pss_cons (ps_set (i := 2) sc__law_line.nd rfl (Or.inl rfl) (k_w K c__law_take hr (by decide) rfl (pa_cons (pv 0) (pa_cons pe_int pa_nil))))
      (pss_cons (ps_set (i := 3) sc__law_line.nd rfl (Or.inl rfl) (k_w K c__law_take hr (by decide) rfl (pa_cons (pv 0) (pa_cons pe_int pa_nil))))
      (pss_cons (ps_set (i := 4) sc__law_line.nd rfl (Or.inl rfl) (pe_lst pa_nil))
      (pss_cons (ps_for PassesOwn.never rfl (pi_range1 rfl T.b_range (pa_cons (pe_op (k_addB K) pe_int (k_w K c__law_take hr (by decide) rfl (pa_cons (pv 0) (pa_cons pe_int pa_nil)))) pa_nil)) (pg_name (i := 5) sc__law_line.nd rfl (Or.inl rfl))
       (pss_cons (ps_set (i := 6) sc__law_line.nd rfl (Or.inl rfl) (pe_ix (k_ix K) (pv 1) (k_w K c__law_take hr (by decide) rfl (pa_cons (pv 0) (pa_cons pe_int pa_nil))) (fun _ _ => rfl)))
       (pss_one (ps_expr (k_bm K PySem.F.plainAttrs_list PySem.F.slot_list_append PySem.F.type_list_append mt_append (pv 4) (pa_cons (pe_tup (pa_cons (pe_op (k_addB K) (pv 2) (pe_op op_mulA pe_int (pv 5))) (pa_cons (pv 6) (pa_cons (pe_op (k_addB K) pe_int (pv 5)) (pa_cons (pe_ix (k_ix K) (pe_lst (pa_cons pe_str (pa_cons pe_str pa_nil))) (pe_op op_mod (pe_callTy call_int1 (by rfl) T.b_int (by decide +kernel) (pa_cons (pv 5) pa_nil)) pe_int) (fun _ _ => rfl)) pa_nil))))) pa_nil))))))
      (pss_one (ps_ret (pe_tup (pa_cons (pv 3) (pa_cons (pe_callTy (k_tuple K) (by rfl) T.b_tuple (by decide +kernel) (pa_cons (pv 4) pa_nil)) pa_nil)))))))))), inferInstance, by
    rintro ws S Q ⟨p, N, rfl, hp, hN, q⟩
    walk_at "w"
    refine tk_go hp (by omega) (by omega) (by omega) fun x S1 x0 x1 p1 o1 => ?_
    walk_at "w"
    refine tk_go p1 (by omega) (by omega) (by omega) fun dn S2 d0 d1 p2 o2 => ?_
    walk_at "w"
    intro L hL
    have hLp := p2.ne hL
    have p3 := p2.eq (put_ne (c := .lst []) hLp.symm)
    have k3 : KpL [p] S (put S2 L (.lst [])) := (o1.kp.trans o2.kp).new hL
    have l3 : put S2 L (.lst []) L = some (.lst (([] : List Lt).map Lt.v)) := put_same
    have hLS : S L = none := (o1.kp.trans o2.kp).free hL (by simp [hLp])
    generalize put S2 L (.lst []) = S3 at p3 k3 l3
    walk_at "w"
    refine tk_go p3 (by omega) (by omega) (by omega) fun m S4 m0 m1 p4 o4 => ?_
    have l4 := (o4 L (notin1 hLp)).trans l3
    walk_at "w"
    refine ⟨by omega, by omega, ?_⟩
    refine for_q (fun i ρ' S' => ∃ (ls : List Lt) (a5 a6 : Option W), ls.length = i ∧ (∀ x ∈ ls, LtOk x) ∧ ρ' = [some (.ref p), some (.str chs), some (.int x), some (.int dn), some (.ref L), a5, a6] ∧ S' L = some (.lst (ls.map Lt.v)) ∧ Pl S' p (N + 3 + i) ∧ KpL [p] S S')
      ⟨[], none, none, rfl, (fun _ h => by cases h), rfl, l4, p4.mono (by simp; omega), k3.trans o4.kp⟩ (fun _ _ _ _ => trivial) ?_ ?_
    · rintro i w ρ' S' ew ⟨ls, a5, a6, hl, hok, rfl, hL5, p5, k5⟩
      obtain ⟨hi, rfl⟩ := intsW_at ew
      walk_at "w"
      refine tk_go p5 (by omega) (by omega) (by omega) fun r S6 r0 r1 p6 o6 => ?_
      have l6 := (o6 L (notin1 hLp)).trans hL5
      obtain ⟨ri, rfl⟩ : ∃ n : Nat, r = (n : Int) := ⟨r.toNat, by omega⟩
      have hri : ri < chs.cps.toList.length := by rw [chs_len]; omega
      walk_at "w"
      refine ⟨Nat.le_trans (show 72 ≤ 1000 by decide) sizeLine_ge, _, atI_nat (List.getElem?_eq_getElem hri), ?_⟩
      walk_at "w"
      refine ⟨.inl ⟨rfl, _, l6⟩, ?_⟩
      walk_at "w"
      refine ⟨.inl (.inl ⟨by omega, by omega⟩), ?_⟩
      walk_at "w"
      intro D hD
      walk_at "w"
      refine ⟨(by show (0 : Int) < 2; decide), ?_⟩
      refine ⟨_, put_same, ?_⟩
      have hDL := ne_free l6 hD
      have hDp := p6.ne hD
      have l7 := (put_ne (c := .lst [.str "plain", .str "bold"]) hDL.symm).trans l6
      have p7 := p6.eq (put_ne (c := .lst [.str "plain", .str "bold"]) hDp.symm)
      have k7 : KpL [p] S (put S6 D (.lst [.str "plain", .str "bold"])) := (k5.trans o6.kp).new hD
      generalize put S6 D (.lst [.str "plain", .str "bold"]) = S7 at l7 p7 k7
      obtain ⟨f, hf, ef⟩ : ∃ f : Str, PyData.strOk f = true ∧ atI [W.str "plain", W.str "bold"] ((0 + (i : Int)) % 2) = some (.str f) := by
        rcases (show (0 + (i : Int)) % 2 = 0 ∨ (0 + (i : Int)) % 2 = 1 by omega) with e | e <;> rw [e]
        · exact ⟨"plain", by decide +kernel, rfl⟩
        · exact ⟨"bold", by decide +kernel, rfl⟩
      refine rdAt_ok ef ?_
      walk_at "w"
      refine ⟨_, l7, ?_⟩
      refine ⟨by rw [List.length_map, hl]; exact Nat.lt_of_lt_of_le (show i < 100 by omega) (Nat.le_trans (by decide) sizeLine_ge), ls ++ [⟨x + 40 * (0 + (i : Int)), ⟨#[chs.cps.toList[ri]]⟩, 1 + (0 + (i : Int)), f⟩], _, _, by simp [hl], ?_, rfl, ?_, ?_, k7.own hLS⟩
      · intro y hy
        rcases List.mem_append.mp hy with h | h
        · exact hok y h
        · rw [List.mem_singleton.mp h]
          exact ⟨one_ok (chs_ok _ (List.getElem_mem hri)), hf⟩
      · rw [put_same, List.map_append]
        rfl
      · exact (p7.eq (put_ne hLp.symm)).mono (by omega)
    · rintro ρ' S' ⟨ls, a5, a6, hl, hok, rfl, hL5, p5, k5⟩
      walk_at "go"
      refine fg_off (ps := [p]) k5 fun S8 g1 g2 => ?_
      rw [intsW_len] at p5
      exact q ⟨dn, ls⟩ S8 ⟨by rw [hl, intsW_len]; omega, by rw [hl, intsW_len]; omega, hok⟩ ((p5.eq (g2 p (by simp))).mono (by omega)) g1⟩
end
end K83
set_option Elab.async false
set_option linter.all false
set_option maxRecDepth 100000
set_option maxHeartbeats 4000000
set_option synthInstance.maxHeartbeats 4000000
set_option synthInstance.maxSize 100000
namespace K83
open PySem PySem.Spec PyProof.Rows L2 Wl
local macro_rules | `(tactic| walk_at "w") => `(tactic| (conv => whnf))
/-! what a store holds -/
local macro_rules | `(tactic| walk_at "ne") => `(tactic| first | assumption | (apply Ne.symm; assumption) | exact ne_free (by assumption) (by assumption) | exact (ne_free (by assumption) (by assumption)).symm | exact Pl.ne (by assumption) (by assumption) | exact (Pl.ne (by assumption) (by assumption)).symm)
local macro_rules | `(tactic| walk_at "s") => `(tactic| first
  | exact put_same
  | assumption
  | (refine (put_ne ?_).trans ?_; (· walk_at "ne"); (· walk_at "s")))
/-! a side condition -/
local macro_rules | `(tactic| walk_at "c") => `(tactic| first
  | exact Or.inl (Or.inl ⟨by omega, by omega⟩)
  | exact Or.inl (Or.inr ⟨by omega, by omega⟩)
  | exact Or.inl ⟨by omega, by omega⟩
  | exact Or.inl ⟨rfl, _, by walk_at "s"⟩
  | rfl
  | omega
  | decide
  | exact Nat.le_trans (by omega) sizeLine_ge)
/-! one question is answered, if the answer is plain -/
local macro_rules | `(tactic| walk_at "g1") => `(tactic| first
  | refine ⟨fun _ => ?_, fun h => absurd (show true = false from h) (by decide)⟩
  | refine ⟨fun h => absurd (show false = true from h) Bool.false_ne_true, fun _ => ?_⟩
  | refine ⟨_, by walk_at "s", ?_⟩
  | refine ⟨_, _, by walk_at "s", by walk_at "s", ?_⟩
  | refine ⟨_, by walk_at "s", by simpa using (by omega), ?_⟩
  | refine ⟨_, rfl, ?_⟩
  | refine ⟨_, _, rfl, (by first | exact isTy_tt | exact isTy_ii | exact isTy_ll | exact isTy_ss | exact isTy_ib | exact isTy_tb | exact isTy_ti | exact isTy_ts | exact isTy_tl | exact isTy_lb | exact isTy_li | exact isTy_ls | exact isTy_lt | exact isTy_sb | exact isTy_si | exact isTy_st | exact isTy_sl | exact isTy_is | exact isTy_it | exact isTy_il | exact isTy_bi | exact isTy_bs | exact isTy_bb | exact isTy_nb | exact isTy_ni | exact isTy_ns | exact isTy_nt | exact isTy_nl | exact isTy_bt | exact isTy_bl | exact isTy_nd | exact isTy_td | exact isTy_ld | exact isTy_sd | exact isTy_id | exact isTy_bd | exact isTy_dd | exact isTy_db | exact isTy_di | exact isTy_ds | exact isTy_dt | exact isTy_dl), ?_⟩
  | refine ⟨_, _, tyName_lst (by walk_at "s"), (by first | exact isTy_ll | exact isTy_lb | exact isTy_li | exact isTy_ls | exact isTy_lt), ?_⟩
  | refine if_q ?_
  | refine ⟨by walk_at "c", ?_⟩)
local macro_rules | `(tactic| walk_at "go") => `(tactic| (walk_at "w"; repeat (walk_at "g1"; walk_at "w")))
/-! a branch that cannot be -/
local macro_rules | `(tactic| walk_at "two") => `(tactic| refine ⟨fun h => ?_, fun h => ?_⟩)
section
variable {P : Program} {w : World} {K : PySem.W.Frag} {mg : Str → Option Value} {base : Heap}
def spPage : SpW := fun ws S Q => ∃ (p : Addr) (N n : Int) (m : Nat), ws = [.ref p, .int n, .int m] ∧ Pl S p N ∧ N < 2 ^ 36 ∧ 1 ≤ m ∧ m ≤ 2 ∧
  ∀ (g : Pg) S', PgOk g → g.fl.length ≤ 1 → g.no.length ≤ 1 → g.n = n → Pl S' p (N + 40) → OffL [p] S S' → Q g.v S'
theorem ok__law_page (T : Txt K mg) (c__law_take : CalW P w K mg base 1 "_law_take" (Hd spTk)) (c__law_line : CalW P w K mg base 2 "_law_line" (Hd spLn)) (d : DefAt K mg "_law_page" s__law_page ["_law_pool_here", "_law_number", "_law_cols"]) : CalW P w K mg base 3 "_law_page" spPage :=
  calDI d sc__law_page (fun ws S Q ⟨p, N, n, m, h, _⟩ => by rw [h]; rfl) fun f cdv A outer s H E hr => ⟨_, _,
    (pss_cons (ps_set (i := 3) sc__law_page.nd rfl (Or.inl rfl) (pe_tup pa_nil))
      (pss_mid (ps_if (pt_cmpR (k_eq K hr.units) (k_w K c__law_take hr (by decide) rfl (pa_cons (pv 0) (pa_cons pe_int pa_nil))) pe_int (nomark _))
       (pss_one (ps_set (i := 3) sc__law_page.nd rfl (Or.inl rfl) (pe_tup (pa_cons (pe_tup (pa_cons (k_w K c__law_line hr (by decide) rfl (pa_cons (pv 0) pa_nil)) pa_nil)) pa_nil))))
       pss_nil)
      (pss_cons (ps_set (i := 4) sc__law_page.nd rfl (Or.inl rfl) (pe_lst pa_nil))
      (pss_cons (ps_for PassesOwn.never rfl (pi_range1 rfl T.b_range (pa_cons (pv 2) pa_nil)) (pg_name (i := 5) sc__law_page.nd rfl (Or.inl rfl))
       (pss_one (ps_expr (k_bm K PySem.F.plainAttrs_list PySem.F.slot_list_append PySem.F.type_list_append mt_append (pv 4) (pa_cons (pe_callTy (k_tuple K) (by rfl) T.b_tuple (by decide +kernel) (pa_cons (pe_lc (own := [("_law_k", 6)]) rfl sc__law_page.nd (pi_range1 rfl T.b_range (pa_cons (k_w K c__law_take hr (by decide) rfl (pa_cons (pv 0) (pa_cons pe_int pa_nil))) pa_nil)) (blkOk_by (own := [("_law_k", 6)]) (N := ["_law_pool_here", "_law_number", "_law_cols", "_law_floats", "_law_columns", "_law_c", "_law_k", "_law_notes"]) (sc := defScope s__law_page) (by decide +kernel)) (fun _ _ _ _ _ => (pg_name (i := 6) sc__law_page.nd rfl (Or.inl rfl))) (fun _ _ _ _ _ => pts_nil) (fun _ _ _ _ _ => (k_w K c__law_line hr (by decide) rfl (pa_cons (pv 0) pa_nil)))) pa_nil)) pa_nil)))))
      (pss_cons (ps_set (i := 7) sc__law_page.nd rfl (Or.inl rfl) (pe_tup pa_nil))
      (pss_mid (ps_if (pt_cmpR (k_eq K hr.units) (k_w K c__law_take hr (by decide) rfl (pa_cons (pv 0) (pa_cons pe_int pa_nil))) pe_int (nomark _))
       (pss_one (ps_set (i := 7) sc__law_page.nd rfl (Or.inl rfl) (pe_tup (pa_cons (pe_tup (pa_cons (k_w K c__law_line hr (by decide) rfl (pa_cons (pv 0) pa_nil)) pa_nil)) pa_nil))))
       pss_nil)
      (pss_one (ps_ret (pe_tup (pa_cons (pv 1) (pa_cons (pv 3) (pa_cons (pe_callTy (k_tuple K) (by rfl) T.b_tuple (by decide +kernel) (pa_cons (pv 4) pa_nil)) (pa_cons (pv 7) pa_nil))))))))))))), inferInstance, by
    rintro ws S Q ⟨p, N, n, m, rfl, hp, hN, hm, hm2, q⟩
    walk_at "w"
    refine mid_q (fun ρ S' => ∃ fl : List (List Ln), fl.length ≤ 1 ∧ (∀ b ∈ fl, BkOk b) ∧ ρ = [some (.ref p), some (.int n), some (.int m), some (.tup (fl.map blk)), none, none, none, none] ∧ Pl S' p (N + 7) ∧ OffL [p] S S') ?_ ?_
    · walk_at "w"
      refine tk_go hp (by omega) (by omega) (by omega) fun x S1 x0 x1 p1 o1 => ?_
      refine ⟨fun h => ?_, fun h => ?_⟩
      · walk_at "w"
        refine Hd.mk ⟨p, N + 1, rfl, p1, by omega, fun l S2 hl p2 o2 => ?_⟩
        exact ⟨[[l]], by simp, (fun b hb => by rw [List.mem_singleton.mp hb]; exact ⟨by simp, fun y hy => by rw [List.mem_singleton.mp hy]; exact hl⟩), rfl, p2.mono (by omega), OffL.trans1 o1 o2⟩
      · walk_at "w"
        exact ⟨[], by simp, (fun _ h => by cases h), rfl, p1.mono (by omega), o1⟩
    · rintro ρ S1 ⟨fl, hf, okf, rfl, p1, o1⟩
      walk_at "w"
      intro C hC
      have hCp := p1.ne hC
      have p2 := p1.eq (put_ne (c := .lst []) hCp.symm)
      have k2 : KpL [p] S (put S1 C (.lst [])) := o1.kp.new hC
      have c2 : put S1 C (.lst []) C = some (.lst (([] : List (List Ln)).map blk)) := put_same
      have hCS : S C = none := o1.kp.free hC (by simp [hCp])
      generalize put S1 C (.lst []) = S2 at p2 k2 c2
      walk_at "w"
      refine ⟨by omega, by omega, ?_⟩
      refine for_q (fun i ρ' S' => ∃ (cs : List (List Ln)) (a5 a6 : Option W), cs.length = i ∧ (∀ x ∈ cs, BkOk x) ∧ ρ' = [some (.ref p), some (.int n), some (.int m), some (.tup (fl.map blk)), some (.ref C), a5, a6, none] ∧ S' C = some (.lst (cs.map blk)) ∧ Pl S' p (N + 7 + 13 * i) ∧ KpL [p] S S')
        ⟨[], none, none, rfl, (fun _ h => by cases h), rfl, c2, p2.mono (by simp), k2⟩ (fun _ _ _ _ => trivial) ?_ ?_
      · rintro i w ρ' S' ew ⟨cs, a5, a6, hl, hok, rfl, hC5, p5, k5⟩
        obtain ⟨hi, rfl⟩ := intsW_at ew
        walk_at "go"
        refine tk_go p5 (by omega) (by omega) (by omega) fun r S6 r0 r1 p6 o6 => ?_
        have c6 := (o6 C (notin1 hCp)).trans hC5
        walk_at "w"
        refine ⟨by omega, by omega, ?_⟩
        refine lc_poolA (n := r.toNat) Ln.v 6 (by decide) LnOk p6 (by omega) (by rw [intsW_len]) (by omega) (fun _ _ => trivial) ?_ ?_
        · intro j w M S7 ew k7 p7 hM Q' q'
          obtain ⟨hj, rfl⟩ := intsW_at ew
          walk_at "w"
          exact Hd.mk ⟨p, M, rfl, p7, by omega, fun l S8 hl p8 o8 => q' l S8 hl p8 o8⟩
        · intro D ls S7 hls hlok hD hD7 p7 k7
          walk_at "w"
          refine ⟨_, hD7, ?_⟩
          have c7 := k7 C _ (notin1 hCp) c6
          walk_at "w"
          refine ⟨_, c7, ?_⟩
          refine ⟨by rw [List.length_map, hl]; exact Nat.lt_of_lt_of_le (show i < 100 by omega) (Nat.le_trans (by decide) sizeLine_ge), cs ++ [ls], _, _, by simp [hl], ?_, rfl, ?_, ?_, (((k5.trans o6.kp).trans k7).own hCS)⟩
          · intro y hy
            rcases List.mem_append.mp hy with h | h
            · exact hok y h
            · rw [List.mem_singleton.mp h]
              exact ⟨by omega, hlok⟩
          · rw [put_same, List.map_append]
            rfl
          · exact (p7.eq (put_ne hCp.symm)).mono (by omega)
      · rintro ρ' S' ⟨cs, a5, a6, hl, hok, rfl, hC5, p5, k5⟩
        rw [intsW_len] at hl p5
        walk_at "w"
        refine mid_q (fun ρ S' => ∃ no : List (List Ln), no.length ≤ 1 ∧ (∀ b ∈ no, BkOk b) ∧ ρ = [some (.ref p), some (.int n), some (.int m), some (.tup (fl.map blk)), some (.ref C), a5, a6, some (.tup (no.map blk))] ∧ Pl S' p (N + 40) ∧ S' C = some (.lst (cs.map blk)) ∧ KpL [p] S S') ?_ ?_
        · walk_at "w"
          refine tk_go p5 (by omega) (by omega) (by omega) fun x S6 x0 x1 p6 o6 => ?_
          have c6 := (o6 C (notin1 hCp)).trans hC5
          refine ⟨fun h => ?_, fun h => ?_⟩
          · walk_at "w"
            refine Hd.mk ⟨p, _, rfl, p6, by omega, fun l S7 hl p7 o7 => ?_⟩
            exact ⟨[[l]], by simp, (fun b hb => by rw [List.mem_singleton.mp hb]; exact ⟨by simp, fun y hy => by rw [List.mem_singleton.mp hy]; exact hl⟩), rfl, p7.mono (by omega), (o7 C (notin1 hCp)).trans c6, (k5.trans o6.kp).trans o7.kp⟩
          · walk_at "w"
            exact ⟨[], by simp, (fun _ h => by cases h), rfl, p6.mono (by omega), c6, k5.trans o6.kp⟩
        · rintro ρ S6 ⟨no, hno, okn, rfl, p6, c6, k6⟩
          walk_at "w"
          refine ⟨_, c6, ?_⟩
          refine fg_off (ps := [p]) k6 fun S8 g1 g2 => ?_
          exact q ⟨n, fl, cs, no⟩ S8 ⟨by show fl.length ≤ 2; omega, by show cs.length ≤ 2; omega, by show no.length ≤ 2; omega, by show 1 ≤ cs.length; omega, okf, hok, okn⟩ hf hno rfl (p6.eq (g2 p (by simp))) g1⟩
end
end K83
set_option Elab.async false
set_option linter.all false
set_option maxRecDepth 100000
set_option maxHeartbeats 4000000
set_option synthInstance.maxHeartbeats 4000000
set_option synthInstance.maxSize 100000
namespace K83
open PySem PySem.Spec PyProof.Rows L2 Wl
local macro_rules | `(tactic| walk_at "w") => `(tactic| (conv => whnf))
/-! what a store holds -/
local macro_rules | `(tactic| walk_at "ne") => `(tactic| first | assumption | (apply Ne.symm; assumption) | exact ne_free (by assumption) (by assumption) | exact (ne_free (by assumption) (by assumption)).symm | exact Pl.ne (by assumption) (by assumption) | exact (Pl.ne (by assumption) (by assumption)).symm)
local macro_rules | `(tactic| walk_at "s") => `(tactic| first
  | exact put_same
  | assumption
  | (refine (put_ne ?_).trans ?_; (· walk_at "ne"); (· walk_at "s")))
/-! a side condition -/
local macro_rules | `(tactic| walk_at "c") => `(tactic| first
  | exact Or.inl (Or.inl ⟨by omega, by omega⟩)
  | exact Or.inl (Or.inr ⟨by omega, by omega⟩)
  | exact Or.inl ⟨by omega, by omega⟩
  | exact Or.inl ⟨rfl, _, by walk_at "s"⟩
  | rfl
  | omega
  | decide
  | exact Nat.le_trans (by omega) sizeLine_ge)
/-! one question is answered, if the answer is plain -/
local macro_rules | `(tactic| walk_at "g1") => `(tactic| first
  | refine ⟨fun _ => ?_, fun h => absurd (show true = false from h) (by decide)⟩
  | refine ⟨fun h => absurd (show false = true from h) Bool.false_ne_true, fun _ => ?_⟩
  | refine ⟨_, by walk_at "s", ?_⟩
  | refine ⟨_, _, by walk_at "s", by walk_at "s", ?_⟩
  | refine ⟨_, by walk_at "s", by simpa using (by omega), ?_⟩
  | refine ⟨_, rfl, ?_⟩
  | refine ⟨_, _, rfl, (by first | exact isTy_tt | exact isTy_ii | exact isTy_ll | exact isTy_ss | exact isTy_ib | exact isTy_tb | exact isTy_ti | exact isTy_ts | exact isTy_tl | exact isTy_lb | exact isTy_li | exact isTy_ls | exact isTy_lt | exact isTy_sb | exact isTy_si | exact isTy_st | exact isTy_sl | exact isTy_is | exact isTy_it | exact isTy_il | exact isTy_bi | exact isTy_bs | exact isTy_bb | exact isTy_nb | exact isTy_ni | exact isTy_ns | exact isTy_nt | exact isTy_nl | exact isTy_bt | exact isTy_bl | exact isTy_nd | exact isTy_td | exact isTy_ld | exact isTy_sd | exact isTy_id | exact isTy_bd | exact isTy_dd | exact isTy_db | exact isTy_di | exact isTy_ds | exact isTy_dt | exact isTy_dl), ?_⟩
  | refine ⟨_, _, tyName_lst (by walk_at "s"), (by first | exact isTy_ll | exact isTy_lb | exact isTy_li | exact isTy_ls | exact isTy_lt), ?_⟩
  | refine if_q ?_
  | refine ⟨by walk_at "c", ?_⟩)
local macro_rules | `(tactic| walk_at "go") => `(tactic| (walk_at "w"; repeat (walk_at "g1"; walk_at "w")))
/-! a branch that cannot be -/
local macro_rules | `(tactic| walk_at "two") => `(tactic| refine ⟨fun h => ?_, fun h => ?_⟩)
section
variable {P : Program} {w : World} {K : PySem.W.Frag} {mg : Str → Option Value} {base : Heap}
theorem at_last {xs : List W} {x : W} : atI (xs ++ [x]) (-1) = some x := by
  have e : ixN (xs ++ [x]).length (-1) = some xs.length := by
    unfold ixN
    rw [if_neg (by decide), List.length_append, if_pos (by show -((xs.length + 1 : Nat) : Int) ≤ -1; omega)]
    exact congrArg some (by show (-1 + ((xs.length + 1 : Nat) : Int)).toNat = _; omega)
  unfold atI
  rw [e]
  show (xs ++ [x])[xs.length]? = _
  rw [List.getElem?_append_right (Nat.le_refl _), Nat.sub_self]
  rfl
theorem cut_last {α : Type} (xs : List α) : cutL xs none (some (-1)) = xs.dropLast := by
  unfold cutL
  have e : HT.sIx xs.length xs.length (some (-1)) = xs.length - 1 := by
    unfold HT.sIx
    simp only []
    rw [if_pos (by decide)]
    omega
  have e0 : HT.sIx xs.length 0 (none : Option Int) = 0 := rfl
  rw [e0, e, List.drop_zero, Nat.sub_zero, List.dropLast_eq_take]
theorem snoc_of {α : Type} {p : List α} (h : p ≠ []) : ∃ p' n, p = p' ++ [n] := ⟨p.dropLast, p.getLast h, (List.dropLast_concat_getLast h).symm⟩
def spBent : SpW := fun ws S Q => ∃ (p : Addr) (N : Int) (b : List Ln), ws = [.ref p, blk b] ∧ Pl S p N ∧ N < 2 ^ 37 ∧ BkOk b ∧ ∀ (b' : List Ln) S', BkOk b' → Pl S' p (N + 1) → OffL [p] S S' → Q (blk b') S'
theorem ok__law_bent (T : Txt K mg) (c__law_take : CalW P w K mg base 1 "_law_take" (Hd spTk)) (d : DefAt K mg "_law_bent" s__law_bent ["_law_pool_here", "_law_block"]) : CalW P w K mg base 2 "_law_bent" spBent :=
  calDI d sc__law_bent (fun ws S Q ⟨p, N, b, h, _⟩ => by rw [h]; rfl) fun f cdv A outer s H E hr => ⟨_, _,
    (pss_cons (ps_if (pt_cmpR (k_eq K hr.units) (pe_callB (k_len K) (by rfl) T.b_len (by decide +kernel) (pa_cons (pv 1) pa_nil)) pe_int (nomark _))
       (pss_one (ps_ret (pv 1)))
       pss_nil)
      (pss_cons (ps_set (i := 2) sc__law_bent.nd rfl (Or.inl rfl) (pe_ix (k_ix K) (pv 1) (pe_un un_neg pe_int) (fun _ _ => rfl)))
      (pss_cons (ps_set (i := 3) sc__law_bent.nd rfl (Or.inl rfl) (pe_ix (k_ix K) (pe_ix (k_ix K) (pv 2) pe_int (fun _ _ => rfl)) (pe_un un_neg pe_int) (fun _ _ => rfl)))
      (pss_cons (ps_set (i := 4) sc__law_bent.nd rfl (Or.inl rfl) (k_w K c__law_take hr (by decide) rfl (pa_cons (pv 0) (pa_cons pe_int pa_nil))))
      (pss_cons (ps_if (pt_cmpR (k_eq K hr.units) (pv 4) pe_int (nomark _))
       (pss_one (ps_ret (pe_op (k_addB K) (pe_slice (k_sl K) (pv 1) po_none (po_some (pe_un un_neg pe_int))) (pe_tup (pa_cons (pe_tup (pa_cons (pe_op (k_addB K) (pe_ix (k_ix K) (pv 2) pe_int (fun _ _ => rfl)) pe_int) (pa_cons (pe_ix (k_ix K) (pv 2) pe_int (fun _ _ => rfl)) pa_nil))) pa_nil)))))
       pss_nil)
      (pss_mid (ps_if (pt_cmpR (k_eq K hr.units) (pv 4) pe_int (nomark _))
       (pss_one (ps_set (i := 3) sc__law_bent.nd rfl (Or.inl rfl) (pe_tup (pa_cons (pe_op (k_addB K) (pe_ix (k_ix K) (pv 3) pe_int (fun _ _ => rfl)) pe_int) (pa_cons (pe_ix (k_ix K) (pv 3) pe_int (fun _ _ => rfl)) (pa_cons (pe_ix (k_ix K) (pv 3) pe_int (fun _ _ => rfl)) (pa_cons (pe_ix (k_ix K) (pv 3) pe_int (fun _ _ => rfl)) pa_nil)))))))
       pss_nil)
      (pss_mid (ps_if (pt_cmpR (k_eq K hr.units) (pv 4) pe_int (nomark _))
       (pss_one (ps_set (i := 3) sc__law_bent.nd rfl (Or.inl rfl) (pe_tup (pa_cons (pe_ix (k_ix K) (pv 3) pe_int (fun _ _ => rfl)) (pa_cons (pe_ix (k_ix K) pe_str (pe_callTy call_int1 (by rfl) T.b_int (by decide +kernel) (pa_cons (pe_cmpR (k_eq K hr.units) (pe_ix (k_ix K) (pv 3) pe_int (fun _ _ => rfl)) pe_str (nomark _)) pa_nil)) (fun _ _ => rfl)) (pa_cons (pe_ix (k_ix K) (pv 3) pe_int (fun _ _ => rfl)) (pa_cons (pe_ix (k_ix K) (pv 3) pe_int (fun _ _ => rfl)) pa_nil)))))))
       pss_nil)
      (pss_mid (ps_if (pt_cmpR (k_eq K hr.units) (pv 4) pe_int (nomark _))
       (pss_one (ps_set (i := 3) sc__law_bent.nd rfl (Or.inl rfl) (pe_tup (pa_cons (pe_ix (k_ix K) (pv 3) pe_int (fun _ _ => rfl)) (pa_cons (pe_ix (k_ix K) (pv 3) pe_int (fun _ _ => rfl)) (pa_cons (pe_op (k_addB K) (pe_ix (k_ix K) (pv 3) pe_int (fun _ _ => rfl)) pe_int) (pa_cons (pe_ix (k_ix K) (pv 3) pe_int (fun _ _ => rfl)) pa_nil)))))))
       pss_nil)
      (pss_mid (ps_if (pt_cmpR (k_eq K hr.units) (pv 4) pe_int (nomark _))
       (pss_one (ps_set (i := 3) sc__law_bent.nd rfl (Or.inl rfl) (pe_tup (pa_cons (pe_ix (k_ix K) (pv 3) pe_int (fun _ _ => rfl)) (pa_cons (pe_ix (k_ix K) (pv 3) pe_int (fun _ _ => rfl)) (pa_cons (pe_ix (k_ix K) (pv 3) pe_int (fun _ _ => rfl)) (pa_cons (pe_ix (k_ix K) (pe_lst (pa_cons pe_str (pa_cons pe_str pa_nil))) (pe_callTy call_int1 (by rfl) T.b_int (by decide +kernel) (pa_cons (pe_cmpR (k_eq K hr.units) (pe_ix (k_ix K) (pv 3) pe_int (fun _ _ => rfl)) pe_str (nomark _)) pa_nil)) (fun _ _ => rfl)) pa_nil)))))))
       pss_nil)
      (pss_one (ps_ret (pe_op (k_addB K) (pe_slice (k_sl K) (pv 1) po_none (po_some (pe_un un_neg pe_int))) (pe_tup (pa_cons (pe_tup (pa_cons (pe_ix (k_ix K) (pv 2) pe_int (fun _ _ => rfl)) (pa_cons (pe_op (k_addB K) (pe_slice (k_sl K) (pe_ix (k_ix K) (pv 2) pe_int (fun _ _ => rfl)) po_none (po_some (pe_un un_neg pe_int))) (pe_tup (pa_cons (pv 3) pa_nil))) pa_nil))) pa_nil)))))))))))))), inferInstance, by
    rintro ws S Q ⟨p, N, b, rfl, hp, hN, hb, q⟩
    rcases Classical.em (b = []) with e | e
    · subst e
      walk_at "go"
      exact fg_here (q [] S hb (hp.mono (by omega)) (fun _ _ => rfl))
    obtain ⟨bs, ln, rfl⟩ := snoc_of e
    have hl := hb.ok ln (by simp)
    obtain ⟨dn, ls⟩ := ln
    obtain ⟨xs, y, rfl⟩ := snoc_of (show ls ≠ [] from fun e => by have := hl.one; rw [e] at this; exact absurd this (by simp))
    have hy := hl.ok y (by simp)
    have e1 : (bs ++ [⟨dn, xs ++ [y]⟩] : List Ln).map Ln.v = bs.map Ln.v ++ [.tup [.int dn, .tup (xs.map Lt.v ++ [y.v])]] := by
      rw [List.map_append]
      show _ ++ [Ln.v _] = _
      unfold Ln.v
      rw [List.map_append]
      rfl
    unfold blk
    rw [e1]
    walk_at "w"
    refine ⟨fun h => ?_, fun _ => ?_⟩
    · have h := of_decide_eq_true h
      rw [List.length_append] at h
      exact absurd h (by simp; omega)
    walk_at "w"
    refine rdAt_ok at_last ?_
    walk_at "w"
    refine rdAt_ok at_last ?_
    walk_at "w"
    refine tk_go hp (by omega) (by omega) (by omega) fun way S1 w0 w1 p1 o1 => ?_
    walk_at "w"
    have fin : ∀ (d' : Int) (z : Lt), LtOk z → BkOk (bs ++ [⟨d', xs ++ [z]⟩]) := fun d' z hz => ⟨by have := hb.few; simp at this ⊢; omega, fun l hl' => by
      rcases List.mem_append.mp hl' with h | h
      · exact hb.ok l (by simp [h])
      · rw [List.mem_singleton.mp h]
        refine ⟨by simp, by have := hl.few; simp at this ⊢; omega, fun t ht => ?_⟩
        rcases List.mem_append.mp ht with h2 | h2
        · exact hl.ok t (by simp [h2])
        · rw [List.mem_singleton.mp h2]; exact hz⟩
    have ln1 : ∀ z : W, (cutL (bs.map Ln.v ++ [W.tup [.int dn, .tup (xs.map Lt.v ++ [y.v])]]) none (some (-1))).length + [z].length ≤ sizeLine := fun z => by
      rw [cut_last, List.dropLast_concat, List.length_map]
      have := hb.few
      rw [List.length_append] at this
      exact Nat.le_trans (show bs.length + 1 ≤ 10 by simp at this; omega) (Nat.le_trans (by decide) sizeLine_ge)
    have ln2 : ∀ z : W, (cutL (xs.map Lt.v ++ [y.v]) none (some (-1))).length + [z].length ≤ sizeLine := fun z => by
      rw [cut_last, List.dropLast_concat, List.length_map]
      have := hl.few
      rw [List.length_append] at this
      exact Nat.le_trans (show xs.length + 1 ≤ 10 by simp at this; omega) (Nat.le_trans (by decide) sizeLine_ge)
    have wf : ∀ (d' : Int) (z : Lt), W.tup (cutL (bs.map Ln.v ++ [W.tup [.int dn, .tup (xs.map Lt.v ++ [y.v])]]) none (some (-1)) ++ [W.tup [.int d', .tup (xs.map Lt.v ++ [z.v])]]) = blk (bs ++ [⟨d', xs ++ [z]⟩]) := fun d' z => by
      rw [cut_last, List.dropLast_concat]
      unfold blk
      rw [List.map_append]
      show _ = W.tup (_ ++ [W.tup [.int d', .tup ((xs ++ [z]).map Lt.v)]])
      rw [List.map_append]
      rfl
    refine ⟨fun h => ?_, fun _ => ?_⟩
    · walk_at "w"
      refine ⟨ln1 _, ?_⟩
      refine fg_here ?_
      show Q (W.tup (cutL _ none (some (-1)) ++ [W.tup [.int (dn + 1), .tup (xs.map Lt.v ++ [y.v])]])) S1
      rw [wf (dn + 1) y]
      exact q _ S1 (fin _ y hy) p1 o1
    walk_at "w"
    refine mid_q (fun ρ S' => KpL [p] S S' ∧ Pl S' p (N + 1) ∧ ∃ z : Lt, LtOk z ∧ ρ = [some (.ref p), some (.tup (bs.map Ln.v ++ [W.tup [.int dn, .tup (xs.map Lt.v ++ [y.v])]])), some (.tup [.int dn, .tup (xs.map Lt.v ++ [y.v])]), some (.tup [.int z.x, .str z.c, .int z.i, .str z.f]), some (.int way)]) ?_ ?_
    · walk_at "w"
      refine ⟨fun _ => ?_, fun _ => ?_⟩
      · walk_at "w"
        exact ⟨o1.kp, p1, ⟨y.x + 1, y.c, y.i, y.f⟩, ⟨hy.c, hy.f⟩, rfl⟩
      · exact ⟨o1.kp, p1, y, hy, rfl⟩
    rintro ρ S2 ⟨k2, p2, z, hz, rfl⟩
    walk_at "w"
    refine mid_q (fun ρ S' => KpL [p] S S' ∧ Pl S' p (N + 1) ∧ ∃ z : Lt, LtOk z ∧ ρ = [some (.ref p), some (.tup (bs.map Ln.v ++ [W.tup [.int dn, .tup (xs.map Lt.v ++ [y.v])]])), some (.tup [.int dn, .tup (xs.map Lt.v ++ [y.v])]), some (.tup [.int z.x, .str z.c, .int z.i, .str z.f]), some (.int way)]) ?_ ?_
    · walk_at "w"
      refine ⟨fun _ => ?_, fun _ => ?_⟩
      · walk_at "w"
        obtain ⟨c, hc, ec⟩ : ∃ c : Nat, c < 0x110000 ∧ atI (Str.ofString "ab").cps.toList (if decide (z.c = Str.ofString "a") = true then 1 else 0) = some c := by
          split
          · exact ⟨98, by decide, by decide +kernel⟩
          · exact ⟨97, by decide, by decide +kernel⟩
        refine ⟨Nat.le_trans (show (Str.ofString "ab").length ≤ 1000 by decide +kernel) sizeLine_ge, c, ec, ?_⟩
        walk_at "w"
        exact ⟨k2, p2, ⟨z.x, ⟨#[c]⟩, z.i, z.f⟩, ⟨one_ok hc, hz.f⟩, rfl⟩
      · exact ⟨k2, p2, z, hz, rfl⟩
    rintro ρ S3 ⟨k3, p3, z3, hz3, rfl⟩
    walk_at "w"
    refine mid_q (fun ρ S' => KpL [p] S S' ∧ Pl S' p (N + 1) ∧ ∃ z : Lt, LtOk z ∧ ρ = [some (.ref p), some (.tup (bs.map Ln.v ++ [W.tup [.int dn, .tup (xs.map Lt.v ++ [y.v])]])), some (.tup [.int dn, .tup (xs.map Lt.v ++ [y.v])]), some (.tup [.int z.x, .str z.c, .int z.i, .str z.f]), some (.int way)]) ?_ ?_
    · walk_at "w"
      refine ⟨fun _ => ?_, fun _ => ?_⟩
      · walk_at "w"
        exact ⟨k3, p3, ⟨z3.x, z3.c, z3.i + 1, z3.f⟩, ⟨hz3.c, hz3.f⟩, rfl⟩
      · exact ⟨k3, p3, z3, hz3, rfl⟩
    rintro ρ S4 ⟨k4, p4, z4, hz4, rfl⟩
    walk_at "w"
    refine mid_q (fun ρ S' => KpL [p] S S' ∧ Pl S' p (N + 1) ∧ ∃ z : Lt, LtOk z ∧ ρ = [some (.ref p), some (.tup (bs.map Ln.v ++ [W.tup [.int dn, .tup (xs.map Lt.v ++ [y.v])]])), some (.tup [.int dn, .tup (xs.map Lt.v ++ [y.v])]), some (.tup [.int z.x, .str z.c, .int z.i, .str z.f]), some (.int way)]) ?_ ?_
    · walk_at "w"
      refine ⟨fun _ => ?_, fun _ => ?_⟩
      · walk_at "w"
        intro D hD
        obtain ⟨f, hf, ef⟩ : ∃ f : Str, PyData.strOk f = true ∧ atI [W.str "plain", W.str "bold"] (if decide (z4.f = Str.ofString "plain") = true then 1 else 0) = some (.str f) := by
          split
          · exact ⟨"bold", by decide +kernel, rfl⟩
          · exact ⟨"plain", by decide +kernel, rfl⟩
        walk_at "w"
        refine ⟨_, put_same, ?_⟩
        refine rdAt_ok ef ?_
        walk_at "w"
        exact ⟨k4.new hD, p4.eq (put_ne (p4.ne hD).symm), ⟨z4.x, z4.c, z4.i, f⟩, ⟨hz4.c, hf⟩, rfl⟩
      · exact ⟨k4, p4, z4, hz4, rfl⟩
    rintro ρ S5 ⟨k5, p5, z5, hz5, rfl⟩
    walk_at "w"
    refine ⟨ln2 _, ?_⟩
    walk_at "w"
    refine ⟨ln1 _, ?_⟩
    refine fg_off (ps := [p]) k5 fun S8 g1 g2 => ?_
    show Q (W.tup (cutL _ none (some (-1)) ++ [W.tup [.int dn, .tup (cutL (xs.map Lt.v ++ [y.v]) none (some (-1)) ++ [z5.v])]])) S8
    rw [cut_last (xs.map Lt.v ++ [y.v]), List.dropLast_concat, wf dn z5]
    exact q _ S8 (fin _ z5 hz5) (p5.eq (g2 p (by simp))) g1⟩
end
end K83
set_option Elab.async false
set_option linter.all false
set_option maxRecDepth 100000
set_option maxHeartbeats 4000000
set_option synthInstance.maxHeartbeats 4000000
set_option synthInstance.maxSize 100000
namespace K83
open PySem PySem.Spec PyProof.Rows L2 Wl
local macro_rules | `(tactic| walk_at "w") => `(tactic| (conv => whnf))
/-! what a store holds -/
local macro_rules | `(tactic| walk_at "ne") => `(tactic| first | assumption | (apply Ne.symm; assumption) | exact ne_free (by assumption) (by assumption) | exact (ne_free (by assumption) (by assumption)).symm | exact Pl.ne (by assumption) (by assumption) | exact (Pl.ne (by assumption) (by assumption)).symm)
local macro_rules | `(tactic| walk_at "s") => `(tactic| first
  | exact put_same
  | assumption
  | (refine (put_ne ?_).trans ?_; (· walk_at "ne"); (· walk_at "s")))
/-! a side condition -/
local macro_rules | `(tactic| walk_at "c") => `(tactic| first
  | exact Or.inl (Or.inl ⟨by omega, by omega⟩)
  | exact Or.inl (Or.inr ⟨by omega, by omega⟩)
  | exact Or.inl ⟨by omega, by omega⟩
  | exact Or.inl ⟨rfl, _, by walk_at "s"⟩
  | rfl
  | omega
  | decide
  | exact Nat.le_trans (by omega) sizeLine_ge)
/-! one question is answered, if the answer is plain -/
local macro_rules | `(tactic| walk_at "g1") => `(tactic| first
  | refine ⟨fun _ => ?_, fun h => absurd (show true = false from h) (by decide)⟩
  | refine ⟨fun h => absurd (show false = true from h) Bool.false_ne_true, fun _ => ?_⟩
  | refine ⟨_, by walk_at "s", ?_⟩
  | refine ⟨_, _, by walk_at "s", by walk_at "s", ?_⟩
  | refine ⟨_, by walk_at "s", by simpa using (by omega), ?_⟩
  | refine ⟨_, rfl, ?_⟩
  | refine ⟨_, _, rfl, (by first | exact isTy_tt | exact isTy_ii | exact isTy_ll | exact isTy_ss | exact isTy_ib | exact isTy_tb | exact isTy_ti | exact isTy_ts | exact isTy_tl | exact isTy_lb | exact isTy_li | exact isTy_ls | exact isTy_lt | exact isTy_sb | exact isTy_si | exact isTy_st | exact isTy_sl | exact isTy_is | exact isTy_it | exact isTy_il | exact isTy_bi | exact isTy_bs | exact isTy_bb | exact isTy_nb | exact isTy_ni | exact isTy_ns | exact isTy_nt | exact isTy_nl | exact isTy_bt | exact isTy_bl | exact isTy_nd | exact isTy_td | exact isTy_ld | exact isTy_sd | exact isTy_id | exact isTy_bd | exact isTy_dd | exact isTy_db | exact isTy_di | exact isTy_ds | exact isTy_dt | exact isTy_dl), ?_⟩
  | refine ⟨_, _, tyName_lst (by walk_at "s"), (by first | exact isTy_ll | exact isTy_lb | exact isTy_li | exact isTy_ls | exact isTy_lt), ?_⟩
  | refine if_q ?_
  | refine ⟨by walk_at "c", ?_⟩)
local macro_rules | `(tactic| walk_at "go") => `(tactic| (walk_at "w"; repeat (walk_at "g1"; walk_at "w")))
/-! a branch that cannot be -/
local macro_rules | `(tactic| walk_at "two") => `(tactic| refine ⟨fun h => ?_, fun h => ?_⟩)
section
variable {P : Program} {w : World} {K : PySem.W.Frag} {mg : Str → Option Value} {base : Heap}
theorem cut_tail {α : Type} (x : α) (xs : List α) : cutL (x :: xs) (some 1) none = xs := by
  unfold cutL
  have e : HT.sIx (x :: xs).length 0 (some 1) = 1 := by
    unfold HT.sIx
    simp
  have e0 : HT.sIx (x :: xs).length (x :: xs).length (none : Option Int) = (x :: xs).length := rfl
  rw [e0, e]
  simp
theorem at_head (x : W) (xs : List W) : atI (x :: xs) 0 = some x := atI_nat (show (x :: xs)[0]? = some x from rfl)
theorem bk_one {l : Ln} (h : LnOk l) : BkOk [l] := ⟨by simp, fun y hy => by rw [List.mem_singleton.mp hy]; exact h⟩
theorem bk_drop {b : List Ln} (h : BkOk b) : BkOk b.dropLast := ⟨by rw [List.length_dropLast]; have := h.few; omega, fun x hx => h.ok x ((List.dropLast_sublist _).subset hx)⟩
theorem small_le {n : Nat} (h : n ≤ 1000) : n ≤ sizeLine := Nat.le_trans h sizeLine_ge
theorem mem_app1 {α : Type} {P : α → Prop} {l : List α} {x : α} (h : ∀ y ∈ l, P y) (hx : P x) : ∀ y ∈ l ++ [x], P y := fun y hy => by
  rcases List.mem_append.mp hy with h1 | h1
  · exact h y h1
  · rw [List.mem_singleton.mp h1]; exact hx
theorem mem_cons1 {α : Type} {P : α → Prop} {l : List α} {x : α} (h : ∀ y ∈ l, P y) (hx : P x) : ∀ y ∈ x :: l, P y := fun y hy => by
  rcases List.mem_cons.mp hy with h1 | h1
  · rw [h1]; exact hx
  · exact h y h1
def spTurn : SpW := fun ws S Q => ∃ (p : Addr) (N : Int) (g : Pg), ws = [.ref p, g.v] ∧ Pl S p N ∧ N < 2 ^ 36 ∧ PgOk g ∧ g.fl.length ≤ 1 ∧ g.no.length ≤ 1 ∧ ∀ (g' : Pg) S', PgOk g' → g'.n = g.n → Pl S' p (N + 10) → OffL [p] S S' → Q g'.v S'
theorem ok__law_turned (T : Txt K mg) (c__law_take : CalW P w K mg base 1 "_law_take" (Hd spTk)) (c__law_line : CalW P w K mg base 2 "_law_line" (Hd spLn)) (c__law_bent : CalW P w K mg base 2 "_law_bent" (Hd spBent)) (d : DefAt K mg "_law_turned" s__law_turned ["_law_pool_here", "_law_page_here"]) : CalW P w K mg base 3 "_law_turned" spTurn :=
  calDI d sc__law_turned (fun ws S Q ⟨p, N, b, h, _⟩ => by rw [h]; rfl) fun f cdv A outer s H E hr => ⟨_, _,
    (pss_cons (ps_set (i := 2) sc__law_turned.nd rfl (Or.inl rfl) (k_w K c__law_take hr (by decide) rfl (pa_cons (pv 0) (pa_cons pe_int pa_nil))))
      (pss_cons (ps_set (i := 3) sc__law_turned.nd rfl (Or.inl rfl) (pe_ix (k_ix K) (pv 1) pe_int (fun _ _ => rfl)))
      (pss_cons (ps_if (pt_cmpR (k_eq K hr.units) (pv 2) pe_int (nomark _))
       (pss_one (ps_ret (pe_tup (pa_cons (pe_ix (k_ix K) (pv 1) pe_int (fun _ _ => rfl)) (pa_cons (pe_op (k_addB K) (pe_ix (k_ix K) (pv 1) pe_int (fun _ _ => rfl)) (pe_tup (pa_cons (pe_tup (pa_cons (k_w K c__law_line hr (by decide) rfl (pa_cons (pv 0) pa_nil)) pa_nil)) pa_nil))) (pa_cons (pv 3) (pa_cons (pe_ix (k_ix K) (pv 1) pe_int (fun _ _ => rfl)) pa_nil)))))))
       pss_nil)
      (pss_cons (ps_if (pt_cmpR (k_eq K hr.units) (pv 2) pe_int (nomark _))
       (pss_one (ps_ret (pe_tup (pa_cons (pe_ix (k_ix K) (pv 1) pe_int (fun _ _ => rfl)) (pa_cons (pe_ix (k_ix K) (pv 1) pe_int (fun _ _ => rfl)) (pa_cons (pv 3) (pa_cons (pe_op (k_addB K) (pe_ix (k_ix K) (pv 1) pe_int (fun _ _ => rfl)) (pe_tup (pa_cons (pe_tup (pa_cons (k_w K c__law_line hr (by decide) rfl (pa_cons (pv 0) pa_nil)) pa_nil)) pa_nil))) pa_nil)))))))
       pss_nil)
      (pss_cons (ps_if (pt_cmpR (k_eq K hr.units) (pv 2) pe_int (nomark _))
       (pss_one (ps_ret (pe_tup (pa_cons (pe_ix (k_ix K) (pv 1) pe_int (fun _ _ => rfl)) (pa_cons (pe_ix (k_ix K) (pv 1) pe_int (fun _ _ => rfl)) (pa_cons (pe_op (k_addB K) (pe_slice (k_sl K) (pv 3) po_none (po_some (pe_un un_neg pe_int))) (pe_tup (pa_cons (pe_tup pa_nil) pa_nil))) (pa_cons (pe_ix (k_ix K) (pv 1) pe_int (fun _ _ => rfl)) pa_nil)))))))
       pss_nil)
      (pss_cons (ps_if (pt_cmpR (k_eq K hr.units) (pv 2) pe_int (nomark _))
       (pss_cons (ps_set (i := 4) sc__law_turned.nd rfl (Or.inl rfl) (k_w K c__law_bent hr (by decide) rfl (pa_cons (pv 0) (pa_cons (pe_ix (k_ix K) (pv 3) pe_int (fun _ _ => rfl)) pa_nil))))
       (pss_one (ps_ret (pe_tup (pa_cons (pe_ix (k_ix K) (pv 1) pe_int (fun _ _ => rfl)) (pa_cons (pe_ix (k_ix K) (pv 1) pe_int (fun _ _ => rfl)) (pa_cons (pe_op (k_addB K) (pe_tup (pa_cons (pv 4) pa_nil)) (pe_slice (k_sl K) (pv 3) (po_some pe_int) po_none)) (pa_cons (pe_ix (k_ix K) (pv 1) pe_int (fun _ _ => rfl)) pa_nil))))))))
       pss_nil)
      (pss_cons (ps_if (PW.pt (pw_and (pt_cmpR (k_eq K hr.units) (pv 2) pe_int (nomark _)) (pw_and1 (pt_cmpR op_gtA (pe_callB (k_len K) (by rfl) T.b_len (by decide +kernel) (pa_cons (pe_ix (k_ix K) (pv 1) pe_int (fun _ _ => rfl)) pa_nil)) pe_int (nomark _)))))
       (pss_one (ps_ret (pe_tup (pa_cons (pe_ix (k_ix K) (pv 1) pe_int (fun _ _ => rfl)) (pa_cons (pe_ix (k_ix K) (pv 1) pe_int (fun _ _ => rfl)) (pa_cons (pv 3) (pa_cons (pe_tup (pa_cons (k_w K c__law_bent hr (by decide) rfl (pa_cons (pv 0) (pa_cons (pe_ix (k_ix K) (pe_ix (k_ix K) (pv 1) pe_int (fun _ _ => rfl)) pe_int (fun _ _ => rfl)) pa_nil))) pa_nil)) pa_nil)))))))
       pss_nil)
      (pss_cons (ps_if (PW.pt (pw_and (pt_cmpR (k_eq K hr.units) (pv 2) pe_int (nomark _)) (pw_and1 (pt_cmpR op_gtA (pe_callB (k_len K) (by rfl) T.b_len (by decide +kernel) (pa_cons (pe_ix (k_ix K) (pv 1) pe_int (fun _ _ => rfl)) pa_nil)) pe_int (nomark _)))))
       (pss_one (ps_ret (pe_tup (pa_cons (pe_ix (k_ix K) (pv 1) pe_int (fun _ _ => rfl)) (pa_cons (pe_tup (pa_cons (k_w K c__law_bent hr (by decide) rfl (pa_cons (pv 0) (pa_cons (pe_ix (k_ix K) (pe_ix (k_ix K) (pv 1) pe_int (fun _ _ => rfl)) pe_int (fun _ _ => rfl)) pa_nil))) pa_nil)) (pa_cons (pv 3) (pa_cons (pe_ix (k_ix K) (pv 1) pe_int (fun _ _ => rfl)) pa_nil)))))))
       pss_nil)
      (pss_cons (ps_if (pt_cmpR (k_eq K hr.units) (pv 2) pe_int (nomark _))
       (pss_one (ps_ret (pe_tup (pa_cons (pe_ix (k_ix K) (pv 1) pe_int (fun _ _ => rfl)) (pa_cons (pe_ix (k_ix K) (pv 1) pe_int (fun _ _ => rfl)) (pa_cons (pe_op (k_addB K) (pe_tup (pa_cons (pe_slice (k_sl K) (pe_ix (k_ix K) (pv 3) pe_int (fun _ _ => rfl)) po_none (po_some (pe_un un_neg pe_int))) pa_nil)) (pe_slice (k_sl K) (pv 3) (po_some pe_int) po_none)) (pa_cons (pe_ix (k_ix K) (pv 1) pe_int (fun _ _ => rfl)) pa_nil)))))))
       pss_nil)
      (pss_one (ps_ret (pv 1)))))))))))), inferInstance, by
    rintro ws S Q ⟨p, N, ⟨n, fl, co, no⟩, rfl, hp, hN, hg, hfl, hno, q⟩
    obtain ⟨c0, cr, rfl⟩ : ∃ c0 cr, co = c0 :: cr := by
      cases co with
      | nil => exact absurd hg.one (by simp)
      | cons a b => exact ⟨a, b, rfl⟩
    have hcr : cr.length ≤ 1 := by have := hg.co; simp at this; omega
    have hfl : fl.length ≤ 1 := hfl
    have hno : no.length ≤ 1 := hno
    have okf := hg.okf
    have okn := hg.okn
    have okc0 := hg.okc c0 (by simp)
    have okcr : ∀ b ∈ cr, BkOk b := fun b h => hg.okc b (by simp [h])
    show (_ : Prop)
    walk_at "w"
    refine tk_go hp (by omega) (by omega) (by omega) fun kind S1 w0 w1 p1 o1 => ?_
    walk_at "w"
    refine ⟨fun _ => ?_, fun _ => ?_⟩
    · walk_at "w"
      refine Hd.mk ⟨p, _, rfl, p1, by omega, fun l S2 hl p2 o2 => ?_⟩
      walk_at "w"
      refine ⟨small_le (by rw [List.length_map]; show fl.length + 1 ≤ 1000; omega), ?_⟩
      refine fg_here ?_
      have e : fl.map blk ++ [W.tup [l.v]] = (fl ++ [[l]]).map blk := by rw [List.map_append]; rfl
      show Q (W.tup [.int n, .tup (fl.map blk ++ [W.tup [l.v]]), .tup ((c0 :: cr).map blk), .tup (no.map blk)]) S2
      rw [e]
      exact q ⟨n, fl ++ [[l]], c0 :: cr, no⟩ S2 ⟨by show (fl ++ [[l]]).length ≤ 2; simp; omega, hg.co, hg.no, hg.one, mem_app1 okf (bk_one hl), hg.okc, okn⟩ rfl (p2.mono (by omega)) (OffL.trans1 o1 o2)
    walk_at "w"
    refine ⟨fun _ => ?_, fun _ => ?_⟩
    · walk_at "w"
      refine Hd.mk ⟨p, _, rfl, p1, by omega, fun l S2 hl p2 o2 => ?_⟩
      walk_at "w"
      refine ⟨small_le (by rw [List.length_map]; show no.length + 1 ≤ 1000; omega), ?_⟩
      refine fg_here ?_
      have e : no.map blk ++ [W.tup [l.v]] = (no ++ [[l]]).map blk := by rw [List.map_append]; rfl
      show Q (W.tup [.int n, .tup (fl.map blk), .tup ((c0 :: cr).map blk), .tup (no.map blk ++ [W.tup [l.v]])]) S2
      rw [e]
      exact q ⟨n, fl, c0 :: cr, no ++ [[l]]⟩ S2 ⟨hg.fl, hg.co, by show (no ++ [[l]]).length ≤ 2; simp; omega, hg.one, okf, hg.okc, mem_app1 okn (bk_one hl)⟩ rfl (p2.mono (by omega)) (OffL.trans1 o1 o2)
    walk_at "w"
    refine ⟨fun _ => ?_, fun _ => ?_⟩
    · walk_at "w"
      refine ⟨small_le (by rw [cut_last, List.length_dropLast, List.length_map]; simp; omega), ?_⟩
      refine fg_here ?_
      have e : cutL ((c0 :: cr).map blk) none (some (-1)) ++ [W.tup []] = ((c0 :: cr).dropLast ++ [[]]).map blk := by rw [cut_last, List.map_append, List.map_dropLast]; rfl
      show Q (W.tup [.int n, .tup (fl.map blk), .tup (cutL ((c0 :: cr).map blk) none (some (-1)) ++ [W.tup []]), .tup (no.map blk)]) S1
      rw [e]
      exact q ⟨n, fl, (c0 :: cr).dropLast ++ [[]], no⟩ S1 ⟨hg.fl, by show ((c0 :: cr).dropLast ++ [[]]).length ≤ 2; simp; omega, hg.no, by show 1 ≤ ((c0 :: cr).dropLast ++ [[]]).length; simp, okf, mem_app1 (fun x hx => hg.okc x ((List.dropLast_sublist _).subset hx)) ⟨by simp, fun _ h => by cases h⟩, okn⟩ rfl (p1.mono (by omega)) o1
    walk_at "w"
    refine ⟨fun _ => ?_, fun _ => ?_⟩
    · walk_at "w"
      refine rdAt_ok (w := blk c0) (at_head (blk c0) (cr.map blk)) ?_
      walk_at "w"
      refine Hd.mk ⟨p, _, c0, rfl, p1, by omega, okc0, fun b S2 hb p2 o2 => ?_⟩
      walk_at "w"
      have ec : cutL ((c0 :: cr).map blk) (some 1) none = cr.map blk := by rw [List.map_cons, cut_tail]
      refine ⟨small_le (by show 1 + (cutL ((c0 :: cr).map blk) (some 1) none).length ≤ 1000; rw [ec, List.length_map]; omega), ?_⟩
      refine fg_here ?_
      show Q (W.tup [.int n, .tup (fl.map blk), .tup ([blk b] ++ cutL ((c0 :: cr).map blk) (some 1) none), .tup (no.map blk)]) S2
      rw [ec]
      exact q ⟨n, fl, b :: cr, no⟩ S2 ⟨hg.fl, by show (b :: cr).length ≤ 2; simp; omega, hg.no, by show 1 ≤ (b :: cr).length; simp, okf, mem_cons1 okcr hb, okn⟩ rfl (p2.mono (by omega)) (OffL.trans1 o1 o2)
    walk_at "w"
    refine if_ev (decide (kind = 7) && decide (0 < (no.length : Int))) (evAnd (fun Q q => ?_) (fun _ Q q => ?_)) (fun hc => ?_) (fun hc => ?_)
    · walk_at "w"
      exact q
    · walk_at "w"
      rw [List.length_map]
      exact q
    · rw [Bool.and_eq_true] at hc
      have hc := of_decide_eq_true hc.2
      obtain ⟨b0, br, rfl⟩ : ∃ b0 br, no = b0 :: br := by
        cases no with
        | nil => exact absurd hc (by simp)
        | cons a b => exact ⟨a, b, rfl⟩
      walk_at "w"
      refine rdAt_ok (w := blk b0) (at_head (blk b0) (br.map blk)) ?_
      walk_at "w"
      refine Hd.mk ⟨p, _, b0, rfl, p1, by omega, okn b0 (by simp), fun b S2 hb p2 o2 => ?_⟩
      walk_at "w"
      refine fg_here ?_
      exact q ⟨n, fl, c0 :: cr, [b]⟩ S2 ⟨hg.fl, hg.co, by show 1 ≤ 2; decide, hg.one, okf, hg.okc, mem_cons1 (fun _ h => by cases h) hb⟩ rfl (p2.mono (by omega)) (OffL.trans1 o1 o2)
    walk_at "w"
    refine if_ev (decide (kind = 8) && decide (0 < (fl.length : Int))) (evAnd (fun Q q => ?_) (fun _ Q q => ?_)) (fun hc => ?_) (fun hc => ?_)
    · walk_at "w"
      exact q
    · walk_at "w"
      rw [List.length_map]
      exact q
    · rw [Bool.and_eq_true] at hc
      have hc := of_decide_eq_true hc.2
      obtain ⟨b0, br, rfl⟩ : ∃ b0 br, fl = b0 :: br := by
        cases fl with
        | nil => exact absurd hc (by simp)
        | cons a b => exact ⟨a, b, rfl⟩
      walk_at "w"
      refine rdAt_ok (w := blk b0) (at_head (blk b0) (br.map blk)) ?_
      walk_at "w"
      refine Hd.mk ⟨p, _, b0, rfl, p1, by omega, okf b0 (by simp), fun b S2 hb p2 o2 => ?_⟩
      walk_at "w"
      refine fg_here ?_
      exact q ⟨n, [b], c0 :: cr, no⟩ S2 ⟨by show 1 ≤ 2; decide, hg.co, hg.no, hg.one, mem_cons1 (fun _ h => by cases h) hb, hg.okc, okn⟩ rfl (p2.mono (by omega)) (OffL.trans1 o1 o2)
    walk_at "w"
    refine ⟨fun _ => ?_, fun _ => ?_⟩
    · walk_at "w"
      rw [show atI (List.map blk (⟨n, fl, c0 :: cr, no⟩ : Pg).co) 0 = some (blk c0) from at_head (blk c0) (cr.map blk)]
      walk_at "w"
      have ec : cutL ((c0 :: cr).map blk) (some 1) none = cr.map blk := by rw [List.map_cons, cut_tail]
      refine ⟨small_le (by show 1 + (cutL ((c0 :: cr).map blk) (some 1) none).length ≤ 1000; rw [ec, List.length_map]; omega), ?_⟩
      refine fg_here ?_
      show Q (W.tup [.int n, .tup (fl.map blk), .tup ([W.tup (cutL (c0.map Ln.v) none (some (-1)))] ++ cutL ((c0 :: cr).map blk) (some 1) none), .tup (no.map blk)]) S1
      rw [ec, cut_last, ← List.map_dropLast]
      exact q ⟨n, fl, c0.dropLast :: cr, no⟩ S1 ⟨hg.fl, by show (c0.dropLast :: cr).length ≤ 2; simp; omega, hg.no, by show 1 ≤ (c0.dropLast :: cr).length; simp, okf, mem_cons1 okcr (bk_drop okc0), okn⟩ rfl (p1.mono (by omega)) o1
    walk_at "w"
    exact fg_here (q ⟨n, fl, c0 :: cr, no⟩ S1 hg rfl (p1.mono (by omega)) o1)⟩
end
end K83
set_option Elab.async false
set_option linter.all false
set_option maxRecDepth 100000
set_option maxHeartbeats 4000000
set_option synthInstance.maxHeartbeats 4000000
set_option synthInstance.maxSize 100000
namespace K83
open PySem PySem.Spec PyProof.Rows L2 Wl
local macro_rules | `(tactic| walk_at "w") => `(tactic| (conv => whnf))
/-! what a store holds -/
local macro_rules | `(tactic| walk_at "ne") => `(tactic| first | assumption | (apply Ne.symm; assumption) | exact ne_free (by assumption) (by assumption) | exact (ne_free (by assumption) (by assumption)).symm | exact Pl.ne (by assumption) (by assumption) | exact (Pl.ne (by assumption) (by assumption)).symm)
local macro_rules | `(tactic| walk_at "s") => `(tactic| first
  | exact put_same
  | assumption
  | (refine (put_ne ?_).trans ?_; (· walk_at "ne"); (· walk_at "s")))
/-! a side condition -/
local macro_rules | `(tactic| walk_at "c") => `(tactic| first
  | exact Or.inl (Or.inl ⟨by omega, by omega⟩)
  | exact Or.inl (Or.inr ⟨by omega, by omega⟩)
  | exact Or.inl ⟨by omega, by omega⟩
  | exact Or.inl ⟨rfl, _, by walk_at "s"⟩
  | rfl
  | omega
  | decide
  | exact Nat.le_trans (by omega) sizeLine_ge)
/-! one question is answered, if the answer is plain -/
local macro_rules | `(tactic| walk_at "g1") => `(tactic| first
  | refine ⟨fun _ => ?_, fun h => absurd (show true = false from h) (by decide)⟩
  | refine ⟨fun h => absurd (show false = true from h) Bool.false_ne_true, fun _ => ?_⟩
  | refine ⟨_, by walk_at "s", ?_⟩
  | refine ⟨_, _, by walk_at "s", by walk_at "s", ?_⟩
  | refine ⟨_, by walk_at "s", by simpa using (by omega), ?_⟩
  | refine ⟨_, rfl, ?_⟩
  | refine ⟨_, _, rfl, (by first | exact isTy_tt | exact isTy_ii | exact isTy_ll | exact isTy_ss | exact isTy_ib | exact isTy_tb | exact isTy_ti | exact isTy_ts | exact isTy_tl | exact isTy_lb | exact isTy_li | exact isTy_ls | exact isTy_lt | exact isTy_sb | exact isTy_si | exact isTy_st | exact isTy_sl | exact isTy_is | exact isTy_it | exact isTy_il | exact isTy_bi | exact isTy_bs | exact isTy_bb | exact isTy_nb | exact isTy_ni | exact isTy_ns | exact isTy_nt | exact isTy_nl | exact isTy_bt | exact isTy_bl | exact isTy_nd | exact isTy_td | exact isTy_ld | exact isTy_sd | exact isTy_id | exact isTy_bd | exact isTy_dd | exact isTy_db | exact isTy_di | exact isTy_ds | exact isTy_dt | exact isTy_dl), ?_⟩
  | refine ⟨_, _, tyName_lst (by walk_at "s"), (by first | exact isTy_ll | exact isTy_lb | exact isTy_li | exact isTy_ls | exact isTy_lt), ?_⟩
  | refine if_q ?_
  | refine ⟨by walk_at "c", ?_⟩)
local macro_rules | `(tactic| walk_at "go") => `(tactic| (walk_at "w"; repeat (walk_at "g1"; walk_at "w")))
/-! a branch that cannot be -/
local macro_rules | `(tactic| walk_at "two") => `(tactic| refine ⟨fun h => ?_, fun h => ?_⟩)
section
variable {P : Program} {w : World} {K : PySem.W.Frag} {mg : Str → Option Value} {base : Heap}
structure PsOk (gs : List Pg) : Prop where
  ok : ∀ g ∈ gs, PgOk g
  fl : ∀ g ∈ gs, g.fl.length ≤ 1
  no : ∀ g ∈ gs, g.no.length ≤ 1
  few : gs.length ≤ 20
structure RsOk (gs : List Pg) (n : Int) (m : Nat) : Prop where
  ok : ∀ g ∈ gs, PgOk g
  len : gs.length = m
  num : ∀ (i : Nat) (g : Pg), gs[i]? = some g → g.n = n + i
theorem RsOk.snoc {gs : List Pg} {n : Int} {m : Nat} {g : Pg} (h : RsOk gs n m) (hg : PgOk g) (hn : g.n = n + m) : RsOk (gs ++ [g]) n (m + 1) := ⟨mem_app1 h.ok hg, by simp [h.len], fun i x e => by
  rcases Nat.lt_or_ge i gs.length with hi | hi
  · rw [List.getElem?_append_left hi] at e
    exact h.num i x e
  · rw [List.getElem?_append_right hi] at e
    cases hc : i - gs.length with
    | zero =>
      rw [hc] at e
      cases e
      rw [hn, ← h.len]
      congr 2
      omega
    | succ k => rw [hc] at e; simp at e⟩
def spSec : SpW := fun ws S Q => ∃ (ns : List Int) (P : Addr) (gs : List Pg) (n : Int) (m : Nat) (mode : Int) (c : Nat), ws = [.rl (ns.map W.int), .ref P, .int n, .int m, .int mode, .int c] ∧ ns.length ≤ 63 ∧ S P = some (.lst (gs.map Pg.v)) ∧ PsOk gs ∧ m ≤ 20 ∧ 1 ≤ c ∧ c ≤ 2 ∧
  ∀ (R : Addr) (rs : List Pg) S', S R = none → S' R = some (.lst (rs.map Pg.v)) → RsOk rs n m → KpL [] S S' → Q (.ref R) S'
theorem ok__law_second (T : Txt K mg) (c__law_pool : CalW P w K mg base 1 "_law_pool" (Hd spPl)) (c__law_page : CalW P w K mg base 3 "_law_page" (Hd spPage)) (c__law_turned : CalW P w K mg base 3 "_law_turned" (Hd spTurn)) (d : DefAt K mg "_law_second" s__law_second ["_law_script", "_law_pages", "_law_number", "_law_many", "_law_mode", "_law_cols"]) : CalW P w K mg base 4 "_law_second" spSec :=
  calDI d sc__law_second (fun ws S Q ⟨ns, P, gs, n, m, mode, c, h, _⟩ => by rw [h]; rfl) fun f cdv A outer s H E hr => ⟨_, _,
    (pss_cons (ps_set (i := 6) sc__law_second.nd rfl (Or.inl rfl) (pe_lst pa_nil))
      (pss_cons (ps_for PassesOwn.never rfl (pi_range1 rfl T.b_range (pa_cons (pv 3) pa_nil)) (pg_name (i := 7) sc__law_second.nd rfl (Or.inr rfl))
       (pss_cons (ps_set (i := 8) sc__law_second.nd rfl (Or.inl rfl) (k_w K c__law_pool hr (by decide) rfl (pa_cons (pv 0) (pa_cons (pe_op (k_addB K) pe_int (pv 7)) pa_nil))))
       (pss_cons (ps_setLc (i := 9) (own := [("_law_page_here", 10)]) rfl sc__law_second.nd rfl rfl (sw_true rfl rfl rfl (by decide +kernel)) (k_any K (pv 1)) (blkOk_by (own := [("_law_page_here", 10)]) (N := ["_law_script", "_law_pages", "_law_number", "_law_many", "_law_mode", "_law_cols", "_law_rows", "_law_k", "_law_own", "_law_elder", "_law_page_here"]) (sc := defScope s__law_second) (by decide +kernel)) (fun _ _ _ _ _ => (pg_name (i := 10) sc__law_second.nd rfl (Or.inl rfl))) (fun _ _ _ _ _ => (pts_one (pt_cmpR (k_eq K hr.units) (pe_ix (k_ix K) (pv 10) pe_int (fun _ _ => rfl)) (pe_op (k_addB K) (pv 2) (pv 7)) (nomark _)))) (fun _ _ _ _ _ => (pv 10)))
       (pss_one (ps_if (PW.pt (pw_and (pt_cmpR (k_eq K hr.units) (pv 4) pe_int (nomark _)) (pw_and1 (pt_cmpR op_gtA (pe_callB (k_len K) (by rfl) T.b_len (by decide +kernel) (pa_cons (pv 9) pa_nil)) pe_int (nomark _)))))
        (pss_one (ps_expr (k_bm K PySem.F.plainAttrs_list PySem.F.slot_list_append PySem.F.type_list_append mt_append (pv 6) (pa_cons (k_w K c__law_turned hr (by decide) rfl (pa_cons (pv 8) (pa_cons (pe_ix (k_ix K) (pv 9) pe_int (fun _ _ => rfl)) pa_nil))) pa_nil))))
        (pss_one (ps_if (PW.pt (pw_and (pt_cmpR (k_eq K hr.units) (pv 4) pe_int (nomark _)) (pw_and1 (pt_cmpR op_ltA (pv 7) (pe_callB (k_len K) (by rfl) T.b_len (by decide +kernel) (pa_cons (pv 1) pa_nil)) (nomark _)))))
         (pss_one (ps_expr (k_bm K PySem.F.plainAttrs_list PySem.F.slot_list_append PySem.F.type_list_append mt_append (pv 6) (pa_cons (pe_op (k_addB K) (pe_tup (pa_cons (pe_op (k_addB K) (pv 2) (pv 7)) pa_nil)) (pe_slice (k_sl K) (pe_ix (k_ix K) (pv 1) (pv 7) (fun _ _ => rfl)) (po_some pe_int) po_none)) pa_nil))))
         (pss_one (ps_expr (k_bm K PySem.F.plainAttrs_list PySem.F.slot_list_append PySem.F.type_list_append mt_append (pv 6) (pa_cons (k_w K c__law_page hr (by decide) rfl (pa_cons (pv 8) (pa_cons (pe_op (k_addB K) (pv 2) (pv 7)) (pa_cons (pv 5) pa_nil)))) pa_nil)))))))))))
      (pss_one (ps_ret (pv 6))))), inferInstance, by
    rintro ws S Q ⟨ns, P, gs, n, m, mode, c, rfl, hns, hP, hgs, hm, hc1, hc2, q⟩
    walk_at "w"
    intro R hR
    have hRP := ne_free hP hR
    walk_at "w"
    refine ⟨by omega, by omega, ?_⟩
    refine for_q (fun i ρ' S' => ∃ (rs : List Pg) (a7 a8 a9 a10 : Option W), RsOk rs n i ∧ ρ' = [some (.rl (ns.map W.int)), some (.ref P), some (.int n), some (.int m), some (.int mode), some (.int c), some (.ref R), a7, a8, a9, a10] ∧ S' R = some (.lst (rs.map Pg.v)) ∧ KpL [] S S')
      ⟨[], none, none, none, none, ⟨(fun _ h => by cases h), rfl, fun i x e => by simp at e⟩, rfl, put_same, (KpL.refl [] S).new hR⟩ (fun _ _ _ _ => trivial) ?_ ?_
    · rintro i w ρ' S1 ew ⟨rs, a7, a8, a9, a10, hrs, rfl, hR1, k1⟩
      obtain ⟨hi, rfl⟩ := intsW_at ew
      have hrl := hrs.len
      walk_at "w"
      refine pl_go (by omega) (by omega) hns fun p S2 hp p2 o2 => ?_
      have hRp : R ≠ p := (ne_free hR1 hp).symm
      have hPp : P ≠ p := (ne_free (k1 P _ (by simp) hP) hp).symm
      have hR2 := (o2 R (notin1 hRp)).trans hR1
      have hP2 := (o2 P (notin1 hPp)).trans (k1 P _ (by simp) hP)
      have k2 : KpL [] S S2 := fun a c ha e => by
        have h1 := k1 a c ha e
        rw [o2 a (notin1 (ne_free h1 hp).symm)]
        exact h1
      walk_at "w"
      refine ⟨_, hP2, ?_⟩
      have few := hgs.few
      refine lc_filD Pg.v gs (fun g => [some (.rl (ns.map W.int)), some (.ref P), some (.int n), some (.int m), some (.int mode), some (.int c), some (.ref R), some (.int (0 + (i : Int))), some (.ref p), a9, some g.v]) (fun g => decide (g.n = n + (0 + (i : Int)))) Pg.v (by omega) (fun D acc hD => (put_ne (ne_free hP2 hD).symm).trans hP2) ?_ ?_ ?_ ?_
      · intro x S0 R0 hx hq
        exact hq
      · intro x D acc hx hD Q q
        walk_at "w"
        exact q
      · intro x D acc hx hb hD Q' q'
        exact q'
      intro D hD
      generalize hE : gs.filter (fun g => decide (g.n = n + (0 + (i : Int)))) = el
      have elm : ∀ g ∈ el, g ∈ gs ∧ g.n = n + (0 + (i : Int)) := fun g hg => by
        rw [← hE] at hg
        have := List.mem_filter.mp hg
        exact ⟨this.1, of_decide_eq_true this.2⟩
      have hDR := ne_free hR2 hD
      have hDp := p2.ne hD
      have hDP := ne_free hP2 hD
      have d3 : put S2 D (.lst (el.map Pg.v)) D = some (.lst (el.map Pg.v)) := put_same
      have r3 := (put_ne (c := .lst (el.map Pg.v)) hDR.symm).trans hR2
      have q3 := (put_ne (c := .lst (el.map Pg.v)) hDP.symm).trans hP2
      have p3 := p2.eq (put_ne (c := .lst (el.map Pg.v)) hDp.symm)
      have k3 : KpL [] S (put S2 D (.lst (el.map Pg.v))) := k2.new hD
      generalize put S2 D (.lst (el.map Pg.v)) = S3 at d3 r3 q3 p3 k3
      have hpS : S p = none := by
        cases e : S p with
        | none => rfl
        | some x => rw [k1 p x (by simp) e] at hp; cases hp
      have hlt : (rs.map Pg.v).length < sizeLine := by rw [List.length_map, hrl]; exact Nat.lt_of_lt_of_le (show i < 100 by omega) (Nat.le_trans (by decide) sizeLine_ge)
      have fin : ∀ (g : Pg) S4, PgOk g → g.n = n + (0 + (i : Int)) → S4 R = some (.lst (rs.map Pg.v)) → KpL [] S S4 → (∃ (rs' : List Pg) (b7 b8 b9 b10 : Option W), RsOk rs' n (i + 1) ∧
          [some (W.rl (ns.map W.int)), some (.ref P), some (.int n), some (.int m), some (.int mode), some (.int c), some (.ref R), some (.int (0 + (i : Int))), some (.ref p), some (.ref D), a10] = [some (.rl (ns.map W.int)), some (.ref P), some (.int n), some (.int m), some (.int mode), some (.int c), some (.ref R), b7, b8, b9, b10] ∧
          put S4 R (.lst (rs.map Pg.v ++ [g.v])) R = some (.lst (rs'.map Pg.v)) ∧ KpL [] S (put S4 R (.lst (rs.map Pg.v ++ [g.v])))) := fun g S4 hg hn h4 k4 =>
        ⟨rs ++ [g], _, _, _, _, hrs.snoc hg (by rw [hn, Int.zero_add]), rfl, by rw [put_same, List.map_append]; rfl, k4.own hR⟩
      walk_at "w"
      refine if_ev (decide (mode = 0) && decide (0 < (el.length : Int))) (evAnd (fun Q q => ?_) (fun _ Q q => ?_)) (fun hc => ?_) (fun hc => ?_)
      · walk_at "w"
        exact q
      · walk_at "w"
        refine ⟨_, d3, ?_⟩
        rw [List.length_map]
        exact q
      · rw [Bool.and_eq_true] at hc
        have hc := of_decide_eq_true hc.2
        obtain ⟨e0, er, rfl⟩ : ∃ b0 br, el = b0 :: br := by
          cases el with
          | nil => exact absurd hc (by simp)
          | cons a b => exact ⟨a, b, rfl⟩
        have m0 := elm e0 (by simp)
        walk_at "w"
        refine ⟨.inl ⟨rfl, _, r3⟩, ?_⟩
        walk_at "w"
        refine ⟨_, d3, ?_⟩
        refine rdAt_ok (at_head (Pg.v e0) (er.map Pg.v)) ?_
        walk_at "w"
        refine Hd.mk ⟨p, _, e0, rfl, p3, by omega, hgs.ok e0 m0.1, hgs.fl e0 m0.1, hgs.no e0 m0.1, fun g S4 hg hn p4 o4 => ?_⟩
        have r4 := (o4 R (notin1 hRp)).trans r3
        refine ⟨_, r4, hlt, ?_⟩
        exact fin g S4 hg (hn.trans m0.2) r4 (k3.off o4 (fun a ha => .inr (by rw [List.mem_singleton.mp ha]; exact hpS)))
      walk_at "w"
      refine if_ev (decide (mode = 1) && decide ((0 + (i : Int)) < (gs.length : Int))) (evAnd (fun Q q => ?_) (fun _ Q q => ?_)) (fun hc => ?_) (fun hc => ?_)
      · walk_at "w"
        exact q
      · walk_at "w"
        refine ⟨_, q3, ?_⟩
        rw [List.length_map]
        exact q
      · rw [Bool.and_eq_true] at hc
        have hc := of_decide_eq_true hc.2
        have hig : i < gs.length := by omega
        walk_at "w"
        refine ⟨.inl ⟨rfl, _, r3⟩, ?_⟩
        walk_at "w"
        refine ⟨_, q3, ?_⟩
        refine rdAt_ok (w := (gs[i]).v) ?_ ?_
        · rw [Int.zero_add]
          exact atI_nat (by rw [List.getElem?_map, List.getElem?_eq_getElem hig]; rfl)
        walk_at "w"
        rw [cut_tail]
        refine ⟨small_le (by show 4 ≤ 1000; decide), ?_⟩
        refine ⟨_, r3, hlt, ?_⟩
        have hm0 := List.getElem_mem hig
        have ho := hgs.ok _ hm0
        exact fin ⟨n + (0 + (i : Int)), (gs[i]).fl, (gs[i]).co, (gs[i]).no⟩ S3 ⟨ho.fl, ho.co, ho.no, ho.one, ho.okf, ho.okc, ho.okn⟩ rfl r3 k3
      · walk_at "w"
        refine ⟨.inl ⟨rfl, _, r3⟩, ?_⟩
        walk_at "w"
        refine Hd.mk ⟨p, _, _, c, rfl, p3, by omega, hc1, hc2, fun g S4 hg hf1 hn1 hn p4 o4 => ?_⟩
        have r4 := (o4 R (notin1 hRp)).trans r3
        refine ⟨_, r4, hlt, ?_⟩
        exact fin g S4 hg hn r4 (k3.off o4 (fun a ha => .inr (by rw [List.mem_singleton.mp ha]; exact hpS)))
    · rintro ρ' S1 ⟨rs, a7, a8, a9, a10, hrs, rfl, hR1, k1⟩
      rw [intsW_len] at hrs
      walk_at "w"
      refine fg_here ?_
      exact q R rs S1 hR hR1 ⟨hrs.ok, hrs.len.trans (by omega), hrs.num⟩ k1⟩
end
end K83
set_option Elab.async false
set_option linter.all false
set_option maxRecDepth 100000
set_option maxHeartbeats 4000000
set_option synthInstance.maxHeartbeats 4000000
set_option synthInstance.maxSize 100000
namespace K83
open PySem PySem.Spec PyProof.Rows L2 Wl
local macro_rules | `(tactic| walk_at "w") => `(tactic| (conv => whnf))
/-! what a store holds -/
local macro_rules | `(tactic| walk_at "ne") => `(tactic| first | assumption | (apply Ne.symm; assumption) | exact ne_free (by assumption) (by assumption) | exact (ne_free (by assumption) (by assumption)).symm | exact Pl.ne (by assumption) (by assumption) | exact (Pl.ne (by assumption) (by assumption)).symm)
local macro_rules | `(tactic| walk_at "s") => `(tactic| first
  | exact put_same
  | assumption
  | (refine (put_ne ?_).trans ?_; (· walk_at "ne"); (· walk_at "s")))
/-! a side condition -/
local macro_rules | `(tactic| walk_at "c") => `(tactic| first
  | exact Or.inl (Or.inl ⟨by omega, by omega⟩)
  | exact Or.inl (Or.inr ⟨by omega, by omega⟩)
  | exact Or.inl ⟨by omega, by omega⟩
  | exact Or.inl ⟨rfl, _, by walk_at "s"⟩
  | rfl
  | omega
  | decide
  | exact Nat.le_trans (by omega) sizeLine_ge)
/-! one question is answered, if the answer is plain -/
local macro_rules | `(tactic| walk_at "g1") => `(tactic| first
  | refine ⟨fun _ => ?_, fun h => absurd (show true = false from h) (by decide)⟩
  | refine ⟨fun h => absurd (show false = true from h) Bool.false_ne_true, fun _ => ?_⟩
  | refine ⟨_, by walk_at "s", ?_⟩
  | refine ⟨_, _, by walk_at "s", by walk_at "s", ?_⟩
  | refine ⟨_, by walk_at "s", by simpa using (by omega), ?_⟩
  | refine ⟨_, rfl, ?_⟩
  | refine ⟨_, _, rfl, (by first | exact isTy_tt | exact isTy_ii | exact isTy_ll | exact isTy_ss | exact isTy_ib | exact isTy_tb | exact isTy_ti | exact isTy_ts | exact isTy_tl | exact isTy_lb | exact isTy_li | exact isTy_ls | exact isTy_lt | exact isTy_sb | exact isTy_si | exact isTy_st | exact isTy_sl | exact isTy_is | exact isTy_it | exact isTy_il | exact isTy_bi | exact isTy_bs | exact isTy_bb | exact isTy_nb | exact isTy_ni | exact isTy_ns | exact isTy_nt | exact isTy_nl | exact isTy_bt | exact isTy_bl | exact isTy_nd | exact isTy_td | exact isTy_ld | exact isTy_sd | exact isTy_id | exact isTy_bd | exact isTy_dd | exact isTy_db | exact isTy_di | exact isTy_ds | exact isTy_dt | exact isTy_dl), ?_⟩
  | refine ⟨_, _, tyName_lst (by walk_at "s"), (by first | exact isTy_ll | exact isTy_lb | exact isTy_li | exact isTy_ls | exact isTy_lt), ?_⟩
  | refine if_q ?_
  | refine ⟨by walk_at "c", ?_⟩)
local macro_rules | `(tactic| walk_at "go") => `(tactic| (walk_at "w"; repeat (walk_at "g1"; walk_at "w")))
/-! a branch that cannot be -/
local macro_rules | `(tactic| walk_at "two") => `(tactic| refine ⟨fun h => ?_, fun h => ?_⟩)
section
variable {P : Program} {w : World} {K : PySem.W.Frag} {mg : Str → Option Value} {base : Heap}
/-- a result over the pages gs -/
def ResW (u : Bool) (gs : List Pg) (r : W) : Prop := (u = true ∧ ∃ x, r = .tup [.str "unset", x]) ∨ (u = false ∧ ∃ x, r = .tup [.str "pages", x, .tup (gs.map Pg.v)])
def spRes : SpW := fun ws S Q => ∃ (p P : Addr) (N : Int) (gs : List Pg) (u : Bool), ws = [.ref p, .ref P, .bl u] ∧ Pl S p N ∧ N < 2 ^ 36 ∧ S P = some (.lst (gs.map Pg.v)) ∧ ∀ r S', ResW u gs r → Pl S' p (N + 5) → OffL [p] S S' → Q r S'
theorem ok__law_result (T : Txt K mg) (c__law_take : CalW P w K mg base 1 "_law_take" (Hd spTk)) (d : DefAt K mg "_law_result" s__law_result ["_law_pool_here", "_law_pages", "_law_unset"]) : CalW P w K mg base 2 "_law_result" spRes :=
  calDI d sc__law_result (fun ws S Q ⟨p, P, N, gs, u, h, _⟩ => by rw [h]; rfl) fun f cdv A outer s H E hr => ⟨_, _,
    (pss_cons (ps_set (i := 3) sc__law_result.nd rfl (Or.inl rfl) (pe_callTy (k_tuple K) (by rfl) T.b_tuple (by decide +kernel) (pa_cons (pe_lc (own := [("_law_k", 4)]) rfl sc__law_result.nd (pi_range1 rfl T.b_range (pa_cons (k_w K c__law_take hr (by decide) rfl (pa_cons (pv 0) (pa_cons pe_int pa_nil))) pa_nil)) (blkOk_by (own := [("_law_k", 4)]) (N := ["_law_pool_here", "_law_pages", "_law_unset", "_law_forms", "_law_k"]) (sc := defScope s__law_result) (by decide +kernel)) (fun _ _ _ _ _ => (pg_name (i := 4) sc__law_result.nd rfl (Or.inl rfl))) (fun _ _ _ _ _ => pts_nil) (fun _ _ _ _ _ => (k_w K c__law_take hr (by decide) rfl (pa_cons (pv 0) (pa_cons pe_int pa_nil))))) pa_nil)))
      (pss_cons (ps_if (k_truth K (pv 2))
       (pss_one (ps_ret (pe_tup (pa_cons pe_str (pa_cons (pe_tup (pa_cons (pe_tup (pa_cons (pv 3) (pa_cons (pe_tup (pa_cons pe_str (pa_cons (k_w K c__law_take hr (by decide) rfl (pa_cons (pv 0) (pa_cons pe_int pa_nil))) pa_nil))) pa_nil))) pa_nil)) pa_nil)))))
       pss_nil)
      (pss_one (ps_ret (pe_tup (pa_cons pe_str (pa_cons (pv 3) (pa_cons (pe_callTy (k_tuple K) (by rfl) T.b_tuple (by decide +kernel) (pa_cons (pv 1) pa_nil)) pa_nil)))))))), inferInstance, by
    rintro ws S Q ⟨p, P, N, gs, u, rfl, hp, hN, hP, q⟩
    have hPp : P ≠ p := by
      obtain ⟨c, n, b, s, e, _⟩ := hp
      rintro rfl
      rw [e] at hP
      cases gs with
      | nil => cases hP
      | cons g gs => injection hP with hP; injection hP with hP; injection hP with hP; cases hP
    walk_at "w"
    refine tk_go hp (by omega) (by omega) (by omega) fun m S1 m0 m1 p1 o1 => ?_
    walk_at "w"
    refine ⟨by omega, by omega, ?_⟩
    refine lc_poolA (n := m.toNat) W.int 1 (by decide) (fun _ => True) p1 (by omega) (by rw [intsW_len]) (by omega) (fun _ _ => trivial) ?_ ?_
    · intro j w M S7 ew k7 p7 hM Q' q'
      walk_at "w"
      exact tk_go p7 (by omega) (by omega) (by omega) fun r S8 _ _ p8 o8 => q' r S8 trivial p8 o8
    · intro D fs S7 hls _ hD hD7 p7 k7
      walk_at "w"
      refine ⟨_, hD7, ?_⟩
      walk_at "w"
      cases u with
      | true =>
        refine ⟨fun _ => ?_, fun h => absurd h (by decide)⟩
        walk_at "w"
        refine tk_go p7 (by omega) (by omega) (by omega) fun x S8 _ _ p8 o8 => ?_
        walk_at "w"
        refine fg_off (ps := [p]) ((o1.kp.trans k7).trans o8.kp) fun S9 g1 g2 => ?_
        exact q _ S9 (.inl ⟨rfl, _, rfl⟩) ((p8.eq (g2 p (by simp))).mono (by omega)) g1
      | false =>
        refine ⟨fun h => absurd h (by decide), fun _ => ?_⟩
        walk_at "w"
        refine ⟨_, k7 P _ (notin1 hPp) (o1.kp P _ (notin1 hPp) hP), ?_⟩
        refine fg_off (ps := [p]) (o1.kp.trans k7) fun S9 g1 g2 => ?_
        exact q _ S9 (.inr ⟨rfl, _, rfl⟩) ((p7.eq (g2 p (by simp))).mono (by omega)) g1⟩
end
end K83
set_option Elab.async false
set_option linter.all false
set_option maxRecDepth 100000
set_option maxHeartbeats 4000000
set_option synthInstance.maxHeartbeats 4000000
set_option synthInstance.maxSize 100000
namespace K83
open PySem PySem.Spec PyProof.Rows L2 Wl
local macro_rules | `(tactic| walk_at "w") => `(tactic| (conv => whnf))
/-! what a store holds -/
local macro_rules | `(tactic| walk_at "ne") => `(tactic| first | assumption | (apply Ne.symm; assumption) | exact ne_free (by assumption) (by assumption) | exact (ne_free (by assumption) (by assumption)).symm | exact Pl.ne (by assumption) (by assumption) | exact (Pl.ne (by assumption) (by assumption)).symm)
local macro_rules | `(tactic| walk_at "s") => `(tactic| first
  | exact put_same
  | assumption
  | (refine (put_ne ?_).trans ?_; (· walk_at "ne"); (· walk_at "s")))
/-! a side condition -/
local macro_rules | `(tactic| walk_at "c") => `(tactic| first
  | exact Or.inl (Or.inl ⟨by omega, by omega⟩)
  | exact Or.inl (Or.inr ⟨by omega, by omega⟩)
  | exact Or.inl ⟨by omega, by omega⟩
  | exact Or.inl ⟨rfl, _, by walk_at "s"⟩
  | rfl
  | omega
  | decide
  | exact Nat.le_trans (by omega) sizeLine_ge)
/-! one question is answered, if the answer is plain -/
local macro_rules | `(tactic| walk_at "g1") => `(tactic| first
  | refine ⟨fun _ => ?_, fun h => absurd (show true = false from h) (by decide)⟩
  | refine ⟨fun h => absurd (show false = true from h) Bool.false_ne_true, fun _ => ?_⟩
  | refine ⟨_, by walk_at "s", ?_⟩
  | refine ⟨_, _, by walk_at "s", by walk_at "s", ?_⟩
  | refine ⟨_, by walk_at "s", by simpa using (by omega), ?_⟩
  | refine ⟨_, rfl, ?_⟩
  | refine ⟨_, _, rfl, (by first | exact isTy_tt | exact isTy_ii | exact isTy_ll | exact isTy_ss | exact isTy_ib | exact isTy_tb | exact isTy_ti | exact isTy_ts | exact isTy_tl | exact isTy_lb | exact isTy_li | exact isTy_ls | exact isTy_lt | exact isTy_sb | exact isTy_si | exact isTy_st | exact isTy_sl | exact isTy_is | exact isTy_it | exact isTy_il | exact isTy_bi | exact isTy_bs | exact isTy_bb | exact isTy_nb | exact isTy_ni | exact isTy_ns | exact isTy_nt | exact isTy_nl | exact isTy_bt | exact isTy_bl | exact isTy_nd | exact isTy_td | exact isTy_ld | exact isTy_sd | exact isTy_id | exact isTy_bd | exact isTy_dd | exact isTy_db | exact isTy_di | exact isTy_ds | exact isTy_dt | exact isTy_dl), ?_⟩
  | refine ⟨_, _, tyName_lst (by walk_at "s"), (by first | exact isTy_ll | exact isTy_lb | exact isTy_li | exact isTy_ls | exact isTy_lt), ?_⟩
  | refine if_q ?_
  | refine ⟨by walk_at "c", ?_⟩)
local macro_rules | `(tactic| walk_at "go") => `(tactic| (walk_at "w"; repeat (walk_at "g1"; walk_at "w")))
/-! a branch that cannot be -/
local macro_rules | `(tactic| walk_at "two") => `(tactic| refine ⟨fun h => ?_, fun h => ?_⟩)
section
variable {P : Program} {w : World} {K : PySem.W.Frag} {mg : Str → Option Value} {base : Heap}
def dkA (ns : List Int) (A : Int → Addr) : List (Key × W) := ns.map fun n => (.inl n, .ref (A n))
def setA (A : Int → Addr) (k : Int) (a : Addr) : Int → Addr := fun n => if n = k then a else A n
theorem valA : ∀ (ns : List Int) (A : Int → Addr) (k : Int), valW (dkA ns A) (.inl k) = if k ∈ ns then some (.ref (A k)) else none
  | [], _, _ => rfl
  | n :: ns, A, k => by
    have ih := valA ns A k
    unfold valW dkA at ih ⊢
    rw [List.map_cons, List.find?_cons]
    by_cases h : n = k
    · subst h
      simp
    · have e : decide ((Sum.inl n : Key) = Sum.inl k) = false := decide_eq_false fun z => h (Sum.inl.inj z)
      rw [e]
      simp only [List.mem_cons]
      rw [ih]
      have hk : ¬ k = n := fun e => h e.symm
      simp [hk]
theorem putA {ns : List Int} {A : Int → Addr} {k : Int} {a : Addr} (h : k ∉ ns) : putW (dkA ns A) (.inl k : Key) (.ref a) = dkA (ns ++ [k]) (setA A k a) := by
  unfold putW
  have h1 : ¬ ((dkA ns A).any fun kv => decide (kv.1 = (.inl k : Key))) = true := by
    intro e
    obtain ⟨x, hx, hx2⟩ := List.any_eq_true.mp e
    obtain ⟨n, hn, rfl⟩ := List.mem_map.mp hx
    have := of_decide_eq_true hx2
    exact h (Sum.inl.inj this ▸ hn)
  rw [if_neg h1]
  unfold dkA
  rw [List.map_append]
  congr 1
  · refine List.map_congr_left fun n hn => ?_
    have : n ≠ k := fun e => h (e ▸ hn)
    simp [setA, this]
  · simp [setA]
def numL (L : List Pg) (k : Int) : List Pg := L.filter fun g => decide (g.n = k)
/-- the pages of L by number -/
structure ByOk (S0 S : Sto) (ns : List Int) (A : Int → Addr) (L : List Pg) : Prop where
  mem : ∀ k, k ∈ ns ↔ ∃ g ∈ L, g.n = k
  at' : ∀ k ∈ ns, S (A k) = some (.lst ((numL L k).map Pg.v))
  new : ∀ k ∈ ns, S0 (A k) = none
  inj : ∀ k ∈ ns, ∀ j ∈ ns, A k = A j → k = j
  len : ns.length ≤ L.length
theorem ByOk.eq {S0 S T : Sto} {ns : List Int} {A : Int → Addr} {L : List Pg} (h : ByOk S0 S ns A L) (e : ∀ k ∈ ns, T (A k) = S (A k)) : ByOk S0 T ns A L :=
  ⟨h.mem, fun k hk => (e k hk).trans (h.at' k hk), h.new, h.inj, h.len⟩
theorem numL_app (L : List Pg) (g : Pg) (k : Int) : numL (L ++ [g]) k = numL L k ++ (if g.n = k then [g] else []) := by
  unfold numL
  rw [List.filter_append]
  congr 1
  by_cases h : g.n = k <;> simp [h]
theorem ByOk.old {S0 S : Sto} {ns : List Int} {A : Int → Addr} {L : List Pg} {g : Pg} (h : ByOk S0 S ns A L) (hg : g.n ∈ ns) : ByOk S0 (put S (A g.n) (.lst ((numL L g.n).map Pg.v ++ [g.v]))) ns A (L ++ [g]) := by
  refine ⟨fun k => ⟨fun hk => ?_, fun hk => ?_⟩, fun k hk => ?_, h.new, h.inj, by have := h.len; simp; omega⟩
  · obtain ⟨x, hx, e⟩ := (h.mem k).mp hk
    exact ⟨x, by simp [hx], e⟩
  · obtain ⟨x, hx, e⟩ := hk
    rcases List.mem_append.mp hx with hx | hx
    · exact (h.mem k).mpr ⟨x, hx, e⟩
    · rw [List.mem_singleton.mp hx] at e
      rw [← e]; exact hg
  · rw [numL_app]
    by_cases e : g.n = k
    · subst e
      rw [put_same, if_pos rfl, List.map_append]; rfl
    · rw [put_ne (fun z => e (h.inj _ hg _ hk z.symm)), if_neg e, List.append_nil]
      exact h.at' k hk
theorem ByOk.add {S0 S : Sto} {ns : List Int} {A : Int → Addr} {L : List Pg} {g : Pg} {Z : Addr} (h : ByOk S0 S ns A L) (hg : g.n ∉ ns) (hZ : ∀ k ∈ ns, A k ≠ Z) (h0 : S0 Z = none) : ByOk S0 (put S Z (.lst [g.v])) (ns ++ [g.n]) (setA A g.n Z) (L ++ [g]) := by
  have old : ∀ k ∈ ns, setA A g.n Z k = A k := fun k hk => if_neg (fun e : k = g.n => hg (by rw [← e]; exact hk))
  have new : setA A g.n Z g.n = Z := if_pos rfl
  have ne : numL L g.n = [] := by
    unfold numL
    rw [List.filter_eq_nil_iff]
    intro x hx e
    exact hg ((h.mem _).mpr ⟨x, hx, of_decide_eq_true e⟩)
  have sp : ∀ k, k ∈ ns ++ [g.n] → k ∈ ns ∨ k = g.n := fun k hk => by
    rcases List.mem_append.mp hk with a | a
    · exact .inl a
    · exact .inr (List.mem_singleton.mp a)
  refine ⟨fun k => ⟨fun hk => ?_, fun hk => ?_⟩, fun k hk => ?_, fun k hk => ?_, fun k hk j hj e => ?_, by have := h.len; simp; omega⟩
  · rcases sp k hk with hk | rfl
    · obtain ⟨x, hx, e⟩ := (h.mem k).mp hk
      exact ⟨x, by simp [hx], e⟩
    · exact ⟨g, by simp, rfl⟩
  · obtain ⟨x, hx, e⟩ := hk
    rcases List.mem_append.mp hx with hx | hx
    · exact List.mem_append_left _ ((h.mem k).mpr ⟨x, hx, e⟩)
    · rw [List.mem_singleton.mp hx] at e
      rw [← e]; simp
  · rw [numL_app]
    rcases sp k hk with hk | rfl
    · rw [old k hk, put_ne (hZ k hk), if_neg (fun e : g.n = k => hg (by rw [e]; exact hk)), List.append_nil]
      exact h.at' k hk
    · rw [new, put_same, ne, if_pos rfl]; rfl
  · rcases sp k hk with hk | rfl
    · rw [old k hk]; exact h.new k hk
    · rw [new]; exact h0
  · rcases sp k hk with hk | rfl <;> rcases sp j hj with hj | rfl
    · rw [old k hk, old j hj] at e
      exact h.inj k hk j hj e
    · rw [old k hk, new] at e
      exact absurd e (hZ k hk)
    · rw [old j hj, new] at e
      exact absurd e.symm (hZ j hj)
    · rfl
def shown (u : Bool) (gs : List Pg) : List Pg := if u then [] else gs
def spBy : SpW := fun ws S Q => ∃ (u : Bool) (gs : List Pg) (r : W), ws = [r] ∧ ResW u gs r ∧ gs.length ≤ 100 ∧ ∀ (F : Addr) ns A S', S F = none → S' F = some (.dk (dkA ns A)) → ByOk S S' ns A (shown u gs) → KpL [] S S' → Q (.ref F) S'
theorem ok__pages_by_number (T : Txt K mg) (d : DefAt K mg "_pages_by_number" s__pages_by_number ["result"]) : CalW P w K mg base 1 "_pages_by_number" spBy :=
  calDI d sc__pages_by_number (fun ws S Q ⟨u, gs, r, h, _⟩ => by rw [h]; rfl) fun f cdv A outer s H E hr => ⟨_, _,
    (pss_cons (ps_set (i := 1) sc__pages_by_number.nd rfl (Or.inl rfl) pe_dnewK)
      (pss_mid (ps_if (pt_cmpR (k_eq K hr.units) (pe_ix (k_ixB K w (hu_of hr)) (pv 0) pe_int (fun _ _ => rfl)) pe_str (nomark _))
       (pss_one (ps_for PassesOwn.never rfl (k_any K (pe_ix (k_ixB K w (hu_of hr)) (pv 0) pe_int (fun _ _ => rfl))) (pg_name (i := 2) sc__pages_by_number.nd rfl (Or.inl rfl))
        (pss_one (ps_expr (k_bm K PySem.F.plainAttrs_list PySem.F.slot_list_append PySem.F.type_list_append mt_append (pe_dsetd (pv 1) (pe_ix (k_ixB K w (hu_of hr)) (pv 2) pe_int (fun _ _ => rfl)) (pe_lst pa_nil) ⟨rfl, rfl, rfl, rfl⟩) (pa_cons (pv 2) pa_nil))))))
       pss_nil)
      (pss_one (ps_ret (pv 1))))), inferInstance, by
    rintro ws S Q ⟨u, gs, r, rfl, hr0, hl, q⟩
    walk_at "w"
    intro F hF
    have kF : KpL [] S (put S F (.dk [])) := (KpL.refl [] S).new hF
    refine mid_q (fun ρ S' => ∃ ns A a2, ρ = [some r, some (.ref F), a2] ∧ S' F = some (.dk (dkA ns A)) ∧ ByOk S S' ns A (shown u gs) ∧ KpL [] S S') ?_ ?_
    case refine_2 =>
      rintro ρ S1 ⟨ns, A, a2, rfl, hF1, hb, k1⟩
      walk_at "w"
      exact fg_here (q F ns A S1 hF hF1 hb k1)
    rcases hr0 with ⟨rfl, x, rfl⟩ | ⟨rfl, x, rfl⟩
    · walk_at "w"
      refine ⟨fun h => absurd h (by decide +kernel), fun _ => ?_⟩
      exact ⟨[], fun _ => F, none, rfl, put_same, ⟨fun k => by simp [shown], fun k h => (by cases h), fun k h => (by cases h), fun k h => (by cases h), Nat.zero_le _⟩, kF⟩
    · walk_at "w"
      refine ⟨fun _ => ?_, fun h => absurd h (by decide +kernel)⟩
      walk_at "w"
      refine for_q (fun i ρ' S' => i ≤ gs.length ∧ ∃ ns A a2, ρ' = [some (.tup [.str "pages", x, .tup (gs.map Pg.v)]), some (.ref F), a2] ∧ S' F = some (.dk (dkA ns A)) ∧ ByOk S S' ns A (gs.take i) ∧ KpL [] S S')
        ⟨Nat.zero_le _, [], fun _ => F, none, rfl, put_same, ⟨fun k => by simp, fun k h => (by cases h), fun k h => (by cases h), fun k h => (by cases h), Nat.zero_le _⟩, kF⟩ (fun _ _ _ _ => trivial) ?_ ?_
      · rintro i w ρ' S1 ew ⟨_, ns, A, a2, rfl, hF1, hb, k1⟩
        obtain ⟨g, eg, rfl⟩ := map_at ew
        have hi : i < gs.length := (List.getElem?_eq_some_iff.mp eg).1
        have tk : gs.take (i + 1) = gs.take i ++ [g] := by rw [List.take_add_one, eg]; rfl
        have hlen := hb.len
        rw [List.length_take] at hlen
        walk_at "w"
        refine ⟨⟨_, hF1⟩, ?_⟩
        walk_at "w"
        intro Z hZ
        have hZF := ne_free hF1 hZ
        have hF2 := (put_ne (c := .lst []) hZF.symm).trans hF1
        refine ⟨_, _, hF2, rfl, by unfold dkA; rw [List.length_map]; exact Nat.lt_of_lt_of_le (show ns.length < 200 by omega) (Nat.le_trans (by decide) sizeLine_ge), fun v hv => ?_, fun hv => ?_⟩
        · rw [valA] at hv
          by_cases hk : g.n ∈ ns
          · rw [if_pos hk] at hv
            cases hv
            have hA := hb.at' _ hk
            have hZA := ne_free hA hZ
            have hA2 := (put_ne (c := .lst []) hZA.symm).trans hA
            walk_at "w"
            refine ⟨.inl ⟨rfl, _, hA2⟩, ?_⟩
            walk_at "w"
            have hAF : A g.n ≠ F := fun e => by rw [e, hF1] at hA; cases hA
            have hb2 : ByOk S (put S1 Z (.lst [])) ns A (gs.take i) := hb.eq fun k hk => put_ne (ne_free (hb.at' k hk) hZ).symm
            refine ⟨_, hA2, ?_, hi, ns, A, _, rfl, ?_, ?_, (k1.new hZ).own (hb.new _ hk)⟩
            · rw [List.length_map]
              refine Nat.lt_of_le_of_lt (List.length_filter_le _ _) ?_
              rw [List.length_take]
              exact Nat.lt_of_lt_of_le (show min i gs.length < 200 by omega) (Nat.le_trans (by decide) sizeLine_ge)
            · rw [put_ne hAF.symm]; exact hF2
            · rw [tk]; exact hb2.old hk
          · rw [if_neg hk] at hv
            cases hv
        · rw [valA] at hv
          have hk : g.n ∉ ns := fun h => by rw [if_pos h] at hv; cases hv
          rw [putA hk]
          walk_at "w"
          have hZ2 : put (put S1 Z (.lst [])) F (.dk (dkA (ns ++ [g.n]) (setA A g.n Z))) Z = some (.lst []) := (put_ne hZF).trans put_same
          refine ⟨.inl ⟨rfl, _, hZ2⟩, ?_⟩
          walk_at "w"
          have hAZ : ∀ k ∈ ns, A k ≠ Z := fun k hk => (ne_free (hb.at' k hk) hZ).symm
          have hAF : ∀ k ∈ ns, A k ≠ F := fun k hk e => by
            have := hb.at' k hk
            rw [e, hF1] at this; cases this
          have hb2 : ByOk S (put (put S1 Z (.lst [])) F (.dk (dkA (ns ++ [g.n]) (setA A g.n Z)))) ns A (gs.take i) := hb.eq fun k hk => (put_ne (hAF k hk)).trans (put_ne (hAZ k hk))
          have hZ0 := k1.free hZ (by simp)
          refine ⟨_, hZ2, Nat.lt_of_lt_of_le (show 0 < 200 by decide) (Nat.le_trans (by decide) sizeLine_ge), hi, ns ++ [g.n], setA A g.n Z, _, rfl, ?_, ?_, ((k1.new hZ).own hF).own hZ0⟩
          · rw [put_ne hZF.symm]; exact put_same
          · rw [tk]; exact hb2.add hk hAZ hZ0
      · rintro ρ' S1 ⟨_, ns, A, a2, rfl, hF1, hb, k1⟩
        rw [List.length_map, List.take_of_length_le (Nat.le_refl _)] at hb
        exact ⟨ns, A, a2, rfl, hF1, hb, k1⟩⟩
end
end K83
set_option Elab.async false
set_option linter.all false
set_option maxRecDepth 100000
set_option maxHeartbeats 4000000
set_option synthInstance.maxHeartbeats 4000000
set_option synthInstance.maxSize 100000
namespace K83
open PySem PySem.Spec PyProof.Rows L2 Wl
local macro_rules | `(tactic| walk_at "w") => `(tactic| (conv => whnf))
/-! what a store holds -/
local macro_rules | `(tactic| walk_at "ne") => `(tactic| first | assumption | (apply Ne.symm; assumption) | exact ne_free (by assumption) (by assumption) | exact (ne_free (by assumption) (by assumption)).symm | exact Pl.ne (by assumption) (by assumption) | exact (Pl.ne (by assumption) (by assumption)).symm)
local macro_rules | `(tactic| walk_at "s") => `(tactic| first
  | exact put_same
  | assumption
  | (refine (put_ne ?_).trans ?_; (· walk_at "ne"); (· walk_at "s")))
/-! a side condition -/
local macro_rules | `(tactic| walk_at "c") => `(tactic| first
  | exact Or.inl (Or.inl ⟨by omega, by omega⟩)
  | exact Or.inl (Or.inr ⟨by omega, by omega⟩)
  | exact Or.inl ⟨by omega, by omega⟩
  | exact Or.inl ⟨rfl, _, by walk_at "s"⟩
  | rfl
  | omega
  | decide
  | exact Nat.le_trans (by omega) sizeLine_ge)
/-! one question is answered, if the answer is plain -/
local macro_rules | `(tactic| walk_at "g1") => `(tactic| first
  | refine ⟨fun _ => ?_, fun h => absurd (show true = false from h) (by decide)⟩
  | refine ⟨fun h => absurd (show false = true from h) Bool.false_ne_true, fun _ => ?_⟩
  | refine ⟨_, by walk_at "s", ?_⟩
  | refine ⟨_, _, by walk_at "s", by walk_at "s", ?_⟩
  | refine ⟨_, by walk_at "s", by simpa using (by omega), ?_⟩
  | refine ⟨_, rfl, ?_⟩
  | refine ⟨_, _, rfl, (by first | exact isTy_tt | exact isTy_ii | exact isTy_ll | exact isTy_ss | exact isTy_ib | exact isTy_tb | exact isTy_ti | exact isTy_ts | exact isTy_tl | exact isTy_lb | exact isTy_li | exact isTy_ls | exact isTy_lt | exact isTy_sb | exact isTy_si | exact isTy_st | exact isTy_sl | exact isTy_is | exact isTy_it | exact isTy_il | exact isTy_bi | exact isTy_bs | exact isTy_bb | exact isTy_nb | exact isTy_ni | exact isTy_ns | exact isTy_nt | exact isTy_nl | exact isTy_bt | exact isTy_bl | exact isTy_nd | exact isTy_td | exact isTy_ld | exact isTy_sd | exact isTy_id | exact isTy_bd | exact isTy_dd | exact isTy_db | exact isTy_di | exact isTy_ds | exact isTy_dt | exact isTy_dl), ?_⟩
  | refine ⟨_, _, tyName_lst (by walk_at "s"), (by first | exact isTy_ll | exact isTy_lb | exact isTy_li | exact isTy_ls | exact isTy_lt), ?_⟩
  | refine if_q ?_
  | refine ⟨by walk_at "c", ?_⟩)
local macro_rules | `(tactic| walk_at "go") => `(tactic| (walk_at "w"; repeat (walk_at "g1"; walk_at "w")))
/-! a branch that cannot be -/
local macro_rules | `(tactic| walk_at "two") => `(tactic| refine ⟨fun h => ?_, fun h => ?_⟩)
section
variable {P : Program} {w : World} {K : PySem.W.Frag} {mg : Str → Option Value} {base : Heap}
theorem len_le : ∀ (ys l : List Int), ys.Nodup → (∀ k ∈ ys, k ∈ l) → ys.length ≤ l.length
  | [], _, _, _ => Nat.zero_le _
  | y :: ys, l, hn, h => by
    have hy := h y List.mem_cons_self
    obtain ⟨h1, h2⟩ := List.nodup_cons.mp hn
    have := len_le ys (l.erase y) h2 fun k hk => (List.mem_erase_of_ne (fun e => h1 (by rw [← e]; exact hk))).mpr (h k (List.mem_cons_of_mem _ hk))
    rw [List.length_erase_of_mem hy] at this
    have hl := List.length_pos_of_mem hy
    rw [List.length_cons]
    omega
/-- the pages of number k differ -/
def df (L1 L2 : List Pg) (k : Int) : Bool := !PyData.eqvAll (toDs ((numL L1 k).map Pg.v)) (toDs ((numL L2 k).map Pg.v))
theorem keysA (ns : List Int) (A : Int → Addr) : ((dkA ns A).map fun kv => keyW kv.1) = ns.map W.int := by
  unfold dkA
  rw [List.map_map]
  rfl
theorem numL_ok {L : List Pg} (h : ∀ g ∈ L, PgOk g) (k : Int) : ∀ g ∈ numL L k, PgOk g := fun g hg => h g ((List.mem_filter.mp hg).1)
theorem shown_ok {u : Bool} {gs : List Pg} (h : ∀ g ∈ gs, PgOk g) : ∀ g ∈ shown u gs, PgOk g := fun g hg => by
  cases u with
  | true => cases hg
  | false => exact h g hg
theorem shown_len {u : Bool} {gs : List Pg} : (shown u gs).length ≤ gs.length := by
  cases u with
  | true => exact Nat.zero_le _
  | false => exact Nat.le_refl _
theorem ByOk.nil {S0 S : Sto} {ns : List Int} {A : Int → Addr} {L : List Pg} (h : ByOk S0 S ns A L) {k : Int} (hk : k ∉ ns) : numL L k = [] := by
  unfold numL
  rw [List.filter_eq_nil_iff]
  intro x hx e
  exact hk ((h.mem _).mpr ⟨x, hx, of_decide_eq_true e⟩)
theorem ByOk.some {S0 S : Sto} {ns : List Int} {A : Int → Addr} {L : List Pg} (h : ByOk S0 S ns A L) {k : Int} (hk : k ∈ ns) : numL L k ≠ [] := fun e => by
  obtain ⟨g, hg, hn⟩ := (h.mem k).mp hk
  have : g ∈ numL L k := List.mem_filter.mpr ⟨hg, decide_eq_true hn⟩
  rw [e] at this
  cases this
theorem ne_get {S01 S02 S : Sto} {ns1 ns2 : List Int} {A1 A2 : Int → Addr} {L1 L2 : List Pg} (h1 : ByOk S01 S ns1 A1 L1) (h2 : ByOk S02 S ns2 A2 L2) (o1 : ∀ g ∈ L1, PgOk g) (o2 : ∀ g ∈ L2, PgOk g) (k : Int) {Q : WK} (q : Q (.bl (df L1 L2 k)) S) :
    wNeN ((valW (dkA ns1 A1) (.inl k)).getD .non) ((valW (dkA ns2 A2) (.inl k)).getD .non) S Q := by
  rw [valA, valA]
  by_cases m1 : k ∈ ns1 <;> by_cases m2 : k ∈ ns2
  · rw [if_pos m1, if_pos m2]
    exact ⟨_, _, h1.at' k m1, h2.at' k m2, pgs_sh (numL_ok o1 k), pgs_sh (numL_ok o2 k), q⟩
  · rw [if_pos m1, if_neg m2]
    have e : df L1 L2 k = true := by
      unfold df
      rw [h2.nil m2]
      cases hc : numL L1 k with
      | nil => exact absurd hc (h1.some m1)
      | cons a b => show (!PyData.eqvAll (toD a.v :: toDs (b.map Pg.v)) []) = true; first | rfl | simp [PyData.eqvAll]
    rw [e] at q
    exact ⟨_, h1.at' k m1, pgs_sh (numL_ok o1 k), q⟩
  · rw [if_neg m1, if_pos m2]
    have e : df L1 L2 k = true := by
      unfold df
      rw [h1.nil m1]
      cases hc : numL L2 k with
      | nil => exact absurd hc (h2.some m2)
      | cons a b => show (!PyData.eqvAll [] (toD a.v :: toDs (b.map Pg.v))) = true; first | rfl | simp [PyData.eqvAll]
    rw [e] at q
    exact ⟨_, h2.at' k m2, pgs_sh (numL_ok o2 k), q⟩
  · rw [if_neg m1, if_neg m2]
    have e : df L1 L2 k = false := by
      unfold df
      rw [h1.nil m1, h2.nil m2]
      show (!PyData.eqvAll [] []) = false
      first | rfl | simp [PyData.eqvAll]
    rw [e] at q
    exact q
def spCh : SpW := fun ws S Q => ∃ (u1 u2 : Bool) (g1 g2 : List Pg) (r1 r2 : W), ws = [r1, r2] ∧ ResW u1 g1 r1 ∧ ResW u2 g2 r2 ∧ (∀ g ∈ g1, PgOk g) ∧ (∀ g ∈ g2, PgOk g) ∧ g1.length ≤ 20 ∧ g2.length ≤ 20 ∧
  ∀ (R : Addr) (ys : List Int) S', S R = none → S' R = some (.lst (ys.map W.int)) → ys.Pairwise (· < ·) → (∀ k, k ∈ ys ↔ df (shown u1 g1) (shown u2 g2) k = true) → KpL [] S S' → Q (.ref R) S'
theorem ok_changed_pages (T : Txt K mg) (c__pages_by_number : CalW P w K mg base 1 "_pages_by_number" (Hd spBy)) (d : DefAt K mg "changed_pages" s_changed_pages ["before", "after"]) : CalW P w K mg base 2 "changed_pages" spCh :=
  calDI d sc_changed_pages (fun ws S Q ⟨u1, u2, g1, g2, r1, r2, h, _⟩ => by rw [h]; rfl) fun f cdv A outer s H E hr => ⟨_, _,
    (pss_cons (ps_asg (pe_tup (pa_cons (k_w K c__pages_by_number hr (by decide) rfl (pa_cons (pv 0) pa_nil)) (pa_cons (k_w K c__pages_by_number hr (by decide) rfl (pa_cons (pv 1) pa_nil)) pa_nil))) (k_gtup K (n := 2) rfl (pgs_cons (pg_name (i := 2) sc_changed_pages.nd rfl (Or.inr rfl)) (pgs_cons (pg_name (i := 3) sc_changed_pages.nd rfl (Or.inr rfl)) pgs_nil))))
      (pss_cons (ps_set (i := 4) sc_changed_pages.nd rfl (Or.inl rfl) (k_sortSet K w rfl (by rfl) T.b_sorted (by rfl) T.b_set (pa_cons (pe_op (k_addB K) (pe_callTy (k_listB K rfl) (by rfl) T.b_list (by decide +kernel) (pa_cons (pv 2) pa_nil)) (pe_callTy (k_listB K rfl) (by rfl) T.b_list (by decide +kernel) (pa_cons (pv 3) pa_nil))) pa_nil)))
      (pss_one (ps_ret (pe_lc (own := [("number", 5)]) rfl sc_changed_pages.nd (k_any K (pv 4)) (blkOk_by (own := [("number", 5)]) (N := ["before", "after", "one", "other", "numbers", "number"]) (sc := defScope s_changed_pages) (by decide +kernel)) (fun _ _ _ _ _ => (pg_name (i := 5) sc_changed_pages.nd rfl (Or.inl rfl))) (fun _ _ _ _ _ => (pts_one (pt_cmpR (k_neN K hr.units) (pe_dget1 (hu_of hr) (pv 2) (pv 5) ⟨rfl, rfl, rfl, rfl⟩) (pe_dget1 (hu_of hr) (pv 3) (pv 5) ⟨rfl, rfl, rfl, rfl⟩) (nomark _)))) (fun _ _ _ _ _ => (pv 5))))))), inferInstance, by
    rintro ws S Q ⟨u1, u2, g1, g2, r1, r2, rfl, hr1, hr2, o1, o2, l1, l2, q⟩
    walk_at "w"
    refine Hd.mk ⟨u1, g1, r1, rfl, hr1, by omega, fun F1 ns1 A1 S1 n1 f1 b1 k1 => ?_⟩
    refine Hd.mk ⟨u2, g2, r2, rfl, hr2, by omega, fun F2 ns2 A2 S2 n2 f2 b2 k2 => ?_⟩
    have f1' := k2 F1 _ (by simp) f1
    have b1' : ByOk S S2 ns1 A1 (shown u1 g1) := b1.eq fun k hk => by rw [k2 _ _ (by simp) (b1.at' k hk), b1.at' k hk]
    have k12 := k1.trans k2
    have e1 := Nat.le_trans b1.len shown_len
    have e2 := Nat.le_trans b2.len shown_len
    walk_at "w"
    refine ⟨rfl, ?_⟩
    walk_at "w"
    refine ⟨rfl, ?_⟩
    walk_at "w"
    refine .inr ⟨_, f1', fun X1 hX1 => ?_⟩
    rw [keysA]
    have f2a := (put_ne (c := .lst (ns1.map W.int)) (ne_free f2 hX1).symm).trans f2
    walk_at "w"
    refine .inr ⟨_, f2a, fun X2 hX2 => ?_⟩
    rw [keysA]
    walk_at "w"
    have x1 := (put_ne (c := .lst (ns2.map W.int)) (ne_free put_same hX2).symm).trans (put_same (S := S2) (a := X1) (c := .lst (ns1.map W.int)))
    refine ⟨_, _, x1, put_same, small_le (by rw [List.length_map, List.length_map]; omega), fun X3 hX3 => ?_⟩
    have k3 : KpL [] S2 (put (put (put S2 X1 (.lst (ns1.map W.int))) X2 (.lst (ns2.map W.int))) X3 (.lst (ns1.map W.int ++ ns2.map W.int))) := (((KpL.refl [] S2).new hX1).new hX2).new hX3
    have x3 : put (put (put S2 X1 (.lst (ns1.map W.int))) X2 (.lst (ns2.map W.int))) X3 (.lst (ns1.map W.int ++ ns2.map W.int)) X3 = some (.lst ((ns1 ++ ns2).map W.int)) := by rw [put_same, List.map_append]
    generalize put (put (put S2 X1 (.lst (ns1.map W.int))) X2 (.lst (ns2.map W.int))) X3 (.lst (ns1.map W.int ++ ns2.map W.int)) = S3 at k3 x3
    walk_at "w"
    refine ⟨_, x3, by rw [List.length_append]; omega, fun ys Y inc mem hY => ?_⟩
    have k4 : KpL [] S2 (put S3 Y (.lst (ys.map W.int))) := k3.new hY
    have y4 : put S3 Y (.lst (ys.map W.int)) Y = some (.lst (ys.map W.int)) := put_same
    generalize put S3 Y (.lst (ys.map W.int)) = S4 at k4 y4
    have hyl : ys.length ≤ 100000 := by
      have h1 : ys.Nodup := inc.imp (fun h => Int.ne_of_lt h)
      have h2 := len_le _ _ h1 (fun k hk => (mem k).mp hk)
      rw [List.length_append] at h2
      omega
    walk_at "w"
    refine ⟨_, y4, ?_⟩
    refine lc_filD W.int ys (fun k => [some r1, some r2, some (.ref F1), some (.ref F2), some (.ref Y), some (.int k)]) (fun k => df (shown u1 g1) (shown u2 g2) k) W.int hyl (fun D acc hD => (put_ne (ne_free y4 hD).symm).trans y4) ?_ ?_ ?_ ?_
    · intro x S0 R0 hx hq
      exact hq
    · intro x D acc hx hD Q q
      have e1 := k4 F1 _ (by simp) f1'
      have e2 := k4 F2 _ (by simp) f2
      have c1 := (put_ne (c := .lst acc) (ne_free e1 hD).symm).trans e1
      have c2 := (put_ne (c := .lst acc) (ne_free e2 hD).symm).trans e2
      have b1'' : ByOk S (put S4 D (.lst acc)) ns1 A1 (shown u1 g1) := b1'.eq fun k hk => by
        have e := k4 _ _ (by simp) (b1'.at' k hk)
        rw [put_ne (ne_free e hD).symm, e, b1'.at' k hk]
      have b2'' : ByOk S1 (put S4 D (.lst acc)) ns2 A2 (shown u2 g2) := b2.eq fun k hk => by
        have e := k4 _ _ (by simp) (b2.at' k hk)
        rw [put_ne (ne_free e hD).symm, e, b2.at' k hk]
      walk_at "w"
      refine ⟨⟨_, c1⟩, ?_⟩
      walk_at "w"
      refine ⟨_, _, c1, rfl, ?_⟩
      walk_at "w"
      refine ⟨⟨_, c2⟩, ?_⟩
      walk_at "w"
      refine ⟨_, _, c2, rfl, ?_⟩
      exact ne_get b1'' b2'' (shown_ok o1) (shown_ok o2) x q
    · intro x D acc hx hb hD Q' q'
      exact q'
    intro D hD
    refine fg_here (q D _ _ ((k12.trans k4).free hD (by simp)) put_same (inc.filter _) (fun k => ?_) ((k12.trans k4).new hD))
    rw [List.mem_filter]
    refine ⟨fun h => h.2, fun h => ⟨(mem k).mpr ?_, h⟩⟩
    rw [List.mem_append]
    rcases Classical.em (k ∈ ns1) with m1 | m1
    · exact .inl m1
    · refine .inr (Classical.byContradiction fun m2 => ?_)
      unfold df at h
      rw [b1.nil m1, b2.nil m2] at h
      revert h
      show (!PyData.eqvAll [] []) = true → False
      simp [PyData.eqvAll]⟩
end
end K83
set_option Elab.async false
set_option linter.all false
set_option maxRecDepth 100000
set_option maxHeartbeats 4000000
set_option synthInstance.maxHeartbeats 4000000
set_option synthInstance.maxSize 100000
namespace K83
open PySem PySem.Spec PyProof.Rows L2 Wl
local macro_rules | `(tactic| walk_at "w") => `(tactic| (conv => whnf))
/-! what a store holds -/
local macro_rules | `(tactic| walk_at "ne") => `(tactic| first | assumption | (apply Ne.symm; assumption) | exact ne_free (by assumption) (by assumption) | exact (ne_free (by assumption) (by assumption)).symm | exact Pl.ne (by assumption) (by assumption) | exact (Pl.ne (by assumption) (by assumption)).symm)
local macro_rules | `(tactic| walk_at "s") => `(tactic| first
  | exact put_same
  | assumption
  | (refine (put_ne ?_).trans ?_; (· walk_at "ne"); (· walk_at "s")))
/-! a side condition -/
local macro_rules | `(tactic| walk_at "c") => `(tactic| first
  | exact Or.inl (Or.inl ⟨by omega, by omega⟩)
  | exact Or.inl (Or.inr ⟨by omega, by omega⟩)
  | exact Or.inl ⟨by omega, by omega⟩
  | exact Or.inl ⟨rfl, _, by walk_at "s"⟩
  | rfl
  | omega
  | decide
  | exact Nat.le_trans (by omega) sizeLine_ge)
/-! one question is answered, if the answer is plain -/
local macro_rules | `(tactic| walk_at "g1") => `(tactic| first
  | refine ⟨fun _ => ?_, fun h => absurd (show true = false from h) (by decide)⟩
  | refine ⟨fun h => absurd (show false = true from h) Bool.false_ne_true, fun _ => ?_⟩
  | refine ⟨_, by walk_at "s", ?_⟩
  | refine ⟨_, _, by walk_at "s", by walk_at "s", ?_⟩
  | refine ⟨_, by walk_at "s", by simpa using (by omega), ?_⟩
  | refine ⟨_, rfl, ?_⟩
  | refine ⟨_, _, rfl, (by first | exact isTy_tt | exact isTy_ii | exact isTy_ll | exact isTy_ss | exact isTy_ib | exact isTy_tb | exact isTy_ti | exact isTy_ts | exact isTy_tl | exact isTy_lb | exact isTy_li | exact isTy_ls | exact isTy_lt | exact isTy_sb | exact isTy_si | exact isTy_st | exact isTy_sl | exact isTy_is | exact isTy_it | exact isTy_il | exact isTy_bi | exact isTy_bs | exact isTy_bb | exact isTy_nb | exact isTy_ni | exact isTy_ns | exact isTy_nt | exact isTy_nl | exact isTy_bt | exact isTy_bl | exact isTy_nd | exact isTy_td | exact isTy_ld | exact isTy_sd | exact isTy_id | exact isTy_bd | exact isTy_dd | exact isTy_db | exact isTy_di | exact isTy_ds | exact isTy_dt | exact isTy_dl), ?_⟩
  | refine ⟨_, _, tyName_lst (by walk_at "s"), (by first | exact isTy_ll | exact isTy_lb | exact isTy_li | exact isTy_ls | exact isTy_lt), ?_⟩
  | refine if_q ?_
  | refine ⟨by walk_at "c", ?_⟩)
local macro_rules | `(tactic| walk_at "go") => `(tactic| (walk_at "w"; repeat (walk_at "g1"; walk_at "w")))
/-! a branch that cannot be -/
local macro_rules | `(tactic| walk_at "two") => `(tactic| refine ⟨fun h => ?_, fun h => ?_⟩)
section
variable {P : Program} {w : World} {K : PySem.W.Frag} {mg : Str → Option Value} {base : Heap}
theorem mem_ints (x : Int) : ∀ es : List Int, isInW (.int x) (es.map W.int) = decide (x ∈ es)
  | [] => by simp [isInW]
  | e :: es => by
    have ih := mem_ints x es
    unfold isInW at ih ⊢
    rw [List.map_cons, List.any_cons, ih]
    show (decide _ || _) = _
    by_cases h : e = x
    · subst h; simp
    · have h' : ¬ x = e := fun e => h e.symm
      simp [h, h']
theorem flat_ints (es : List Int) : (es.map W.int).all flatW = true := by
  rw [List.all_eq_true]
  intro x hx
  obtain ⟨n, _, rfl⟩ := List.mem_map.mp hx
  rfl
structure LsOk (L : List Pg) : Prop where
  ok : ∀ g ∈ L, PgOk g
  few : L.length ≤ 20
  lo : ∀ g ∈ L, 0 ≤ g.n
  hi : ∀ g ∈ L, g.n < 9100
theorem lists_shp {S : Sto} {A B : Addr} {X Y : List Pg} (hA : S A = some (.lst (X.map Pg.v))) (hB : S B = some (.lst (Y.map Pg.v))) (oX : ∀ g ∈ X, PgOk g) (oY : ∀ g ∈ Y, PgOk g) (lX : X.length ≤ 1000) (lY : Y.length ≤ 1000) :
    Shp S 7 (.ref A) (.ref B) (PyData.eqvAll (toDs (X.map Pg.v)) (toDs (Y.map Pg.v))) :=
  .lst hA hB (by rw [List.length_map]; omega) (by rw [List.length_map]; omega) (shp_map (Ok := PgOk) pg_shp oX oY)
def spDue : SpW := fun ws S Q => ∃ (A B : Addr) (L1 L2 : List Pg), ws = [.ref A, .ref B] ∧ S A = some (.lst (L1.map Pg.v)) ∧ S B = some (.lst (L2.map Pg.v)) ∧ LsOk L1 ∧ LsOk L2 ∧
  ∀ (R : Addr) (ys : List Int) S', S R = none → S' R = some (.lst (ys.map W.int)) → ys.Pairwise (· < ·) → (∀ k, k ∈ ys ↔ df L1 L2 k = true) → KpL [] S S' → Q (.ref R) S'
theorem df_mem {L1 L2 : List Pg} {k : Int} (h : df L1 L2 k = true) : ∃ g ∈ L1 ++ L2, g.n = k := by
  refine Classical.byContradiction fun hn => ?_
  have no : ∀ L : List Pg, (∀ g ∈ L, g ∈ L1 ++ L2) → numL L k = [] := fun L hs => by
    unfold numL
    rw [List.filter_eq_nil_iff]
    intro x hx e
    exact hn ⟨x, hs x hx, of_decide_eq_true e⟩
  unfold df at h
  rw [no L1 (fun g hg => List.mem_append_left _ hg), no L2 (fun g hg => List.mem_append_right _ hg)] at h
  revert h
  show (!PyData.eqvAll [] []) = true → False
  simp [PyData.eqvAll]
theorem ok__law_due (T : Txt K mg) (c__law_same : CalW P w K mg base 9 "_law_same" (Hd (spSameB 7))) (d : DefAt K mg "_law_due" s__law_due ["_law_one", "_law_two"]) : CalW P w K mg base 10 "_law_due" spDue :=
  calDI d sc__law_due (fun ws S Q ⟨A, B, L1, L2, h, _⟩ => by rw [h]; rfl) fun f cdv A outer s H E hr => ⟨_, _,
    (pss_cons (ps_set (i := 2) sc__law_due.nd rfl (Or.inr rfl) (pe_lst pa_nil))
      (pss_cons (ps_for PassesOwn.never rfl (k_any K (pe_op (k_addB K) (pv 0) (pv 1))) (pg_name (i := 3) sc__law_due.nd rfl (Or.inr rfl))
       (pss_cons (ps_setLc (i := 4) (own := [("_law_other", 5)]) rfl sc__law_due.nd rfl rfl (sw_true rfl rfl rfl (by decide +kernel)) (k_any K (pv 0)) (blkOk_by (own := [("_law_other", 5)]) (N := ["_law_one", "_law_two", "_law_changed", "_law_page_here", "_law_here", "_law_other", "_law_there", "_law_number"]) (sc := defScope s__law_due) (by decide +kernel)) (fun _ _ _ _ _ => (pg_name (i := 5) sc__law_due.nd rfl (Or.inl rfl))) (fun _ _ _ _ _ => (pts_one (pt_cmpR (k_eq K hr.units) (pe_ix (k_ix K) (pv 5) pe_int (fun _ _ => rfl)) (pe_ix (k_ix K) (pv 3) pe_int (fun _ _ => rfl)) (nomark _)))) (fun _ _ _ _ _ => (pv 5)))
       (pss_cons (ps_setLc (i := 6) (own := [("_law_other", 5)]) rfl sc__law_due.nd rfl rfl (sw_true rfl rfl rfl (by decide +kernel)) (k_any K (pv 1)) (blkOk_by (own := [("_law_other", 5)]) (N := ["_law_one", "_law_two", "_law_changed", "_law_page_here", "_law_here", "_law_other", "_law_there", "_law_number"]) (sc := defScope s__law_due) (by decide +kernel)) (fun _ _ _ _ _ => (pg_name (i := 5) sc__law_due.nd rfl (Or.inl rfl))) (fun _ _ _ _ _ => (pts_one (pt_cmpR (k_eq K hr.units) (pe_ix (k_ix K) (pv 5) pe_int (fun _ _ => rfl)) (pe_ix (k_ix K) (pv 3) pe_int (fun _ _ => rfl)) (nomark _)))) (fun _ _ _ _ _ => (pv 5)))
       (pss_one (ps_if (PW.pt (pw_and (pt_not (pt_val (k_w K c__law_same hr (by decide) rfl (pa_cons (pv 4) (pa_cons (pv 6) pa_nil))))) (pw_and1 (pt_cmpR (k_notIn K) (pe_ix (k_ix K) (pv 3) pe_int (fun _ _ => rfl)) (pv 2) rfl))))
        (pss_one (ps_expr (k_bm K PySem.F.plainAttrs_list PySem.F.slot_list_append PySem.F.type_list_append mt_append (pv 2) (pa_cons (pe_ix (k_ix K) (pv 3) pe_int (fun _ _ => rfl)) pa_nil))))
        pss_nil)))))
      (pss_one (ps_ret (pe_lc (own := [("_law_number", 7)]) rfl sc__law_due.nd (pi_range1 rfl T.b_range (pa_cons pe_int pa_nil)) (blkOk_by (own := [("_law_number", 7)]) (N := ["_law_one", "_law_two", "_law_changed", "_law_page_here", "_law_here", "_law_other", "_law_there", "_law_number"]) (sc := defScope s__law_due) (by decide +kernel)) (fun _ _ _ _ _ => (pg_name (i := 7) sc__law_due.nd rfl (Or.inl rfl))) (fun _ _ _ _ _ => (pts_one (pt_cmpR (k_in K) (pv 7) (pv 2) rfl))) (fun _ _ _ _ _ => (pv 7))))))), inferInstance, by
    rintro ws S Q ⟨A, B, L1, L2, rfl, hA, hB, h1, h2, q⟩
    have l1 := h1.few
    have l2 := h2.few
    walk_at "w"
    intro C hC
    have a1 := (put_ne (c := .lst []) (ne_free hA hC).symm).trans hA
    have b1 := (put_ne (c := .lst []) (ne_free hB hC).symm).trans hB
    have c1 : put S C (.lst []) C = some (.lst (([] : List Int).map W.int)) := put_same
    have k1 : KpL [] S (put S C (.lst [])) := (KpL.refl [] S).new hC
    generalize put S C (.lst []) = S1 at a1 b1 c1 k1
    walk_at "w"
    refine ⟨_, _, a1, b1, small_le (by rw [List.length_map, List.length_map]; omega), fun X hX => ?_⟩
    rw [← List.map_append]
    have hXC := ne_free c1 hX
    have x2 : put S1 X (.lst ((L1 ++ L2).map Pg.v)) X = some (.lst ((L1 ++ L2).map Pg.v)) := put_same
    have c2 := (put_ne (c := .lst ((L1 ++ L2).map Pg.v)) hXC.symm).trans c1
    have k2 : KpL [] S (put S1 X (.lst ((L1 ++ L2).map Pg.v))) := k1.new hX
    have hXS := k1.free hX (by simp)
    generalize put S1 X (.lst ((L1 ++ L2).map Pg.v)) = S2 at x2 c2 k2
    walk_at "w"
    refine ⟨_, x2, ?_⟩
    refine for_q (fun i ρ' S' => ∃ (cs : List Int) (a3 a4 a5 a6 a7 : Option W), cs.length ≤ i ∧ (∀ k, k ∈ cs ↔ (∃ g ∈ (L1 ++ L2).take i, g.n = k) ∧ df L1 L2 k = true) ∧ ρ' = [some (.ref A), some (.ref B), some (.ref C), a3, a4, a5, a6, a7] ∧ S' C = some (.lst (cs.map W.int)) ∧ S' X = some (.lst ((L1 ++ L2).map Pg.v)) ∧ KpL [] S S')
      ⟨[], none, none, none, none, none, Nat.le_refl _, (fun k => by simp), rfl, c2, x2, k2⟩ (fun i ρ' S' h => ?_) ?_ ?_
    · obtain ⟨cs, a3, a4, a5, a6, a7, _, _, _, _, h, _⟩ := h
      exact h
    · rintro i w ρ' S3 ew ⟨cs, a3, a4, a5, a6, a7, hcl, hcs, rfl, c3, x3, k3⟩
      obtain ⟨g, eg, rfl⟩ := map_at ew
      have hi : i < (L1 ++ L2).length := (List.getElem?_eq_some_iff.mp eg).1
      rw [List.length_append] at hi
      have tk : (L1 ++ L2).take (i + 1) = (L1 ++ L2).take i ++ [g] := by rw [List.take_add_one, eg]; rfl
      have a3' := k3 A _ (by simp) hA
      walk_at "w"
      refine ⟨_, a3', ?_⟩
      refine lc_filD Pg.v L1 (fun x => [some (.ref A), some (.ref B), some (.ref C), some g.v, a4, some x.v, a6, a7]) (fun x => decide (x.n = g.n)) Pg.v (by omega) (fun D acc hD => (put_ne (ne_free a3' hD).symm).trans a3') ?_ ?_ ?_ ?_
      · intro x S0 R0 hx hq
        exact hq
      · intro x D acc hx hD Q q
        walk_at "w"
        exact q
      · intro x D acc hx hb hD Q' q'
        exact q'
      intro D hD
      have hDC := ne_free c3 hD
      have hDX := ne_free x3 hD
      have b3' := k3 B _ (by simp) hB
      have d4 : put S3 D (.lst ((L1.filter fun x => decide (x.n = g.n)).map Pg.v)) D = some (.lst ((numL L1 g.n).map Pg.v)) := put_same
      have b4 := (put_ne (c := .lst ((L1.filter fun x => decide (x.n = g.n)).map Pg.v)) (ne_free b3' hD).symm).trans b3'
      have c4 := (put_ne (c := .lst ((L1.filter fun x => decide (x.n = g.n)).map Pg.v)) hDC.symm).trans c3
      have x4 := (put_ne (c := .lst ((L1.filter fun x => decide (x.n = g.n)).map Pg.v)) hDX.symm).trans x3
      have k4 : KpL [] S (put S3 D (.lst ((L1.filter fun x => decide (x.n = g.n)).map Pg.v))) := k3.new hD
      generalize put S3 D (.lst ((L1.filter fun x => decide (x.n = g.n)).map Pg.v)) = S4 at d4 b4 c4 x4 k4
      walk_at "w"
      refine ⟨_, b4, ?_⟩
      refine lc_filD Pg.v L2 (fun x => [some (.ref A), some (.ref B), some (.ref C), some g.v, some (.ref D), some x.v, a6, a7]) (fun x => decide (x.n = g.n)) Pg.v (by omega) (fun D acc hD => (put_ne (ne_free b4 hD).symm).trans b4) ?_ ?_ ?_ ?_
      · intro x S0 R0 hx hq
        exact hq
      · intro x D acc hx hD Q q
        walk_at "w"
        exact q
      · intro x D acc hx hb hD Q' q'
        exact q'
      intro E hE
      have hEC := ne_free c4 hE
      have hEX := ne_free x4 hE
      have hED := ne_free d4 hE
      have e5 : put S4 E (.lst ((L2.filter fun x => decide (x.n = g.n)).map Pg.v)) E = some (.lst ((numL L2 g.n).map Pg.v)) := put_same
      have d5 := (put_ne (c := .lst ((L2.filter fun x => decide (x.n = g.n)).map Pg.v)) hED.symm).trans d4
      have c5 := (put_ne (c := .lst ((L2.filter fun x => decide (x.n = g.n)).map Pg.v)) hEC.symm).trans c4
      have x5 := (put_ne (c := .lst ((L2.filter fun x => decide (x.n = g.n)).map Pg.v)) hEX.symm).trans x4
      have k5 : KpL [] S (put S4 E (.lst ((L2.filter fun x => decide (x.n = g.n)).map Pg.v))) := k4.new hE
      generalize put S4 E (.lst ((L2.filter fun x => decide (x.n = g.n)).map Pg.v)) = S5 at e5 d5 c5 x5 k5
      have hl1 : (numL L1 g.n).length ≤ 1000 := Nat.le_trans (List.length_filter_le _ _) (by omega)
      have hl2 : (numL L2 g.n).length ≤ 1000 := Nat.le_trans (List.length_filter_le _ _) (by omega)
      walk_at "w"
      refine if_ev (df L1 L2 g.n && !decide (g.n ∈ cs)) (evAnd (fun Q q => ?_) (fun _ Q q => ?_)) (fun hc => ?_) (fun hc => ?_)
      · walk_at "w"
        refine sameb_go (lists_shp d5 e5 (numL_ok h1.ok _) (numL_ok h2.ok _) hl1 hl2) ?_
        exact q
      · walk_at "w"
        refine ⟨rfl, _, c5, flat_ints cs, ?_⟩
        rw [mem_ints]
        exact q
      · rw [Bool.and_eq_true] at hc
        have hn : g.n ∉ cs := by simpa using hc.2
        walk_at "w"
        refine ⟨.inl ⟨rfl, _, c5⟩, ?_⟩
        walk_at "w"
        refine ⟨_, c5, ?_, cs ++ [g.n], _, _, _, _, _, by simp; omega, fun k => ?_, rfl, ?_, ?_, k5.own hC⟩
        · rw [List.length_map]
          exact Nat.lt_of_lt_of_le (show cs.length < 200 by omega) (Nat.le_trans (by decide) sizeLine_ge)
        · rw [List.mem_append, List.mem_singleton, hcs, tk]
          constructor
          · rintro (⟨⟨x, hx, e⟩, h⟩ | rfl)
            · exact ⟨⟨x, List.mem_append_left _ hx, e⟩, h⟩
            · exact ⟨⟨g, by simp, rfl⟩, hc.1⟩
          · rintro ⟨⟨x, hx, e⟩, h⟩
            rcases List.mem_append.mp hx with hx | hx
            · exact .inl ⟨⟨x, hx, e⟩, h⟩
            · rw [List.mem_singleton.mp hx] at e
              exact .inr e.symm
        · rw [put_same, List.map_append]; rfl
        · exact (put_ne hXC).trans x5
      · refine ⟨cs, _, _, _, _, _, by omega, fun k => ?_, rfl, c5, x5, k5⟩
        rw [hcs, tk]
        constructor
        · rintro ⟨⟨x, hx, e⟩, h⟩
          exact ⟨⟨x, List.mem_append_left _ hx, e⟩, h⟩
        · rintro ⟨⟨x, hx, e⟩, h⟩
          rcases List.mem_append.mp hx with hx | hx
          · exact ⟨⟨x, hx, e⟩, h⟩
          · rw [List.mem_singleton.mp hx] at e
            subst e
            rw [h, Bool.true_and] at hc
            have hin : g.n ∈ cs := by simpa using hc
            exact (hcs _).mp hin
    · rintro ρ' S3 ⟨cs, a3, a4, a5, a6, a7, hcl, hcs, rfl, c3, x3, k3⟩
      rw [List.length_map, List.take_of_length_le (Nat.le_refl _)] at hcs
      rw [List.length_map, List.length_append] at hcl
      walk_at "w"
      refine ⟨by decide, by decide, ?_⟩
      refine lc_filD (fun i : Nat => W.int (0 + (i : Int))) (List.range 9100) (fun i => [some (.ref A), some (.ref B), some (.ref C), a3, a4, a5, a6, some (.int (0 + (i : Int)))]) (fun i => decide ((0 + (i : Int)) ∈ cs)) (fun i => .int (0 + (i : Int))) (by rw [List.length_range]; decide) (fun _ _ _ => trivial) ?_ ?_ ?_ ?_
      · intro x S0 R0 hx hq
        exact hq
      · intro x D acc hx hD Q q
        have c4 := (put_ne (c := .lst acc) (ne_free c3 hD).symm).trans c3
        walk_at "w"
        refine ⟨rfl, _, c4, flat_ints cs, ?_⟩
        rw [mem_ints]
        exact q
      · intro x D acc hx hb hD Q' q'
        exact q'
      intro D hD
      have em : ((List.range 9100).filter fun i : Nat => decide ((0 + (i : Int)) ∈ cs)).map (fun i : Nat => W.int (0 + (i : Int))) = ((((List.range 9100).filter fun i : Nat => decide ((0 + (i : Int)) ∈ cs)).map fun i : Nat => (i : Int)).map W.int) := by
        rw [List.map_map]
        refine List.map_congr_left fun i _ => ?_
        show W.int _ = W.int _
        rw [Int.zero_add]
      rw [em]
      refine fg_here (q D _ _ (k3.free hD (by simp)) put_same ?_ (fun k => ?_) (k3.new hD))
      · rw [List.pairwise_map]
        refine (List.pairwise_lt_range.filter _).imp fun h => ?_
        omega
      · rw [List.mem_map]
        constructor
        · rintro ⟨i, hi, rfl⟩
          have h := (List.mem_filter.mp hi).2
          rw [Int.zero_add] at h
          exact ((hcs _).mp (of_decide_eq_true h)).2
        · intro h
          obtain ⟨g, hg, rfl⟩ := df_mem h
          have lo : 0 ≤ g.n := by
            rcases List.mem_append.mp hg with hg | hg
            · exact h1.lo g hg
            · exact h2.lo g hg
          have hi : g.n < 9100 := by
            rcases List.mem_append.mp hg with hg | hg
            · exact h1.hi g hg
            · exact h2.hi g hg
          refine ⟨g.n.toNat, List.mem_filter.mpr ⟨List.mem_range.mpr (by omega), ?_⟩, by omega⟩
          refine decide_eq_true ?_
          rw [Int.zero_add, Int.toNat_of_nonneg lo]
          exact (hcs _).mpr ⟨⟨g, hg, rfl⟩, h⟩⟩
end
end K83
set_option Elab.async false
set_option linter.all false
set_option maxRecDepth 100000
set_option maxHeartbeats 4000000
set_option synthInstance.maxHeartbeats 4000000
set_option synthInstance.maxSize 100000
namespace K83
open PySem PySem.Spec PyProof.Rows L2 Wl
local macro_rules | `(tactic| walk_at "w") => `(tactic| (conv => whnf))
/-! what a store holds -/
local macro_rules | `(tactic| walk_at "ne") => `(tactic| first | assumption | (apply Ne.symm; assumption) | exact ne_free (by assumption) (by assumption) | exact (ne_free (by assumption) (by assumption)).symm | exact Pl.ne (by assumption) (by assumption) | exact (Pl.ne (by assumption) (by assumption)).symm)
local macro_rules | `(tactic| walk_at "s") => `(tactic| first
  | exact put_same
  | assumption
  | (refine (put_ne ?_).trans ?_; (· walk_at "ne"); (· walk_at "s")))
/-! a side condition -/
local macro_rules | `(tactic| walk_at "c") => `(tactic| first
  | exact Or.inl (Or.inl ⟨by omega, by omega⟩)
  | exact Or.inl (Or.inr ⟨by omega, by omega⟩)
  | exact Or.inl ⟨by omega, by omega⟩
  | exact Or.inl ⟨rfl, _, by walk_at "s"⟩
  | rfl
  | omega
  | decide
  | exact Nat.le_trans (by omega) sizeLine_ge)
/-! one question is answered, if the answer is plain -/
local macro_rules | `(tactic| walk_at "g1") => `(tactic| first
  | refine ⟨fun _ => ?_, fun h => absurd (show true = false from h) (by decide)⟩
  | refine ⟨fun h => absurd (show false = true from h) Bool.false_ne_true, fun _ => ?_⟩
  | refine ⟨_, by walk_at "s", ?_⟩
  | refine ⟨_, _, by walk_at "s", by walk_at "s", ?_⟩
  | refine ⟨_, by walk_at "s", by simpa using (by omega), ?_⟩
  | refine ⟨_, rfl, ?_⟩
  | refine ⟨_, _, rfl, (by first | exact isTy_tt | exact isTy_ii | exact isTy_ll | exact isTy_ss | exact isTy_ib | exact isTy_tb | exact isTy_ti | exact isTy_ts | exact isTy_tl | exact isTy_lb | exact isTy_li | exact isTy_ls | exact isTy_lt | exact isTy_sb | exact isTy_si | exact isTy_st | exact isTy_sl | exact isTy_is | exact isTy_it | exact isTy_il | exact isTy_bi | exact isTy_bs | exact isTy_bb | exact isTy_nb | exact isTy_ni | exact isTy_ns | exact isTy_nt | exact isTy_nl | exact isTy_bt | exact isTy_bl | exact isTy_nd | exact isTy_td | exact isTy_ld | exact isTy_sd | exact isTy_id | exact isTy_bd | exact isTy_dd | exact isTy_db | exact isTy_di | exact isTy_ds | exact isTy_dt | exact isTy_dl), ?_⟩
  | refine ⟨_, _, tyName_lst (by walk_at "s"), (by first | exact isTy_ll | exact isTy_lb | exact isTy_li | exact isTy_ls | exact isTy_lt), ?_⟩
  | refine if_q ?_
  | refine ⟨by walk_at "c", ?_⟩)
local macro_rules | `(tactic| walk_at "go") => `(tactic| (walk_at "w"; repeat (walk_at "g1"; walk_at "w")))
/-! a branch that cannot be -/
local macro_rules | `(tactic| walk_at "two") => `(tactic| refine ⟨fun h => ?_, fun h => ?_⟩)
section
variable {P : Program} {w : World} {K : PySem.W.Frag} {mg : Str → Option Value} {base : Heap}
theorem shp_sym {S : Sto} {n : Nat} {v w : W} {b : Bool} (h : Shp S n v w b) : PyData.eqv (toD w) (toD v) = PyData.eqv (toD v) (toD w) := by
  induction h with
  | int => rw [eqv_int, eqv_int, Bool.eq_iff_iff, decide_eq_true_eq, decide_eq_true_eq]; exact eq_comm
  | str => rw [eqv_str, eqv_str, Bool.eq_iff_iff, decide_eq_true_eq, decide_eq_true_eq]; exact eq_comm
  | tup h1 h2 h3 ih =>
    rw [eqv_tup, eqv_tup, Bool.eq_iff_iff, eqAll_iff, eqAll_iff]
    exact ⟨fun ⟨a, b⟩ => ⟨a.symm, fun i x y e1 e2 => by rw [← ih i x y e1 e2]; exact b i y x e2 e1⟩, fun ⟨a, b⟩ => ⟨a.symm, fun i x y e1 e2 => by rw [ih i y x e2 e1]; exact b i y x e2 e1⟩⟩
  | lst => rfl
theorem df_sym {L1 L2 : List Pg} (h1 : ∀ g ∈ L1, PgOk g) (h2 : ∀ g ∈ L2, PgOk g) (k : Int) : df L2 L1 k = df L1 L2 k := by
  unfold df
  congr 1
  have go : ∀ (X Y : List Pg), (∀ g ∈ X, PgOk g) → (∀ g ∈ Y, PgOk g) → PyData.eqvAll (toDs (X.map Pg.v)) (toDs (Y.map Pg.v)) = true → PyData.eqvAll (toDs (Y.map Pg.v)) (toDs (X.map Pg.v)) = true := fun X Y hX hY e => by
    obtain ⟨a, b⟩ := (eqAll_iff _ _).mp e
    refine (eqAll_iff _ _).mpr ⟨a.symm, fun i x y e1 e2 => ?_⟩
    have c := b i y x e2 e1
    obtain ⟨p, ep, rfl⟩ := map_at e1
    obtain ⟨q, eq, rfl⟩ := map_at e2
    rw [shp_sym (S := fun _ => none) (pg_shp q p (hX q (List.mem_of_getElem? eq)) (hY p (List.mem_of_getElem? ep)))]
    exact c
  rw [Bool.eq_iff_iff]
  exact ⟨go _ _ (numL_ok h2 k) (numL_ok h1 k), go _ _ (numL_ok h1 k) (numL_ok h2 k)⟩
theorem rfl_list {ws : List W} (h : ∀ w ∈ ws, PyData.eqv (toD w) (toD w) = true) : PyData.eqvAll (toDs ws) (toDs ws) = true :=
  (eqAll_iff _ _).mpr ⟨rfl, fun i x y e1 e2 => by
    rw [e1] at e2
    cases e2
    exact h x (List.mem_of_getElem? e1)⟩
theorem rfl_map {α : Type} {F : α → W} {l : List α} (h : ∀ a ∈ l, PyData.eqv (toD (F a)) (toD (F a)) = true) : PyData.eqv (toD (.tup (l.map F))) (toD (.tup (l.map F))) = true := by
  rw [eqv_tup]
  refine rfl_list fun w hw => ?_
  obtain ⟨a, ha, rfl⟩ := List.mem_map.mp hw
  exact h a ha
theorem rfl_int (a : Int) : PyData.eqv (toD (.int a)) (toD (.int a)) = true := by rw [eqv_int]; exact decide_eq_true rfl
theorem rfl_str (a : Str) : PyData.eqv (toD (.str a)) (toD (.str a)) = true := by rw [eqv_str]; exact decide_eq_true rfl
theorem rfl_lt (l : Lt) : PyData.eqv (toD l.v) (toD l.v) = true := by
  unfold Lt.v
  rw [eqv_tup]
  refine rfl_list fun w hw => ?_
  simp only [List.mem_cons, List.not_mem_nil, or_false] at hw
  rcases hw with rfl | rfl | rfl | rfl
  · exact rfl_int _
  · exact rfl_str _
  · exact rfl_int _
  · exact rfl_str _
theorem rfl_ln (l : Ln) : PyData.eqv (toD l.v) (toD l.v) = true := by
  unfold Ln.v
  rw [eqv_tup]
  refine rfl_list fun w hw => ?_
  simp only [List.mem_cons, List.not_mem_nil, or_false] at hw
  rcases hw with rfl | rfl
  · exact rfl_int _
  · exact rfl_map fun a _ => rfl_lt a
theorem rfl_bk (b : List Ln) : PyData.eqv (toD (blk b)) (toD (blk b)) = true := rfl_map fun a _ => rfl_ln a
theorem rfl_pg (g : Pg) : PyData.eqv (toD g.v) (toD g.v) = true := by
  unfold Pg.v
  rw [eqv_tup]
  refine rfl_list fun w hw => ?_
  simp only [List.mem_cons, List.not_mem_nil, or_false] at hw
  rcases hw with rfl | rfl | rfl | rfl
  · exact rfl_int _
  · exact rfl_map fun a _ => rfl_bk a
  · exact rfl_map fun a _ => rfl_bk a
  · exact rfl_map fun a _ => rfl_bk a
theorem df_self (L : List Pg) (k : Int) : df L L k = false := by
  unfold df
  rw [rfl_list (fun w hw => ?_)]
  · rfl
  · obtain ⟨a, ha, rfl⟩ := List.mem_map.mp hw
    exact rfl_pg a
theorem inc_ext : ∀ {xs ys : List Int}, xs.Pairwise (· < ·) → ys.Pairwise (· < ·) → (∀ k, k ∈ xs ↔ k ∈ ys) → xs = ys
  | [], [], _, _, _ => rfl
  | [], y :: ys, _, _, h => absurd ((h y).mpr List.mem_cons_self) (by simp)
  | x :: xs, [], _, _, h => absurd ((h x).mp List.mem_cons_self) (by simp)
  | x :: xs, y :: ys, hx, hy, h => by
    obtain ⟨x1, x2⟩ := List.pairwise_cons.mp hx
    obtain ⟨y1, y2⟩ := List.pairwise_cons.mp hy
    have e : x = y := by
      rcases List.mem_cons.mp ((h x).mp List.mem_cons_self) with e | e
      · exact e
      rcases List.mem_cons.mp ((h y).mpr List.mem_cons_self) with e2 | e2
      · exact e2.symm
      have a := y1 x e
      have b := x1 y e2
      omega
    subst e
    rw [inc_ext x2 y2 fun k => ?_]
    constructor
    · intro hk
      rcases List.mem_cons.mp ((h k).mp (List.mem_cons_of_mem _ hk)) with e | e
      · have := x1 k hk; omega
      · exact e
    · intro hk
      rcases List.mem_cons.mp ((h k).mpr (List.mem_cons_of_mem _ hk)) with e | e
      · have := y1 k hk; omega
      · exact e
theorem nums_len {L1 L2 : List Pg} {ys : List Int} (inc : ys.Pairwise (· < ·)) (h : ∀ k, k ∈ ys ↔ df L1 L2 k = true) (l1 : L1.length ≤ 20) (l2 : L2.length ≤ 20) : ys.length ≤ 40 := by
  have := len_le ys ((L1 ++ L2).map Pg.n) (inc.imp fun h => Int.ne_of_lt h) fun k hk => by
    obtain ⟨g, hg, e⟩ := df_mem ((h k).mp hk)
    exact List.mem_map.mpr ⟨g, hg, e⟩
  rw [List.length_map, List.length_append] at this
  omega
theorem ints_shp {S : Sto} {A B : Addr} {xs ys : List Int} (hA : S A = some (.lst (xs.map W.int))) (hB : S B = some (.lst (ys.map W.int))) (h : xs = ys) (l : xs.length ≤ 1000) : Shp S 7 (.ref A) (.ref B) true := by
  subst h
  have e : PyData.eqvAll (toDs (xs.map W.int)) (toDs (xs.map W.int)) = true := rfl_list fun w hw => by
    obtain ⟨a, ha, rfl⟩ := List.mem_map.mp hw
    exact rfl_int a
  rw [← e]
  refine .lst hA hB (by rw [List.length_map]; omega) (by rw [List.length_map]; omega) fun i x y e1 e2 => ?_
  obtain ⟨a, ea, rfl⟩ := map_at e1
  obtain ⟨b, eb, rfl⟩ := map_at e2
  exact .int
end
end K83
set_option Elab.async false
set_option linter.all false
set_option maxRecDepth 100000
set_option maxHeartbeats 4000000
set_option synthInstance.maxHeartbeats 4000000
set_option synthInstance.maxSize 100000
namespace K83
open PySem PySem.Spec PyProof.Rows L2 Wl
local macro_rules | `(tactic| walk_at "w") => `(tactic| (conv => whnf))
/-! what a store holds -/
local macro_rules | `(tactic| walk_at "ne") => `(tactic| first | assumption | (apply Ne.symm; assumption) | exact ne_free (by assumption) (by assumption) | exact (ne_free (by assumption) (by assumption)).symm | exact Pl.ne (by assumption) (by assumption) | exact (Pl.ne (by assumption) (by assumption)).symm)
local macro_rules | `(tactic| walk_at "s") => `(tactic| first
  | exact put_same
  | assumption
  | (refine (put_ne ?_).trans ?_; (· walk_at "ne"); (· walk_at "s")))
/-! a side condition -/
local macro_rules | `(tactic| walk_at "c") => `(tactic| first
  | exact Or.inl (Or.inl ⟨by omega, by omega⟩)
  | exact Or.inl (Or.inr ⟨by omega, by omega⟩)
  | exact Or.inl ⟨by omega, by omega⟩
  | exact Or.inl ⟨rfl, _, by walk_at "s"⟩
  | rfl
  | omega
  | decide
  | exact Nat.le_trans (by omega) sizeLine_ge)
/-! one question is answered, if the answer is plain -/
local macro_rules | `(tactic| walk_at "g1") => `(tactic| first
  | refine ⟨fun _ => ?_, fun h => absurd (show true = false from h) (by decide)⟩
  | refine ⟨fun h => absurd (show false = true from h) Bool.false_ne_true, fun _ => ?_⟩
  | refine ⟨_, by walk_at "s", ?_⟩
  | refine ⟨_, _, by walk_at "s", by walk_at "s", ?_⟩
  | refine ⟨_, by walk_at "s", by simpa using (by omega), ?_⟩
  | refine ⟨_, rfl, ?_⟩
  | refine ⟨_, _, rfl, (by first | exact isTy_tt | exact isTy_ii | exact isTy_ll | exact isTy_ss | exact isTy_ib | exact isTy_tb | exact isTy_ti | exact isTy_ts | exact isTy_tl | exact isTy_lb | exact isTy_li | exact isTy_ls | exact isTy_lt | exact isTy_sb | exact isTy_si | exact isTy_st | exact isTy_sl | exact isTy_is | exact isTy_it | exact isTy_il | exact isTy_bi | exact isTy_bs | exact isTy_bb | exact isTy_nb | exact isTy_ni | exact isTy_ns | exact isTy_nt | exact isTy_nl | exact isTy_bt | exact isTy_bl | exact isTy_nd | exact isTy_td | exact isTy_ld | exact isTy_sd | exact isTy_id | exact isTy_bd | exact isTy_dd | exact isTy_db | exact isTy_di | exact isTy_ds | exact isTy_dt | exact isTy_dl), ?_⟩
  | refine ⟨_, _, tyName_lst (by walk_at "s"), (by first | exact isTy_ll | exact isTy_lb | exact isTy_li | exact isTy_ls | exact isTy_lt), ?_⟩
  | refine if_q ?_
  | refine ⟨by walk_at "c", ?_⟩)
local macro_rules | `(tactic| walk_at "go") => `(tactic| (walk_at "w"; repeat (walk_at "g1"; walk_at "w")))
/-! a branch that cannot be -/
local macro_rules | `(tactic| walk_at "two") => `(tactic| refine ⟨fun h => ?_, fun h => ?_⟩)
section
variable {P : Program} {w : World} {K : PySem.W.Frag} {mg : Str → Option Value} {base : Heap}
theorem pl_kp {S T : Sto} {p : Addr} {N : Int} (h : Pl S p N) (k : KpL [] S T) : Pl T p N := by
  obtain ⟨a, b, cc, dd, e, r⟩ := h
  exact ⟨a, b, cc, dd, k p _ (by simp) e, r⟩
theorem pl_ne_lst {S : Sto} {p P : Addr} {N : Int} {gs : List Pg} (h : Pl S p N) (e : S P = some (.lst (gs.map Pg.v))) : P ≠ p := by
  obtain ⟨c, n, b, s, e1, _⟩ := h
  rintro rfl
  rw [e1] at e
  cases gs with
  | nil => cases e
  | cons g gs => injection e with e; injection e with e; injection e with e; cases e
theorem ok_law (T : Txt K mg) {f : Addr} {fd : FuncData} (F : Fun K "law" "law" s_law f fd) (c__law_pool : CalW P w K mg base 1 "_law_pool" (Hd spPl)) (c__law_take : CalW P w K mg base 1 "_law_take" (Hd spTk)) (c__law_page : CalW P w K mg base 3 "_law_page" (Hd spPage)) (c__law_second : CalW P w K mg base 4 "_law_second" (Hd spSec))
    (c__law_result : CalW P w K mg base 2 "_law_result" (Hd spRes)) (c__law_due : CalW P w K mg base 10 "_law_due" (Hd spDue)) (c_changed_pages : CalW P w K mg base 2 "changed_pages" (Hd spCh)) (c__law_same : CalW P w K mg base 9 "_law_same" (Hd (spSameB 7))) : FnOk P w K mg base CX0 11 f fd ["_law_script"] (liftSp K spLaw) :=
  have c__law_pool := c__law_pool.mono (k := 10) (by decide)
  have c__law_take := c__law_take.mono (k := 10) (by decide)
  have c__law_page := c__law_page.mono (k := 10) (by decide)
  have c__law_second := c__law_second.mono (k := 10) (by decide)
  have c__law_result := c__law_result.mono (k := 10) (by decide)
  have c_changed_pages := c_changed_pages.mono (k := 10) (by decide)
  have c__law_same := c__law_same.mono (k := 10) (by decide)
  fnDI F sc_law (fun ws S Q ⟨ns, e, _⟩ => by rw [e]; rfl) fun f cdv A outer s H E hr => ⟨_, _,
    (pss_cons (ps_set (i := 1) sc_law.nd rfl (Or.inl rfl) (k_w K c__law_pool hr (by decide) rfl (pa_cons (pv 0) (pa_cons pe_int pa_nil))))
      (pss_cons (ps_set (i := 2) sc_law.nd rfl (Or.inr rfl) (pe_op (k_addB K) pe_int (k_w K c__law_take hr (by decide) rfl (pa_cons (pv 1) (pa_cons pe_int pa_nil)))))
      (pss_cons (ps_set (i := 3) sc_law.nd rfl (Or.inl rfl) (k_w K c__law_take hr (by decide) rfl (pa_cons (pv 1) (pa_cons (pe_ix (k_ix K) (pe_lst (pa_cons pe_int (pa_cons pe_int (pa_cons pe_int (pa_cons pe_int pa_nil))))) (k_w K c__law_take hr (by decide) rfl (pa_cons (pv 1) (pa_cons pe_int pa_nil))) (fun _ _ => rfl)) pa_nil))))
      (pss_cons (ps_set (i := 4) sc_law.nd rfl (Or.inl rfl) (pe_ix (k_ix K) (pe_lst (pa_cons pe_int (pa_cons pe_int (pa_cons pe_int (pa_cons (pe_un un_neg pe_int) (pa_cons (pe_un un_neg pe_int) pa_nil)))))) (k_w K c__law_take hr (by decide) rfl (pa_cons (pv 1) (pa_cons pe_int pa_nil))) (fun _ _ => rfl)))
      (pss_cons (ps_set (i := 5) sc_law.nd rfl (Or.inl rfl) (pe_ix (k_ix K) (pe_lst (pa_cons (pv 3) (pa_cons pe_int (pa_cons pe_int (pa_cons pe_int (pa_cons pe_int (pa_cons pe_int (pa_cons pe_int pa_nil)))))))) (k_w K c__law_take hr (by decide) rfl (pa_cons (pv 1) (pa_cons pe_int pa_nil))) (fun _ _ => rfl)))
      (pss_cons (ps_set (i := 6) sc_law.nd rfl (Or.inl rfl) (k_w K c__law_take hr (by decide) rfl (pa_cons (pv 1) (pa_cons pe_int pa_nil))))
      (pss_cons (ps_set (i := 7) sc_law.nd rfl (Or.inr rfl) (pe_op op_sub pe_int (k_w K c__law_take hr (by decide) rfl (pa_cons (pv 1) (pa_cons pe_int pa_nil)))))
      (pss_cons (ps_set (i := 8) sc_law.nd rfl (Or.inl rfl) (pe_lst (pa_cons (pe_cmpR (k_eq K hr.units) (k_w K c__law_take hr (by decide) rfl (pa_cons (pv 1) (pa_cons pe_int pa_nil))) pe_int (nomark _)) (pa_cons (pe_cmpR (k_eq K hr.units) (k_w K c__law_take hr (by decide) rfl (pa_cons (pv 1) (pa_cons pe_int pa_nil))) pe_int (nomark _)) pa_nil))))
      (pss_cons (ps_setLc (i := 9) (own := [("_law_k", 10)]) rfl sc_law.nd rfl rfl (sw_true rfl rfl rfl (by decide +kernel)) (pi_range1 rfl T.b_range (pa_cons (pv 3) pa_nil)) (blkOk_by (own := [("_law_k", 10)]) (N := ["_law_script", "_law_pool_here", "_law_start", "_law_many", "_law_shift", "_law_other", "_law_mode", "_law_cols", "_law_unset", "_law_pages", "_law_k", "_law_rows", "_law_one", "_law_two", "_law_due_here", "_law_told"]) (sc := defScope s_law) (by decide +kernel)) (fun _ _ _ _ _ => (pg_name (i := 10) sc_law.nd rfl (Or.inl rfl))) (fun _ _ _ _ _ => pts_nil) (fun _ _ _ _ _ => (k_w K c__law_page hr (by decide) rfl (pa_cons (k_w K c__law_pool hr (by decide) rfl (pa_cons (pv 0) (pa_cons (pe_op (k_addB K) pe_int (pv 10)) pa_nil))) (pa_cons (pe_op (k_addB K) (pv 2) (pv 10)) (pa_cons (pv 7) pa_nil))))))
      (pss_cons (ps_set (i := 11) sc_law.nd rfl (Or.inl rfl) (k_w K c__law_second hr (by decide) rfl (pa_cons (pv 0) (pa_cons (pv 9) (pa_cons (pe_callB (call_max2 rfl) (by rfl) T.b_max (by decide +kernel) (pa_cons pe_int (pa_cons (pe_op (k_addB K) (pv 2) (pv 4)) pa_nil))) (pa_cons (pv 5) (pa_cons (pv 6) (pa_cons (pv 7) pa_nil))))))))
      (pss_cons (ps_set (i := 12) sc_law.nd rfl (Or.inl rfl) (k_w K c__law_result hr (by decide) rfl (pa_cons (pv 1) (pa_cons (pv 9) (pa_cons (pe_ix (k_ix K) (pv 8) pe_int (fun _ _ => rfl)) pa_nil)))))
      (pss_cons (ps_set (i := 13) sc_law.nd rfl (Or.inl rfl) (k_w K c__law_result hr (by decide) rfl (pa_cons (pv 1) (pa_cons (pv 11) (pa_cons (pe_ix (k_ix K) (pv 8) pe_int (fun _ _ => rfl)) pa_nil)))))
      (pss_mid (ps_if (pt_val (pe_ix (k_ix K) (pv 8) pe_int (fun _ _ => rfl)))
       (pss_one (ps_set (i := 9) sc_law.nd rfl (Or.inl rfl) (pe_lst pa_nil)))
       pss_nil)
      (pss_mid (ps_if (pt_val (pe_ix (k_ix K) (pv 8) pe_int (fun _ _ => rfl)))
       (pss_one (ps_set (i := 11) sc_law.nd rfl (Or.inl rfl) (pe_lst pa_nil)))
       pss_nil)
      (pss_cons (ps_set (i := 14) sc_law.nd rfl (Or.inl rfl) (k_w K c__law_due hr (by decide) rfl (pa_cons (pv 9) (pa_cons (pv 11) pa_nil))))
      (pss_cons (ps_set (i := 15) sc_law.nd rfl (Or.inl rfl) (k_w K c_changed_pages hr (by decide) rfl (pa_cons (pv 12) (pa_cons (pv 13) pa_nil))))
      (pss_cons (ps_if (PW.pt (pw_or (pt_not (pt_val (k_w K c__law_same hr (by decide) rfl (pa_cons (pv 15) (pa_cons (pv 14) pa_nil))))) (pw_or1 (pt_not (pt_val (k_w K c__law_same hr (by decide) rfl (pa_cons (k_w K c_changed_pages hr (by decide) rfl (pa_cons (pv 13) (pa_cons (pv 12) pa_nil))) (pa_cons (pv 14) pa_nil))))))))
       (pss_one (ps_ret pe_bl))
       pss_nil)
      (pss_cons (ps_expr (k_bm K PySem.F.plainAttrs_list PySem.F.slot_list_append PySem.F.type_list_append mt_append (pv 15) (pa_cons pe_int pa_nil)))
      (pss_cons (ps_if (PW.pt (pw_or (pt_not (pt_val (k_w K c__law_same hr (by decide) rfl (pa_cons (k_w K c_changed_pages hr (by decide) rfl (pa_cons (pv 12) (pa_cons (pv 12) pa_nil))) (pa_cons (pe_lst pa_nil) pa_nil))))) (pw_or1 (pt_not (pt_val (k_w K c__law_same hr (by decide) rfl (pa_cons (k_w K c_changed_pages hr (by decide) rfl (pa_cons (pv 13) (pa_cons (pv 13) pa_nil))) (pa_cons (pe_lst pa_nil) pa_nil))))))))
       (pss_one (ps_ret pe_bl))
       pss_nil)
      (pss_one (ps_ret (k_w K c__law_same hr (by decide) rfl (pa_cons (k_w K c_changed_pages hr (by decide) rfl (pa_cons (pv 12) (pa_cons (pv 13) pa_nil))) (pa_cons (pv 14) pa_nil)))))))))))))))))))))))), inferInstance, by
    rintro ws S Q ⟨ns, rfl, hl, q⟩
    walk_at "w"
    refine pl_go (by decide) (by decide) hl fun p S1 hpf p1 o1 => ?_
    walk_at "w"
    refine tk_go p1 (by decide) (by decide) (by decide) fun st S2 st0 st1 p2 o2 => ?_
    walk_at "w"
    intro D1 hD1
    have p3 := p2.eq (put_ne (c := .lst [.int 6, .int 6, .int 6, .int 21]) (p2.ne hD1).symm)
    have d3 : put S2 D1 (.lst [.int 6, .int 6, .int 6, .int 21]) D1 = some (.lst [.int 6, .int 6, .int 6, .int 21]) := put_same
    have hD1p := p2.ne hD1
    generalize put S2 D1 (.lst [.int 6, .int 6, .int 6, .int 21]) = S3 at p3 d3
    walk_at "w"
    refine tk_go p3 (by decide) (by decide) (by decide) fun r S4 r0 r1 p4 o4 => ?_
    have d4 := (o4 D1 (notin1 hD1p)).trans d3
    refine ⟨_, d4, ?_⟩
    obtain ⟨m1, hm1, em1⟩ : ∃ m : Int, (1 ≤ m ∧ m ≤ 21) ∧ atI [W.int 6, .int 6, .int 6, .int 21] r = some (.int m) := by
      rcases (show r = 0 ∨ r = 1 ∨ r = 2 ∨ r = 3 by omega) with e | e | e | e <;> subst e
      · exact ⟨6, by decide, rfl⟩
      · exact ⟨6, by decide, rfl⟩
      · exact ⟨6, by decide, rfl⟩
      · exact ⟨21, by decide, rfl⟩
    refine rdAt_ok em1 ?_
    refine tk_go p4 (by decide) (by omega) (by omega) fun mm S5 mm0 mm1 p5 o5 => ?_
    obtain ⟨m, rfl⟩ : ∃ n : Nat, mm = (n : Int) := ⟨mm.toNat, by omega⟩
    have hm : m ≤ 20 := by omega
    walk_at "w"
    intro D2 hD2
    have p6 := p5.eq (put_ne (c := .lst [.int 1, .int 0, .int 2, .int (-1), .int (-2)]) (p5.ne hD2).symm)
    have d6 : put S5 D2 (.lst [.int 1, .int 0, .int 2, .int (-1), .int (-2)]) D2 = some (.lst [.int 1, .int 0, .int 2, .int (-1), .int (-2)]) := put_same
    have hD2p := p5.ne hD2
    generalize put S5 D2 (.lst [.int 1, .int 0, .int 2, .int (-1), .int (-2)]) = S6 at p6 d6
    walk_at "w"
    refine tk_go p6 (by decide) (by decide) (by decide) fun r7 S7 r70 r71 p7 o7 => ?_
    have d7 := (o7 D2 (notin1 hD2p)).trans d6
    refine ⟨_, d7, ?_⟩
    obtain ⟨sh, hsh, esh⟩ : ∃ m : Int, (-2 ≤ m ∧ m ≤ 2) ∧ atI [W.int 1, .int 0, .int 2, .int (-1), .int (-2)] r7 = some (.int m) := by
      rcases (show r7 = 0 ∨ r7 = 1 ∨ r7 = 2 ∨ r7 = 3 ∨ r7 = 4 by omega) with e | e | e | e | e <;> subst e
      · exact ⟨1, by decide, rfl⟩
      · exact ⟨0, by decide, rfl⟩
      · exact ⟨2, by decide, rfl⟩
      · exact ⟨-1, by decide, rfl⟩
      · exact ⟨-2, by decide, rfl⟩
    refine rdAt_ok esh ?_
    walk_at "w"
    intro D3 hD3
    have p8 := p7.eq (put_ne (c := .lst [.int m, .int 0, .int 3, .int 1, .int 4, .int 5, .int 2]) (p7.ne hD3).symm)
    have d8 : put S7 D3 (.lst [.int m, .int 0, .int 3, .int 1, .int 4, .int 5, .int 2]) D3 = some (.lst [.int m, .int 0, .int 3, .int 1, .int 4, .int 5, .int 2]) := put_same
    have hD3p := p7.ne hD3
    generalize put S7 D3 (.lst [.int m, .int 0, .int 3, .int 1, .int 4, .int 5, .int 2]) = S8 at p8 d8
    walk_at "w"
    refine tk_go p8 (by decide) (by decide) (by decide) fun r9 S9 r90 r91 p9 o9 => ?_
    have d9 := (o9 D3 (notin1 hD3p)).trans d8
    refine ⟨_, d9, ?_⟩
    obtain ⟨ot, hot, eot⟩ : ∃ n : Nat, n ≤ 20 ∧ atI [W.int m, .int 0, .int 3, .int 1, .int 4, .int 5, .int 2] r9 = some (.int n) := by
      rcases (show r9 = 0 ∨ r9 = 1 ∨ r9 = 2 ∨ r9 = 3 ∨ r9 = 4 ∨ r9 = 5 ∨ r9 = 6 by omega) with e | e | e | e | e | e | e <;> subst e
      · exact ⟨m, hm, rfl⟩
      · exact ⟨0, by decide, rfl⟩
      · exact ⟨3, by decide, rfl⟩
      · exact ⟨1, by decide, rfl⟩
      · exact ⟨4, by decide, rfl⟩
      · exact ⟨5, by decide, rfl⟩
      · exact ⟨2, by decide, rfl⟩
    refine rdAt_ok eot ?_
    walk_at "w"
    refine tk_go p9 (by decide) (by decide) (by decide) fun mode S10 _ _ p10 o10 => ?_
    walk_at "w"
    refine tk_go p10 (by decide) (by decide) (by decide) fun cc S11 cc0 cc1 p11 o11 => ?_
    obtain ⟨c, hc⟩ : ∃ n : Nat, 2 - cc = (n : Int) := ⟨(2 - cc).toNat, by omega⟩
    have hc1 : 1 ≤ c := by omega
    have hc2 : c ≤ 2 := by omega
    walk_at "w"
    rw [hc]
    walk_at "w"
    refine tk_go p11 (by decide) (by decide) (by decide) fun ua S12 _ _ p12 o12 => ?_
    walk_at "w"
    refine tk_go p12 (by decide) (by decide) (by decide) fun ub S13 _ _ p13 o13 => ?_
    walk_at "w"
    intro U hU
    generalize decide (ua = 5) = u1
    generalize decide (ub = 5) = u2
    have hUp := p13.ne hU
    have p14 := p13.eq (put_ne (c := .lst [.bl u1, .bl u2]) hUp.symm)
    have u14 : put S13 U (.lst [.bl u1, .bl u2]) U = some (.lst [.bl u1, .bl u2]) := put_same
    generalize put S13 U (.lst [.bl u1, .bl u2]) = S14 at p14 u14
    walk_at "w"
    refine ⟨by omega, by omega, ?_⟩
    refine lc_q fun P hP => ⟨fun i acc S' => ∃ gs : List Pg, gs.length = i ∧ (∀ g ∈ gs, PgOk g) ∧ (∀ g ∈ gs, g.fl.length ≤ 1) ∧ (∀ g ∈ gs, g.no.length ≤ 1) ∧ (∀ (j : Nat) (g : Pg), gs[j]? = some g → g.n = 1 + st + j) ∧ acc = gs.map Pg.v ∧ S' P = some (.lst acc) ∧ KpL [] S14 S',
      ⟨[], rfl, (fun _ h => by cases h), (fun _ h => by cases h), (fun _ h => by cases h), (fun j g e => by simp at e), rfl, put_same, (KpL.refl [] S14).new hP⟩, fun _ _ _ _ => trivial, ?_, ?_⟩
    · rintro i w acc S' ew ⟨gs, hgl, hok, hfl, hno, hnum, rfl, hP1, k1⟩
      obtain ⟨hi, rfl⟩ := intsW_at ew
      refine ⟨fun _ => ?_, fun h => absurd h (by decide)⟩
      walk_at "w"
      refine pl_go (by omega) (by omega) hl fun pp S2' hpp pp2 oo2 => ?_
      walk_at "w"
      refine Hd.mk ⟨pp, 0, _, c, rfl, pp2, by decide, hc1, hc2, fun g S3' hg hf hn hgn pp3 oo3 => ?_⟩
      have hPpp := ne_free hP1 hpp
      have hP3 : S3' P = some (.lst (gs.map Pg.v)) := (oo3 P (notin1 hPpp.symm)).trans ((oo2 P (notin1 hPpp.symm)).trans hP1)
      have hp0 : S14 pp = none := k1.free hpp (by simp)
      refine ⟨hP3, ?_, gs ++ [g], by simp [hgl], mem_app1 hok hg, mem_app1 hfl hf, mem_app1 hno hn, fun j x e => ?_, ?_, put_same, ((k1.off oo2 (fun a ha => .inr (by rw [List.mem_singleton.mp ha]; exact hp0))).off oo3 (fun a ha => .inr (by rw [List.mem_singleton.mp ha]; exact hp0))).own hP⟩
      · rw [List.length_map, hgl]
        exact Nat.lt_of_lt_of_le (show i < 100 by omega) (Nat.le_trans (by decide) sizeLine_ge)
      · rcases Nat.lt_or_ge j gs.length with hj | hj
        · rw [List.getElem?_append_left hj] at e
          exact hnum j x e
        · rw [List.getElem?_append_right hj] at e
          cases hcc : j - gs.length with
          | zero =>
            rw [hcc] at e
            cases e
            rw [hgn]
            omega
          | succ k => rw [hcc] at e; simp at e
      · rw [List.map_append]; rfl
    rintro acc S15 ⟨gs, hgl, hok, hfl, hno, hnum, rfl, hP15, k15⟩
    rw [intsW_len] at hgl
    have u15 := k15 U _ (by simp) u14
    have p15 : Pl S15 p 12 := (pl_kp p14 k15).mono (by omega)
    walk_at "w"
    have hmx : 1 ≤ (if 1 + st + sh > 1 then 1 + st + sh else 1) ∧ (if 1 + st + sh > 1 then 1 + st + sh else 1) ≤ 9005 := by split <;> omega
    refine Hd.mk ⟨ns, P, gs, (if 1 + st + sh > 1 then 1 + st + sh else 1), ot, mode, c, rfl, hl, hP15, ⟨hok, hfl, hno, by omega⟩, hot, hc1, hc2, fun R rs S16 hR0 hR16 hrs k16 => ?_⟩
    generalize (if 1 + st + sh > 1 then 1 + st + sh else 1) = n2 at hmx hrs
    have p16 := pl_kp p15 k16
    have P16 := k16 P _ (by simp) hP15
    have u16 := k16 U _ (by simp) u15
    have hRl := hrs.len
    have hUp16 : U ≠ p := by
      obtain ⟨a, b, cc, dd, e, _⟩ := p16
      rintro rfl
      rw [e] at u16; cases u16
    walk_at "w"
    refine ⟨_, u16, ?_⟩
    walk_at "w"
    refine Hd.mk ⟨p, P, 12, gs, u1, rfl, p16, by decide, P16, fun r1 S17 hr1 p17 o17 => ?_⟩
    have P17 := (o17 P (notin1 (pl_ne_lst p16 P16))).trans P16
    have R17 := (o17 R (notin1 (pl_ne_lst p16 hR16))).trans hR16
    have u17 := (o17 U (notin1 hUp16)).trans u16
    walk_at "w"
    refine ⟨_, u17, ?_⟩
    walk_at "w"
    refine Hd.mk ⟨p, R, _, rs, u2, rfl, p17, by decide, R17, fun r2 S18 hr2 p18 o18 => ?_⟩
    have P18 := (o18 P (notin1 (pl_ne_lst p17 P17))).trans P17
    have R18 := (o18 R (notin1 (pl_ne_lst p17 R17))).trans R17
    have u18 := (o18 U (notin1 hUp16)).trans u17
    walk_at "w"
    refine mid_q (fun ρ S' => ∃ P' : Addr, S' P' = some (.lst ((shown u1 gs).map Pg.v)) ∧ ρ = [some (.rl (ns.map W.int)), some (.ref p), some (.int (1 + st)), some (.int m), some (.int sh), some (.int ot), some (.int mode), some (.int c), some (.ref U), some (.ref P'), none, some (.ref R), some r1, some r2, none, none] ∧ KpL [] S18 S') ?_ ?_
    · walk_at "w"
      refine ⟨_, u18, ?_⟩
      walk_at "w"
      cases u1 with
      | true =>
        refine ⟨fun _ => ?_, fun h => absurd h (by decide)⟩
        walk_at "w"
        intro Z hZ
        exact ⟨Z, put_same, rfl, (KpL.refl [] S18).new hZ⟩
      | false =>
        refine ⟨fun h => absurd h (by decide), fun _ => ?_⟩
        exact ⟨P, P18, rfl, KpL.refl [] S18⟩
    rintro ρ S19 ⟨P', hP', rfl, k19⟩
    have R19 := k19 R _ (by simp) R18
    have u19 := k19 U _ (by simp) u18
    walk_at "w"
    refine mid_q (fun ρ S' => ∃ R' : Addr, S' R' = some (.lst ((shown u2 rs).map Pg.v)) ∧ ρ = [some (.rl (ns.map W.int)), some (.ref p), some (.int (1 + st)), some (.int m), some (.int sh), some (.int ot), some (.int mode), some (.int c), some (.ref U), some (.ref P'), none, some (.ref R'), some r1, some r2, none, none] ∧ KpL [] S19 S') ?_ ?_
    · walk_at "w"
      refine ⟨_, u19, ?_⟩
      walk_at "w"
      cases u2 with
      | true =>
        refine ⟨fun _ => ?_, fun h => absurd h (by decide)⟩
        walk_at "w"
        intro Z hZ
        exact ⟨Z, put_same, rfl, (KpL.refl [] S19).new hZ⟩
      | false =>
        refine ⟨fun h => absurd h (by decide), fun _ => ?_⟩
        exact ⟨R, R19, rfl, KpL.refl [] S19⟩
    rintro ρ S20 ⟨R', hR', rfl, k20⟩
    have hP20 := k20 P' _ (by simp) hP'
    have b1 : ∀ g ∈ shown u1 gs, 0 ≤ g.n ∧ g.n < 9100 := fun g hg => by
      have hg : g ∈ gs := by
        cases u1 with
        | true => cases hg
        | false => exact hg
      obtain ⟨i, hi, e⟩ := List.mem_iff_getElem.mp hg
      have := hnum i g (by rw [List.getElem?_eq_getElem hi, e])
      omega
    have b2 : ∀ g ∈ shown u2 rs, 0 ≤ g.n ∧ g.n < 9100 := fun g hg => by
      have hg : g ∈ rs := by
        cases u2 with
        | true => cases hg
        | false => exact hg
      obtain ⟨i, hi, e⟩ := List.mem_iff_getElem.mp hg
      have := hrs.num i g (by rw [List.getElem?_eq_getElem hi, e])
      omega
    have ls1 : LsOk (shown u1 gs) := ⟨shown_ok hok, Nat.le_trans shown_len (by omega), fun g hg => (b1 g hg).1, fun g hg => (b1 g hg).2⟩
    have ls2 : LsOk (shown u2 rs) := ⟨shown_ok hrs.ok, Nat.le_trans shown_len (by omega), fun g hg => (b2 g hg).1, fun g hg => (b2 g hg).2⟩
    walk_at "w"
    refine Hd.mk ⟨P', R', shown u1 gs, shown u2 rs, rfl, hP20, hR', ls1, ls2, fun D ys S21 hD0 hD21 inc mem k21 => ?_⟩
    walk_at "w"
    refine Hd.mk ⟨u1, u2, gs, rs, r1, r2, rfl, hr1, hr2, hok, hrs.ok, by omega, by omega, fun E zs S22 hE0 hE22 inc2 mem2 k22 => ?_⟩
    have yl : ys.length ≤ 40 := nums_len inc mem ls1.few ls2.few
    have D22 := k22 D _ (by simp) hD21
    have e1 : zs = ys := inc_ext inc2 inc fun k => by rw [mem2, mem]
    have hED : E ≠ D := ne_free hD21 hE0
    walk_at "w"
    refine if_q ?_
    refine sameb_go (ints_shp hE22 D22 e1 (by rw [e1]; omega)) ?_
    refine ⟨fun h => absurd (show (!true) = true from h) (by decide), fun _ => ?_⟩
    walk_at "w"
    refine Hd.mk ⟨u2, u1, rs, gs, r2, r1, rfl, hr2, hr1, hrs.ok, hok, by omega, by omega, fun G xs S23 hG0 hG23 inc3 mem3 k23 => ?_⟩
    have D23 := k23 D _ (by simp) D22
    have E23 := k23 E _ (by simp) hE22
    have e2 : xs = ys := inc_ext inc3 inc fun k => by rw [mem3, mem, df_sym (shown_ok hok) (shown_ok hrs.ok)]
    walk_at "w"
    refine sameb_go (ints_shp hG23 D23 e2 (by rw [e2]; omega)) ?_
    refine ⟨fun h => absurd (show (!true) = true from h) (by decide), fun _ => ?_⟩
    walk_at "w"
    refine ⟨.inl ⟨rfl, _, E23⟩, ?_⟩
    walk_at "w"
    refine ⟨_, E23, by rw [List.length_map]; exact Nat.lt_of_lt_of_le (show zs.length < 200 by rw [e1]; omega) (Nat.le_trans (by decide) sizeLine_ge), ?_⟩
    have D24 := (put_ne (c := .lst (zs.map W.int ++ [W.int 0])) hED.symm).trans D23
    generalize put S23 E (.lst (zs.map W.int ++ [W.int 0])) = S24 at D24
    walk_at "w"
    refine if_q ?_
    refine Hd.mk ⟨u1, u1, gs, gs, r1, r1, rfl, hr1, hr1, hok, hok, by omega, by omega, fun G2 xs2 S25 hG20 hG25 inc4 mem4 k25 => ?_⟩
    have D25 := k25 D _ (by simp) D24
    have e3 : xs2 = [] := inc_ext inc4 List.Pairwise.nil fun k => by rw [mem4, df_self]; simp
    walk_at "w"
    intro Z hZ
    have G26 := (put_ne (c := .lst []) (ne_free hG25 hZ).symm).trans hG25
    have D26 := (put_ne (c := .lst []) (ne_free D25 hZ).symm).trans D25
    have Z26 : put S25 Z (.lst []) Z = some (.lst (([] : List Int).map W.int)) := put_same
    generalize put S25 Z (.lst []) = S26 at G26 D26 Z26
    walk_at "w"
    refine sameb_go (ints_shp G26 Z26 e3 (by rw [e3]; decide)) ?_
    refine ⟨fun h => absurd (show (!true) = true from h) (by decide), fun _ => ?_⟩
    walk_at "w"
    refine Hd.mk ⟨u2, u2, rs, rs, r2, r2, rfl, hr2, hr2, hrs.ok, hrs.ok, by omega, by omega, fun G3 xs3 S27 hG30 hG27 inc5 mem5 k27 => ?_⟩
    have D27 := k27 D _ (by simp) D26
    have e4 : xs3 = [] := inc_ext inc5 List.Pairwise.nil fun k => by rw [mem5, df_self]; simp
    walk_at "w"
    intro Z2 hZ2
    have G28 := (put_ne (c := .lst []) (ne_free hG27 hZ2).symm).trans hG27
    have D28 := (put_ne (c := .lst []) (ne_free D27 hZ2).symm).trans D27
    have Z28 : put S27 Z2 (.lst []) Z2 = some (.lst (([] : List Int).map W.int)) := put_same
    generalize put S27 Z2 (.lst []) = S28 at G28 D28 Z28
    walk_at "w"
    refine sameb_go (ints_shp G28 Z28 e4 (by rw [e4]; decide)) ?_
    refine ⟨fun h => absurd (show (!true) = true from h) (by decide), fun _ => ?_⟩
    walk_at "w"
    refine Hd.mk ⟨u1, u2, gs, rs, r1, r2, rfl, hr1, hr2, hok, hrs.ok, by omega, by omega, fun G4 xs4 S29 hG40 hG29 inc6 mem6 k29 => ?_⟩
    have D29 := k29 D _ (by simp) D28
    have e5 : xs4 = ys := inc_ext inc6 inc fun k => by rw [mem6, mem]
    walk_at "w"
    refine sameb_go (ints_shp hG29 D29 e5 (by rw [e5]; omega)) ?_
    exact fg_here (q _)⟩
end
theorem all_mk {l : PySem.W.OpenLaw} {w : World} {K : PySem.W.Frag} {h : Heap} {mg : Str → Option Value} {fa : Addr} (X : K.In h) (G : h.Ns mainGlobals mg) (hfa : mg "law" = some (.ref fa))
    {f0 : Addr} {od0 an0 : Option Addr} {sl0 : Array (Option Value)} {oc0 kV0 dc0 pm0 cd0 ct0 : Value} (a0 : PySem.W.nsIn K mainGlobals "_pages_by_number" = some (some (.ref f0)))
     (l0 : K.lookup f0 = some ⟨oc0, od0, .func (PySem.W.fnOf "_pages_by_number" "_pages_by_number" (defArgs s__pages_by_number) (defBody s__pages_by_number) (defScope s__pages_by_number) .none kV0 dc0 pm0 an0 cd0 ct0), sl0⟩)
     (c0 : PySem.W.codeIn K cd0 "_pages_by_number" = true)
     (k0 : PySem.W.keepIn K (.ref f0) = true)
    {f1 : Addr} {od1 an1 : Option Addr} {sl1 : Array (Option Value)} {oc1 kV1 dc1 pm1 cd1 ct1 : Value} (a1 : PySem.W.nsIn K mainGlobals "changed_pages" = some (some (.ref f1)))
     (l1 : K.lookup f1 = some ⟨oc1, od1, .func (PySem.W.fnOf "changed_pages" "changed_pages" (defArgs s_changed_pages) (defBody s_changed_pages) (defScope s_changed_pages) .none kV1 dc1 pm1 an1 cd1 ct1), sl1⟩)
     (c1 : PySem.W.codeIn K cd1 "changed_pages" = true)
     (k1 : PySem.W.keepIn K (.ref f1) = true)
    {f2 : Addr} {od2 an2 : Option Addr} {sl2 : Array (Option Value)} {oc2 kV2 dc2 pm2 cd2 ct2 : Value} (a2 : PySem.W.nsIn K mainGlobals "_law_pool" = some (some (.ref f2)))
     (l2 : K.lookup f2 = some ⟨oc2, od2, .func (PySem.W.fnOf "_law_pool" "_law_pool" (defArgs s__law_pool) (defBody s__law_pool) (defScope s__law_pool) .none kV2 dc2 pm2 an2 cd2 ct2), sl2⟩)
     (c2 : PySem.W.codeIn K cd2 "_law_pool" = true)
     (k2 : PySem.W.keepIn K (.ref f2) = true)
    {f3 : Addr} {od3 an3 : Option Addr} {sl3 : Array (Option Value)} {oc3 kV3 dc3 pm3 cd3 ct3 : Value} (a3 : PySem.W.nsIn K mainGlobals "_law_take" = some (some (.ref f3)))
     (l3 : K.lookup f3 = some ⟨oc3, od3, .func (PySem.W.fnOf "_law_take" "_law_take" (defArgs s__law_take) (defBody s__law_take) (defScope s__law_take) .none kV3 dc3 pm3 an3 cd3 ct3), sl3⟩)
     (c3 : PySem.W.codeIn K cd3 "_law_take" = true)
     (k3 : PySem.W.keepIn K (.ref f3) = true)
    {f4 : Addr} {od4 an4 : Option Addr} {sl4 : Array (Option Value)} {oc4 kV4 dc4 pm4 cd4 ct4 : Value} (a4 : PySem.W.nsIn K mainGlobals "_law_same" = some (some (.ref f4)))
     (l4 : K.lookup f4 = some ⟨oc4, od4, .func (PySem.W.fnOf "_law_same" "_law_same" (defArgs s__law_same) (defBody s__law_same) (defScope s__law_same) .none kV4 dc4 pm4 an4 cd4 ct4), sl4⟩)
     (c4 : PySem.W.codeIn K cd4 "_law_same" = true)
     (k4 : PySem.W.keepIn K (.ref f4) = true)
    {f5 : Addr} {od5 an5 : Option Addr} {sl5 : Array (Option Value)} {oc5 kV5 dc5 pm5 cd5 ct5 : Value} (a5 : PySem.W.nsIn K mainGlobals "_law_line" = some (some (.ref f5)))
     (l5 : K.lookup f5 = some ⟨oc5, od5, .func (PySem.W.fnOf "_law_line" "_law_line" (defArgs s__law_line) (defBody s__law_line) (defScope s__law_line) .none kV5 dc5 pm5 an5 cd5 ct5), sl5⟩)
     (c5 : PySem.W.codeIn K cd5 "_law_line" = true)
     (k5 : PySem.W.keepIn K (.ref f5) = true)
    {f6 : Addr} {od6 an6 : Option Addr} {sl6 : Array (Option Value)} {oc6 kV6 dc6 pm6 cd6 ct6 : Value} (a6 : PySem.W.nsIn K mainGlobals "_law_page" = some (some (.ref f6)))
     (l6 : K.lookup f6 = some ⟨oc6, od6, .func (PySem.W.fnOf "_law_page" "_law_page" (defArgs s__law_page) (defBody s__law_page) (defScope s__law_page) .none kV6 dc6 pm6 an6 cd6 ct6), sl6⟩)
     (c6 : PySem.W.codeIn K cd6 "_law_page" = true)
     (k6 : PySem.W.keepIn K (.ref f6) = true)
    {f7 : Addr} {od7 an7 : Option Addr} {sl7 : Array (Option Value)} {oc7 kV7 dc7 pm7 cd7 ct7 : Value} (a7 : PySem.W.nsIn K mainGlobals "_law_bent" = some (some (.ref f7)))
     (l7 : K.lookup f7 = some ⟨oc7, od7, .func (PySem.W.fnOf "_law_bent" "_law_bent" (defArgs s__law_bent) (defBody s__law_bent) (defScope s__law_bent) .none kV7 dc7 pm7 an7 cd7 ct7), sl7⟩)
     (c7 : PySem.W.codeIn K cd7 "_law_bent" = true)
     (k7 : PySem.W.keepIn K (.ref f7) = true)
    {f8 : Addr} {od8 an8 : Option Addr} {sl8 : Array (Option Value)} {oc8 kV8 dc8 pm8 cd8 ct8 : Value} (a8 : PySem.W.nsIn K mainGlobals "_law_turned" = some (some (.ref f8)))
     (l8 : K.lookup f8 = some ⟨oc8, od8, .func (PySem.W.fnOf "_law_turned" "_law_turned" (defArgs s__law_turned) (defBody s__law_turned) (defScope s__law_turned) .none kV8 dc8 pm8 an8 cd8 ct8), sl8⟩)
     (c8 : PySem.W.codeIn K cd8 "_law_turned" = true)
     (k8 : PySem.W.keepIn K (.ref f8) = true)
    {f9 : Addr} {od9 an9 : Option Addr} {sl9 : Array (Option Value)} {oc9 kV9 dc9 pm9 cd9 ct9 : Value} (a9 : PySem.W.nsIn K mainGlobals "_law_second" = some (some (.ref f9)))
     (l9 : K.lookup f9 = some ⟨oc9, od9, .func (PySem.W.fnOf "_law_second" "_law_second" (defArgs s__law_second) (defBody s__law_second) (defScope s__law_second) .none kV9 dc9 pm9 an9 cd9 ct9), sl9⟩)
     (c9 : PySem.W.codeIn K cd9 "_law_second" = true)
     (k9 : PySem.W.keepIn K (.ref f9) = true)
    {f10 : Addr} {od10 an10 : Option Addr} {sl10 : Array (Option Value)} {oc10 kV10 dc10 pm10 cd10 ct10 : Value} (a10 : PySem.W.nsIn K mainGlobals "_law_result" = some (some (.ref f10)))
     (l10 : K.lookup f10 = some ⟨oc10, od10, .func (PySem.W.fnOf "_law_result" "_law_result" (defArgs s__law_result) (defBody s__law_result) (defScope s__law_result) .none kV10 dc10 pm10 an10 cd10 ct10), sl10⟩)
     (c10 : PySem.W.codeIn K cd10 "_law_result" = true)
     (k10 : PySem.W.keepIn K (.ref f10) = true)
    {f11 : Addr} {od11 an11 : Option Addr} {sl11 : Array (Option Value)} {oc11 kV11 dc11 pm11 cd11 ct11 : Value} (a11 : PySem.W.nsIn K mainGlobals "_law_due" = some (some (.ref f11)))
     (l11 : K.lookup f11 = some ⟨oc11, od11, .func (PySem.W.fnOf "_law_due" "_law_due" (defArgs s__law_due) (defBody s__law_due) (defScope s__law_due) .none kV11 dc11 pm11 an11 cd11 ct11), sl11⟩)
     (c11 : PySem.W.codeIn K cd11 "_law_due" = true)
     (k11 : PySem.W.keepIn K (.ref f11) = true)
    {f12 : Addr} {od12 an12 : Option Addr} {sl12 : Array (Option Value)} {oc12 kV12 dc12 pm12 cd12 ct12 : Value} (a12 : PySem.W.nsIn K mainGlobals "law" = some (some (.ref f12)))
     (l12 : K.lookup f12 = some ⟨oc12, od12, .func (PySem.W.fnOf "law" "law" (defArgs s_law) (defBody s_law) (defScope s_law) .none kV12 dc12 pm12 an12 cd12 ct12), sl12⟩)
     (c12 : PySem.W.codeIn K cd12 "law" = true)
     (k12 : PySem.W.keepIn K (.ref f12) = true)
     (z_abs : PySem.W.nsIn K mainGlobals "abs" = some none)
     (z_bool : PySem.W.nsIn K mainGlobals "bool" = some none)
     (z_int : PySem.W.nsIn K mainGlobals "int" = some none)
     (z_isinstance : PySem.W.nsIn K mainGlobals "isinstance" = some none)
     (z_len : PySem.W.nsIn K mainGlobals "len" = some none)
     (z_list : PySem.W.nsIn K mainGlobals "list" = some none)
     (z_max : PySem.W.nsIn K mainGlobals "max" = some none)
     (z_range : PySem.W.nsIn K mainGlobals "range" = some none)
     (z_set : PySem.W.nsIn K mainGlobals "set" = some none)
     (z_sorted : PySem.W.nsIn K mainGlobals "sorted" = some none)
     (z_str : PySem.W.nsIn K mainGlobals "str" = some none)
     (z_tuple : PySem.W.nsIn K mainGlobals "tuple" = some none)
    : ∃ fd : FuncData, (∀ (s : Shared) (v : Value), BindsTo s fd ⟨[v], []⟩ [("_law_script", v)]) ∧ ∀ base : Heap, K.In base → base.Ns mainGlobals mg → FnOk l.prog w K mg base CX0 11 fa fd ["_law_script"] (liftSp K spLaw) := by
  have e := hfa.symm.trans (PySem.W.mg_of X G a12)
  cases e
  have T : Txt K mg := ⟨PySem.W.mg_none_of X G z_abs, PySem.W.mg_none_of X G z_bool, PySem.W.mg_none_of X G z_int, PySem.W.mg_none_of X G z_isinstance, PySem.W.mg_none_of X G z_len, PySem.W.mg_none_of X G z_list, PySem.W.mg_none_of X G z_max, PySem.W.mg_none_of X G z_range, PySem.W.mg_none_of X G z_set, PySem.W.mg_none_of X G z_sorted, PySem.W.mg_none_of X G z_str, PySem.W.mg_none_of X G z_tuple⟩
  have d__pages_by_number : DefAt K mg "_pages_by_number" s__pages_by_number ["result"] := ⟨_, _, fun_mk (st := s__pages_by_number) l0 c0 k0, PySem.W.mg_of X G a0, (fun_mk (st := s__pages_by_number) l0 c0 k0).binds (ps := ["result"]) fun _ _ _ _ _ _ us hl => match us, hl with | [_], _ => rfl⟩
  have d_changed_pages : DefAt K mg "changed_pages" s_changed_pages ["before", "after"] := ⟨_, _, fun_mk (st := s_changed_pages) l1 c1 k1, PySem.W.mg_of X G a1, (fun_mk (st := s_changed_pages) l1 c1 k1).binds (ps := ["before", "after"]) fun _ _ _ _ _ _ us hl => match us, hl with | [_, _], _ => rfl⟩
  have d__law_pool : DefAt K mg "_law_pool" s__law_pool ["_law_script", "_law_at"] := ⟨_, _, fun_mk (st := s__law_pool) l2 c2 k2, PySem.W.mg_of X G a2, (fun_mk (st := s__law_pool) l2 c2 k2).binds (ps := ["_law_script", "_law_at"]) fun _ _ _ _ _ _ us hl => match us, hl with | [_, _], _ => rfl⟩
  have d__law_take : DefAt K mg "_law_take" s__law_take ["_law_pool_here", "_law_many"] := ⟨_, _, fun_mk (st := s__law_take) l3 c3 k3, PySem.W.mg_of X G a3, (fun_mk (st := s__law_take) l3 c3 k3).binds (ps := ["_law_pool_here", "_law_many"]) fun _ _ _ _ _ _ us hl => match us, hl with | [_, _], _ => rfl⟩
  have d__law_same : DefAt K mg "_law_same" s__law_same ["_law_one", "_law_two"] := ⟨_, _, fun_mk (st := s__law_same) l4 c4 k4, PySem.W.mg_of X G a4, (fun_mk (st := s__law_same) l4 c4 k4).binds (ps := ["_law_one", "_law_two"]) fun _ _ _ _ _ _ us hl => match us, hl with | [_, _], _ => rfl⟩
  have d__law_line : DefAt K mg "_law_line" s__law_line ["_law_pool_here"] := ⟨_, _, fun_mk (st := s__law_line) l5 c5 k5, PySem.W.mg_of X G a5, (fun_mk (st := s__law_line) l5 c5 k5).binds (ps := ["_law_pool_here"]) fun _ _ _ _ _ _ us hl => match us, hl with | [_], _ => rfl⟩
  have d__law_page : DefAt K mg "_law_page" s__law_page ["_law_pool_here", "_law_number", "_law_cols"] := ⟨_, _, fun_mk (st := s__law_page) l6 c6 k6, PySem.W.mg_of X G a6, (fun_mk (st := s__law_page) l6 c6 k6).binds (ps := ["_law_pool_here", "_law_number", "_law_cols"]) fun _ _ _ _ _ _ us hl => match us, hl with | [_, _, _], _ => rfl⟩
  have d__law_bent : DefAt K mg "_law_bent" s__law_bent ["_law_pool_here", "_law_block"] := ⟨_, _, fun_mk (st := s__law_bent) l7 c7 k7, PySem.W.mg_of X G a7, (fun_mk (st := s__law_bent) l7 c7 k7).binds (ps := ["_law_pool_here", "_law_block"]) fun _ _ _ _ _ _ us hl => match us, hl with | [_, _], _ => rfl⟩
  have d__law_turned : DefAt K mg "_law_turned" s__law_turned ["_law_pool_here", "_law_page_here"] := ⟨_, _, fun_mk (st := s__law_turned) l8 c8 k8, PySem.W.mg_of X G a8, (fun_mk (st := s__law_turned) l8 c8 k8).binds (ps := ["_law_pool_here", "_law_page_here"]) fun _ _ _ _ _ _ us hl => match us, hl with | [_, _], _ => rfl⟩
  have d__law_second : DefAt K mg "_law_second" s__law_second ["_law_script", "_law_pages", "_law_number", "_law_many", "_law_mode", "_law_cols"] := ⟨_, _, fun_mk (st := s__law_second) l9 c9 k9, PySem.W.mg_of X G a9, (fun_mk (st := s__law_second) l9 c9 k9).binds (ps := ["_law_script", "_law_pages", "_law_number", "_law_many", "_law_mode", "_law_cols"]) fun _ _ _ _ _ _ us hl => match us, hl with | [_, _, _, _, _, _], _ => rfl⟩
  have d__law_result : DefAt K mg "_law_result" s__law_result ["_law_pool_here", "_law_pages", "_law_unset"] := ⟨_, _, fun_mk (st := s__law_result) l10 c10 k10, PySem.W.mg_of X G a10, (fun_mk (st := s__law_result) l10 c10 k10).binds (ps := ["_law_pool_here", "_law_pages", "_law_unset"]) fun _ _ _ _ _ _ us hl => match us, hl with | [_, _, _], _ => rfl⟩
  have d__law_due : DefAt K mg "_law_due" s__law_due ["_law_one", "_law_two"] := ⟨_, _, fun_mk (st := s__law_due) l11 c11 k11, PySem.W.mg_of X G a11, (fun_mk (st := s__law_due) l11 c11 k11).binds (ps := ["_law_one", "_law_two"]) fun _ _ _ _ _ _ us hl => match us, hl with | [_, _], _ => rfl⟩
  have F12 := fun_mk (st := s_law) l12 c12 k12
  refine ⟨PySem.W.fnOf "law" "law" (defArgs s_law) (defBody s_law) (defScope s_law) .none kV12 dc12 pm12 an12 cd12 ct12, fun s v => .of_eq rfl, fun base _ _ => ?_⟩
  have c_take := (ok__law_take (P := l.prog) (w := w) (base := base) T d__law_take).hd
  have c_pool := (ok__law_pool (P := l.prog) (w := w) (base := base) T d__law_pool).hd
  have c_line := (ok__law_line T c_take d__law_line).hd
  have c_page := (ok__law_page T c_take c_line d__law_page).hd
  have c_bent := (ok__law_bent T c_take d__law_bent).hd
  have c_turned := (ok__law_turned T c_take c_line c_bent d__law_turned).hd
  have c_second := (ok__law_second T c_pool c_page c_turned d__law_second).hd
  have c_res := (ok__law_result T c_take d__law_result).hd
  have c_by := (ok__pages_by_number (P := l.prog) (w := w) (base := base) T d__pages_by_number).hd
  have c_ch := (ok_changed_pages T c_by d_changed_pages).hd
  have c_same := (ok_sameb (P := l.prog) (w := w) (base := base) T d__law_same 7).hd
  have c_due := (ok__law_due T c_same d__law_due).hd
  exact ok_law T F12 c_pool c_take c_page c_second c_res c_due c_ch c_same
end K83
open PySem PySem.W PyProof.Rows
set_option maxRecDepth 100000 in
set_option maxHeartbeats 0 in
theorem PySem.Challenge.cw_stylepages_k83_changed_pages_holds : PySem.Challenge.rw_stylepages_k83_changed_pages.Holds := by
  w_on; o_law; k_head; (case hw => w_witness2)
  k_fill
  refine L2.walk_of (l := PySem.Challenge.rw_stylepages_k83_changed_pages) (n := 63) (k := 11) (x := "_law_script") (CX := fun _ => L2.CX0) (sp := fun w => Wl.liftSp _ Wl.spLaw) rfl (by decide) rfl ⟨rfl, by decide, by decide⟩ (fun w h Y => PySem.W.kIn_of Y) ?F (fun _ _ a ns hl hO hS => Wl.law_end hl hO hS) (fun _ _ _ _ _ h => h)
  case F =>
    intro w mg fa h KX G hmg
    refine' K83.all_mk KX G hmg ?a0 ?l0 ?c0 ?k0 ?a1 ?l1 ?c1 ?k1 ?a2 ?l2 ?c2 ?k2 ?a3 ?l3 ?c3 ?k3 ?a4 ?l4 ?c4 ?k4 ?a5 ?l5 ?c5 ?k5 ?a6 ?l6 ?c6 ?k6 ?a7 ?l7 ?c7 ?k7 ?a8 ?l8 ?c8 ?k8 ?a9 ?l9 ?c9 ?k9 ?a10 ?l10 ?c10 ?k10 ?a11 ?l11 ?c11 ?k11 ?a12 ?l12 ?c12 ?k12 ?z_abs ?z_bool ?z_int ?z_isinstance ?z_len ?z_list ?z_max ?z_range ?z_set ?z_sorted ?z_str ?z_tuple
    (case a0 => k_is)
    (case l0 => k_is)
    (case c0 => k_is)
    (case k0 => k_is)
    (case a1 => k_is)
    (case l1 => k_is)
    (case c1 => k_is)
    (case k1 => k_is)
    (case a2 => k_is)
    (case l2 => k_is)
    (case c2 => k_is)
    (case k2 => k_is)
    (case a3 => k_is)
    (case l3 => k_is)
    (case c3 => k_is)
    (case k3 => k_is)
    (case a4 => k_is)
    (case l4 => k_is)
    (case c4 => k_is)
    (case k4 => k_is)
    (case a5 => k_is)
    (case l5 => k_is)
    (case c5 => k_is)
    (case k5 => k_is)
    (case a6 => k_is)
    (case l6 => k_is)
    (case c6 => k_is)
    (case k6 => k_is)
    (case a7 => k_is)
    (case l7 => k_is)
    (case c7 => k_is)
    (case k7 => k_is)
    (case a8 => k_is)
    (case l8 => k_is)
    (case c8 => k_is)
    (case k8 => k_is)
    (case a9 => k_is)
    (case l9 => k_is)
    (case c9 => k_is)
    (case k9 => k_is)
    (case a10 => k_is)
    (case l10 => k_is)
    (case c10 => k_is)
    (case k10 => k_is)
    (case a11 => k_is)
    (case l11 => k_is)
    (case c11 => k_is)
    (case k11 => k_is)
    (case a12 => k_is)
    (case l12 => k_is)
    (case c12 => k_is)
    (case k12 => k_is)
    (case z_abs => k_is)
    (case z_bool => k_is)
    (case z_int => k_is)
    (case z_isinstance => k_is)
    (case z_len => k_is)
    (case z_list => k_is)
    (case z_max => k_is)
    (case z_range => k_is)
    (case z_set => k_is)
    (case z_sorted => k_is)
    (case z_str => k_is)
    (case z_tuple => k_is)
#print axioms PySem.Challenge.cw_stylepages_k83_changed_pages_holds
