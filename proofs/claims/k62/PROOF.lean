import PyProof.Rows.All
import Wide.All
import OpenK.AllK
import Wide.FinOn
import HandS.Base
import HandS.Call
import HandS.List
import HandS.Comp
import HandS.Ends
import HandS.Dict
import HandS.Iter
import HandS.Text
import HandS.Words
import HandS.Wide
import HandS.IsInst
import HandS.Exc
import HandS.ExcOwn
import HandS.WordsExc
import HandS.TryOnly
import HandS.Small
import HandS.TupAny
import HandS.More
import HandS.RaiseMore
import PyProof.Rows.StrMul
import HandS.GenList
import HandS.Conv
import HandS.StrMore
import HandS.SlotsOwn
import KE.KTupSum
import HandS.MakeKwOnly
import HandS.ClsMeth
import KE.GoesMore
import HandS.IterNext
import HandS.GenYield
import HandS.ExcIs
import HandS.TryMany
import HandS.CallLocal
import HandS.SortKw
import KE.DatumOrd
import HandS.TupMul
import PySem.Challenge.RW_stylepages_k62_whole_options_are_just_th
set_option Elab.async false
set_option linter.all false
set_option maxRecDepth 100000
set_option maxHeartbeats 2000000
/-! Data-level readings: tuples as values, lists as cells of a store. -/
namespace Wl
open PySem L2

inductive W where
  | non | bl (b : Bool) | int (i : Int) | str (x : Str) | ty (n : String) | ref (a : Addr) | tup (ws : List W) | rl (ws : List W)

/-- a list that nobody writes -/
def RdL (K : PySem.W.Frag) (H : Hp) (a : Addr) (xs : List V) : Prop :=
  (∃ o, H a = some (.frz o (.lst xs))) ∨
    ∃ (o : Obj) (its : Array Value) (n : Nat), K.lookup a = some o ∧ o.cls = .type "list" ∧ o.dict = none ∧ o.data = .seq its n ∧ its.size ≤ sizeLine ∧ Vals xs its.toList
theorem RdL.sq {K : PySem.W.Frag} {H : Hp} {a : Addr} {xs : List V} (h : RdL K H a xs) : SqL K H a xs := by
  rcases h with h | h
  · exact .inl (.inr h)
  · exact .inr h

mutual
def Rep (K : PySem.W.Frag) (H : Hp) : W → V → Prop
  | .non, v => v = .non
  | .bl b, v => v = .bl b
  | .int i, v => v = .int i
  | .str x, v => v = .str x
  | .ty n, v => v = .ty n
  | .ref a, v => v = .ref a
  | .tup ws, v => ∃ a xs, v = .ref a ∧ SqT K H a xs ∧ RepL K H ws xs
  | .rl ws, v => ∃ a xs, v = .ref a ∧ RdL K H a xs ∧ RepL K H ws xs
def RepL (K : PySem.W.Frag) (H : Hp) : List W → List V → Prop
  | [], xs => xs = []
  | w :: ws, xs => ∃ x r, xs = x :: r ∧ Rep K H w x ∧ RepL K H ws r
end

/-- tuples, frozen things stay -/
structure Tk (H H' : Hp) : Prop where
  tup : ∀ a xs, H a = some (.tup xs) → H' a = some (.tup xs)
  frz : ∀ a o u, H a = some (.frz o u) → H' a = some (.frz o u)
theorem Tk.refl (H : Hp) : Tk H H := ⟨fun _ _ h => h, fun _ _ _ h => h⟩
theorem Tk.trans {H H1 H2 : Hp} (a : Tk H H1) (b : Tk H1 H2) : Tk H H2 := ⟨fun x xs h => b.tup x xs (a.tup x xs h), fun x o u h => b.frz x o u (a.frz x o u h)⟩
theorem Tk.new {H : Hp} {p : Addr} {o : HO} (h : H p = none) : Tk H (upd H p o) := ⟨fun a xs e => by rw [upd_ne (ne_of_none e h)]; exact e, fun a ob u e => by rw [upd_ne (ne_of_none e h)]; exact e⟩
theorem Tk.mut {H : Hp} {p : Addr} {o o' : HO} (h : H p = some o) (h1 : ∀ xs, o ≠ .tup xs) (h2 : ∀ ob u, o ≠ .frz ob u) : Tk H (upd H p o') :=
  ⟨fun a xs e => by rw [upd_ne (ne_of e h (fun z => h1 xs z.symm))]; exact e, fun a ob u e => by rw [upd_ne (ne_of e h (fun z => h2 ob u z.symm))]; exact e⟩
theorem Tk.rd {H H' : Hp} (t : Tk H H') {a : Addr} {xs : List V} (h : Rd H a (.tup xs)) : Rd H' a (.tup xs) := by
  rcases h with h | ⟨o, h⟩
  · exact .inl (t.tup a xs h)
  · exact .inr ⟨o, t.frz a o _ h⟩
theorem Tk.sqt {K : PySem.W.Frag} {H H' : Hp} (t : Tk H H') {a : Addr} {xs : List V} (h : SqT K H a xs) : SqT K H' a xs := by
  rcases h with h | h
  · exact .inl (t.rd h)
  · exact .inr h
theorem Tk.rdl {K : PySem.W.Frag} {H H' : Hp} (t : Tk H H') {a : Addr} {xs : List V} (h : RdL K H a xs) : RdL K H' a xs := by
  rcases h with ⟨o, h⟩ | h
  · exact .inl ⟨o, t.frz a o _ h⟩
  · exact .inr h
mutual
theorem Rep.tk {K : PySem.W.Frag} {H H' : Hp} (t : Tk H H') : ∀ (w : W) (v : V), Rep K H w v → Rep K H' w v
  | .non, _, h => h
  | .bl _, _, h => h
  | .int _, _, h => h
  | .str _, _, h => h
  | .ty _, _, h => h
  | .ref _, _, h => h
  | .tup ws, v, h => by
    obtain ⟨a, xs, e, h1, h2⟩ := h
    exact ⟨a, xs, e, t.sqt h1, RepL.tk t ws xs h2⟩
  | .rl ws, v, h => by
    obtain ⟨a, xs, e, h1, h2⟩ := h
    exact ⟨a, xs, e, t.rdl h1, RepL.tk t ws xs h2⟩
theorem RepL.tk {K : PySem.W.Frag} {H H' : Hp} (t : Tk H H') : ∀ (ws : List W) (xs : List V), RepL K H ws xs → RepL K H' ws xs
  | [], _, h => h
  | w :: ws, _, h => by
    obtain ⟨x, r, e, h1, h2⟩ := h
    exact ⟨x, r, e, Rep.tk t w x h1, RepL.tk t ws r h2⟩
end
section
variable {K : PySem.W.Frag} {H : Hp}
theorem RepL.nil : RepL K H [] [] := rfl
theorem RepL.cons {w : W} {ws : List W} {x : V} {xs : List V} (h : Rep K H w x) (t : RepL K H ws xs) : RepL K H (w :: ws) (x :: xs) := ⟨x, xs, rfl, h, t⟩
theorem RepL.length : ∀ {ws : List W} {xs : List V}, RepL K H ws xs → xs.length = ws.length
  | [], _, h => by cases (show _ = [] from h); rfl
  | w :: ws, _, h => by
    obtain ⟨x, r, rfl, _, h2⟩ := h
    rw [List.length_cons, List.length_cons, RepL.length h2]
theorem RepL.get : ∀ {ws : List W} {xs : List V} {i : Nat} {w : W}, RepL K H ws xs → ws[i]? = some w → ∃ x, xs[i]? = some x ∧ Rep K H w x
  | [], _, _, _, _, e => by simp at e
  | _ :: _, _, 0, _, h, e => by
    obtain ⟨x, r, rfl, h1, _⟩ := h
    simp at e; subst e
    exact ⟨x, rfl, h1⟩
  | _ :: _, _, i + 1, _, h, e => by
    obtain ⟨x, r, rfl, _, h2⟩ := h
    obtain ⟨y, e1, e2⟩ := RepL.get (i := i) h2 (by simpa using e)
    exact ⟨y, by simpa using e1, e2⟩
theorem RepL.get' : ∀ {ws : List W} {xs : List V} {i : Nat} {x : V}, RepL K H ws xs → xs[i]? = some x → ∃ w, ws[i]? = some w ∧ Rep K H w x
  | [], _, _, _, h, e => by cases (show _ = [] from h); simp at e
  | _ :: _, _, 0, _, h, e => by
    obtain ⟨x, r, rfl, h1, _⟩ := h
    simp at e; subst e
    exact ⟨_, rfl, h1⟩
  | _ :: _, _, i + 1, _, h, e => by
    obtain ⟨x, r, rfl, _, h2⟩ := h
    obtain ⟨y, e1, e2⟩ := RepL.get' (i := i) h2 (by simpa using e)
    exact ⟨y, by simpa using e1, e2⟩
theorem RepL.append : ∀ {ws zs : List W} {xs ys : List V}, RepL K H ws xs → RepL K H zs ys → RepL K H (ws ++ zs) (xs ++ ys)
  | [], _, _, _, h, t => by cases (show _ = [] from h); exact t
  | _ :: _, _, _, _, h, t => by
    obtain ⟨x, r, rfl, h1, h2⟩ := h
    exact ⟨x, r ++ _, rfl, h1, RepL.append h2 t⟩
theorem RepL.one {w : W} {x : V} (h : Rep K H w x) : RepL K H [w] [x] := .cons h .nil
theorem RepL.take : ∀ {ws : List W} {xs : List V} (n : Nat), RepL K H ws xs → RepL K H (ws.take n) (xs.take n)
  | _, _, 0, _ => by simp; rfl
  | [], _, n + 1, h => by cases (show _ = [] from h); rfl
  | _ :: _, _, n + 1, h => by
    obtain ⟨x, r, rfl, h1, h2⟩ := h
    exact ⟨x, r.take n, rfl, h1, RepL.take n h2⟩
theorem RepL.drop : ∀ {ws : List W} {xs : List V} (n : Nat), RepL K H ws xs → RepL K H (ws.drop n) (xs.drop n)
  | _, _, 0, h => by simpa using h
  | [], _, n + 1, h => by cases (show _ = [] from h); rfl
  | _ :: _, _, n + 1, h => by
    obtain ⟨x, r, rfl, h1, h2⟩ := h
    simpa using RepL.drop n h2
theorem RepL.set {w : W} {x : V} (q : Rep K H w x) : ∀ {ws : List W} {xs : List V} (i : Nat), RepL K H ws xs → RepL K H (ws.set i w) (xs.set i x)
  | [], _, _, h => by cases (show _ = [] from h); rfl
  | _ :: _, _, 0, h => by
    obtain ⟨y, r, rfl, h1, h2⟩ := h
    exact ⟨x, r, rfl, q, h2⟩
  | _ :: _, _, i + 1, h => by
    obtain ⟨y, r, rfl, h1, h2⟩ := h
    exact ⟨y, r.set i x, rfl, h1, RepL.set q i h2⟩
theorem RepL.reverse : ∀ {ws : List W} {xs : List V}, RepL K H ws xs → RepL K H ws.reverse xs.reverse
  | [], _, h => by cases (show _ = [] from h); rfl
  | _ :: _, _, h => by
    obtain ⟨y, r, rfl, h1, h2⟩ := h
    rw [List.reverse_cons, List.reverse_cons]
    exact RepL.append (RepL.reverse h2) (.one h1)
theorem RepL.dropLast : ∀ {ws : List W} {xs : List V}, RepL K H ws xs → RepL K H ws.dropLast xs.dropLast := fun {ws xs} h => by
  rw [List.dropLast_eq_take, List.dropLast_eq_take, h.length]
  exact h.take _
theorem RepL.eraseIdx : ∀ {ws : List W} {xs : List V} (i : Nat), RepL K H ws xs → RepL K H (ws.eraseIdx i) (xs.eraseIdx i) := fun {ws xs} i h => by
  rw [List.eraseIdx_eq_take_drop_succ, List.eraseIdx_eq_take_drop_succ]
  exact (h.take i).append (h.drop (i + 1))
theorem RepL.ints {ns : List Int} : ∀ {xs : List V}, RepL K H (ns.map W.int) xs → xs = ns.map V.int := by
  induction ns with
  | nil => intro xs h; exact h
  | cons n ns ih =>
    intro xs h
    obtain ⟨x, r, rfl, h1, h2⟩ := h
    rw [show x = V.int n from h1, ih h2]
    rfl
theorem RepL.ofInts {ns : List Int} : RepL K H (ns.map W.int) (ns.map V.int) := by
  induction ns with
  | nil => rfl
  | cons n ns ih => exact ⟨_, _, rfl, rfl, ih⟩
theorem RepL.bls {ns : List Bool} : ∀ {xs : List V}, RepL K H (ns.map W.bl) xs → xs = ns.map V.bl := by
  induction ns with
  | nil => intro xs h; exact h
  | cons n ns ih =>
    intro xs h
    obtain ⟨x, r, rfl, h1, h2⟩ := h
    rw [show x = V.bl n from h1, ih h2]
    rfl
theorem RepL.strs {ns : List Str} : ∀ {xs : List V}, RepL K H (ns.map W.str) xs → xs = ns.map V.str := by
  induction ns with
  | nil => intro xs h; exact h
  | cons n ns ih =>
    intro xs h
    obtain ⟨x, r, rfl, h1, h2⟩ := h
    rw [show x = V.str n from h1, ih h2]
    rfl
theorem RepL.ofStrs {ns : List Str} : RepL K H (ns.map W.str) (ns.map V.str) := by
  induction ns with
  | nil => rfl
  | cons n ns ih => exact ⟨_, _, rfl, rfl, ih⟩
end

/-! ### the store -/
inductive Cell where
  | lst (ws : List W)
  | dk (kvs : List (Key × W))
  | ins (C : Addr) (fs : List (Str × W))
def RepKV {κ : Type} (K : PySem.W.Frag) (H : Hp) : List (κ × W) → List (κ × V) → Prop
  | [], ys => ys = []
  | p :: ps, ys => ∃ v r, ys = (p.1, v) :: r ∧ Rep K H p.2 v ∧ RepKV K H ps r
theorem RepKV.tk {κ : Type} {K : PySem.W.Frag} {H H' : Hp} (t : Tk H H') : ∀ (ps : List (κ × W)) (ys : List (κ × V)), RepKV K H ps ys → RepKV K H' ps ys
  | [], _, h => h
  | p :: ps, _, h => by
    obtain ⟨v, r, e, h1, h2⟩ := h
    exact ⟨v, r, e, Rep.tk t _ v h1, RepKV.tk t ps r h2⟩
def CRep (K : PySem.W.Frag) (H : Hp) (a : Addr) : Cell → Prop
  | .lst ws => ∃ xs, H a = some (.lst xs) ∧ RepL K H ws xs
  | .dk kvs => ∃ ys, H a = some (.dK ys) ∧ RepKV K H kvs ys
  | .ins C fs => ∃ dx gs, H a = some (.ins C dx gs) ∧ RepKV K H fs gs
abbrev Sto := Addr → Option Cell
def put (S : Sto) (a : Addr) (c : Cell) : Sto := fun b => if b = a then some c else S b
theorem put_same {S : Sto} {a : Addr} {c : Cell} : put S a c a = some c := by unfold put; rw [if_pos rfl]
theorem put_ne {S : Sto} {a b : Addr} {c : Cell} (h : b ≠ a) : put S a c b = S b := by unfold put; rw [if_neg h]
theorem put_put {S : Sto} {a : Addr} {c d : Cell} : put (put S a c) a d = put S a d := by
  funext b; unfold put; split <;> rfl
theorem put_comm {S : Sto} {a b : Addr} {c d : Cell} (h : a ≠ b) : put (put S a c) b d = put (put S b d) a c := by
  funext z; unfold put
  by_cases h1 : z = b
  · rw [if_pos h1]
    by_cases h2 : z = a
    · exact absurd (h2.symm.trans h1) h
    · rw [if_neg h2, if_pos h1]
  · rw [if_neg h1]
    by_cases h2 : z = a
    · rw [if_pos h2, if_pos h2]
    · rw [if_neg h2, if_neg h2, if_neg h1]
theorem put_self {S : Sto} {a : Addr} {c : Cell} (h : S a = some c) : put S a c = S := by
  funext z; unfold put
  by_cases h2 : z = a
  · rw [if_pos h2, h2, h]
  · rw [if_neg h2]
/-- a smaller store -/
def Sub (S S' : Sto) : Prop := ∀ a c, S a = some c → S' a = some c
theorem Sub.refl (S : Sto) : Sub S S := fun _ _ h => h
theorem Sub.trans {S S1 S2 : Sto} (a : Sub S S1) (b : Sub S1 S2) : Sub S S2 := fun x c h => b x c (a x c h)
theorem Sub.new {S : Sto} {p : Addr} {c : Cell} (h : S p = none) : Sub S (put S p c) := fun a d e => by
  by_cases q : a = p
  · rw [q, h] at e; cases e
  · rw [put_ne q]; exact e
theorem Sub.put {S S' : Sto} {p : Addr} {c : Cell} (h : Sub S S') : Sub (put S p c) (put S' p c) := fun a d e => by
  by_cases q : a = p
  · rw [q, put_same] at e ⊢; exact e
  · rw [put_ne q] at e ⊢; exact h a d e
/-- new in the greater, not spoken of in the smaller -/
theorem Sub.put_new {S S' : Sto} {p : Addr} {c : Cell} (h : Sub S S') (n : S p = none) : Sub S (Wl.put S' p c) := fun a d e => by
  by_cases q : a = p
  · rw [q, n] at e; cases e
  · rw [put_ne q]; exact h a d e
theorem Sub.free {S S' : Sto} {p : Addr} (h : Sub S S') (n : S' p = none) : S p = none := by
  cases q : S p with
  | none => rfl
  | some c => rw [h p c q] at n; cases n
def HRep (K : PySem.W.Frag) (H : Hp) (S : Sto) : Prop := ∀ a c, S a = some c → CRep K H a c
theorem CRep.some {K : PySem.W.Frag} {H : Hp} {a : Addr} {c : Cell} (h : CRep K H a c) : ∃ o, H a = some o ∧ (∀ xs, o ≠ .tup xs) ∧ (∀ ob u, o ≠ .frz ob u) := by
  cases c with
  | lst ws => obtain ⟨xs, e, _⟩ := h; exact ⟨_, e, fun _ z => (by cases z), fun _ _ z => (by cases z)⟩
  | dk ws => obtain ⟨xs, e, _⟩ := h; exact ⟨_, e, fun _ z => (by cases z), fun _ _ z => (by cases z)⟩
  | ins C ws => obtain ⟨dx, xs, e, _⟩ := h; exact ⟨_, e, fun _ z => (by cases z), fun _ _ z => (by cases z)⟩
theorem CRep.tk {K : PySem.W.Frag} {H H' : Hp} {a : Addr} {c : Cell} (t : Tk H H') (e : H' a = H a) (h : CRep K H a c) : CRep K H' a c := by
  cases c with
  | lst ws => obtain ⟨xs, q, r⟩ := h; exact ⟨xs, by rw [e]; exact q, RepL.tk t _ _ r⟩
  | dk ws => obtain ⟨xs, q, r⟩ := h; exact ⟨xs, by rw [e]; exact q, RepKV.tk t _ _ r⟩
  | ins C ws => obtain ⟨dx, xs, q, r⟩ := h; exact ⟨dx, xs, by rw [e]; exact q, RepKV.tk t _ _ r⟩
section
variable {K : PySem.W.Frag} {H H' : Hp} {S S' : Sto} {p : Addr} {o : HO} {c : Cell}
theorem HRep.fresh (h : HRep K H S) (n : H p = none) : S p = none := by
  cases q : S p with
  | none => rfl
  | some c =>
    obtain ⟨o, e, _⟩ := (h p c q).some
    rw [n] at e; cases e
theorem HRep.sub (h : HRep K H S') (s : Sub S S') : HRep K H S := fun a c e => h a c (s a c e)
theorem HRep.laid (h : HRep K H S) (n : H p = none) : HRep K (upd H p o) S := fun a c e => by
  obtain ⟨u, q, _⟩ := (h a c e).some
  exact (h a c e).tk (Tk.new n) (upd_ne (ne_of_none q n))
theorem HRep.new (h : HRep K H S) (n : H p = none) (hc : CRep K (upd H p o) p c) : HRep K (upd H p o) (put S p c) := fun a d e => by
  by_cases q : a = p
  · subst q; rw [put_same] at e; cases e; exact hc
  · rw [put_ne q] at e; exact h.laid n a d e
theorem HRep.mut {c' : Cell} (h : HRep K H S) (e : S p = some c) (hc : CRep K (upd H p o) p c') : Tk H (upd H p o) ∧ HRep K (upd H p o) (put S p c') := by
  obtain ⟨u, q, h1, h2⟩ := (h p c e).some
  have t : Tk H (upd H p o) := Tk.mut q h1 h2
  refine ⟨t, fun a d z => ?_⟩
  by_cases y : a = p
  · subst y; rw [put_same] at z; cases z; exact hc
  · rw [put_ne y] at z
    exact (h a d z).tk t (upd_ne y)
end

/-! ### the frame -/
abbrev StW := List (Option W)
structure SRep (K : PySem.W.Frag) (B H : Hp) (σ : L2.St) (ρ : StW) : Prop where
  bs : Tk B H
  len : σ.length = ρ.length
  at_ : ∀ (i : Nat) (w : W), ρ[i]? = some (some w) → ∃ v, σ[i]? = some (some v) ∧ Rep K H w v
section
variable {K : PySem.W.Frag} {B H H' : Hp} {σ : L2.St} {ρ : StW}
theorem SRep.tk (h : SRep K B H σ ρ) (t : Tk H H') : SRep K B H' σ ρ := ⟨h.bs.trans t, h.len, fun i w e => by
  obtain ⟨v, e1, e2⟩ := h.at_ i w e
  exact ⟨v, e1, Rep.tk t w v e2⟩⟩
theorem SRep.set {w : W} {v : V} (h : SRep K B H σ ρ) (i : Nat) (r : Rep K H w v) : SRep K B H (σ.set i (some v)) (ρ.set i (some w)) := ⟨h.bs, by rw [List.length_set, List.length_set, h.len], fun j z e => by
  by_cases q : i = j
  · subst q
    by_cases hl : i < ρ.length
    · rw [List.getElem?_set_self hl] at e
      cases e
      exact ⟨v, List.getElem?_set_self (by rw [h.len]; exact hl), r⟩
    · rw [List.getElem?_eq_none (by rw [List.length_set]; omega)] at e
      cases e
  · rw [List.getElem?_set_ne q] at e ⊢
    exact h.at_ j z e⟩
theorem SRep.init {N : List Str} {ws : List W} {vs : List V} (r : RepL K H ws vs) : SRep K H H (L2.start N vs) (ws.map some ++ List.replicate (N.length - ws.length) none) := by
  have hl := r.length
  refine ⟨Tk.refl H, by unfold L2.start; simp [hl], fun i w e => ?_⟩
  unfold L2.start
  by_cases h : i < ws.length
  · rw [List.getElem?_append_left (by simpa using h), List.getElem?_map] at e
    cases q : ws[i]? with
    | none => rw [q] at e; cases e
    | some z =>
      rw [q] at e
      have e' : z = w := by injection e with e; injection e
      subst e'
      obtain ⟨x, hx, rx⟩ := r.get q
      refine ⟨x, ?_, rx⟩
      rw [List.getElem?_append_left (by simp [hl]; exact h), List.getElem?_map, hx]
      rfl
  · rw [List.getElem?_append_right (by simpa using h), List.getElem?_replicate] at e
    split at e <;> cases e
end
/-- the frame at a def's entry -/
def startW (N : List Str) (ws : List W) : StW := ws.map some ++ List.replicate (N.length - ws.length) none

/-! ### readings over data -/
abbrev WK := W → Sto → Prop
abbrev TEW := StW → Sto → WK → Prop
abbrev TTW := StW → Sto → (Bool → Sto → Prop) → Prop
abbrev TAW := StW → Sto → (List W → Sto → Prop) → Prop
abbrev TOW := StW → Sto → (Option Int → Sto → Prop) → Prop
abbrev RW2 := W → W → Sto → WK → Prop
abbrev RW1 := W → Sto → WK → Prop
abbrev RWC := List W → Sto → WK → Prop
structure EndsW where
  nx : StW → Sto → Prop
  rt : WK
  bk : StW → Sto → Prop := fun _ _ => False
  ct : StW → Sto → Prop := fun _ _ => False
abbrev TSW := EndsW → StW → Sto → Prop

def PoE (K : PySem.W.Frag) (H : Hp) (Q : VK) (Qw : WK) : Prop := ∀ v H' w S', Tk H H' → HRep K H' S' → Rep K H' w v → Qw w S' → Q v H'
def PoT (K : PySem.W.Frag) (H : Hp) (Q : Bool → Hp → Prop) (Qw : Bool → Sto → Prop) : Prop := ∀ b H' S', Tk H H' → HRep K H' S' → Qw b S' → Q b H'
def PoA (K : PySem.W.Frag) (H : Hp) (Q : List V → Hp → Prop) (Qw : List W → Sto → Prop) : Prop := ∀ vs H' ws S', Tk H H' → HRep K H' S' → RepL K H' ws vs → Qw ws S' → Q vs H'
def PoO (K : PySem.W.Frag) (H : Hp) (Q : Option Int → Hp → Prop) (Qw : Option Int → Sto → Prop) : Prop := ∀ b H' S', Tk H H' → HRep K H' S' → Qw b S' → Q b H'
def PoS (K : PySem.W.Frag) (B H : Hp) (Q : L2.St → Hp → Prop) (Qw : StW → Sto → Prop) : Prop := ∀ σ' H' ρ' S', Tk H H' → SRep K B H' σ' ρ' → HRep K H' S' → Qw ρ' S' → Q σ' H'
theorem PoE.tk {K : PySem.W.Frag} {H H1 : Hp} {Q : VK} {Qw : WK} (h : PoE K H Q Qw) (t : Tk H H1) : PoE K H1 Q Qw := fun v H' w S' t' => h v H' w S' (t.trans t')
theorem PoT.tk {K : PySem.W.Frag} {H H1 : Hp} {Q : Bool → Hp → Prop} {Qw : Bool → Sto → Prop} (h : PoT K H Q Qw) (t : Tk H H1) : PoT K H1 Q Qw := fun v H' S' t' => h v H' S' (t.trans t')
theorem PoA.tk {K : PySem.W.Frag} {H H1 : Hp} {Q : List V → Hp → Prop} {Qw : List W → Sto → Prop} (h : PoA K H Q Qw) (t : Tk H H1) : PoA K H1 Q Qw := fun v H' w S' t' => h v H' w S' (t.trans t')
theorem PoO.tk {K : PySem.W.Frag} {H H1 : Hp} {Q : Option Int → Hp → Prop} {Qw : Option Int → Sto → Prop} (h : PoO K H Q Qw) (t : Tk H H1) : PoO K H1 Q Qw := fun v H' S' t' => h v H' S' (t.trans t')
theorem PoS.tk {K : PySem.W.Frag} {B H H1 : Hp} {Q : L2.St → Hp → Prop} {Qw : StW → Sto → Prop} (h : PoS K B H Q Qw) (t : Tk H H1) : PoS K B H1 Q Qw := fun v H' w S' t' => h v H' w S' (t.trans t')
section
variable {K : PySem.W.Frag} {H H1 : Hp} {S : Sto} {Q : VK} {Qw : WK}
theorem PoE.int {i : Int} (po : PoE K H Q Qw) (t : Tk H H1) (hh : HRep K H1 S) (q : Qw (.int i) S) : Q (.int i) H1 := po _ H1 (.int i) S t hh rfl q
theorem PoE.str {i : Str} (po : PoE K H Q Qw) (t : Tk H H1) (hh : HRep K H1 S) (q : Qw (.str i) S) : Q (.str i) H1 := po _ H1 (.str i) S t hh rfl q
theorem PoE.bl {i : Bool} (po : PoE K H Q Qw) (t : Tk H H1) (hh : HRep K H1 S) (q : Qw (.bl i) S) : Q (.bl i) H1 := po _ H1 (.bl i) S t hh rfl q
theorem PoE.non (po : PoE K H Q Qw) (t : Tk H H1) (hh : HRep K H1 S) (q : Qw .non S) : Q .non H1 := po _ H1 .non S t hh rfl q
theorem PoE.ref {a : Addr} (po : PoE K H Q Qw) (t : Tk H H1) (hh : HRep K H1 S) (q : Qw (.ref a) S) : Q (.ref a) H1 := po _ H1 (.ref a) S t hh rfl q
theorem PoE.tup {a : Addr} {xs : List V} {ws : List W} (po : PoE K H Q Qw) (t : Tk H H1) (hh : HRep K H1 S) (h : SqT K H1 a xs) (r : RepL K H1 ws xs) (q : Qw (.tup ws) S) : Q (.ref a) H1 := po _ H1 (.tup ws) S t hh ⟨a, xs, rfl, h, r⟩ q
/-- a new list -/
theorem PoE.nlst {p : Addr} {xs : List V} {ws : List W} (po : PoE K H Q Qw) (hp : H p = none) (hh : HRep K H S) (r : RepL K H ws xs) (q : ∀ p, S p = none → Qw (.ref p) (Wl.put S p (.lst ws))) : Q (.ref p) (upd H p (.lst xs)) :=
  po.ref (Tk.new hp) (hh.new (c := .lst ws) hp ⟨xs, upd_same, RepL.tk (Tk.new hp) _ _ r⟩) (q p (hh.fresh hp))
theorem PoE.ntup {p : Addr} {xs : List V} {ws : List W} (po : PoE K H Q Qw) (hp : H p = none) (hh : HRep K H S) (r : RepL K H ws xs) (q : Qw (.tup ws) S) : Q (.ref p) (upd H p (.tup xs)) :=
  po.tup (Tk.new hp) (hh.laid hp) (SqT.of upd_same) (RepL.tk (Tk.new hp) _ _ r) q
end
structure PoD (K : PySem.W.Frag) (B H : Hp) (D : Ends) (Dw : EndsW) : Prop where
  nx : PoS K B H D.nx Dw.nx
  bk : PoS K B H D.bk Dw.bk
  ct : PoS K B H D.ct Dw.ct
  rt : PoE K H D.rt Dw.rt
theorem PoD.tk {K : PySem.W.Frag} {B H H1 : Hp} {D : Ends} {Dw : EndsW} (h : PoD K B H D Dw) (t : Tk H H1) : PoD K B H1 D Dw := ⟨h.nx.tk t, h.bk.tk t, h.ct.tk t, h.rt.tk t⟩

class LE (K : PySem.W.Frag) (B : Hp) (t : TE) (tw : outParam TEW) : Prop where
  l : ∀ σ H ρ S Q Qw, SRep K B H σ ρ → HRep K H S → tw ρ S Qw → PoE K H Q Qw → t σ H Q
class LT (K : PySem.W.Frag) (B : Hp) (t : TT) (tw : outParam TTW) : Prop where
  l : ∀ σ H ρ S Q Qw, SRep K B H σ ρ → HRep K H S → tw ρ S Qw → PoT K H Q Qw → t σ H Q
class LA (K : PySem.W.Frag) (B : Hp) (t : TA) (tw : outParam TAW) : Prop where
  l : ∀ σ H ρ S Q Qw, SRep K B H σ ρ → HRep K H S → tw ρ S Qw → PoA K H Q Qw → t σ H Q
class LO (K : PySem.W.Frag) (B : Hp) (t : TO) (tw : outParam TOW) : Prop where
  l : ∀ σ H ρ S Q Qw, SRep K B H σ ρ → HRep K H S → tw ρ S Qw → PoO K H Q Qw → t σ H Q
class LS (K : PySem.W.Frag) (B : Hp) (t : TS) (tw : outParam TSW) : Prop where
  l : ∀ σ H ρ S D Dw, SRep K B H σ ρ → HRep K H S → tw Dw ρ S → PoD K B H D Dw → t D σ H
class L2R (K : PySem.W.Frag) (r : R2) (rw : outParam RW2) : Prop where
  l : ∀ H S x y wx wy Q Qw, HRep K H S → Rep K H wx x → Rep K H wy y → rw wx wy S Qw → PoE K H Q Qw → r x y H Q
class L1R (K : PySem.W.Frag) (r : V → Hp → VK → Prop) (rw : outParam RW1) : Prop where
  l : ∀ H S x wx Q Qw, HRep K H S → Rep K H wx x → rw wx S Qw → PoE K H Q Qw → r x H Q
class LCR (K : PySem.W.Frag) (r : List V → Hp → VK → Prop) (rw : outParam RWC) : Prop where
  l : ∀ H S xs ws Q Qw, HRep K H S → RepL K H ws xs → rw ws S Qw → PoE K H Q Qw → r xs H Q
class LMR (K : PySem.W.Frag) (r : V → List V → Hp → VK → Prop) (rw : outParam (W → List W → Sto → WK → Prop)) : Prop where
  l : ∀ H S x wx xs ws Q Qw, HRep K H S → Rep K H wx x → RepL K H ws xs → rw wx ws S Qw → PoE K H Q Qw → r x xs H Q
abbrev TGW := W → StW → Sto → (StW → Sto → Prop) → Prop
abbrev TGWs := List W → StW → Sto → (StW → Sto → Prop) → Prop
class LG (K : PySem.W.Frag) (B : Hp) (g : TG) (gw : outParam TGW) : Prop where
  l : ∀ v w σ H ρ S Q Qw, Rep K H w v → SRep K B H σ ρ → HRep K H S → gw w ρ S Qw → PoS K B H Q Qw → g v σ H Q
class LGs (K : PySem.W.Frag) (B : Hp) (g : TGs) (gw : outParam TGWs) : Prop where
  l : ∀ v w σ H ρ S Q Qw, RepL K H w v → SRep K B H σ ρ → HRep K H S → gw w ρ S Qw → PoS K B H Q Qw → g v σ H Q
end Wl
set_option Elab.async false
set_option linter.all false
set_option maxRecDepth 100000
set_option maxHeartbeats 2000000
namespace Wl
open PySem L2
variable {K : PySem.W.Frag} {B : Hp}

/-! ### names, constants -/
class KR (K : PySem.W.Frag) (v : V) (w : outParam W) : Prop where
  r : ∀ H, Rep K H w v
instance kr_non : KR K .non .non := ⟨fun _ => rfl⟩
instance kr_bl {b : Bool} : KR K (.bl b) (.bl b) := ⟨fun _ => rfl⟩
instance kr_int {i : Int} : KR K (.int i) (.int i) := ⟨fun _ => rfl⟩
instance kr_str {x : Str} : KR K (.str x) (.str x) := ⟨fun _ => rfl⟩
instance kr_ty {n : String} : KR K (.ty n) (.ty n) := ⟨fun _ => rfl⟩

def rdVar (o : Option (Option W)) (S : Sto) (Q : WK) : Prop := match o with
  | some (some w) => Q w S
  | _ => False
def wVar (i : Nat) : TEW := fun ρ S Q => rdVar ρ[i]? S Q
def wC (w : W) : TEW := fun _ S Q => Q w S
instance le_var {i : Nat} : LE K B (tVar i) (wVar i) := ⟨fun σ H ρ S Q Qw hs hh q po => by
  obtain ⟨w, e, q⟩ : ∃ w, ρ[i]? = some (some w) ∧ Qw w S := by
    unfold wVar rdVar at q
    split at q
    · rename_i w e
      exact ⟨w, e, q⟩
    · exact q.elim
  obtain ⟨v, e1, r⟩ := hs.at_ i w e
  exact ⟨v, e1, po v H w S (Tk.refl H) hh r q⟩⟩
instance le_c {v : V} {w : W} [k : KR K v w] : LE K B (tC v) (wC w) := ⟨fun σ H ρ S Q Qw _ hh q po => po v H w S (Tk.refl H) hh (k.r H) q⟩

/-! ### operators -/
def wOp (r : RW2) (ta tb : TEW) : TEW := fun ρ S Q => ta ρ S fun x S1 => tb ρ S1 fun y S2 => r x y S2 Q
def wUn (r : RW1) (ta : TEW) : TEW := fun ρ S Q => ta ρ S fun x S1 => r x S1 Q
instance le_op {r : R2} {ta tb : TE} {rw : RW2} {wa wb : TEW} [h : L2R K r rw] [a : LE K B ta wa] [b : LE K B tb wb] : LE K B (tOp r ta tb) (wOp rw wa wb) := ⟨fun σ H ρ S Q Qw hs hh q po =>
  a.l σ H ρ S _ _ hs hh q fun x H1 wx S1 t1 hh1 r1 q1 => b.l σ H1 ρ S1 _ _ (hs.tk t1) hh1 q1 fun y H2 wy S2 t2 hh2 r2 q2 =>
    h.l H2 S2 x y wx wy Q Qw hh2 (Rep.tk t2 _ _ r1) r2 q2 (po.tk (t1.trans t2))⟩
instance le_un {r : V → Hp → VK → Prop} {ta : TE} {rw : RW1} {wa : TEW} [h : L1R K r rw] [a : LE K B ta wa] : LE K B (tUn r ta) (wUn rw wa) := ⟨fun σ H ρ S Q Qw hs hh q po =>
  a.l σ H ρ S _ _ hs hh q fun x H1 wx S1 t1 hh1 r1 q1 => h.l H1 S1 x wx Q Qw hh1 r1 q1 (po.tk t1)⟩

/-! a + b -/
def rAddA (K : PySem.W.Frag) : R2 := fun x y H Q => rI0 (fun i j => .int (i + j)) x y H Q ∨ (∃ i j, x = .str i ∧ y = .str j ∧ i.length + j.length ≤ sizeLine ∧ Q (.str (i ++ j)) H) ∨ rCatT K x y H Q ∨ rCat x y H Q
theorem op_addA {X : Cx} : OpR X (binaryOp .Add) (rAddA X.K) := by
  intro pins s σ H x y v u Q I rx ry h
  rcases h with h | h | h | h
  · exact op_add pins s σ H x y v u Q I rx ry h
  · exact op_add_str pins s σ H x y v u Q I rx ry h
  · exact op_catT pins s σ H x y v u Q I rx ry h
  · exact op_cat pins s σ H x y v u Q I rx ry h
def wAdd : RW2 := fun x y S Q => match x, y with
  | .int i, .int j => Q (.int (i + j)) S
  | .str i, .str j => i.length + j.length ≤ sizeLine ∧ Q (.str (i ++ j)) S
  | .tup a, .tup b => a ≠ [] ∧ a.length + b.length ≤ sizeLine ∧ Q (.tup (a ++ b)) S
  | .ref a, .ref b => ∃ xs ys, S a = some (.lst xs) ∧ S b = some (.lst ys) ∧ xs.length + ys.length ≤ sizeLine ∧ ∀ p, S p = none → Q (.ref p) (put S p (.lst (xs ++ ys)))
  | _, _ => False
instance l2_add : L2R K (rAddA K) wAdd := ⟨fun H S x y wx wy Q Qw hh rx ry q po => by
  cases wx <;> cases wy <;> try exact q.elim
  · cases (show x = _ from rx); cases (show y = _ from ry)
    exact .inl ⟨_, _, rfl, rfl, po.int (Tk.refl H) hh q⟩
  · cases (show x = _ from rx); cases (show y = _ from ry)
    exact .inr (.inl ⟨_, _, rfl, rfl, q.1, po.str (Tk.refl H) hh q.2⟩)
  · cases (show x = _ from rx); cases (show y = _ from ry)
    obtain ⟨xs, ys, e1, e2, hl, q⟩ := q
    obtain ⟨as, h1, r1⟩ := hh _ _ e1
    obtain ⟨bs, h2, r2⟩ := hh _ _ e2
    refine .inr (.inr (.inr ⟨_, _, as, bs, rfl, rfl, h1, h2, by rw [r1.length, r2.length]; exact hl, fun p hp => ?_⟩))
    exact po.nlst hp hh (r1.append r2) q
  · obtain ⟨a, as, rfl, h1, r1⟩ := (show ∃ a xs, x = .ref a ∧ _ from rx)
    obtain ⟨b, bs, rfl, h2, r2⟩ := (show ∃ a xs, y = .ref a ∧ _ from ry)
    obtain ⟨hn, hl, q⟩ := q
    refine .inr (.inr (.inl ⟨a, b, as, bs, rfl, rfl, h1, h2, fun z => ?_, by rw [r1.length, r2.length]; exact hl, fun z => ?_, fun z p hp => ?_⟩))
    · subst z
      have := r1.length
      exact hn (List.length_eq_zero_iff.mp (by simpa using this.symm))
    · subst z
      have e : _ = [] := List.length_eq_zero_iff.mp (by simpa using (r2.length).symm)
      rw [e, List.append_nil] at q
      exact po.tup (Tk.refl H) hh h1 r1 q
    · exact po.ntup hp hh (r1.append r2) q⟩

/-! ints -/
def wII (f : Int → Int → Int) : RW2 := fun x y S Q => match x, y with
  | .int i, .int j => Q (.int (f i j)) S
  | _, _ => False
def wIC (C : Int → Int → Prop) (f : Int → Int → Int) : RW2 := fun x y S Q => match x, y with
  | .int i, .int j => C i j ∧ Q (.int (f i j)) S
  | _, _ => False
instance l2_ii {f : Int → Int → Int} : L2R K (rI0 fun i j => .int (f i j)) (wII f) := ⟨fun H S x y wx wy Q Qw hh rx ry q po => by
  cases wx <;> cases wy <;> try exact q.elim
  cases (show x = _ from rx); cases (show y = _ from ry)
  exact ⟨_, _, rfl, rfl, po.int (Tk.refl H) hh q⟩⟩
instance l2_ic {C : Int → Int → Prop} {f : Int → Int → Int} : L2R K (rI C fun i j => .int (f i j)) (wIC C f) := ⟨fun H S x y wx wy Q Qw hh rx ry q po => by
  cases wx <;> cases wy <;> try exact q.elim
  cases (show x = _ from rx); cases (show y = _ from ry)
  exact ⟨_, _, rfl, rfl, q.1, po.int (Tk.refl H) hh q.2⟩⟩
def CMulA (i j : Int) : Prop := CMul i j ∨ CMulW i j
def CDivA (i j : Int) : Prop := CDiv i j ∨ CDivW i j
theorem op_mulA {X : Cx} : OpR X (binaryOp .Mult) (rI CMulA fun i j => .int (i * j)) := by
  rintro pins s σ H x y v u Q I rx ry ⟨i, j, e1, e2, h | h, q⟩
  · exact op_mul pins s σ H x y v u Q I rx ry ⟨i, j, e1, e2, h, q⟩
  · exact op_mulW pins s σ H x y v u Q I rx ry ⟨i, j, e1, e2, h, q⟩
theorem op_fdivA {X : Cx} : OpR X (binaryOp .FloorDiv) (rI CDivA fun i j => .int (i / j)) := by
  rintro pins s σ H x y v u Q I rx ry ⟨i, j, e1, e2, h | h, q⟩
  · exact op_fdiv pins s σ H x y v u Q I rx ry ⟨i, j, e1, e2, h, q⟩
  · exact op_fdivW pins s σ H x y v u Q I rx ry ⟨i, j, e1, e2, h, q⟩
def wNeg : RW1 := fun x S Q => match x with
  | .int i => Q (.int (-i)) S
  | _ => False
instance l1_neg : L1R K (rU fun i => .int (-i)) wNeg := ⟨fun H S x wx Q Qw hh rx q po => by
  cases wx <;> try exact q.elim
  cases (show x = _ from rx)
  exact ⟨_, rfl, po.int (Tk.refl H) hh q⟩⟩

/-! ### comparisons -/
mutual
def datW : W → Bool
  | .non => true | .bl _ => true | .int _ => true | .str _ => true
  | .tup ws => datWs ws | .rl ws => datWs ws
  | .ref _ => false | .ty _ => false
def datWs : List W → Bool
  | [] => true
  | w :: ws => datW w && datWs ws
end
mutual
def toD : W → PyData
  | .non => .none | .bl b => .bool b | .int i => .int i | .str x => .str x
  | .tup ws => .tuple (toDs ws) | .rl ws => .list (toDs ws)
  | .ref _ => .none | .ty _ => .none
def toDs : List W → List PyData
  | [] => []
  | w :: ws => toD w :: toDs ws
end
mutual
theorem dp_of {H : Hp} : ∀ (w : W) (v : V), datW w = true → Rep K H w v → Dp K H v (toD w)
  | .non, _, _, h => by cases (show _ = _ from h); exact .non
  | .bl b, _, _, h => by cases (show _ = _ from h); exact .bl b
  | .int i, _, _, h => by cases (show _ = _ from h); exact .int i
  | .str x, _, _, h => by cases (show _ = _ from h); exact .str x
  | .tup ws, _, d, h => by
    obtain ⟨a, xs, rfl, h1, h2⟩ := h
    exact .tup h1 (dps_of ws xs (by unfold datW at d; exact d) h2)
  | .rl ws, _, d, h => by
    obtain ⟨a, xs, rfl, h1, h2⟩ := h
    exact .lst h1.sq (dps_of ws xs (by unfold datW at d; exact d) h2)
  | .ref _, _, d, _ => by unfold datW at d; cases d
  | .ty _, _, d, _ => by unfold datW at d; cases d
theorem dps_of {H : Hp} : ∀ (ws : List W) (xs : List V), datWs ws = true → RepL K H ws xs → DpAll K H xs (toDs ws)
  | [], _, _, h => by cases (show _ = [] from h); exact .nil
  | w :: ws, _, d, h => by
    obtain ⟨x, r, rfl, h1, h2⟩ := h
    unfold datWs at d
    rw [Bool.and_eq_true] at d
    exact .cons (dp_of w x d.1 h1) (dps_of ws r d.2 h2)
end
def rEqA (K : PySem.W.Frag) : R2 := fun x y H Q => rEq x y H Q ∨ rEqD K x y H Q
def rNeA (K : PySem.W.Frag) : R2 := fun x y H Q => rNe x y H Q ∨ rNeD K x y H Q
theorem op_eqA {X : Cx} (hu : X.A.units + 64 < cLine) : OpR X (compareOp .Eq) (rEqA X.K) := by
  intro pins s σ H x y v u Q I rx ry h
  rcases h with h | h
  · exact op_eq pins s σ H x y v u Q I rx ry h
  · exact op_eqD hu pins s σ H x y v u Q I rx ry h
theorem op_neA {X : Cx} (hu : X.A.units + 64 < cLine) : OpR X (compareOp .NotEq) (rNeA X.K) := by
  intro pins s σ H x y v u Q I rx ry h
  rcases h with h | h
  · exact op_ne pins s σ H x y v u Q I rx ry h
  · exact op_neD hu pins s σ H x y v u Q I rx ry h
def shW (x : W) : Prop := datW x = true ∧ SeqAt.shaped (toD x) = true
/-- a == b: the answer goes to k -/
def wEqK (x y : W) (S : Sto) (k : Bool → Prop) : Prop := match x, y with
  | .int i, .int j => k (decide (i = j))
  | .str i, .str j => k (decide (i = j))
  | .bl i, .bl j => k (decide (i = j))
  | .non, .non => k true
  | .non, .int _ => k false
  | .int _, .non => k false
  | .non, .str _ => k false
  | .str _, .non => k false
  | .non, .bl _ => k false
  | .bl _, .non => k false
  | .int _, .str _ => k false
  | .str _, .int _ => k false
  | .ref a, .ref b => ∃ xs ys, S a = some (.lst xs) ∧ S b = some (.lst ys) ∧ shW (.rl xs) ∧ shW (.rl ys) ∧ k (PyData.eqvAll (toDs xs) (toDs ys))
  | x, y => shW x ∧ shW y ∧ k (PyData.eqv (toD x) (toD y))
def wEq : RW2 := fun x y S Q => wEqK x y S fun b => Q (.bl b) S
def wNe : RW2 := fun x y S Q => wEqK x y S fun b => Q (.bl (!b)) S
theorem eqK_of {H : Hp} {S : Sto} {x y : V} {wx wy : W} {k : Bool → Prop} (hh : HRep K H S) (rx : Rep K H wx x) (ry : Rep K H wy y) (q : wEqK wx wy S k) :
    (∃ b, scal x y = true ∧ decide (x = y) = b ∧ k b) ∨ ∃ d e, Dp K H x d ∧ Dp K H y e ∧ SeqAt.shaped d = true ∧ SeqAt.shaped e = true ∧ k (PyData.eqv d e) := by
  have gen : shW wx ∧ shW wy ∧ k (PyData.eqv (toD wx) (toD wy)) → ∃ d e, Dp K H x d ∧ Dp K H y e ∧ SeqAt.shaped d = true ∧ SeqAt.shaped e = true ∧ k (PyData.eqv d e) :=
    fun ⟨h1, h2, h3⟩ => ⟨_, _, dp_of _ _ h1.1 rx, dp_of _ _ h2.1 ry, h1.2, h2.2, h3⟩
  cases wx <;> cases wy <;> first
    | exact .inr (gen q)
    | (cases (show x = _ from rx); cases (show y = _ from ry); refine .inl ⟨_, rfl, ?_, q⟩; first | rfl | (rw [dec_int]; rw [Bool.eq_iff_iff]; simp) | (rw [dec_str]; rw [Bool.eq_iff_iff]; simp) | (rw [dec_bl]; rw [Bool.eq_iff_iff]; simp))
    | skip
  · obtain ⟨xs, ys, e1, e2, h1, h2, q⟩ := q
    cases (show x = _ from rx); cases (show y = _ from ry)
    obtain ⟨as, g1, r1⟩ := hh _ _ e1
    obtain ⟨bs, g2, r2⟩ := hh _ _ e2
    refine .inr ⟨.list (toDs xs), .list (toDs ys), .lst (SqL.of g1) (dps_of _ _ ?_ r1), .lst (SqL.of g2) (dps_of _ _ ?_ r2), h1.2, h2.2, ?_⟩
    · have := h1.1; unfold datW at this; exact this
    · have := h2.1; unfold datW at this; exact this
    · rw [show PyData.eqv (.list (toDs xs)) (.list (toDs ys)) = PyData.eqvAll (toDs xs) (toDs ys) by first | rfl | simp [PyData.eqv]]
      exact q
instance l2_eq : L2R K (rEqA K) wEq := ⟨fun H S x y wx wy Q Qw hh rx ry q po => by
  rcases eqK_of hh rx ry q with ⟨b, e, e2, q⟩ | ⟨d, e, h1, h2, h3, h4, q⟩
  · exact .inl ⟨e, by rw [e2]; exact po.bl (Tk.refl H) hh q⟩
  · exact .inr ⟨d, e, h1, h2, h3, h4, po.bl (Tk.refl H) hh q⟩⟩
instance l2_ne : L2R K (rNeA K) wNe := ⟨fun H S x y wx wy Q Qw hh rx ry q po => by
  rcases eqK_of hh rx ry q with ⟨b, e, e2, q⟩ | ⟨d, e, h1, h2, h3, h4, q⟩
  · exact .inl ⟨e, by rw [e2]; exact po.bl (Tk.refl H) hh q⟩
  · exact .inr ⟨d, e, h1, h2, h3, h4, po.bl (Tk.refl H) hh q⟩⟩
/-- orders: ints, texts -/
def rOrd (p : Int → Int → Bool) (s : Str → Str → Bool) : R2 := fun x y H Q => (∃ i j, x = .int i ∧ y = .int j ∧ Q (.bl (p i j)) H) ∨ ∃ i j, x = .str i ∧ y = .str j ∧ Q (.bl (s i j)) H
def wOrd (p : Int → Int → Bool) (s : Str → Str → Bool) : RW2 := fun x y S Q => match x, y with
  | .int i, .int j => Q (.bl (p i j)) S
  | .str i, .str j => Q (.bl (s i j)) S
  | _, _ => False
instance l2_ord {p : Int → Int → Bool} {s : Str → Str → Bool} : L2R K (rOrd p s) (wOrd p s) := ⟨fun H S x y wx wy Q Qw hh rx ry q po => by
  cases wx <;> cases wy <;> try exact q.elim
  · cases (show x = _ from rx); cases (show y = _ from ry)
    exact .inl ⟨_, _, rfl, rfl, po.bl (Tk.refl H) hh q⟩
  · cases (show x = _ from rx); cases (show y = _ from ry)
    exact .inr ⟨_, _, rfl, rfl, po.bl (Tk.refl H) hh q⟩⟩
abbrev sLt (i j : Str) : Bool := decide (i.cps.toList < j.cps.toList)
theorem op_ltA {X : Cx} : OpR X (compareOp .Lt) (rOrd (fun i j => decide (i < j)) fun i j => sLt i j) := by
  intro pins s σ H x y v u Q I rx ry h
  rcases h with h | h
  · exact op_lt pins s σ H x y v u Q I rx ry h
  · exact op_lt_str pins s σ H x y v u Q I rx ry h
theorem op_leA {X : Cx} : OpR X (compareOp .LtE) (rOrd (fun i j => decide (i ≤ j)) fun i j => !sLt j i) := by
  intro pins s σ H x y v u Q I rx ry h
  rcases h with h | h
  · exact op_le pins s σ H x y v u Q I rx ry h
  · exact op_le_str pins s σ H x y v u Q I rx ry h
theorem op_gtA {X : Cx} : OpR X (compareOp .Gt) (rOrd (fun i j => decide (j < i)) fun i j => sLt j i) := by
  intro pins s σ H x y v u Q I rx ry h
  rcases h with h | h
  · exact op_gt pins s σ H x y v u Q I rx ry h
  · exact op_gt_str pins s σ H x y v u Q I rx ry h
theorem op_geA {X : Cx} : OpR X (compareOp .GtE) (rOrd (fun i j => decide (j ≤ i)) fun i j => !sLt i j) := by
  intro pins s σ H x y v u Q I rx ry h
  rcases h with h | h
  · exact op_ge pins s σ H x y v u Q I rx ry h
  · exact op_ge_str pins s σ H x y v u Q I rx ry h

/-! in -/
def flatW : W → Bool
  | .non => true | .bl _ => true | .int _ => true | .str _ => true
  | _ => false
def eqF : W → W → Bool
  | .non, .non => true
  | .bl a, .bl b => a == b
  | .bl a, .int b => (if a then 1 else 0) == b
  | .int a, .bl b => a == (if b then 1 else 0)
  | .int a, .int b => a == b
  | .str a, .str b => a == b
  | _, _ => false
def isInW (x : W) (ws : List W) : Bool := ws.any fun y => eqF y x
theorem flat_of {H : Hp} {w : W} {v : V} (r : Rep K H w v) (f : flatW w = true) : flatV v = true := by
  cases w <;> try (cases f)
  all_goals (cases (show v = _ from r); rfl)
theorem flats_of {H : Hp} : ∀ {ws : List W} {xs : List V}, RepL K H ws xs → ws.all flatW = true → xs.all flatV = true
  | [], _, h, _ => by cases (show _ = [] from h); rfl
  | w :: ws, _, h, f => by
    obtain ⟨x, r, rfl, h1, h2⟩ := h
    rw [List.all_cons, Bool.and_eq_true] at f ⊢
    exact ⟨flat_of h1 f.1, flats_of h2 f.2⟩
theorem eqF_of {H : Hp} {w z : W} {v x : V} (r : Rep K H w v) (f : flatW w = true) (r2 : Rep K H z x) (g : flatW z = true) : eqV v x = eqF w z := by
  cases w <;> cases z <;> first
    | (cases f; done)
    | (cases g; done)
    | (cases (show v = _ from r); cases (show x = _ from r2); rfl)
theorem isIn_of {H : Hp} {z : W} {x : V} (r2 : Rep K H z x) (g : flatW z = true) : ∀ {ws : List W} {xs : List V}, RepL K H ws xs → ws.all flatW = true → inV x xs = isInW z ws
  | [], _, h, _ => by cases (show _ = [] from h); rfl
  | w :: ws, _, h, f => by
    obtain ⟨y, r, rfl, h1, h2⟩ := h
    rw [List.all_cons, Bool.and_eq_true] at f
    have ih := isIn_of r2 g h2 f.2
    unfold inV isInW at ih ⊢
    rw [List.any_cons, List.any_cons, eqF_of h1 f.1 r2 g, ih]
def rInA (K : PySem.W.Frag) (neg : Bool) : R2 := fun x y H Q => rIn K neg x y H Q ∨ ∃ i j, x = .str i ∧ y = .str j ∧ Q (.bl (if neg then !(!(Builtin.Str.occurrences j i 0 j.length 1).isEmpty) else !(Builtin.Str.occurrences j i 0 j.length 1).isEmpty)) H
theorem op_inA {X : Cx} : OpR X (compareOp .In) (rInA X.K false) := by
  intro pins s σ H x y v u Q I rx ry h
  rcases h with h | h
  · exact op_in_seq pins s σ H x y v u Q I rx ry h
  · exact op_in_str pins s σ H x y v u Q I rx ry h
theorem op_notInA {X : Cx} : OpR X (compareOp .NotIn) (rInA X.K true) := by
  intro pins s σ H x y v u Q I rx ry h
  rcases h with h | h
  · exact op_notIn_seq pins s σ H x y v u Q I rx ry h
  · exact op_notin_str pins s σ H x y v u Q I rx ry h
def wInK (x y : W) (S : Sto) (k : Bool → Prop) : Prop := match x, y with
  | .str i, .str j => k (!(Builtin.Str.occurrences j i 0 j.length 1).isEmpty)
  | x, .tup ws => flatW x = true ∧ ws.all flatW = true ∧ k (isInW x ws)
  | x, .rl ws => flatW x = true ∧ ws.all flatW = true ∧ k (isInW x ws)
  | x, .ref a => flatW x = true ∧ ∃ ws, S a = some (.lst ws) ∧ ws.all flatW = true ∧ k (isInW x ws)
  | _, _ => False
def wIn (neg : Bool) : RW2 := fun x y S Q => wInK x y S fun b => Q (.bl (if neg then !b else b)) S
instance l2_in {neg : Bool} : L2R K (rInA K neg) (wIn neg) := ⟨fun H S x y wx wy Q Qw hh rx ry q po => by
  have go : ∀ {p : Addr} {xs : List V} {ws : List W}, y = .ref p → (SqL K H p xs ∨ SqT K H p xs) → RepL K H ws xs → flatW wx = true → ws.all flatW = true → Qw (.bl (if neg then !isInW wx ws else isInW wx ws)) S → rInA K neg x y H Q :=
    fun {p xs ws} e h r f g q => .inl ⟨p, xs, e, h, flat_of rx f, flats_of r g, by rw [isIn_of rx f r g]; exact po.bl (Tk.refl H) hh q⟩
  have tup : ∀ {ws : List W}, Rep K H (.tup ws) y → (flatW wx = true ∧ ws.all flatW = true ∧ Qw (.bl (if neg then !isInW wx ws else isInW wx ws)) S) → rInA K neg x y H Q := fun {ws} r q => by
    obtain ⟨a, xs, e, h1, h2⟩ := r
    exact go e (.inr h1) h2 q.1 q.2.1 q.2.2
  have rl : ∀ {ws : List W}, Rep K H (.rl ws) y → (flatW wx = true ∧ ws.all flatW = true ∧ Qw (.bl (if neg then !isInW wx ws else isInW wx ws)) S) → rInA K neg x y H Q := fun {ws} r q => by
    obtain ⟨a, xs, e, h1, h2⟩ := r
    exact go e (.inl h1.sq) h2 q.1 q.2.1 q.2.2
  have ref : ∀ {a : Addr}, Rep K H (.ref a) y → (flatW wx = true ∧ ∃ ws, S a = some (.lst ws) ∧ ws.all flatW = true ∧ Qw (.bl (if neg then !isInW wx ws else isInW wx ws)) S) → rInA K neg x y H Q := fun {a} r q => by
    obtain ⟨f, ws, e, g, q⟩ := q
    obtain ⟨xs, h1, h2⟩ := hh _ _ e
    exact go r (.inl (SqL.of h1)) h2 f g q
  cases wx <;> cases wy <;> first
    | exact q.elim
    | exact tup ry q
    | exact rl ry q
    | exact ref ry q
    | (cases (show x = _ from rx); cases (show y = _ from ry)
       refine .inr ⟨_, _, rfl, rfl, ?_⟩
       cases neg <;> exact po.bl (Tk.refl H) hh q)⟩

/-! chains -/
def wChain (r r' : RW2) (ta tb tc : TEW) : TEW := fun ρ S Q => ta ρ S fun x S1 => tb ρ S1 fun y S2 => r x y S2 fun z S3 => match z with
  | .bl k => (k = true → tc ρ S3 fun w S4 => r' y w S4 Q) ∧ (k = false → Q (.bl false) S3)
  | _ => False
instance le_chain {r r' : R2} {ta tb tc : TE} {rw rw' : RW2} {wa wb wc : TEW} [h : L2R K r rw] [h' : L2R K r' rw'] [a : LE K B ta wa] [b : LE K B tb wb] [c : LE K B tc wc] : LE K B (tChain r r' ta tb tc) (wChain rw rw' wa wb wc) := ⟨fun σ H ρ S Q Qw hs hh q po =>
  a.l σ H ρ S _ _ hs hh q fun x H1 wx S1 t1 hh1 r1 q1 => b.l σ H1 ρ S1 _ _ (hs.tk t1) hh1 q1 fun y H2 wy S2 t2 hh2 r2 q2 =>
    h.l H2 S2 x y wx wy _ _ hh2 (Rep.tk t2 _ _ r1) r2 q2 fun z H3 wz S3 t3 hh3 r3 q3 => by
      cases wz <;> try exact q3.elim
      rename_i k
      cases (show z = _ from r3)
      refine ⟨k, rfl, ?_⟩
      cases k with
      | true =>
        rw [if_pos rfl]
        exact c.l σ H3 ρ S3 _ _ (hs.tk ((t1.trans t2).trans t3)) hh3 (q3.1 rfl) fun w H4 ww S4 t4 hh4 r4 q4 => h'.l H4 S4 y w wy ww Q Qw hh4 (Rep.tk (t3.trans t4) _ _ r2) r4 q4 (po.tk (((t1.trans t2).trans t3).trans t4))
      | false =>
        rw [if_neg Bool.false_ne_true]
        exact po.bl ((t1.trans t2).trans t3) hh3 (q3.2 rfl)⟩

/-! ### tests -/
def wT (t : TEW) : TTW := fun ρ S Q => t ρ S fun x S1 => match x with
  | .bl k => Q k S1
  | _ => False
instance lt_test {t : TE} {tw : TEW} [a : LE K B t tw] : LT K B (tTest t) (wT tw) := ⟨fun σ H ρ S Q Qw hs hh q po =>
  a.l σ H ρ S _ _ hs hh q fun x H1 wx S1 t1 hh1 r1 q1 => by
    cases wx <;> try exact q1.elim
    rename_i k
    cases (show x = _ from r1)
    exact ⟨k, rfl, po _ H1 S1 t1 hh1 q1⟩⟩
instance lt_B {t : TE} {tw : TEW} [a : LE K B t tw] : LT K B (tB t) (wT tw) := ⟨fun σ H ρ S Q Qw hs hh q po =>
  a.l σ H ρ S _ _ hs hh q fun x H1 wx S1 t1 hh1 r1 q1 => by
    cases wx <;> try exact q1.elim
    rename_i k
    cases (show x = _ from r1)
    exact ⟨k, rfl, po _ H1 S1 t1 hh1 q1⟩⟩
def wAnd (t u : TTW) : TTW := fun ρ S Q => t ρ S fun c S1 => (c = true → u ρ S1 Q) ∧ (c = false → Q false S1)
def wOr (t u : TTW) : TTW := fun ρ S Q => t ρ S fun c S1 => (c = true → Q true S1) ∧ (c = false → u ρ S1 Q)
def wNot (t : TTW) : TTW := fun ρ S Q => t ρ S fun c S1 => Q (!c) S1
instance lt_and {t u : TT} {tw uw : TTW} [a : LT K B t tw] [b : LT K B u uw] : LT K B (tAnd t u) (wAnd tw uw) := ⟨fun σ H ρ S Q Qw hs hh q po =>
  a.l σ H ρ S _ _ hs hh q fun c H1 S1 t1 hh1 q1 => by
    cases c with
    | true => rw [if_pos rfl]; exact b.l σ H1 ρ S1 _ _ (hs.tk t1) hh1 (q1.1 rfl) (po.tk t1)
    | false => rw [if_neg Bool.false_ne_true]; exact po _ H1 S1 t1 hh1 (q1.2 rfl)⟩
instance lt_or {t u : TT} {tw uw : TTW} [a : LT K B t tw] [b : LT K B u uw] : LT K B (tOr t u) (wOr tw uw) := ⟨fun σ H ρ S Q Qw hs hh q po =>
  a.l σ H ρ S _ _ hs hh q fun c H1 S1 t1 hh1 q1 => by
    cases c with
    | true => rw [if_pos rfl]; exact po _ H1 S1 t1 hh1 (q1.1 rfl)
    | false => rw [if_neg Bool.false_ne_true]; exact b.l σ H1 ρ S1 _ _ (hs.tk t1) hh1 (q1.2 rfl) (po.tk t1)⟩
instance lt_not {t : TT} {tw : TTW} [a : LT K B t tw] : LT K B (tNot t) (wNot tw) := ⟨fun σ H ρ S Q Qw hs hh q po =>
  a.l σ H ρ S _ _ hs hh q fun c H1 S1 t1 hh1 q1 => po _ H1 S1 t1 hh1 q1⟩
def wYes : TTW := fun _ S Q => Q true S
instance lt_yes : LT K B tYes wYes := ⟨fun σ H ρ S Q Qw hs hh q po => po _ H S (Tk.refl H) hh q⟩
def wAndV (t u : TEW) : TEW := fun ρ S Q => t ρ S fun x S1 => match x with
  | .bl c => (c = true → u ρ S1 Q) ∧ (c = false → Q (.bl false) S1)
  | _ => False
def wOrV (t u : TEW) : TEW := fun ρ S Q => t ρ S fun x S1 => match x with
  | .bl c => (c = true → Q (.bl true) S1) ∧ (c = false → u ρ S1 Q)
  | _ => False
def wNotV (t : TEW) : TEW := fun ρ S Q => t ρ S fun x S1 => match x with
  | .bl c => Q (.bl (!c)) S1
  | _ => False
instance le_andV {t u : TE} {tw uw : TEW} [a : LE K B t tw] [b : LE K B u uw] : LE K B (tAndV t u) (wAndV tw uw) := ⟨fun σ H ρ S Q Qw hs hh q po =>
  a.l σ H ρ S _ _ hs hh q fun x H1 wx S1 t1 hh1 r1 q1 => by
    cases wx <;> try exact q1.elim
    rename_i c
    cases (show x = _ from r1)
    refine ⟨c, rfl, ?_⟩
    cases c with
    | true => rw [if_pos rfl]; exact b.l σ H1 ρ S1 _ _ (hs.tk t1) hh1 (q1.1 rfl) (po.tk t1)
    | false => rw [if_neg Bool.false_ne_true]; exact po.bl t1 hh1 (q1.2 rfl)⟩
instance le_orV {t u : TE} {tw uw : TEW} [a : LE K B t tw] [b : LE K B u uw] : LE K B (tOrV t u) (wOrV tw uw) := ⟨fun σ H ρ S Q Qw hs hh q po =>
  a.l σ H ρ S _ _ hs hh q fun x H1 wx S1 t1 hh1 r1 q1 => by
    cases wx <;> try exact q1.elim
    rename_i c
    cases (show x = _ from r1)
    refine ⟨c, rfl, ?_⟩
    cases c with
    | true => rw [if_pos rfl]; exact po.bl t1 hh1 (q1.1 rfl)
    | false => rw [if_neg Bool.false_ne_true]; exact b.l σ H1 ρ S1 _ _ (hs.tk t1) hh1 (q1.2 rfl) (po.tk t1)⟩
instance le_notV {t : TE} {tw : TEW} [a : LE K B t tw] : LE K B (tNotV t) (wNotV tw) := ⟨fun σ H ρ S Q Qw hs hh q po =>
  a.l σ H ρ S _ _ hs hh q fun x H1 wx S1 t1 hh1 r1 q1 => by
    cases wx <;> try exact q1.elim
    rename_i c
    cases (show x = _ from r1)
    exact ⟨c, rfl, po.bl t1 hh1 q1⟩⟩
def wIfE (t : TTW) (a b : TEW) : TEW := fun ρ S Q => t ρ S fun c S1 => (c = true → a ρ S1 Q) ∧ (c = false → b ρ S1 Q)
instance le_if {t : TT} {a b : TE} {tw : TTW} {aw bw : TEW} [h : LT K B t tw] [h1 : LE K B a aw] [h2 : LE K B b bw] : LE K B (tIf t a b) (wIfE tw aw bw) := ⟨fun σ H ρ S Q Qw hs hh q po =>
  h.l σ H ρ S _ _ hs hh q fun c H1 S1 t1 hh1 q1 => by
    cases c with
    | true => rw [if_pos rfl]; exact h1.l σ H1 ρ S1 _ _ (hs.tk t1) hh1 (q1.1 rfl) (po.tk t1)
    | false => rw [if_neg Bool.false_ne_true]; exact h2.l σ H1 ρ S1 _ _ (hs.tk t1) hh1 (q1.2 rfl) (po.tk t1)⟩

/-! ### displays, arguments -/
def wNil : TAW := fun _ S Q => Q [] S
def wCons (ta : TEW) (tr : TAW) : TAW := fun ρ S Q => ta ρ S fun x S1 => tr ρ S1 fun xs S2 => Q (x :: xs) S2
instance la_nil : LA K B tNil wNil := ⟨fun σ H ρ S Q Qw hs hh q po => po [] H [] S (Tk.refl H) hh (show RepL K H [] [] from rfl) q⟩
instance la_cons {ta : TE} {tr : TA} {wa : TEW} {wr : TAW} [a : LE K B ta wa] [b : LA K B tr wr] : LA K B (tCons ta tr) (wCons wa wr) := ⟨fun σ H ρ S Q Qw hs hh q po =>
  a.l σ H ρ S _ _ hs hh q fun x H1 wx S1 t1 hh1 r1 q1 => b.l σ H1 ρ S1 _ _ (hs.tk t1) hh1 q1 fun xs H2 ws S2 t2 hh2 r2 q2 =>
    po _ H2 _ S2 (t1.trans t2) hh2 (.cons (Rep.tk t2 _ _ r1) r2) q2⟩
/-- a size that is small at sight asks nothing -/
def fits (n : Nat) (A : Prop) : Prop := match Nat.ble n 1000 with
  | true => A
  | false => n ≤ sizeLine ∧ A
theorem fits_of {n : Nat} {A : Prop} (h : fits n A) : n ≤ sizeLine ∧ A := by
  unfold fits at h
  split at h
  · rename_i e
    exact ⟨Nat.le_trans (Nat.le_of_ble_eq_true e) (by decide), h⟩
  · exact h
theorem fits_mk {n : Nat} {A : Prop} (h : n ≤ sizeLine) (a : A) : fits n A := by
  unfold fits
  split
  · exact a
  · exact ⟨h, a⟩
def wTup (t : TAW) : TEW := fun ρ S Q => t ρ S fun ws S1 => fits ws.length (Q (.tup ws) S1)
def wLst (t : TAW) : TEW := fun ρ S Q => t ρ S fun ws S1 => fits ws.length (∀ p, S1 p = none → Q (.ref p) (put S1 p (.lst ws)))
instance le_tup {t : TA} {tw : TAW} [a : LA K B t tw] : LE K B (tTup t) (wTup tw) := ⟨fun σ H ρ S Q Qw hs hh q po =>
  a.l σ H ρ S _ _ hs hh q fun xs H1 ws S1 t1 hh1 r1 q1 => ⟨by rw [r1.length]; exact (fits_of q1).1, fun p hp =>
    (po.tk t1).ntup hp hh1 r1 (fits_of q1).2⟩⟩
instance le_lst {t : TA} {tw : TAW} [a : LA K B t tw] : LE K B (tLst t) (wLst tw) := ⟨fun σ H ρ S Q Qw hs hh q po =>
  a.l σ H ρ S _ _ hs hh q fun xs H1 ws S1 t1 hh1 r1 q1 => ⟨by rw [r1.length]; exact (fits_of q1).1, fun p hp =>
    (po.tk t1).nlst hp hh1 r1 (fits_of q1).2⟩⟩

/-! ### items, slices -/
theorem atI_of {H : Hp} {ws : List W} {xs : List V} {i : Int} {w : W} (r : RepL K H ws xs) (e : atI ws i = some w) : ∃ x, atI xs i = some x ∧ Rep K H w x := by
  unfold atI at e ⊢
  rw [r.length]
  cases q : ixN ws.length i with
  | none => rw [q] at e; cases e
  | some j =>
    rw [q] at e
    exact r.get e
def rdAt (o : Option W) (S : Sto) (Q : WK) : Prop := match o with
  | some w => Q w S
  | none => False
theorem rdAt_of {o : Option W} {S : Sto} {Q : WK} (h : rdAt o S Q) : ∃ w, o = some w ∧ Q w S := by
  cases o with
  | none => exact h.elim
  | some w => exact ⟨w, rfl, h⟩
def wIx : RW2 := fun x y S Q => match x, y with
  | .tup ws, .int i => rdAt (atI ws i) S Q
  | .rl ws, .int i => rdAt (atI ws i) S Q
  | .ref a, .int i => ∃ ws, S a = some (.lst ws) ∧ rdAt (atI ws i) S Q
  | .str z, .int i => z.length ≤ sizeLine ∧ ∃ c, atI z.cps.toList i = some c ∧ Q (.str ⟨#[c]⟩) S
  | _, _ => False
instance l2_ix : L2R K (rIx K) wIx := ⟨fun H S x y wx wy Q Qw hh rx ry q po => by
  cases wx <;> cases wy <;> try exact q.elim
  · cases (show x = _ from rx); cases (show y = _ from ry)
    obtain ⟨hl, c, e, q⟩ := q
    exact .inr (.inr ⟨_, _, c, rfl, rfl, hl, e, po.str (Tk.refl H) hh q⟩)
  · cases (show x = _ from rx); cases (show y = _ from ry)
    obtain ⟨ws, e, q⟩ := q
    obtain ⟨w, e2, q⟩ := rdAt_of q
    obtain ⟨xs, h1, h2⟩ := hh _ _ e
    obtain ⟨v, e3, r⟩ := atI_of h2 e2
    exact .inl ⟨_, xs, _, v, rfl, rfl, SqL.of h1, e3, po v H w S (Tk.refl H) hh r q⟩
  · cases (show y = _ from ry)
    obtain ⟨a, xs, rfl, h1, h2⟩ := rx
    obtain ⟨w, e2, q⟩ := rdAt_of q
    obtain ⟨v, e3, r⟩ := atI_of h2 e2
    exact .inr (.inl ⟨_, xs, _, v, rfl, rfl, h1, e3, po v H w S (Tk.refl H) hh r q⟩)
  · cases (show y = _ from ry)
    obtain ⟨a, xs, rfl, h1, h2⟩ := rx
    obtain ⟨w, e2, q⟩ := rdAt_of q
    obtain ⟨v, e3, r⟩ := atI_of h2 e2
    exact .inl ⟨_, xs, _, v, rfl, rfl, h1.sq, e3, po v H w S (Tk.refl H) hh r q⟩⟩

end Wl
set_option Elab.async false
set_option linter.all false
set_option maxRecDepth 100000
set_option maxHeartbeats 2000000
namespace HT
open PySem PySem.Spec PyProof.Rows L2
variable {prog : Program} {w : World} {A : Around} {E : Value → Shared → Prop} {s : Shared}
theorem getItem_tuple_whole {t sl : Addr} {items : Array Value} {vl vu : Value} {lo hi : Option Int} {Q : Value → Shared → Prop} (ht : IsTup s.heap t items) (hs : s.heap.IsSliceOf sl vl vu .none) (pl : IsPart vl lo) (pu : IsPart vu hi)
    (hw : sIx items.size 0 lo = 0 ∧ sIx items.size items.size hi = items.size)
    (h : Q (.ref t) s) : wpAny (model prog w) A (getItem (.ref t) (.ref sl)) Q E s := by
  obtain ⟨os, hos, hcs, hds⟩ := id hs
  have hTs : s.TypeIs (.ref sl) "slice" := ⟨os, hos, hcs⟩
  unfold getItem
  try with_reducible refine wpAny_holding ?_
  first | refine wpAny_bind (wpAny_pure ?_) | skip
  refine wpAny_bind (wpAny_sequenceKey ht.typeIs (by decide) ?_)
  refine wpAny_bind (wpAny_callSpecial?_slot (name := Str.ofString "__getitem__") ht.typeIs PyProof.Rows.slot_tuple_getitem
    (wpAny_call_entry PyProof.Rows.slot_tuple_getitem ht.typeIs entry_tuple_getitem ?_ (args_tuple_getitem _ _)))
  show wpAny _ _ (Builtin.Tuple.tupleItemsOf (.ref t) >>= _) _ _ s
  refine wpAny_bind (tupleItemsOf_ ht ?_)
  refine wpAny_bind (wpAny_typeOf hTs ?_)
  rw [if_pos (by decide)]
  refine wpAny_bind (sliceApplied_gen hs pl pu ?_)
  have hyes : ((((sIx items.size 0 lo : Nat) : Int) == 0 && (1 : Int) == 1 && (sIx items.size items.size hi - sIx items.size 0 lo) == items.size) = true) := by
    rw [hw.1, hw.2]
    simp
  show wpAny _ _ (if (((sIx items.size 0 lo : Nat) : Int) == 0 && (1 : Int) == 1 && (sIx items.size items.size hi - sIx items.size 0 lo) == items.size) = true then _ else _) _ _ s
  rw [if_pos hyes]
  have hT : s.TypeIs (.ref t) "tuple" := ht.typeIs
  first
    | exact wpAny_pure ⟨_, rfl, wpAny_pure h⟩
    | exact wpAny_bind (wpAny_pure ⟨_, rfl, wpAny_pure h⟩)
    | (refine wpAny_bind (wpAny_typeOf hT ?_); rw [if_pos (by decide)]; exact wpAny_pure ⟨_, rfl, wpAny_pure h⟩)
    | (refine wpAny_bind (wpAny_bind (wpAny_typeOf hT ?_))
       refine wpAny_pure ?_
       rw [if_pos (by decide)]
       exact wpAny_bind (wpAny_rule (wpAny_pure ⟨_, rfl, wpAny_pure h⟩)))
end HT
namespace Wl
open PySem PySem.Spec PyProof.Rows L2
variable {K : PySem.W.Frag} {B : Hp}

/-! ### slices -/
def rSlTw (K : PySem.W.Frag) : V → Option Int → Option Int → Hp → VK → Prop := fun x lo hi H Q => ∃ a xs, x = .ref a ∧ SqT K H a xs ∧ (HT.sIx xs.length 0 lo = 0 ∧ HT.sIx xs.length xs.length hi = xs.length) ∧ Q (.ref a) H
theorem sl_tupw {X : Cx} : SlR X (rSlTw X.K) := by
  intro pins s σ H x v vl vu lo hi sl Q I rx hs pl pu h
  obtain ⟨a, xs, rfl, hx, hw, q⟩ := h
  cases rx
  obtain ⟨its, r, ht, hz⟩ := I.tuple hx
  have hlen : its.toArray.size = xs.length := by rw [List.size_toArray]; exact r.length.symm
  refine ⟨"tuple", _, PyProof.Rows.slot_tuple_getitem.lookup, ht.typeIs, ?_⟩
  exact HT.getItem_tuple_whole ht hs pl pu (by rw [hlen]; exact hw) ⟨.ref a, H, I, rfl, q⟩
def rSlA (K : PySem.W.Frag) : V → Option Int → Option Int → Hp → VK → Prop := fun x lo hi H Q => rSlS x lo hi H Q ∨ rSlL K x lo hi H Q ∨ rSlT K x lo hi H Q ∨ rSlTw K x lo hi H Q
theorem sl_A {X : Cx} : SlR X (rSlA X.K) := by
  intro pins s σ H x v vl vu lo hi sl Q I rx hs pl pu h
  rcases h with h | h | h | h
  · exact sl_str pins s σ H x v vl vu lo hi sl Q I rx hs pl pu h
  · exact sl_list pins s σ H x v vl vu lo hi sl Q I rx hs pl pu h
  · exact sl_tup pins s σ H x v vl vu lo hi sl Q I rx hs pl pu h
  · exact sl_tupw pins s σ H x v vl vu lo hi sl Q I rx hs pl pu h
def cutL {α : Type} (xs : List α) (lo hi : Option Int) : List α := (xs.drop (HT.sIx xs.length 0 lo)).take (HT.sIx xs.length xs.length hi - HT.sIx xs.length 0 lo)
theorem cutL_rep {H : Hp} {ws : List W} {xs : List V} (r : RepL K H ws xs) (lo hi : Option Int) : RepL K H (cutL ws lo hi) (cutV xs lo hi) := by
  unfold cutL cutV
  rw [r.length]
  exact (r.drop _).take _
theorem cutL_whole {ws : List W} {lo hi : Option Int} (h : HT.sIx ws.length 0 lo = 0 ∧ HT.sIx ws.length ws.length hi = ws.length) : cutL ws lo hi = ws := by
  unfold cutL
  rw [h.1, h.2]
  simp
def wSlR (x : W) (lo hi : Option Int) (S : Sto) (Q : WK) : Prop := match x with
  | .str z => z.length ≤ sizeLine ∧ Q (.str (cutS z lo hi)) S
  | .tup ws => Q (.tup (cutL ws lo hi)) S
  | .rl ws => ∀ p, S p = none → Q (.ref p) (put S p (.lst (cutL ws lo hi)))
  | .ref a => ∃ ws, S a = some (.lst ws) ∧ ∀ p, S p = none → Q (.ref p) (put S p (.lst (cutL ws lo hi)))
  | _ => False
def wSl (te : TEW) (tl th : TOW) : TEW := fun ρ S Q => te ρ S fun x S1 => tl ρ S1 fun l S2 => th ρ S2 fun u S3 => wSlR x l u S3 Q
def wNoPart : TOW := fun _ S Q => Q none S
def wPart (t : TEW) : TOW := fun ρ S Q => t ρ S fun x S1 => match x with
  | .int i => Q (some i) S1
  | _ => False
instance lo_none : LO K B tNoPart wNoPart := ⟨fun σ H ρ S Q Qw hs hh q po => po _ H S (Tk.refl H) hh q⟩
instance lo_some {t : TE} {tw : TEW} [a : LE K B t tw] : LO K B (tPart t) (wPart tw) := ⟨fun σ H ρ S Q Qw hs hh q po => a.l σ H ρ S _ _ hs hh q fun x H1 wx S1 t1 hh1 r1 q1 => by
  cases wx <;> try exact q1.elim
  cases (show x = _ from r1)
  exact ⟨_, rfl, po _ H1 S1 t1 hh1 q1⟩⟩
instance le_sl {te : TE} {tl th : TO} {we : TEW} {wl wh : TOW} [a : LE K B te we] [b : LO K B tl wl] [c : LO K B th wh] : LE K B (tSl (rSlA K) te tl th) (wSl we wl wh) := ⟨fun σ H ρ S Q Qw hs hh q po =>
  a.l σ H ρ S _ _ hs hh q fun x H1 wx S1 t1 hh1 r1 q1 => b.l σ H1 ρ S1 _ _ (hs.tk t1) hh1 q1 fun lo H2 S2 t2 hh2 q2 => c.l σ H2 ρ S2 _ _ (hs.tk (t1.trans t2)) hh2 q2 fun hi H3 S3 t3 hh3 q3 => by
    have rx := Rep.tk (t2.trans t3) _ _ r1
    have t := (t1.trans t2).trans t3
    cases wx <;> try exact q3.elim
    · cases (show x = _ from rx)
      exact .inl ⟨_, rfl, q3.1, po.str t hh3 q3.2⟩
    · cases (show x = _ from rx)
      obtain ⟨ws, e, q⟩ := q3
      obtain ⟨xs, h1, h2⟩ := hh3 _ _ e
      exact .inr (.inl ⟨_, xs, rfl, SqL.of h1, fun p hp => (po.tk t).nlst hp hh3 (cutL_rep h2 lo hi) q⟩)
    · obtain ⟨a, xs, rfl, h1, h2⟩ := rx
      rename_i ws
      by_cases hw : HT.sIx xs.length 0 lo = 0 ∧ HT.sIx xs.length xs.length hi = xs.length
      · refine .inr (.inr (.inr ⟨a, xs, rfl, h1, hw, ?_⟩))
        have q4 : Qw (.tup (cutL ws lo hi)) S3 := q3
        rw [cutL_whole (by rw [← h2.length]; exact hw)] at q4
        exact po.tup t hh3 h1 h2 q4
      · exact .inr (.inr (.inl ⟨a, xs, rfl, h1, hw, fun p hp => (po.tk t).ntup hp hh3 (cutL_rep h2 lo hi) q3⟩))
    · obtain ⟨a, xs, rfl, h1, h2⟩ := rx
      exact .inr (.inl ⟨a, xs, rfl, h1.sq, fun p hp => (po.tk t).nlst hp hh3 (cutL_rep h2 lo hi) q3⟩)⟩

/-! ### built-in calls -/
def wCB (r : RWC) (t : TAW) : TEW := fun ρ S Q => t ρ S fun ws S1 => r ws S1 Q
instance le_cb {r : List V → Hp → VK → Prop} {t : TA} {rw : RWC} {tw : TAW} [h : LCR K r rw] [a : LA K B t tw] : LE K B (tCB r t) (wCB rw tw) := ⟨fun σ H ρ S Q Qw hs hh q po =>
  a.l σ H ρ S _ _ hs hh q fun xs H1 ws S1 t1 hh1 r1 q1 => h.l H1 S1 xs ws Q Qw hh1 r1 q1 (po.tk t1)⟩
theorem rep1 {H : Hp} {w : W} {xs : List V} (r : RepL K H [w] xs) : ∃ x, xs = [x] ∧ Rep K H w x := by
  obtain ⟨x, r, rfl, h1, h2⟩ := r
  cases (show r = [] from h2)
  exact ⟨x, rfl, h1⟩
theorem rep2 {H : Hp} {w z : W} {xs : List V} (r : RepL K H [w, z] xs) : ∃ x y, xs = [x, y] ∧ Rep K H w x ∧ Rep K H z y := by
  obtain ⟨x, r, rfl, h1, h2⟩ := r
  obtain ⟨y, rfl, h3⟩ := rep1 h2
  exact ⟨x, y, rfl, h1, h3⟩
/-- len -/
def wLen : RWC := fun ws S Q => match ws with
  | [.str z] => z.length ≤ sizeLine ∧ Q (.int z.length) S
  | [.tup ws] => Q (.int ws.length) S
  | [.rl ws] => Q (.int ws.length) S
  | [.ref a] => ∃ ws, S a = some (.lst ws) ∧ Q (.int ws.length) S
  | _ => False
abbrev rLenA (K : PySem.W.Frag) : List V → Hp → VK → Prop := fun xs H Q => ∃ x n, xs = [x] ∧ LenV K x H n ∧ Q (.int n) H
instance lc_len : LCR K (rLenA K) wLen := ⟨fun H S xs ws Q Qw hh r q po => by
  unfold wLen at q
  split at q
  · obtain ⟨x, rfl, h1⟩ := rep1 r
    cases (show x = _ from h1)
    exact ⟨_, _, rfl, ⟨q.1, rfl⟩, po.int (Tk.refl H) hh q.2⟩
  · obtain ⟨x, rfl, a, xs, rfl, h1, h2⟩ := rep1 r
    exact ⟨_, _, rfl, .inr ⟨xs, h1, h2.length.symm⟩, po.int (Tk.refl H) hh q⟩
  · obtain ⟨x, rfl, a, xs, rfl, h1, h2⟩ := rep1 r
    exact ⟨_, _, rfl, .inl ⟨xs, h1.sq, h2.length.symm⟩, po.int (Tk.refl H) hh q⟩
  · obtain ⟨x, rfl, h1⟩ := rep1 r
    cases (show x = _ from h1)
    obtain ⟨ws, e, q⟩ := q
    obtain ⟨xs, h1, h2⟩ := hh _ _ e
    exact ⟨_, _, rfl, .inl ⟨xs, SqL.of h1, h2.length.symm⟩, po.int (Tk.refl H) hh q⟩
  · exact q.elim⟩
/-- one int in, one out -/
def w1I (f : Int → Int) : RWC := fun ws S Q => match ws with
  | [.int i] => Q (.int (f i)) S
  | _ => False
instance lc_abs : LCR K (fun xs H Q => ∃ i, xs = [.int i] ∧ Q (.int (if i < 0 then -i else i)) H) (w1I fun i => if i < 0 then -i else i) := ⟨fun H S xs ws Q Qw hh r q po => by
  unfold w1I at q
  split at q
  · obtain ⟨x, rfl, h1⟩ := rep1 r
    cases (show x = _ from h1)
    exact ⟨_, rfl, po.int (Tk.refl H) hh q⟩
  · exact q.elim⟩
def w2I (f : Int → Int → Int) : RWC := fun ws S Q => match ws with
  | [.int i, .int j] => Q (.int (f i j)) S
  | _ => False
instance lc_2i {f : Int → Int → Int} : LCR K (fun xs H Q => ∃ i j, xs = [.int i, .int j] ∧ Q (.int (f i j)) H) (w2I f) := ⟨fun H S xs ws Q Qw hh r q po => by
  unfold w2I at q
  split at q
  · obtain ⟨x, y, rfl, h1, h2⟩ := rep2 r
    cases (show x = _ from h1)
    cases (show y = _ from h2)
    exact ⟨_, _, rfl, po.int (Tk.refl H) hh q⟩
  · exact q.elim⟩
/-- int(n), int(flag) -/
def wInt1 : RWC := fun ws S Q => match ws with
  | [.int i] => Q (.int i) S
  | [.bl k] => Q (.int (if k then 1 else 0)) S
  | _ => False
instance lc_int : LCR K (fun xs H Q => (∃ i, xs = [.int i] ∧ Q (.int i) H) ∨ ∃ k, xs = [.bl k] ∧ Q (.int (if k then 1 else 0)) H) wInt1 := ⟨fun H S xs ws Q Qw hh r q po => by
  unfold wInt1 at q
  split at q
  · obtain ⟨x, rfl, h1⟩ := rep1 r
    cases (show x = _ from h1)
    exact .inl ⟨_, rfl, po.int (Tk.refl H) hh q⟩
  · obtain ⟨x, rfl, h1⟩ := rep1 r
    cases (show x = _ from h1)
    exact .inr ⟨_, rfl, po.int (Tk.refl H) hh q⟩
  · exact q.elim⟩
/-- str(n) -/
def wStr1 : RWC := fun ws S Q => match ws with
  | [.int i] => i.natAbs.log2 < 1920 ∧ Q (.str (toString i)) S
  | _ => False
instance lc_str : LCR K (fun xs H Q => ∃ i, xs = [.int i] ∧ i.natAbs.log2 < 1920 ∧ Q (.str (toString i)) H) wStr1 := ⟨fun H S xs ws Q Qw hh r q po => by
  unfold wStr1 at q
  split at q
  · obtain ⟨x, rfl, h1⟩ := rep1 r
    cases (show x = _ from h1)
    exact ⟨_, rfl, q.1, po.str (Tk.refl H) hh q.2⟩
  · exact q.elim⟩
/-- list(xs) -/
abbrev rListA (K : PySem.W.Frag) : List V → Hp → VK → Prop := fun xs H Q => ∃ p ys, xs = [.ref p] ∧ (SqL K H p ys ∨ SqT K H p ys) ∧ ∀ l, H l = none → Q (.ref l) (upd H l (.lst ys))
def wList : RWC := fun ws S Q => match ws with
  | [.tup ws] => ∀ p, S p = none → Q (.ref p) (put S p (.lst ws))
  | [.rl ws] => ∀ p, S p = none → Q (.ref p) (put S p (.lst ws))
  | [.ref a] => ∃ ws, S a = some (.lst ws) ∧ ∀ p, S p = none → Q (.ref p) (put S p (.lst ws))
  | _ => False
instance lc_list : LCR K (rListA K) wList := ⟨fun H S xs ws Q Qw hh r q po => by
  unfold wList at q
  split at q
  · obtain ⟨x, rfl, a, xs, rfl, h1, h2⟩ := rep1 r
    exact ⟨a, xs, rfl, .inr h1, fun p hp => po.nlst hp hh h2 q⟩
  · obtain ⟨x, rfl, a, xs, rfl, h1, h2⟩ := rep1 r
    exact ⟨a, xs, rfl, .inl h1.sq, fun p hp => po.nlst hp hh h2 q⟩
  · obtain ⟨x, rfl, h1⟩ := rep1 r
    cases (show x = _ from h1)
    obtain ⟨ws, e, q⟩ := q
    obtain ⟨xs, h1, h2⟩ := hh _ _ e
    exact ⟨_, xs, rfl, .inl (SqL.of h1), fun p hp => po.nlst hp hh h2 q⟩
  · exact q.elim⟩
/-- tuple(xs) -/
abbrev rTupA (K : PySem.W.Frag) : List V → Hp → VK → Prop := fun xs H Q => ∃ p ys, xs = [.ref p] ∧ ((SqL K H p ys ∧ ∀ l, H l = none → Q (.ref l) (upd H l (.tup ys))) ∨ (SqT K H p ys ∧ Q (.ref p) H))
def wTupC : RWC := fun ws S Q => match ws with
  | [.tup ws] => Q (.tup ws) S
  | [.rl ws] => Q (.tup ws) S
  | [.ref a] => ∃ ws, S a = some (.lst ws) ∧ Q (.tup ws) S
  | _ => False
instance lc_tuple : LCR K (rTupA K) wTupC := ⟨fun H S xs ws Q Qw hh r q po => by
  unfold wTupC at q
  split at q
  · obtain ⟨x, rfl, a, xs, rfl, h1, h2⟩ := rep1 r
    exact ⟨a, xs, rfl, .inr ⟨h1, po.tup (Tk.refl H) hh h1 h2 q⟩⟩
  · obtain ⟨x, rfl, a, xs, rfl, h1, h2⟩ := rep1 r
    exact ⟨a, xs, rfl, .inl ⟨h1.sq, fun p hp => po.ntup hp hh h2 q⟩⟩
  · obtain ⟨x, rfl, h1⟩ := rep1 r
    cases (show x = _ from h1)
    obtain ⟨ws, e, q⟩ := q
    obtain ⟨xs, h1, h2⟩ := hh _ _ e
    exact ⟨_, xs, rfl, .inl ⟨SqL.of h1, fun p hp => po.ntup hp hh h2 q⟩⟩
  · exact q.elim⟩
/-- sum, all, any of a list -/
instance lc_sum : LCR K (rSum K) (fun ws S Q => ∃ (a : Addr) (ns : List Int), ws = [.ref a] ∧ S a = some (.lst (ns.map W.int)) ∧ Q (.int ns.sum) S) := ⟨fun H S xs ws Q Qw hh r q po => by
  obtain ⟨a, ns, rfl, e, q⟩ := q
  obtain ⟨x, rfl, h1⟩ := rep1 r
  cases (show x = _ from h1)
  obtain ⟨xs, h1, h2⟩ := hh _ _ e
  rw [h2.ints] at h1
  exact ⟨a, ns, rfl, SqL.of h1, po.int (Tk.refl H) hh q⟩⟩
def wAllC : RWC := fun ws S Q => ∃ (a : Addr) (bs : List Bool), ws = [.ref a] ∧ S a = some (.lst (bs.map W.bl)) ∧ Q (.bl (bs.all id)) S
def wAnyC : RWC := fun ws S Q => ∃ (a : Addr) (bs : List Bool), ws = [.ref a] ∧ S a = some (.lst (bs.map W.bl)) ∧ Q (.bl (bs.any id)) S
instance lc_all : LCR K (rAll K) wAllC := ⟨fun H S xs ws Q Qw hh r q po => by
  obtain ⟨a, ns, rfl, e, q⟩ := q
  obtain ⟨x, rfl, h1⟩ := rep1 r
  cases (show x = _ from h1)
  obtain ⟨xs, h1, h2⟩ := hh _ _ e
  rw [h2.bls] at h1
  exact ⟨a, ns, rfl, SqL.of h1, po.bl (Tk.refl H) hh q⟩⟩
instance lc_any : LCR K (rAny K) wAnyC := ⟨fun H S xs ws Q Qw hh r q po => by
  obtain ⟨a, ns, rfl, e, q⟩ := q
  obtain ⟨x, rfl, h1⟩ := rep1 r
  cases (show x = _ from h1)
  obtain ⟨xs, h1, h2⟩ := hh _ _ e
  rw [h2.bls] at h1
  exact ⟨a, ns, rfl, SqL.of h1, po.bl (Tk.refl H) hh q⟩⟩

/-! isinstance of built-in types -/
def tyName : W → Sto → Option String
  | .non, _ => some "NoneType" | .bl _, _ => some "bool" | .int _, _ => some "int" | .str _, _ => some "str"
  | .tup _, _ => some "tuple" | .rl _, _ => some "list" | .ty _, _ => none
  | .ref a, S => match S a with
    | some (.lst _) => some "list"
    | some (.dk _) => some "dict"
    | _ => none
def isTy (a b : String) : Option Bool :=
  if b = "int" then (if a = "int" ∨ a = "bool" then some true else if a = "str" ∨ a = "tuple" ∨ a = "list" ∨ a = "dict" ∨ a = "NoneType" then some false else none)
  else if b = "bool" ∨ b = "str" ∨ b = "tuple" ∨ b = "list" ∨ b = "dict" then
    (if a = b then some true else if a = "int" ∨ a = "bool" ∨ a = "str" ∨ a = "tuple" ∨ a = "list" ∨ a = "dict" ∨ a = "NoneType" then some false else none)
  else none
theorem isTy_kit {a b : String} {r : Bool} (h : isTy a b = some r) : kitB a b = some r := by
  have hb : b = "int" ∨ b = "bool" ∨ b = "str" ∨ b = "tuple" ∨ b = "list" ∨ b = "dict" := by
    unfold isTy at h
    split at h
    · exact .inl (by assumption)
    · split at h
      · exact .inr (by assumption)
      · cases h
  have ha : a = "int" ∨ a = "bool" ∨ a = "str" ∨ a = "tuple" ∨ a = "list" ∨ a = "dict" ∨ a = "NoneType" := by
    unfold isTy at h
    split at h
    · split at h
      · rename_i q; rcases q with q | q
        · exact .inl q
        · exact .inr (.inl q)
      · split at h
        · rename_i q; exact .inr (.inr q)
        · cases h
    · split at h
      · rename_i q
        split at h
        · rename_i e
          rcases q with q | q | q | q | q
          · exact .inr (.inl (e.trans q))
          · exact .inr (.inr (.inl (e.trans q)))
          · exact .inr (.inr (.inr (.inl (e.trans q))))
          · exact .inr (.inr (.inr (.inr (.inl (e.trans q)))))
          · exact .inr (.inr (.inr (.inr (.inr (.inl (e.trans q))))))
        · split at h
          · assumption
          · cases h
      · cases h
  rcases hb with rfl | rfl | rfl | rfl | rfl | rfl <;> rcases ha with rfl | rfl | rfl | rfl | rfl | rfl | rfl <;>
    (rw [← h]; decide +kernel)
theorem tyX_of {H : Hp} {S : Sto} {w : W} {v : V} {n : String} (hh : HRep K H S) (r : Rep K H w v) (h : tyName w S = some n) : TyX K H v (.type n) := by
  cases w with
  | non => cases (show v = _ from r); cases h; exact .base .non
  | bl b => cases (show v = _ from r); cases h; exact .base (.bl b)
  | int b => cases (show v = _ from r); cases h; exact .base (.int b)
  | str b => cases (show v = _ from r); cases h; exact .base (.str b)
  | ty n => cases h
  | ref a =>
    cases (show v = _ from r)
    unfold tyName at h
    simp only at h
    split at h
    · rename_i e
      cases h
      obtain ⟨xs, h1, _⟩ := hh _ _ e
      exact .base (.lst h1)
    · rename_i e
      cases h
      obtain ⟨xs, h1, _⟩ := hh _ _ e
      exact .base (.dK h1)
    · cases h
  | tup ws =>
    obtain ⟨a, xs, rfl, h1, _⟩ := r
    cases h
    rcases h1 with (h1 | ⟨o, h1⟩) | ⟨o, its, n, h1, h2, _⟩
    · exact .base (.tup h1)
    · exact .fTuple h1
    · exact .kTuple h1 h2
  | rl ws =>
    obtain ⟨a, xs, rfl, h1, _⟩ := r
    cases h
    rcases h1 with ⟨o, h1⟩ | ⟨o, its, n, h1, h2, _⟩
    · exact .base (.frz h1)
    · exact .kList h1 h2
def wIsi : RWC := fun ws S Q => match ws with
  | [x, .ty n] => ∃ t b, tyName x S = some t ∧ isTy t n = some b ∧ Q (.bl b) S
  | _ => False
instance lc_isi : LCR K (rIsi K) wIsi := ⟨fun H S xs ws Q Qw hh r q po => by
  unfold wIsi at q
  split at q
  · obtain ⟨x, y, rfl, h1, h2⟩ := rep2 r
    cases (show y = _ from h2)
    obtain ⟨t, b, e1, e2, q⟩ := q
    exact ⟨x, _, _, _, b, rfl, .ty _, tyX_of hh h1 e1, kit_ty (isTy_kit e2), po.bl (Tk.refl H) hh q⟩
  · exact q.elim⟩

/-! ### calls of the text's own defs -/
abbrev SpW := List W → Sto → WK → Prop
def liftSp (K : PySem.W.Frag) (sp : SpW) : Sp := fun vs H Q _ => ∃ ws S Qw, RepL K H ws vs ∧ HRep K H S ∧ sp ws S Qw ∧ PoE K H Q Qw
def wCall (sp : SpW) (t : TAW) : TEW := fun ρ S Q => t ρ S fun ws S1 => sp ws S1 Q
instance le_call {sp : SpW} {E : XK} {t : TA} {tw : TAW} [a : LA K B t tw] : LE K B (tCall (liftSp K sp) [] E t) (wCall sp tw) := ⟨fun σ H ρ S Q Qw hs hh q po =>
  a.l σ H ρ S _ _ hs hh q fun xs H1 ws S1 t1 hh1 r1 q1 => ⟨ws, S1, Qw, by rw [List.append_nil]; exact r1, hh1, q1, po.tk t1⟩⟩
section
variable {P : Program} {w : World} {mg : Str → Option Value} {base : Heap}
structure CalW (P : Program) (w : World) (K : PySem.W.Frag) (mg : Str → Option Value) (base : Heap) (k : Nat) (x : Str) (sp : SpW) : Prop where
  ex : ∃ (f : Addr) (fd : FuncData) (ps : List Str), FnOk P w K mg base CX0 k f fd ps (liftSp K sp) ∧ mg x = some (.ref f) ∧ PySem.W.keepIn K (.ref f) = true ∧ Binds K fd ps []
theorem CalW.mono {j k : Nat} {x : Str} {sp : SpW} (c : CalW P w K mg base j x sp) (h : j ≤ k) : CalW P w K mg base k x sp := by
  obtain ⟨f, fd, ps, F, r⟩ := c.ex
  exact ⟨f, fd, ps, F.mono h, r⟩
theorem CalW.imp {k : Nat} {x : Str} {sp sp' : SpW} (c : CalW P w K mg base k x sp) (h : ∀ ws S Q, sp' ws S Q → sp ws S Q) : CalW P w K mg base k x sp' := by
  obtain ⟨f, fd, ps, F, r⟩ := c.ex
  exact ⟨f, fd, ps, F.imp fun vs H Q E ⟨ws, S, Qw, h1, h2, h3, h4⟩ => ⟨ws, S, Qw, h1, h2, h _ _ _ h3, h4⟩, r⟩
theorem pe_w {X : Cx} {k j : Nat} {x : Str} {sp : SpW} {p pos : Pos} {e : Expr} {es : List Expr} {t : TA} (c : CalW X.prog X.w X.K X.mg X.base k x sp) (hr : Room j X.A) (hk : k ≤ j) (hg : Gl X x) (ha : PA X (e :: es) t)
    (hdb : (x == ("__debug__" : Str)) = false := by decide) (he : starEach (e :: es) X.env = (false, eval e X.env) :: starEach es X.env := by rfl) (hpl : (backTo pos (starEach es X.env)).any (·.1) = false := by rfl) :
    PE X (.Call (.Name x p) (e :: es) [] pos) (tCall (liftSp X.K sp) [] E0 t) := by
  obtain ⟨f, fd, ps, F, hm, kp, b⟩ := c.ex
  exact pe_call F (hr.mono hk) hg hm kp b .nil pass0 ha hdb he hpl
theorem pe_w0 {X : Cx} {k j : Nat} {x : Str} {sp : SpW} {p pos : Pos} (c : CalW X.prog X.w X.K X.mg X.base k x sp) (hr : Room j X.A) (hk : k ≤ j) (hg : Gl X x)
    (hdb : (x == ("__debug__" : Str)) = false := by decide) : PE X (.Call (.Name x p) [] [] pos) (tCall (liftSp X.K sp) [] E0 tNil) := by
  obtain ⟨f, fd, ps, F, hm, kp, b⟩ := c.ex
  exact pe_call0 F (hr.mono hk) hg hm kp b .nil pass0 hdb
/-- behind a def's end what is wanted may speak of a smaller store -/
def Fg (Q : WK) : WK := fun v S => ∃ S', Sub S' S ∧ Q v S'
theorem Fg.here {Q : WK} {v : W} {S : Sto} (h : Q v S) : Fg Q v S := ⟨S, Sub.refl S, h⟩
theorem calW {x : Str} {st : Stmt} {f : Addr} {fd : FuncData} {N ps : List Str} {k : Nat} {sp : SpW} (F : Fun K x x st f fd) (hm : mg x = some (.ref f)) (b : Binds K fd ps []) (SC : FnScope N ps (defScope st))
    (len : ∀ ws S Q, sp ws S Q → ws.length = ps.length)
    (hbody : ∀ (cdv : Value) (A : Around) (outer : List Env) (s : Shared) (H : Hp) (E : XK), Room k (A.deeper (envOfC x (defScope st) s.heap.objs.size f cdv)) →
      ∃ t tw, PSs (cxOf CX0 P w K mg base N x (defScope st) f cdv A outer s H E).nox (defBody st) t ∧ LS K H t tw ∧ ∀ ws S Q, sp ws S Q → tw { nx := fun _ S' => Fg Q .non S', rt := Fg Q } (startW N ws) S) :
    CalW P w K mg base (k + 1) x sp :=
  ⟨f, fd, ps, F.ok SC (fun vs H Q E ⟨ws, S, Qw, h1, _, h3, _⟩ => by rw [h1.length]; exact len _ _ _ h3) (fun cdv A outer s H vs Q E hr ⟨ws, S, Qw, h1, h2, h3, h4⟩ => by
    obtain ⟨t, tw, ht, hl, hq⟩ := hbody cdv A outer s H E hr
    refine ⟨t, ht, hl.l _ H (startW N ws) S _ _ (SRep.init h1) h2 (hq ws S Qw h3) ⟨?_, fun _ _ _ _ _ _ _ z => z.elim, fun _ _ _ _ _ _ _ z => z.elim, ?_⟩⟩
    · rintro σ' H' ρ' S' t1 _ hh ⟨S2, sub, q⟩
      exact h4.non t1 (hh.sub sub) q
    · rintro v H' w S' t1 hh r ⟨S2, sub, q⟩
      exact h4 v H' w S2 t1 (hh.sub sub) r q), hm, F.kp, b⟩
end

/-! ### methods -/
def tyB (T : String) : W → Sto → Prop
  | .str _, _ => T = "str"
  | .int _, _ => T = "int"
  | .rl _, _ => T = "list"
  | .ref a, S => (T = "list" ∧ ∃ ws, S a = some (.lst ws)) ∨ (T = "dict" ∧ ∃ kvs, S a = some (.dk kvs))
  | _, _ => False
theorem tyB_of {H : Hp} {S : Sto} {T : String} {w : W} {v : V} (hh : HRep K H S) (r : Rep K H w v) (h : tyB T w S) : tyV K T v H := by
  cases w with
  | str x => cases (show v = _ from r); exact h
  | int x => cases (show v = _ from r); exact h
  | rl ws => obtain ⟨a, xs, rfl, h1, _⟩ := r; exact .inl ⟨h, xs, h1.sq⟩
  | ref a =>
    cases (show v = _ from r)
    rcases h with ⟨h, ws, e⟩ | ⟨h, kvs, e⟩
    · obtain ⟨xs, h1, _⟩ := hh _ _ e
      exact .inl ⟨h, xs, SqL.of h1⟩
    · obtain ⟨xs, h1, _⟩ := hh _ _ e
      exact .inr (.inr (.inl ⟨h, .inl ⟨xs, h1⟩⟩))
  | _ => exact h.elim
def wBM (T : String) (r : W → List W → Sto → WK → Prop) (to : TEW) (t : TAW) : TEW := fun ρ S Q => to ρ S fun x S1 => tyB T x S1 ∧ t ρ S1 fun xs S2 => r x xs S2 Q
def wBM0 (T : String) (r : W → List W → Sto → WK → Prop) (to : TEW) : TEW := fun ρ S Q => to ρ S fun x S1 => tyB T x S1 ∧ r x [] S1 Q
instance le_bm {T : String} {r : V → List V → Hp → VK → Prop} {to : TE} {t : TA} {rw : W → List W → Sto → WK → Prop} {wo : TEW} {tw : TAW} [h : LMR K r rw] [a : LE K B to wo] [b : LA K B t tw] : LE K B (tBM K T r to t) (wBM T rw wo tw) := ⟨fun σ H ρ S Q Qw hs hh q po =>
  a.l σ H ρ S _ _ hs hh q fun x H1 wx S1 t1 hh1 r1 q1 => ⟨tyB_of hh1 r1 q1.1, b.l σ H1 ρ S1 _ _ (hs.tk t1) hh1 q1.2 fun xs H2 ws S2 t2 hh2 r2 q2 => h.l H2 S2 x wx xs ws Q Qw hh2 (Rep.tk t2 _ _ r1) r2 q2 (po.tk (t1.trans t2))⟩⟩
instance le_bm0 {T : String} {r : V → List V → Hp → VK → Prop} {to : TE} {rw : W → List W → Sto → WK → Prop} {wo : TEW} [h : LMR K r rw] [a : LE K B to wo] : LE K B (tBM0 K T r to) (wBM0 T rw wo) := ⟨fun σ H ρ S Q Qw hs hh q po =>
  a.l σ H ρ S _ _ hs hh q fun x H1 wx S1 t1 hh1 r1 q1 => ⟨tyB_of hh1 r1 q1.1, h.l H1 S1 x wx [] [] Q Qw hh1 r1 RepL.nil q1.2 (po.tk t1)⟩⟩
def wAppend : W → List W → Sto → WK → Prop := fun x ws S Q => match x, ws with
  | .ref l, [y] => ∃ xs, S l = some (.lst xs) ∧ xs.length < sizeLine ∧ Q .non (put S l (.lst (xs ++ [y])))
  | _, _ => False
instance lm_append : LMR K rAppend wAppend := ⟨fun H S x wx xs ws Q Qw hh rx r q po => by
  unfold wAppend at q
  split at q
  · cases (show x = _ from rx)
    obtain ⟨y, rfl, ry⟩ := rep1 r
    obtain ⟨zs, e, hl, q⟩ := q
    obtain ⟨vs, h1, h2⟩ := hh _ _ e
    have t : Tk H (upd H _ (.lst (vs ++ [y]))) := Tk.mut h1 (fun _ z => (by cases z)) (fun _ _ z => (by cases z))
    obtain ⟨t, hm⟩ := hh.mut (c' := .lst _) (o := .lst (vs ++ [y])) e ⟨_, upd_same, (RepL.tk t _ _ h2).append (.one (Rep.tk t _ _ ry))⟩
    exact ⟨_, vs, y, rfl, rfl, h1, by rw [h2.length]; exact hl, po.non t hm q⟩
  · exact q.elim⟩
def wPop : W → List W → Sto → WK → Prop := fun x ws S Q => match x, ws with
  | .ref l, [] => ∃ xs y, S l = some (.lst xs) ∧ xs[xs.length - 1]? = some y ∧ Q y (put S l (.lst xs.dropLast))
  | _, _ => False
instance lm_pop : LMR K rPop wPop := ⟨fun H S x wx xs ws Q Qw hh rx r q po => by
  unfold wPop at q
  split at q
  · cases (show x = _ from rx)
    cases (show xs = [] from r)
    obtain ⟨zs, y, e, hy, q⟩ := q
    obtain ⟨vs, h1, h2⟩ := hh _ _ e
    obtain ⟨v, e2, rv⟩ := h2.get hy
    have t : Tk H (upd H _ (.lst vs.dropLast)) := Tk.mut h1 (fun _ z => (by cases z)) (fun _ _ z => (by cases z))
    obtain ⟨t, hm⟩ := hh.mut (c' := .lst _) (o := .lst vs.dropLast) e ⟨_, upd_same, (RepL.tk t _ _ h2).dropLast⟩
    exact ⟨_, vs, v, rfl, rfl, h1, by rw [h2.length]; exact e2, po v _ y _ t hm (Rep.tk t _ _ rv) q⟩
  · exact q.elim⟩
def wPopAt : W → List W → Sto → WK → Prop := fun x ws S Q => match x, ws with
  | .ref l, [.int i] => ∃ xs k y, S l = some (.lst xs) ∧ -(2 ^ 63) ≤ i ∧ i < 2 ^ 63 ∧ seqIndex? i xs.length = some k ∧ xs[k]? = some y ∧ Q y (put S l (.lst (xs.eraseIdx k)))
  | _, _ => False
instance lm_popAt : LMR K rPopAt wPopAt := ⟨fun H S x wx xs ws Q Qw hh rx r q po => by
  unfold wPopAt at q
  split at q
  · cases (show x = _ from rx)
    obtain ⟨i, rfl, ri⟩ := rep1 r
    cases (show i = _ from ri)
    obtain ⟨zs, k, y, e, b1, b2, b3, hy, q⟩ := q
    obtain ⟨vs, h1, h2⟩ := hh _ _ e
    obtain ⟨v, e2, rv⟩ := h2.get hy
    have t : Tk H (upd H _ (.lst (vs.eraseIdx k))) := Tk.mut h1 (fun _ z => (by cases z)) (fun _ _ z => (by cases z))
    obtain ⟨t, hm⟩ := hh.mut (c' := .lst _) (o := .lst (vs.eraseIdx k)) e ⟨_, upd_same, (RepL.tk t _ _ h2).eraseIdx k⟩
    exact ⟨_, vs, _, k, v, rfl, rfl, h1, b1, b2, by rw [h2.length]; exact b3, e2, po v _ y _ t hm (Rep.tk t _ _ rv) q⟩
  · exact q.elim⟩
def wReverse : W → List W → Sto → WK → Prop := fun x ws S Q => match x, ws with
  | .ref l, [] => ∃ xs, S l = some (.lst xs) ∧ Q .non (put S l (.lst xs.reverse))
  | _, _ => False
instance lm_reverse : LMR K rReverse wReverse := ⟨fun H S x wx xs ws Q Qw hh rx r q po => by
  unfold wReverse at q
  split at q
  · cases (show x = _ from rx)
    cases (show xs = [] from r)
    obtain ⟨zs, e, q⟩ := q
    obtain ⟨vs, h1, h2⟩ := hh _ _ e
    have t : Tk H (upd H _ (.lst vs.reverse)) := Tk.mut h1 (fun _ z => (by cases z)) (fun _ _ z => (by cases z))
    obtain ⟨t, hm⟩ := hh.mut (c' := .lst _) (o := .lst vs.reverse) e ⟨_, upd_same, (RepL.tk t _ _ h2).reverse⟩
    exact ⟨_, vs, rfl, rfl, h1, po.non t hm q⟩
  · exact q.elim⟩

/-! ### targets -/
def wName (i : Nat) : TGW := fun w ρ S Q => Q (ρ.set i (some w)) S
instance lg_name {i : Nat} : LG K B (gName i) (wName i) := ⟨fun v w σ H ρ S Q Qw r hs hh q po => po _ H _ S (Tk.refl H) (hs.set i r) hh q⟩
def wGNil : TGWs := fun ws ρ S Q => ws = [] ∧ Q ρ S
def wGCons (t : TGW) (u : TGWs) : TGWs := fun ws ρ S Q => match ws with
  | w :: r => t w ρ S fun ρ' S' => u r ρ' S' Q
  | [] => False
instance lgs_nil : LGs K B gNil wGNil := ⟨fun v w σ H ρ S Q Qw r hs hh q po => by
  obtain ⟨e, q⟩ := q
  subst e
  exact ⟨r, po _ H _ S (Tk.refl H) hs hh q⟩⟩
instance lgs_cons {t : TG} {u : TGs} {tw : TGW} {uw : TGWs} [a : LG K B t tw] [b : LGs K B u uw] : LGs K B (gCons t u) (wGCons tw uw) := ⟨fun v w σ H ρ S Q Qw r hs hh q po => by
  cases w with
  | nil => exact q.elim
  | cons w ws =>
    obtain ⟨x, xs, rfl, h1, h2⟩ := r
    exact ⟨x, xs, rfl, a.l x w σ H ρ S _ _ h1 hs hh q fun σ' H' ρ' S' t1 hs' hh' q' => b.l xs ws σ' H' ρ' S' _ _ (RepL.tk t1 _ _ h2) hs' hh' q' (po.tk t1)⟩⟩
def wGTup (n : Nat) (u : TGWs) : TGW := fun w ρ S Q => match w with
  | .tup ws => ws.length = n ∧ u ws ρ S Q
  | _ => False
instance lg_tup {n : Nat} {u : TGs} {uw : TGWs} [b : LGs K B u uw] : LG K B (gTup K n u) (wGTup n uw) := ⟨fun v w σ H ρ S Q Qw r hs hh q po => by
  cases w <;> try exact q.elim
  obtain ⟨a, xs, rfl, h1, h2⟩ := r
  exact ⟨a, xs, rfl, h1, by rw [h2.length]; exact q.1, b.l _ _ σ H ρ S _ _ h2 hs hh q.2 po⟩⟩
/-- xs[i] = e -/
def wGSub (to ti : TEW) : TGW := fun w ρ S Q => to ρ S fun o S1 => ti ρ S1 fun i S2 => match o, i with
  | .ref p, .int k => ∃ ws j, S2 p = some (.lst ws) ∧ ixN ws.length k = some j ∧ Q ρ (put S2 p (.lst (ws.set j w)))
  | _, _ => False
instance lg_sub {to ti : TE} {wo wi : TEW} [a : LE K B to wo] [b : LE K B ti wi] : LG K B (gSub to ti rSetL) (wGSub wo wi) := ⟨fun v w σ H ρ S Q Qw r hs hh q po =>
  a.l σ H ρ S _ _ hs hh q fun o H1 wo S1 t1 hh1 r1 q1 => b.l σ H1 ρ S1 _ _ (hs.tk t1) hh1 q1 fun i H2 wi S2 t2 hh2 r2 q2 => by
    have ro := Rep.tk t2 _ _ r1
    cases wo <;> cases wi <;> try exact q2.elim
    cases (show o = _ from ro)
    cases (show i = _ from r2)
    obtain ⟨ws, j, e, hj, q⟩ := q2
    obtain ⟨xs, h1, h2⟩ := hh2 _ _ e
    have rv := Rep.tk (t1.trans t2) _ _ r
    have t : Tk H2 (upd H2 _ (.lst (xs.set j v))) := Tk.mut h1 (fun _ z => (by cases z)) (fun _ _ z => (by cases z))
    obtain ⟨t, hm⟩ := hh2.mut (c' := .lst _) (o := .lst (xs.set j v)) e ⟨_, upd_same, RepL.set (Rep.tk t _ _ rv) j (RepL.tk t _ _ h2)⟩
    exact ⟨_, xs, _, j, rfl, rfl, h1, by rw [h2.length]; exact hj, po _ _ _ _ ((t1.trans t2).trans t) (hs.tk ((t1.trans t2).trans t)) hm q⟩⟩

/-! ### statements -/
def wNext : TSW := fun D ρ S => D.nx ρ S
def wSeq (t u : TSW) : TSW := fun D ρ S => t { D with nx := u D } ρ S
def wBreak : TSW := fun D ρ S => D.bk ρ S
def wCont : TSW := fun D ρ S => D.ct ρ S
def wAsg (te : TEW) (g : TGW) : TSW := fun D ρ S => te ρ S fun x S1 => g x ρ S1 D.nx
def wDrop (te : TEW) : TSW := fun D ρ S => te ρ S fun _ S1 => D.nx ρ S1
def wRet (te : TEW) : TSW := fun D ρ S => te ρ S D.rt
def wRetN : TSW := fun D _ S => D.rt .non S
def wIfS (c : TTW) (t u : TSW) : TSW := fun D ρ S => c ρ S fun b S1 => (b = true → t D ρ S1) ∧ (b = false → u D ρ S1)
instance ls_next : LS K B tNext wNext := ⟨fun σ H ρ S D Dw hs hh q po => po.nx σ H ρ S (Tk.refl H) hs hh q⟩
instance ls_seq {t u : TS} {tw uw : TSW} [a : LS K B t tw] [b : LS K B u uw] : LS K B (tSeq t u) (wSeq tw uw) := ⟨fun σ H ρ S D Dw hs hh q po =>
  a.l σ H ρ S { D with nx := u D } { Dw with nx := uw Dw } hs hh q ⟨fun σ' H' ρ' S' t1 hs' hh' q' => b.l σ' H' ρ' S' D Dw hs' hh' q' (po.tk t1), po.bk, po.ct, po.rt⟩⟩
instance ls_break : LS K B tBreak wBreak := ⟨fun σ H ρ S D Dw hs hh q po => po.bk σ H ρ S (Tk.refl H) hs hh q⟩
instance ls_cont : LS K B tCont wCont := ⟨fun σ H ρ S D Dw hs hh q po => po.ct σ H ρ S (Tk.refl H) hs hh q⟩
instance ls_asg {te : TE} {g : TG} {we : TEW} {gw : TGW} [a : LE K B te we] [b : LG K B g gw] : LS K B (tAsg te g) (wAsg we gw) := ⟨fun σ H ρ S D Dw hs hh q po =>
  a.l σ H ρ S _ _ hs hh q fun x H1 wx S1 t1 hh1 r1 q1 => b.l x wx σ H1 ρ S1 _ _ r1 (hs.tk t1) hh1 q1 (po.nx.tk t1)⟩
instance ls_drop {te : TE} {we : TEW} [a : LE K B te we] : LS K B (tDrop te) (wDrop we) := ⟨fun σ H ρ S D Dw hs hh q po =>
  a.l σ H ρ S _ _ hs hh q fun x H1 wx S1 t1 hh1 r1 q1 => po.nx σ H1 ρ S1 t1 (hs.tk t1) hh1 q1⟩
instance ls_ret {te : TE} {we : TEW} [a : LE K B te we] : LS K B (tRet te) (wRet we) := ⟨fun σ H ρ S D Dw hs hh q po => a.l σ H ρ S _ _ hs hh q po.rt⟩
instance ls_retN : LS K B tRetN wRetN := ⟨fun σ H ρ S D Dw hs hh q po => po.rt.non (Tk.refl H) hh q⟩
instance ls_if {c : TT} {t u : TS} {cw : TTW} {tw uw : TSW} [h : LT K B c cw] [a : LS K B t tw] [b : LS K B u uw] : LS K B (tIfS c t u) (wIfS cw tw uw) := ⟨fun σ H ρ S D Dw hs hh q po =>
  h.l σ H ρ S _ _ hs hh q fun k H1 S1 t1 hh1 q1 => by
    cases k with
    | true => rw [if_pos rfl]; exact a.l σ H1 ρ S1 D Dw (hs.tk t1) hh1 (q1.1 rfl) (po.tk t1)
    | false => rw [if_neg Bool.false_ne_true]; exact b.l σ H1 ρ S1 D Dw (hs.tk t1) hh1 (q1.2 rfl) (po.tk t1)⟩
/-- x += e, x -= e (ints) -/
def wAugI (i : Nat) (te : TEW) (f : Int → Int → Int) : TSW := fun D ρ S => ∃ x, ρ[i]? = some (some x) ∧ te ρ S fun y S1 => match x, y with
  | .int a, .int b => D.nx (ρ.set i (some (.int (f a b)))) S1
  | _, _ => False
instance ls_aug {i : Nat} {te : TE} {f : Int → Int → Int} {we : TEW} [a : LE K B te we] : LS K B (tAug i te (ipI f)) (wAugI i we f) := ⟨fun σ H ρ S D Dw hs hh ⟨x, e, q⟩ po => by
  obtain ⟨v, e1, r⟩ := hs.at_ i x e
  refine ⟨v, e1, a.l σ H ρ S _ _ hs hh q fun y H1 wy S1 t1 hh1 r1 q1 => ?_⟩
  cases x <;> cases wy <;> try exact q1.elim
  cases (show v = _ from r)
  cases (show y = _ from r1)
  rename_i n m
  exact ⟨_, _, rfl, rfl, po.nx _ H1 _ S1 t1 ((hs.tk t1).set i (w := .int (f n m)) (show Rep K H1 (.int (f n m)) (.int (f n m)) from rfl)) hh1 q1⟩⟩
def wWhile (c : TTW) (tb : TSW) : TSW := fun D ρ S => ∃ I : Nat → StW → Sto → Prop, (∃ m, I m ρ S) ∧ ∀ m ρ S, I m ρ S → c ρ S fun b S1 =>
  (b = true → tb { D with nx := fun ρ' S' => ∃ m', m' < m ∧ I m' ρ' S', ct := fun ρ' S' => ∃ m', m' < m ∧ I m' ρ' S', bk := D.nx } ρ S1) ∧ (b = false → D.nx ρ S1)
instance ls_while {c : TT} {tb : TS} {cw : TTW} {tw : TSW} [h : LT K B c cw] [a : LS K B tb tw] : LS K B (tWhile c tb) (wWhile cw tw) := ⟨fun σ H ρ S D Dw hs hh ⟨I, ⟨m0, i0⟩, st⟩ po => by
  refine ⟨fun m σ' H' => ∃ ρ' S', Tk H H' ∧ SRep K B H' σ' ρ' ∧ HRep K H' S' ∧ I m ρ' S', ⟨m0, ρ, S, Tk.refl H, hs, hh, i0⟩, ?_⟩
  rintro m σ1 H1 ⟨ρ1, S1, t1, hs1, hh1, i1⟩
  refine h.l σ1 H1 ρ1 S1 _ _ hs1 hh1 (st m ρ1 S1 i1) fun b H2 S2 t2 hh2 q2 => ?_
  cases b with
  | true =>
    rw [if_pos rfl]
    refine ⟨fun σ' H' => ∃ m', m' < m ∧ ∃ ρ' S', Tk H H' ∧ SRep K B H' σ' ρ' ∧ HRep K H' S' ∧ I m' ρ' S', fun σ' H' z => z, ?_⟩
    refine a.l σ1 H2 ρ1 S2 _ _ (hs1.tk t2) hh2 (q2.1 rfl) ⟨?_, ?_, ?_, po.rt.tk (t1.trans t2)⟩
    · rintro σ' H' ρ' S' t3 hs3 hh3 ⟨m', hm, q⟩
      exact ⟨m', hm, ρ', S', (t1.trans t2).trans t3, hs3, hh3, q⟩
    · exact po.nx.tk (t1.trans t2)
    · rintro σ' H' ρ' S' t3 hs3 hh3 ⟨m', hm, q⟩
      exact ⟨m', hm, ρ', S', (t1.trans t2).trans t3, hs3, hh3, q⟩
  | false =>
    rw [if_neg Bool.false_ne_true]
    exact po.nx σ1 H2 ρ1 S2 (t1.trans t2) (hs1.tk t2) hh2 (q2.2 rfl)⟩
end Wl
set_option Elab.async false
set_option linter.all false
set_option maxRecDepth 100000
set_option maxHeartbeats 2000000
namespace Wl
open PySem PySem.Spec PyProof.Rows L2
variable {K : PySem.W.Frag} {B : Hp}

/-! ### what a for walks -/
/-- the iterator J goes over the data ws while ok holds of the store -/
structure IsSrc (K : PySem.W.Frag) (H1 : Hp) (J : It) (ws : List W) (ok : Sto → Prop) : Prop where
  go : ∀ i H S, Tk H1 H → HRep K H S → ok S → i < ws.length → J.go i H
  yld : ∀ i H S x H', Tk H1 H → HRep K H S → ok S → i < ws.length → J.yld i H x H' → Tk H H' ∧ HRep K H' S ∧ ∃ w, ws[i]? = some w ∧ Rep K H' w x
  stop : ∀ i H S, Tk H1 H → HRep K H S → ok S → ws.length ≤ i → J.stop i H
abbrev TIW := StW → Sto → (List W → (Sto → Prop) → Sto → Prop) → Prop
class LI (K : PySem.W.Frag) (B : Hp) (t : TI) (tw : outParam TIW) : Prop where
  l : ∀ σ H ρ S R Rw, SRep K B H σ ρ → HRep K H S → tw ρ S Rw → (∀ J H' S' ws ok, Tk H H' → HRep K H' S' → IsSrc K H' J ws ok → Rw ws ok S' → R J H') → t σ H R

def anyS : Sto → Prop := fun _ => True
def keepS (a : Addr) (ws : List W) : Sto → Prop := fun S => S a = some (.lst ws)
theorem src_list {H1 : Hp} {a : Addr} {ws : List W} : IsSrc K H1 (Itl K a) ws (keepS a ws) where
  go := fun i H S t hh ok hi => by
    obtain ⟨xs, h1, h2⟩ := hh _ _ ok
    exact ⟨xs, xs[i]'(by rw [h2.length]; exact hi), SqL.of h1, by simp [h2.length, hi]⟩
  yld := fun i H S x H' t hh ok hi y => by
    obtain ⟨e, y⟩ := y
    subst e
    obtain ⟨xs, h1, h2⟩ := hh _ _ ok
    obtain ⟨w, e, r⟩ := h2.get' (y xs (SqL.of h1))
    exact ⟨Tk.refl _, hh, w, e, r⟩
  stop := fun i H S t hh ok hi => by
    obtain ⟨xs, h1, h2⟩ := hh _ _ ok
    exact ⟨xs, SqL.of h1, by rw [h2.length]; exact hi⟩
theorem src_rl {H1 : Hp} {a : Addr} {xs : List V} {ws : List W} (h : RdL K H1 a xs) (r : RepL K H1 ws xs) : IsSrc K H1 (Itl K a) ws anyS where
  go := fun i H S t hh ok hi => ⟨xs, xs[i]'(by rw [r.length]; exact hi), (t.rdl h).sq, by simp [r.length, hi]⟩
  yld := fun i H S x H' t hh ok hi y => by
    obtain ⟨e, y⟩ := y
    subst e
    obtain ⟨w, e, r⟩ := (RepL.tk t _ _ r).get' (y xs (t.rdl h).sq)
    exact ⟨Tk.refl _, hh, w, e, r⟩
  stop := fun i H S t hh ok hi => ⟨xs, (t.rdl h).sq, by rw [r.length]; exact hi⟩
theorem src_tup {H1 : Hp} {a : Addr} {xs : List V} {ws : List W} (h : SqT K H1 a xs) (r : RepL K H1 ws xs) : IsSrc K H1 (Itt K a) ws anyS where
  go := fun i H S t hh ok hi => ⟨xs, xs[i]'(by rw [r.length]; exact hi), t.sqt h, by simp [r.length, hi]⟩
  yld := fun i H S x H' t hh ok hi y => by
    obtain ⟨e, y⟩ := y
    subst e
    obtain ⟨w, e, r⟩ := (RepL.tk t _ _ r).get' (y xs (t.sqt h))
    exact ⟨Tk.refl _, hh, w, e, r⟩
  stop := fun i H S t hh ok hi => ⟨xs, t.sqt h, by rw [r.length]; exact hi⟩
/-- lo, lo + 1, .. n of them -/
def intsW (lo : Int) (n : Nat) : List W := (List.range n).map fun i => W.int (lo + (i : Nat))
theorem intsW_len {lo : Int} {n : Nat} : (intsW lo n).length = n := by unfold intsW; simp
theorem intsW_get {lo : Int} {n i : Nat} (h : i < n) : (intsW lo n)[i]? = some (W.int (lo + (i : Nat))) := by unfold intsW; simp [h]
theorem intsW_at {lo : Int} {n i : Nat} {w : W} (h : (intsW lo n)[i]? = some w) : i < n ∧ w = W.int (lo + (i : Nat)) := by
  unfold intsW at h
  rw [List.getElem?_map] at h
  by_cases q : i < n
  · rw [List.getElem?_range q] at h
    exact ⟨q, (Option.some.inj h).symm⟩
  · rw [List.getElem?_eq_none (by simpa using q)] at h
    cases h
theorem src_range {H1 : Hp} {lo : Int} {n : Nat} : IsSrc K H1 (Itr lo n) (intsW lo n) anyS where
  go := fun i H S t hh ok hi => by rw [intsW_len] at hi; exact hi
  yld := fun i H S x H' t hh ok hi y => by
    obtain ⟨e, y⟩ := y
    subst e y
    rw [intsW_len] at hi
    exact ⟨Tk.refl _, hh, W.int (lo + (i : Nat)), intsW_get hi, (show Rep K _ (W.int (lo + (i : Nat))) _ from rfl)⟩
  stop := fun i H S t hh ok hi => by rw [intsW_len] at hi; exact hi
/-- over a list, a tuple, a text -/
def signs (x : Str) : List W := x.cps.toList.map fun c => W.str ⟨#[c]⟩
theorem src_str {H1 : Hp} {x : Str} : IsSrc K H1 (Its x) (signs x) anyS where
  go := fun i H S t hh ok hi => by
    unfold signs at hi
    rw [List.length_map, Array.length_toList] at hi
    exact hi
  yld := fun i H S z H' t hh ok hi y => by
    obtain ⟨e, c, e2, e3⟩ := y
    subst e e3
    refine ⟨Tk.refl _, hh, .str ⟨#[c]⟩, ?_, (show Rep K _ (.str ⟨#[c]⟩) _ from rfl)⟩
    unfold signs
    rw [List.getElem?_map, Array.getElem?_toList, e2]
    rfl
  stop := fun i H S t hh ok hi => by
    unfold signs at hi
    rw [List.length_map, Array.length_toList] at hi
    exact hi
def iAny (K : PySem.W.Frag) (tl : TE) : TI := fun σ H R => tl σ H fun x H1 => (∃ a, x = .ref a ∧ (∃ xs, SqL K H1 a xs) ∧ R (Itl K a) H1) ∨ (∃ a, x = .ref a ∧ (∃ xs, SqT K H1 a xs) ∧ R (Itt K a) H1) ∨ ∃ z, x = .str z ∧ R (Its z) H1
theorem pi_any {X : Cx} {tg l : Expr} {tl : TE} (hl : PE X l tl) : PI X tg l (iAny X.K tl) := by
  refine ⟨fun pins s σ H R I h => ?_⟩
  refine thn (hl.run pins s σ H _ I h) fun v s1 ⟨x, H1, I1, r1, q1⟩ => ?_
  rcases q1 with ⟨a, e, ⟨xs, hq⟩, q⟩ | ⟨a, e, ⟨xs, hq⟩, q⟩ | ⟨x, ex, q⟩
  · subst e
    cases r1
    obtain ⟨its, rv, p, hz⟩ := I1.list hq
    refine wpAny_pyIter_list p.isList ?_
    refine ⟨s1.heap.objs.size, [s1.heap.objs.size], _, _, H1, rfl, I1.kept (t' := s1.toks) fun b o e => Heap.get?_push_of_some _ e, turn_list a _, ⟨_, Heap.get?_push_size _ rfl, rfl, rfl⟩, fun b hb => ?_, q⟩
    have e : b = s1.heap.objs.size := by simpa using hb
    subst e
    exact I1.fpOk (Nat.le_refl _) (I1.hok.fresh (Nat.le_refl _))
  · subst e
    cases r1
    obtain ⟨its, rv, p, hz⟩ := I1.tuple hq
    refine wpAny_pyIter_tuple (show s1.heap.IsTuple a its.toArray from p) ?_
    refine ⟨s1.heap.objs.size, [s1.heap.objs.size], _, _, H1, rfl, I1.kept (t' := s1.toks) fun b o e => Heap.get?_push_of_some _ e, turn_tuple a _, ⟨_, Heap.get?_push_size _ rfl, rfl, rfl⟩, fun b hb => ?_, q⟩
    have e : b = s1.heap.objs.size := by simpa using hb
    subst e
    exact I1.fpOk (Nat.le_refl _) (I1.hok.fresh (Nat.le_refl _))
  · subst ex
    obtain ⟨t, rfl⟩ := r1
    cases ha : x.cps.all (· < 128)
    · exact wpAny_pyIter_wide ha (pi_one (tk := s1.toks) I1 _ (turn_str _ x t "str_iterator" (.inr rfl)) ⟨_, Heap.get?_push_size _ rfl, rfl, rfl⟩ q)
    · exact wpAny_pyIter_ascii ha (pi_one (tk := s1.toks) I1 _ (turn_str _ x t "str_ascii_iterator" (.inl rfl)) ⟨_, Heap.get?_push_size _ rfl, rfl, rfl⟩ q)
def wiAny (te : TEW) : TIW := fun ρ S R => te ρ S fun x S1 => match x with
  | .tup ws => R ws anyS S1
  | .rl ws => R ws anyS S1
  | .str z => R (signs z) anyS S1
  | .ref a => ∃ ws, S1 a = some (.lst ws) ∧ R ws (keepS a ws) S1
  | _ => False
instance li_any {t : TE} {tw : TEW} [a : LE K B t tw] : LI K B (iAny K t) (wiAny tw) := ⟨fun σ H ρ S R Rw hs hh q po => a.l σ H ρ S _ _ hs hh q fun x H1 wx S1 t1 hh1 r1 q1 => by
  cases wx <;> try exact q1.elim
  · cases (show x = _ from r1)
    exact .inr (.inr ⟨_, rfl, po _ H1 S1 _ _ t1 hh1 src_str q1⟩)
  · cases (show x = _ from r1)
    obtain ⟨ws, e, q⟩ := q1
    obtain ⟨xs, h1, h2⟩ := hh1 _ _ e
    exact .inl ⟨_, rfl, ⟨xs, SqL.of h1⟩, po _ H1 S1 _ _ t1 hh1 src_list q⟩
  · obtain ⟨a, xs, rfl, h1, h2⟩ := r1
    exact .inr (.inl ⟨a, rfl, ⟨xs, h1⟩, po _ H1 S1 _ _ t1 hh1 (src_tup h1 h2) q1⟩)
  · obtain ⟨a, xs, rfl, h1, h2⟩ := r1
    exact .inl ⟨a, rfl, ⟨xs, h1.sq⟩, po _ H1 S1 _ _ t1 hh1 (src_rl h1 h2) q1⟩⟩
def wiR1 (ta : TAW) : TIW := fun ρ S R => ta ρ S fun ws S1 => match ws with
  | [.int j] => -(2 ^ 62) ≤ j ∧ j < 2 ^ 62 ∧ R (intsW 0 j.toNat) anyS S1
  | _ => False
def wiR2 (ta : TAW) : TIW := fun ρ S R => ta ρ S fun ws S1 => match ws with
  | [.int i, .int j] => (-(2 ^ 62) ≤ i ∧ i < 2 ^ 62 ∧ -(2 ^ 62) ≤ j ∧ j < 2 ^ 62) ∧ R (intsW i (j - i).toNat) anyS S1
  | _ => False
instance li_r1 {t : TA} {tw : TAW} [a : LA K B t tw] : LI K B (iRng1 t) (wiR1 tw) := ⟨fun σ H ρ S R Rw hs hh q po => a.l σ H ρ S _ _ hs hh q fun xs H1 ws S1 t1 hh1 r1 q1 => by
  split at q1
  · obtain ⟨x, rfl, h1⟩ := rep1 r1
    cases (show x = _ from h1)
    exact ⟨_, rfl, q1.1, q1.2.1, po _ H1 S1 _ _ t1 hh1 src_range q1.2.2⟩
  · exact q1.elim⟩
instance li_r2 {t : TA} {tw : TAW} [a : LA K B t tw] : LI K B (iRng2 t) (wiR2 tw) := ⟨fun σ H ρ S R Rw hs hh q po => a.l σ H ρ S _ _ hs hh q fun xs H1 ws S1 t1 hh1 r1 q1 => by
  split at q1
  · obtain ⟨x, y, rfl, h1, h2⟩ := rep2 r1
    cases (show x = _ from h1)
    cases (show y = _ from h2)
    exact ⟨_, _, rfl, q1.1, po _ H1 S1 _ _ t1 hh1 src_range q1.2⟩
  · exact q1.elim⟩

/-! ### for -/
def wFor (wi : TIW) (g : TGW) (tb : TSW) : TSW := fun D ρ S => wi ρ S fun ws ok S1 => ∃ P : Nat → StW → Sto → Prop, P 0 ρ S1 ∧ (∀ i ρ' S', P i ρ' S' → ok S') ∧
  (∀ i w ρ' S', ws[i]? = some w → P i ρ' S' → g w ρ' S' fun ρ2 S2 => tb { D with nx := P (i + 1), ct := P (i + 1), bk := D.nx } ρ2 S2) ∧ ∀ ρ' S', P ws.length ρ' S' → D.nx ρ' S'
instance ls_for {wi : TI} {g : TG} {tb : TS} {ww : TIW} {gw : TGW} {tw : TSW} [h : LI K B wi ww] [b : LG K B g gw] [a : LS K B tb tw] : LS K B (tFor wi g tb) (wFor ww gw tw) := ⟨fun σ H ρ S D Dw hs hh q po => by
  refine h.l σ H ρ S _ _ hs hh q fun J H1 S1 ws ok t1 hh1 src ⟨P, p0, pok, pst, pend⟩ => ?_
  refine ⟨fun i m σ' H' => m = ws.length - i ∧ i ≤ ws.length ∧ ∃ ρ' S', Tk H1 H' ∧ SRep K B H' σ' ρ' ∧ HRep K H' S' ∧ P i ρ' S', ⟨ws.length, by simp, Nat.zero_le _, ρ, S1, Tk.refl H1, hs.tk t1, hh1, p0⟩, ?_⟩
  rintro i m σ2 H2 ⟨rfl, hi, ρ2, S2, t2, hs2, hh2, p2⟩
  by_cases hlt : i < ws.length
  · refine .inr ⟨src.go i H2 S2 t2 hh2 (pok _ _ _ p2) hlt, fun σ' H' => ∃ ρ' S', Tk H1 H' ∧ SRep K B H' σ' ρ' ∧ HRep K H' S' ∧ P (i + 1) ρ' S', fun σ' H' z => ⟨ws.length - (i + 1), by omega, rfl, hlt, z⟩, fun x H3 y => ?_⟩
    obtain ⟨t3, hh3, w, e, r⟩ := src.yld i H2 S2 x H3 t2 hh2 (pok _ _ _ p2) hlt y
    refine b.l x w σ2 H3 ρ2 S2 _ _ r (hs2.tk t3) hh3 (pst i w ρ2 S2 e p2) fun σ4 H4 ρ4 S4 t4 hs4 hh4 q4 => ?_
    have t14 := (t2.trans t3).trans t4
    refine a.l σ4 H4 ρ4 S4 _ _ hs4 hh4 q4 ⟨?_, po.nx.tk (t1.trans t14), ?_, po.rt.tk (t1.trans t14)⟩
    · exact fun σ' H' ρ' S' t5 hs5 hh5 q5 => ⟨ρ', S', t14.trans t5, hs5, hh5, q5⟩
    · exact fun σ' H' ρ' S' t5 hs5 hh5 q5 => ⟨ρ', S', t14.trans t5, hs5, hh5, q5⟩
  · have e : i = ws.length := by omega
    subst e
    exact .inl ⟨src.stop _ H2 S2 t2 hh2 (pok _ _ _ p2) (Nat.le_refl _), po.nx σ2 H2 ρ2 S2 (t1.trans t2) hs2 hh2 (pend _ _ p2)⟩⟩

/-! ### comprehensions -/
def wipeW (ρ : StW) : List Nat → StW
  | [] => ρ
  | v :: vs => (wipeW ρ vs).set v none
theorem srep_wipe {H : Hp} {σ : L2.St} {ρ : StW} (h : SRep K B H σ ρ) : ∀ vs : List Nat, SRep K B H (wipe σ vs) (wipeW ρ vs)
  | [] => h
  | v :: vs => by
    have ih := srep_wipe h vs
    unfold wipe wipeW
    refine ⟨ih.bs, by rw [List.length_set, List.length_set, ih.len], fun j z e => ?_⟩
    by_cases q : v = j
    · subst q
      by_cases hl : v < (wipeW ρ vs).length
      · rw [List.getElem?_set_self hl] at e; cases e
      · rw [List.getElem?_eq_none (by rw [List.length_set]; omega)] at e; cases e
    · rw [List.getElem?_set_ne q] at e ⊢
      exact ih.at_ j z e
/-- a target that stores own names alone -/
class GW (g : TG) (vs : List Nat) : Prop where
  l : ∀ v σ H Q, g v (wipe σ vs) H Q → g v (wipe σ vs) H fun σ2 H2 => wipe σ2 vs = wipe σ vs ∧ Q σ2 H2
theorem wipe_at (σ : L2.St) (vs : List Nat) (i : Nat) : (wipe σ vs)[i]? = if i ∈ vs then (if i < σ.length then some none else none) else σ[i]? := by
  induction vs with
  | nil => simp [wipe]
  | cons v vs ih =>
    unfold wipe
    by_cases q : v = i
    · subst q
      by_cases hl : v < σ.length
      · rw [List.getElem?_set_self (by rw [wipe_length]; exact hl)]
        simp [hl]
      · rw [List.getElem?_eq_none (by rw [List.length_set, wipe_length]; omega)]
        simp [hl]
    · rw [List.getElem?_set_ne q, ih]
      simp [Ne.symm q]
theorem wipe_set {σ : L2.St} {vs : List Nat} {j : Nat} {x : V} (hj : j ∈ vs) : wipe ((wipe σ vs).set j (some x)) vs = wipe σ vs := by
  apply List.ext_getElem?
  intro i
  rw [wipe_at, wipe_at]
  by_cases hi : i ∈ vs
  · simp [hi, wipe_length]
  · rw [if_neg hi, if_neg hi, List.getElem?_set_ne (show j ≠ i from fun e => hi (by rw [← e]; exact hj)), wipe_at, if_neg hi]
class MemN (j : Nat) (vs : List Nat) : Prop where
  h : j ∈ vs
instance mem_hd {j : Nat} {vs : List Nat} : MemN j (j :: vs) := ⟨by simp⟩
instance mem_tl {j v : Nat} {vs : List Nat} [h : MemN j vs] : MemN j (v :: vs) := ⟨by simp [h.h]⟩
instance memm_hd {j : Nat} {x : Str} {vs : List (Str × Nat)} : MemN j (((x, j) :: vs).map (·.2)) := ⟨by simp⟩
instance memm_tl {j : Nat} {y : Str × Nat} {vs : List (Str × Nat)} [h : MemN j (vs.map (·.2))] : MemN j ((y :: vs).map (·.2)) := ⟨by rw [List.map_cons]; exact List.mem_cons_of_mem _ h.h⟩
instance gw_name {j : Nat} {vs : List Nat} [h : MemN j vs] : GW (gName j) vs := ⟨fun v σ H Q q => ⟨wipe_set h.h, q⟩⟩
def wLc (wi : TIW) (g : TGW) (tt : TTW) (te : TEW) (vs : List Nat) : TEW := fun ρ S Q => wi ρ S fun ws ok S1 => ∀ D, S1 D = none → ∃ P : Nat → List W → Sto → Prop, P 0 [] (put S1 D (.lst [])) ∧
  (∀ i acc S', P i acc S' → ok S') ∧
  (∀ i w acc S', ws[i]? = some w → P i acc S' → g w (wipeW ρ vs) S' fun ρ2 S2 => tt ρ2 S2 fun b S3 =>
    (b = true → te ρ2 S3 fun y S4 => S4 D = some (.lst acc) ∧ acc.length < sizeLine ∧ P (i + 1) (acc ++ [y]) (put S4 D (.lst (acc ++ [y])))) ∧ (b = false → P (i + 1) acc S3)) ∧
  ∀ acc S', P ws.length acc S' → Q (.ref D) S'
instance le_lc {wi : TI} {g : TG} {tt : TT} {te : TE} {vs : List Nat} {ww : TIW} {gw : TGW} {tw : TTW} {ew : TEW} [h : LI K B wi ww] [b : LG K B g gw] [gg : GW g vs] [c : LT K B tt tw] [a : LE K B te ew] : LE K B (tLc wi g tt te vs) (wLc ww gw tw ew vs) := ⟨fun σ H ρ S Q Qw hs hh q po => by
  refine h.l σ H ρ S _ _ hs hh q fun J H1 S1 ws ok t1 hh1 src hD => fun D hDn => ?_
  obtain ⟨P, p0, pok, pst, pend⟩ := hD D (hh1.fresh hDn)
  have tD : Tk H1 (upd H1 D (.lst [])) := Tk.new hDn
  have hhD : HRep K (upd H1 D (.lst [])) (put S1 D (.lst [])) := hh1.new hDn ⟨[], upd_same, rfl⟩
  refine ⟨fun i m H' => m = ws.length - i ∧ i ≤ ws.length ∧ ∃ acc S', Tk H1 H' ∧ HRep K H' S' ∧ P i acc S', ⟨ws.length, by simp, Nat.zero_le _, [], _, tD, hhD, p0⟩, ?_⟩
  rintro i m H2 ⟨rfl, hi, acc, S2, t2, hh2, p2⟩
  by_cases hlt : i < ws.length
  · refine .inr ⟨src.go i H2 S2 t2 hh2 (pok _ _ _ p2) hlt, fun H' => ∃ acc S', Tk H1 H' ∧ HRep K H' S' ∧ P (i + 1) acc S', fun H' z => ⟨ws.length - (i + 1), by omega, rfl, hlt, z⟩, fun x H3 y => ?_⟩
    obtain ⟨t3, hh3, w, e, r⟩ := src.yld i H2 S2 x H3 t2 hh2 (pok _ _ _ p2) hlt y
    refine gg.l x σ H3 _ ?_
    have hs3 : SRep K B H3 (wipe σ vs) (wipeW ρ vs) := srep_wipe (hs.tk ((t1.trans t2).trans t3)) vs
    refine b.l x w (wipe σ vs) H3 (wipeW ρ vs) S2 _ _ r hs3 hh3 (pst i w acc S2 e p2) fun σ4 H4 ρ4 S4 t4 hs4 hh4 q4 => ?_
    refine c.l σ4 H4 ρ4 S4 _ _ hs4 hh4 q4 fun bb H5 S5 t5 hh5 q5 => ?_
    have t15 := ((t2.trans t3).trans t4).trans t5
    cases bb with
    | true =>
      rw [if_pos rfl]
      refine a.l σ4 H5 ρ4 S5 _ _ (hs4.tk t5) hh5 (q5.1 rfl) fun z H6 wz S6 t6 hh6 r6 ⟨eD, hl, q6⟩ => ?_
      obtain ⟨vs', h1, h2⟩ := hh6 _ _ eD
      have t : Tk H6 (upd H6 D (.lst (vs' ++ [z]))) := Tk.mut h1 (fun _ z => (by cases z)) (fun _ _ z => (by cases z))
      obtain ⟨t, hm⟩ := hh6.mut (c' := .lst (acc ++ [wz])) (o := .lst (vs' ++ [z])) eD ⟨_, upd_same, (RepL.tk t _ _ h2).append (.one (Rep.tk t _ _ r6))⟩
      exact ⟨vs', h1, by rw [h2.length]; exact hl, _, _, (t15.trans t6).trans t, hm, q6⟩
    | false =>
      rw [if_neg Bool.false_ne_true]
      exact ⟨acc, S5, t15, hh5, q5.2 rfl⟩
  · have e : i = ws.length := by omega
    subst e
    exact .inl ⟨src.stop _ H2 S2 t2 hh2 (pok _ _ _ p2) (Nat.le_refl _), po.ref (t1.trans t2) hh2 (pend _ _ p2)⟩⟩
end Wl
set_option Elab.async false
set_option linter.all false
set_option maxRecDepth 100000
set_option maxHeartbeats 2000000
namespace Wl
open PySem PySem.Spec PyProof.Rows L2
variable {K : PySem.W.Frag} {B : Hp}
/-! ### more statements -/
def wPar (i j : Nat) (ta : TAW) : TSW := fun D ρ S => ta ρ S fun ws S1 => match ws with
  | [v, w] => D.nx ((ρ.set i (some v)).set j (some w)) S1
  | _ => False
instance ls_par {i j : Nat} {ta : TA} {wa : TAW} [a : LA K B ta wa] : LS K B (tPar i j ta) (wPar i j wa) := ⟨fun σ H ρ S D Dw hs hh q po => a.l σ H ρ S _ _ hs hh q fun xs H1 ws S1 t1 hh1 r1 q1 => by
  split at q1
  · obtain ⟨x, y, rfl, h1, h2⟩ := rep2 r1
    exact ⟨x, y, rfl, po.nx _ H1 _ S1 t1 (((hs.tk t1).set i h1).set j h2) hh1 q1⟩
  · exact q1.elim⟩

/-- a statement, then the rest, with a word between them -/
def tMid (t u : TS) : TS := fun D σ H => ∃ M : L2.St → Hp → Prop, t { D with nx := M } σ H ∧ ∀ σ' H', M σ' H' → u D σ' H'
theorem pss_mid {X : Cx} {st : Stmt} {rest : List Stmt} {t u : TS} (h1 : PS X st t) (h2 : PSs X rest u) : PSs X (st :: rest) (tMid t u) := by
  refine ⟨fun pins s σ H D I h => ?_⟩
  obtain ⟨Mid, hm, hu⟩ := h
  refine wpAny_execs_cons (thn (h1.run pins s σ H { D with nx := Mid } I hm) fun f s1 q => ?_)
  cases f with
  | next =>
    obtain ⟨σ', H', I', q⟩ := q
    exact h2.run pins s1 σ' H' D I' (hu σ' H' q)
  | ret v => exact q
  | brk => exact q
  | cont => exact q
def wMid (t u : TSW) : TSW := fun D ρ S => ∃ M : StW → Sto → Prop, t { D with nx := M } ρ S ∧ ∀ ρ' S', M ρ' S' → u D ρ' S'
instance ls_mid {t u : TS} {tw uw : TSW} [a : LS K B t tw] [b : LS K B u uw] : LS K B (tMid t u) (wMid tw uw) := ⟨fun σ H ρ S D Dw hs hh ⟨M, hm, hu⟩ po =>
  ⟨fun σ' H' => ∃ ρ' S', Tk H H' ∧ SRep K B H' σ' ρ' ∧ HRep K H' S' ∧ M ρ' S', a.l σ H ρ S _ { Dw with nx := M } hs hh hm ⟨fun σ' H' ρ' S' t1 hs' hh' q' => ⟨ρ', S', t1, hs', hh', q'⟩, po.bk, po.ct, po.rt⟩,
    fun σ' H' ⟨ρ', S', t1, hs', hh', q'⟩ => b.l σ' H' ρ' S' D Dw hs' hh' (hu ρ' S' q') (po.tk t1)⟩⟩

/-! ### the text's defs -/
section
variable {P : Program} {w : World} {mg : Str → Option Value} {base : Heap}
structure DefAt (K : PySem.W.Frag) (mg : Str → Option Value) (x : Str) (st : Stmt) (ps : List Str) : Prop where
  ex : ∃ (f : Addr) (fd : FuncData), Fun K x x st f fd ∧ mg x = some (.ref f) ∧ Binds K fd ps []
theorem calD {x : Str} {st : Stmt} {N ps : List Str} {k : Nat} {sp : SpW} (d : DefAt K mg x st ps) (SC : FnScope N ps (defScope st))
    (len : ∀ ws S Q, sp ws S Q → ws.length = ps.length)
    (hbody : ∀ (f : Addr) (cdv : Value) (A : Around) (outer : List Env) (s : Shared) (H : Hp) (E : XK), Room k (A.deeper (envOfC x (defScope st) s.heap.objs.size f cdv)) →
      ∃ t tw, PSs (cxOf CX0 P w K mg base N x (defScope st) f cdv A outer s H E).nox (defBody st) t ∧ LS K H t tw ∧ ∀ ws S Q, sp ws S Q → tw { nx := fun _ S' => Fg Q .non S', rt := Fg Q } (startW N ws) S) :
    CalW P w K mg base (k + 1) x sp := by
  obtain ⟨f, fd, F, hm, b⟩ := d.ex
  exact calW F hm b SC len (hbody f)
/-- the law itself -/
theorem fnD {x : Str} {st : Stmt} {N ps : List Str} {k : Nat} {sp : SpW} {f : Addr} {fd : FuncData} (F : Fun K x x st f fd) (SC : FnScope N ps (defScope st))
    (len : ∀ ws S Q, sp ws S Q → ws.length = ps.length)
    (hbody : ∀ (f : Addr) (cdv : Value) (A : Around) (outer : List Env) (s : Shared) (H : Hp) (E : XK), Room k (A.deeper (envOfC x (defScope st) s.heap.objs.size f cdv)) →
      ∃ t tw, PSs (cxOf CX0 P w K mg base N x (defScope st) f cdv A outer s H E).nox (defBody st) t ∧ LS K H t tw ∧ ∀ ws S Q, sp ws S Q → tw { nx := fun _ S' => Fg Q .non S', rt := Fg Q } (startW N ws) S) :
    FnOk P w K mg base CX0 (k + 1) f fd ps (liftSp K sp) :=
  F.ok SC (fun vs H Q E ⟨ws, S, Qw, h1, _, h3, _⟩ => by rw [h1.length]; exact len _ _ _ h3) (fun cdv A outer s H vs Q E hr ⟨ws, S, Qw, h1, h2, h3, h4⟩ => by
    obtain ⟨t, tw, ht, hl, hq⟩ := hbody f cdv A outer s H E hr
    refine ⟨t, ht, hl.l _ H (startW N ws) S _ _ (SRep.init h1) h2 (hq ws S Qw h3) ⟨?_, fun _ _ _ _ _ _ _ z => z.elim, fun _ _ _ _ _ _ _ z => z.elim, ?_⟩⟩
    · rintro σ' H' ρ' S' t1 _ hh ⟨S2, sub, q⟩
      exact h4.non t1 (hh.sub sub) q
    · rintro v H' w S' t1 hh r ⟨S2, sub, q⟩
      exact h4 v H' w S2 t1 (hh.sub sub) r q)
end
/-- the law's promise: True, whatever the script -/
def spLaw : SpW := fun ws _ Q => ∃ ns : List Int, ws = [.rl (ns.map W.int)] ∧ ns.length ≤ 63 ∧ ∀ S', Q (.bl true) S'
theorem law_end {H : Hp} {a : Addr} {ns : List Int} (hl : ns.length ≤ 63) (hO : Only H) (hS : SqL K H a (ns.map V.int)) : liftSp K spLaw [.ref a] H (fun v _ => v = .bl true) (fun _ _ _ => False) := by
  refine ⟨[.rl (ns.map W.int)], fun _ => none, fun v _ => v = .bl true, ?_, fun a c e => (by cases e), ⟨ns, rfl, hl, fun _ => rfl⟩, fun v H' w S' _ _ r q => ?_⟩
  · refine .one ⟨a, ns.map V.int, rfl, ?_, RepL.ofInts⟩
    rcases hS with (h | h) | h
    · rcases hO a with z | ⟨o, xs, z⟩
      · rw [h] at z; cases z
      · rw [h] at z; cases z
    · exact .inl h
    · exact .inr h
  · have q' : w = .bl true := q
    subst q'
    exact r

theorem isTy_tt : isTy "tuple" "tuple" = some true := by decide +kernel
theorem isTy_ii : isTy "int" "int" = some true := by decide +kernel
theorem isTy_ib : isTy "int" "bool" = some false := by decide +kernel
theorem isTy_bb : isTy "bool" "bool" = some true := by decide +kernel
theorem isTy_ll : isTy "list" "list" = some true := by decide +kernel
theorem isTy_ss : isTy "str" "str" = some true := by decide +kernel
theorem tyName_lst {S : Sto} {a : Addr} {ws : List W} (h : S a = some (.lst ws)) : tyName (.ref a) S = some "list" := by
  unfold tyName
  simp only [h]
/-! ### never called -/
def wNever : TSW := fun _ _ _ => False
instance ls_never : LS K B tNever wNever := ⟨fun σ H ρ S D Dw hs hh q po => q.elim⟩
def spNever : SpW := fun _ _ _ => False
theorem calNever {P : Program} {w : World} {mg : Str → Option Value} {base : Heap} {x : Str} {st : Stmt} {N ps : List Str} (d : DefAt K mg x st ps) (SC : FnScope N ps (defScope st)) : CalW P w K mg base 1 x spNever :=
  calD d SC (fun _ _ _ h => h.elim) fun f cdv A outer s H E hr => ⟨_, _, pss_never, inferInstance, fun ws S Q h => h.elim⟩

/-! ### stores -/
theorem ne_free {S : Sto} {p q : Addr} {c : Cell} (h : S p = some c) (n : S q = none) : q ≠ p := fun e => by rw [e, h] at n; cases n
theorem sub_new2 {S : Sto} {p : Addr} {c : Cell} (n : S p = none) : Sub S (put S p c) := Sub.new n

/-! ### pools: the drawn numbers of a script -/
/-- a pool's list: what is left, how many were drawn, whether by digits, the seed, three -/
def poolL (c n b s : Int) : List W := [.int c, .int n, .int b, .int s, .int 3]
structure PoolOk (c n s : Int) : Prop where
  c0 : 0 ≤ c
  n0 : 0 ≤ n
  n1 : n ≤ 1000000
  s0 : 0 ≤ s
  s1 : s < 2147483647
/-- a new pool at p; its own cell, anything else as it was -/
def spPool : SpW := fun ws S Q => ∃ (ns : List Int) (k : Int), ws = [.rl (ns.map W.int), .int k] ∧ 0 ≤ k ∧ k ≤ 1000 ∧ ns.length ≤ 63 ∧
  ∀ p c b s, S p = none → PoolOk c 0 s → Q (.ref p) (put S p (.lst (poolL c 0 b s)))
/-- one number is drawn, 0 or more and less than many -/
def spTake : SpW := fun ws S Q => ∃ (p : Addr) (c n b s many : Int), ws = [.ref p, .int many] ∧ S p = some (.lst (poolL c n b s)) ∧ PoolOk c n s ∧ n < 1000000 ∧ 0 < many ∧ many < 2 ^ 64 ∧
  ∀ r c', 0 ≤ r → r < many → PoolOk c' (n + 1) s → Q (.int r) (put S p (.lst (poolL c' (n + 1) b s)))
theorem sizeLine_ge : 1000 ≤ sizeLine := by decide
theorem atI_int {ns : List Int} {i : Int} (h0 : 0 ≤ i) (h1 : i < ns.length) : ∃ n, atI (ns.map W.int) i = some (.int n) := by
  obtain ⟨j, rfl⟩ : ∃ j : Nat, i = (j : Int) := ⟨i.toNat, by omega⟩
  have hj : j < ns.length := by omega
  refine ⟨ns[j], ?_⟩
  unfold atI ixN
  rw [if_pos (by omega), if_pos (by rw [List.length_map]; omega)]
  simp [hj]
end Wl
set_option Elab.async false
set_option linter.all false
set_option maxRecDepth 100000
set_option maxHeartbeats 2000000
/-! The rules with the written part named. -/
namespace Wl
open PySem PySem.Spec PyProof.Rows L2
section
variable {X : Cx} (K : PySem.W.Frag)
theorem k_add (hK : X.K = K := by rfl) : OpR X (binaryOp .Add) (rAddA K) := by subst hK; exact op_addA
theorem k_eq (hu : X.A.units + 64 < cLine) (hK : X.K = K := by rfl) : OpR X (compareOp .Eq) (rEqA K) := by subst hK; exact op_eqA hu
theorem k_ne (hu : X.A.units + 64 < cLine) (hK : X.K = K := by rfl) : OpR X (compareOp .NotEq) (rNeA K) := by subst hK; exact op_neA hu
theorem k_in (hK : X.K = K := by rfl) : OpR X (compareOp .In) (rInA K false) := by subst hK; exact op_inA
theorem k_notIn (hK : X.K = K := by rfl) : OpR X (compareOp .NotIn) (rInA K true) := by subst hK; exact op_notInA
theorem k_ix (hK : X.K = K := by rfl) : IxR X (rIx K) := by subst hK; exact ix_seq
theorem k_sl (hK : X.K = K := by rfl) : SlR X (rSlA K) := by subst hK; exact sl_A
theorem k_any {tg l : Expr} {tl : TE} (hl : PE X l tl) (hK : X.K = K := by rfl) : PI X tg l (iAny K tl) := by subst hK; exact pi_any hl
theorem k_len (hK : X.K = K := by rfl) : CallR X (.builtin "len") (rLenA K) := by subst hK; exact call_len
theorem k_list (hK : X.K = K := by rfl) : CallR X (.type "list") (rListA K) := by subst hK; exact call_list_of
theorem k_tuple (hK : X.K = K := by rfl) : CallR X (.type "tuple") (rTupA K) := by subst hK; exact call_tuple_of
theorem k_sum (hc : X.calm = true) (hK : X.K = K := by rfl) : CallR X (.builtin "sum") (rSum K) := by subst hK; exact cr_sum hc
theorem k_all (hc : X.calm = true) (hK : X.K = K := by rfl) : CallR X (.builtin "all") (rAll K) := by subst hK; exact cr_all hc
theorem k_anyC (hc : X.calm = true) (hK : X.K = K := by rfl) : CallR X (.builtin "any") (rAny K) := by subst hK; exact cr_any hc
theorem k_isi (hK : X.K = K := by rfl) : CallR X (.builtin "isinstance") (rIsi K) := by subst hK; exact call_isi
theorem k_gtup {es : List Expr} {k : Nat} {t : TGs} {n : Nat} {pos : Pos} (hc : X.calm = true) (h : PGs X es t)
    (hn : (assignEach es X.env).length = n := by rfl) (hst : (assignEach es X.env).findIdx? (·.1) = none := by rfl) (hK : X.K = K := by rfl) : PG X (.Tuple es k pos) (gTup K n t) := by subst hK; exact pg_tup hc h hn hst
theorem k_bm {o e : Expr} {es : List Expr} {to : TE} {t : TA} {name : Str} {apos cpos : Pos} {T id : String} {r : V → List V → Hp → VK → Prop} (pa : PlainAttrs T) (slot : Slot T name id) (hty : typeOf (.builtin id) = pure (.type "method_descriptor")) (hm : MtR X id r) (ho : PE X o to) (ha : PA X (e :: es) t)
    (hbase : attributeBase o name X.env (eval o X.env) = eval o X.env := by rfl)
    (hfew : ((backTo cpos (starEach (e :: es) X.env)).all (fun x => !x.1) && (backToKw cpos (keywordEach [] X.env)).all (fun x => x.1.isSome)
      && decide ((e :: es).length + ([] : List Keyword).length + (if ([] : List Keyword).isEmpty then 0 else 1) < 30)) = true := by rfl)
    (hline : (apos.endLine == cpos.line) = true := by rfl) (hs : starEach (e :: es) X.env = (false, eval e X.env) :: starEach es X.env := by rfl) (hplain : (backTo cpos (starEach es X.env)).any (·.1) = false := by rfl)
    (hK : X.K = K := by rfl) : PE X (.Call (.Attribute o name apos) (e :: es) [] cpos) (tBM K T r to t) := by subst hK; exact pe_bm pa slot hty hm ho ha hbase hfew hline hs hplain
theorem k_bm0 {o : Expr} {to : TE} {name : Str} {apos cpos : Pos} {T id : String} {r : V → List V → Hp → VK → Prop} (pa : PlainAttrs T) (slot : Slot T name id) (hty : typeOf (.builtin id) = pure (.type "method_descriptor")) (hm : MtR X id r) (ho : PE X o to)
    (hbase : attributeBase o name X.env (eval o X.env) = eval o X.env := by rfl) (hline : (apos.endLine == cpos.line) = true := by rfl) (hK : X.K = K := by rfl) : PE X (.Call (.Attribute o name apos) [] [] cpos) (tBM0 K T r to) := by subst hK; exact pe_bm0 pa slot hty hm ho hbase hline
theorem k_w {k j : Nat} {x : Str} {sp : SpW} {p pos : Pos} {e : Expr} {es : List Expr} {t : TA} (c : CalW X.prog X.w K X.mg X.base k x sp) (hr : Room j X.A) (hk : k ≤ j) (hg : Gl X x) (ha : PA X (e :: es) t)
    (hdb : (x == ("__debug__" : Str)) = false := by decide) (he : starEach (e :: es) X.env = (false, eval e X.env) :: starEach es X.env := by rfl) (hpl : (backTo pos (starEach es X.env)).any (·.1) = false := by rfl) (hK : X.K = K := by rfl) :
    PE X (.Call (.Name x p) (e :: es) [] pos) (tCall (liftSp K sp) [] E0 t) := by subst hK; exact pe_w c hr hk hg ha hdb he hpl
theorem k_w0 {k j : Nat} {x : Str} {sp : SpW} {p pos : Pos} (c : CalW X.prog X.w K X.mg X.base k x sp) (hr : Room j X.A) (hk : k ≤ j) (hg : Gl X x)
    (hdb : (x == ("__debug__" : Str)) = false := by decide) (hK : X.K = K := by rfl) : PE X (.Call (.Name x p) [] [] pos) (tCall (liftSp K sp) [] E0 tNil) := by subst hK; exact pe_w0 c hr hk hg hdb
end
/-! ### tests that change nothing, told by their answer -/
def EvW (t : TTW) (ρ : StW) (S : Sto) (b : Bool) : Prop := ∀ Q : Bool → Sto → Prop, Q b S → t ρ S Q
section
variable {t u : TTW} {ρ : StW} {S : Sto} {a b : Bool}
theorem evOr (h1 : EvW t ρ S a) (h2 : a = false → EvW u ρ S b) : EvW (wOr t u) ρ S (a || b) := fun Q q => h1 _ ⟨fun e => by rw [e] at q; exact q, fun e => by rw [e] at q; exact h2 e Q q⟩
theorem evAnd (h1 : EvW t ρ S a) (h2 : a = true → EvW u ρ S b) : EvW (wAnd t u) ρ S (a && b) := fun Q q => h1 _ ⟨fun e => by rw [e] at q; exact h2 e Q q, fun e => by rw [e] at q; exact q⟩
theorem evNot (h1 : EvW t ρ S a) : EvW (wNot t) ρ S (!a) := fun Q q => h1 _ q
theorem evIs {c : Bool} (h : EvW t ρ S a) (e : a = c) : EvW t ρ S c := by rw [← e]; exact h
theorem ifEv {p q : TSW} {D : EndsW} (h : EvW t ρ S b) (h1 : b = true → p D ρ S) (h2 : b = false → q D ρ S) : wIfS t p q D ρ S := h _ ⟨h1, h2⟩
end
theorem orGo {t : TTW} {ρ : StW} {S : Sto} {c b d : Bool} {K : Bool → Sto → Prop} (h : c = false → EvW t ρ S b) (e : (c || b) = d) (q : K d S) : (c = false → t ρ S K) ∧ (c = true → K true S) := by
  subst e
  exact ⟨fun e => by rw [e] at q; exact h e K q, fun e => by rw [e] at q; exact q⟩
theorem andGo {t : TTW} {ρ : StW} {S : Sto} {c b d : Bool} {K : Bool → Sto → Prop} (h : c = true → EvW t ρ S b) (e : (c && b) = d) (q : K d S) : (c = true → t ρ S K) ∧ (c = false → K false S) := by
  subst e
  exact ⟨fun e => by rw [e] at q; exact h e K q, fun e => by rw [e] at q; exact q⟩
theorem wEq_t {x y : W} {S : Sto} {Q : WK} (tx : ∃ a, x = .tup a) (ty : ∃ b, y = .tup b) (hx : shW x) (hy : shW y) (q : Q (.bl (PyData.eqv (toD x) (toD y))) S) : wEq x y S Q := by
  obtain ⟨a, rfl⟩ := tx
  obtain ⟨b, rfl⟩ := ty
  exact ⟨hx, hy, q⟩
theorem wNe_t {x y : W} {S : Sto} {Q : WK} (tx : ∃ a, x = .tup a) (ty : ∃ b, y = .tup b) (hx : shW x) (hy : shW y) (q : Q (.bl (!PyData.eqv (toD x) (toD y))) S) : wNe x y S Q := by
  obtain ⟨a, rfl⟩ := tx
  obtain ⟨b, rfl⟩ := ty
  exact ⟨hx, hy, q⟩
theorem rdAt_ok {o : Option W} {w : W} {S : Sto} {Q : WK} (e : o = some w) (q : Q w S) : rdAt o S Q := by rw [e]; exact q
/-- a comprehension whose element changes nothing: map -/
theorem lcMap {wi : TIW} {j : Nat} {te : TEW} {vs : List Nat} {ρ : StW} {S S1 : Sto} {Q : WK} {ws : List W} {ok : Sto → Prop} (f : W → W) (hw : ∀ R : List W → (Sto → Prop) → Sto → Prop, R ws ok S1 → wi ρ S R) (hl : ws.length ≤ 100000)
    (hok : ∀ (D : Addr) (acc : List W), S1 D = none → ok (put S1 D (.lst acc)))
    (he : ∀ (i : Nat) (w : W) (D : Addr) (acc : List W), ws[i]? = some w → S1 D = none → ∀ Q' : WK, Q' (f w) (put S1 D (.lst acc)) → te ((wipeW ρ vs).set j (some w)) (put S1 D (.lst acc)) Q')
    (hd : ∀ (D : Addr), S1 D = none → Q (.ref D) (put S1 D (.lst (ws.map f)))) : wLc wi (wName j) wYes te vs ρ S Q := by
  refine hw _ fun D hD => ⟨fun i acc S' => i ≤ ws.length ∧ acc = (ws.map f).take i ∧ S' = put S1 D (.lst acc), ⟨Nat.zero_le _, rfl, rfl⟩, ?_, ?_, ?_⟩
  · rintro i acc S' ⟨_, _, rfl⟩
    exact hok D acc hD
  · rintro i w acc S' e ⟨_, ha, rfl⟩
    refine ⟨fun _ => he i w D acc e hD _ ⟨put_same, ?_, ?_⟩, fun h => by cases h⟩
    · rw [ha, List.length_take]
      exact Nat.lt_of_le_of_lt (Nat.min_le_left _ _) (Nat.lt_of_lt_of_le (show i < 200000 by have := (List.getElem?_eq_some_iff.mp e).1; omega) (by decide))
    · refine ⟨(List.getElem?_eq_some_iff.mp e).1, ?_, put_put⟩
      rw [List.take_add_one, List.getElem?_map, e, ha]
      rfl
  · rintro acc S' ⟨_, ha, rfl⟩
    rw [List.take_of_length_le (by rw [List.length_map]; exact Nat.le_refl _)] at ha
    rw [ha]
    exact hd D hD
/-! ### is None -/
def isN : W → Bool
  | .non => true
  | _ => false
def wIsN : RW2 := fun x y S Q => y = .non ∧ Q (.bl (isN x)) S
instance l2_isN {K : PySem.W.Frag} : L2R K (fun x y H Q => y = V.non ∧ Q (V.bl (decide (x = V.non))) H) wIsN := ⟨fun H S x y wx wy Q Qw hh rx ry q po => by
  obtain ⟨rfl, q⟩ := q
  refine ⟨ry, ?_⟩
  have e : decide (x = V.non) = isN wx := by
    cases wx with
    | tup ws =>
      obtain ⟨a, xs, rfl, _⟩ := (show ∃ a xs, x = .ref a ∧ _ from rx)
      rfl
    | rl ws =>
      obtain ⟨a, xs, rfl, _⟩ := (show ∃ a xs, x = .ref a ∧ _ from rx)
      rfl
    | _ => cases (show x = _ from rx); rfl
  rw [e]
  exact po.bl (Tk.refl H) hh q⟩
theorem isN_of {K : PySem.W.Frag} {H : Hp} {x : V} {wx : W} (rx : Rep K H wx x) : decide (x = V.non) = isN wx := by
  cases wx with
  | tup ws =>
    obtain ⟨a, xs, rfl, _⟩ := (show ∃ a xs, x = .ref a ∧ _ from rx)
    rfl
  | rl ws =>
    obtain ⟨a, xs, rfl, _⟩ := (show ∃ a xs, x = .ref a ∧ _ from rx)
    rfl
  | _ => cases (show x = _ from rx); rfl
def wNotN : RW2 := fun x y S Q => y = .non ∧ Q (.bl (!isN x)) S
instance l2_notN {K : PySem.W.Frag} : L2R K (fun x y H Q => y = V.non ∧ Q (V.bl (!decide (x = V.non))) H) wNotN := ⟨fun H S x y wx wy Q Qw hh rx ry q po => by
  obtain ⟨rfl, q⟩ := q
  refine ⟨ry, ?_⟩
  rw [isN_of rx]
  exact po.bl (Tk.refl H) hh q⟩
/-! ### more of the types -/
theorem isTy_tb : isTy "tuple" "bool" = some false := by decide +kernel
theorem isTy_ti : isTy "tuple" "int" = some false := by decide +kernel
theorem isTy_ts : isTy "tuple" "str" = some false := by decide +kernel
theorem isTy_tl : isTy "tuple" "list" = some false := by decide +kernel
theorem isTy_lb : isTy "list" "bool" = some false := by decide +kernel
theorem isTy_li : isTy "list" "int" = some false := by decide +kernel
theorem isTy_ls : isTy "list" "str" = some false := by decide +kernel
theorem isTy_lt : isTy "list" "tuple" = some false := by decide +kernel
theorem isTy_sb : isTy "str" "bool" = some false := by decide +kernel
theorem isTy_si : isTy "str" "int" = some false := by decide +kernel
theorem isTy_st : isTy "str" "tuple" = some false := by decide +kernel
theorem isTy_sl : isTy "str" "list" = some false := by decide +kernel
theorem isTy_is : isTy "int" "str" = some false := by decide +kernel
theorem isTy_it : isTy "int" "tuple" = some false := by decide +kernel
theorem isTy_il : isTy "int" "list" = some false := by decide +kernel
theorem isTy_bi : isTy "bool" "int" = some true := by decide +kernel
theorem isTy_bs : isTy "bool" "str" = some false := by decide +kernel
/-! ### shapes -/
def shN (n : Nat) (w : W) : Prop := datW w = true ∧ (toD w).canLay0 = true ∧ (toD w).depth ≤ n
theorem shN_list {n : Nat} : ∀ {ws : List W}, (∀ w ∈ ws, shN n w) → datWs ws = true ∧ PyData.canLayAll0 (toDs ws) = true ∧ PyData.depthAll (toDs ws) ≤ n
  | [], _ => ⟨rfl, rfl, Nat.zero_le _⟩
  | w :: ws, h => by
    obtain ⟨a, b, c⟩ := h w List.mem_cons_self
    obtain ⟨d, e, f⟩ := shN_list fun x hx => h x (List.mem_cons_of_mem _ hx)
    refine ⟨?_, ?_, ?_⟩
    · unfold datWs; rw [a, d]; rfl
    · unfold toDs; unfold PyData.canLayAll0; rw [b, e]; rfl
    · unfold toDs; unfold PyData.depthAll; exact Nat.max_le.mpr ⟨c, f⟩
theorem shN_tup {n : Nat} {ws : List W} (h : ∀ w ∈ ws, shN n w) : shN (n + 1) (.tup ws) := by
  obtain ⟨a, b, c⟩ := shN_list h
  refine ⟨by unfold datW; exact a, by unfold toD; unfold PyData.canLay0; exact b, ?_⟩
  unfold toD
  unfold PyData.depth
  omega
theorem shN_rl {n : Nat} {ws : List W} (h : ∀ w ∈ ws, shN n w) : shN (n + 1) (.rl ws) := by
  obtain ⟨a, b, c⟩ := shN_list h
  refine ⟨by unfold datW; exact a, by unfold toD; unfold PyData.canLay0; exact b, ?_⟩
  unfold toD
  unfold PyData.depth
  omega
theorem shN_int (n : Int) : shN 0 (.int n) := ⟨rfl, rfl, Nat.le_refl 0⟩
theorem shN_str {n : Str} (h : PyData.strOk n = true) : shN 0 (.str n) := ⟨rfl, h, Nat.le_refl 0⟩
theorem shN_bl (n : Bool) : shN 0 (.bl n) := ⟨rfl, rfl, Nat.le_refl 0⟩
theorem shN_up {n m : Nat} {w : W} (h : shN n w) (l : n ≤ m) : shN m w := ⟨h.1, h.2.1, Nat.le_trans h.2.2 l⟩
theorem shN_sh {n : Nat} {w : W} (h : shN n w) (l : n ≤ 64) : shW w := ⟨h.1, by unfold SeqAt.shaped; rw [h.2.1, decide_eq_true (Nat.le_trans h.2.2 l)]; rfl⟩
theorem eqvW_refl {w : W} (h : shW w) : PyData.eqv (toD w) (toD w) = true := SeqAt.eqv_refl _ (by
  have := h.2
  unfold SeqAt.shaped at this
  rw [Bool.and_eq_true] at this
  exact this.1)
theorem eqvAllW_refl {ws : List W} (h : shW (.rl ws)) : PyData.eqvAll (toDs ws) (toDs ws) = true := SeqAt.eqvAll_refl _ (by
  have := h.2
  unfold SeqAt.shaped at this
  rw [Bool.and_eq_true] at this
  exact this.1)
end Wl
set_option Elab.async false
set_option linter.all false
set_option maxRecDepth 100000
set_option maxHeartbeats 2000000
/-! Words that whnf does not open. -/
namespace Wl
open PySem PySem.Spec PyProof.Rows L2
section
variable {K : PySem.W.Frag} {P : Program} {w : World} {mg : Str → Option Value} {base : Heap}
@[irreducible] def Hd (sp : SpW) : SpW := sp
theorem Hd_eq (sp : SpW) : Hd sp = sp := by unfold Hd; rfl
theorem Hd.mk {sp : SpW} {ws : List W} {S : Sto} {Q : WK} (h : sp ws S Q) : Hd sp ws S Q := by rw [Hd_eq]; exact h
theorem CalW.hd {k : Nat} {x : Str} {sp : SpW} (c : CalW P w K mg base k x sp) : CalW P w K mg base k x (Hd sp) := by rw [Hd_eq]; exact c
@[irreducible] def FgI (Q : WK) : WK := Fg Q
theorem FgI_eq (Q : WK) : FgI Q = Fg Q := by unfold FgI; rfl
theorem fg_here {Q : WK} {v : W} {S : Sto} (h : Q v S) : FgI Q v S := by rw [FgI_eq]; exact ⟨S, Sub.refl S, h⟩
theorem fg_sub {Q : WK} {v : W} {S S' : Sto} (h : Sub S' S) (q : Q v S') : FgI Q v S := by rw [FgI_eq]; exact ⟨S', h, q⟩
theorem calDI {x : Str} {st : Stmt} {N ps : List Str} {k : Nat} {sp : SpW} (d : DefAt K mg x st ps) (SC : FnScope N ps (defScope st))
    (len : ∀ ws S Q, sp ws S Q → ws.length = ps.length)
    (hbody : ∀ (f : Addr) (cdv : Value) (A : Around) (outer : List Env) (s : Shared) (H : Hp) (E : XK), Room k (A.deeper (envOfC x (defScope st) s.heap.objs.size f cdv)) →
      ∃ t tw, PSs (cxOf CX0 P w K mg base N x (defScope st) f cdv A outer s H E).nox (defBody st) t ∧ LS K H t tw ∧ ∀ ws S Q, sp ws S Q → tw { nx := fun _ S' => FgI Q .non S', rt := FgI Q } (startW N ws) S) :
    CalW P w K mg base (k + 1) x sp := calD d SC len fun f cdv A outer s H E hr => by
  obtain ⟨t, tw, h1, h2, h3⟩ := hbody f cdv A outer s H E hr
  refine ⟨t, tw, h1, h2, fun ws S Q h => ?_⟩
  have h4 := h3 ws S Q h
  rw [FgI_eq] at h4
  exact h4
theorem fnDI {x : Str} {st : Stmt} {N ps : List Str} {k : Nat} {sp : SpW} {f : Addr} {fd : FuncData} (F : Fun K x x st f fd) (SC : FnScope N ps (defScope st))
    (len : ∀ ws S Q, sp ws S Q → ws.length = ps.length)
    (hbody : ∀ (f : Addr) (cdv : Value) (A : Around) (outer : List Env) (s : Shared) (H : Hp) (E : XK), Room k (A.deeper (envOfC x (defScope st) s.heap.objs.size f cdv)) →
      ∃ t tw, PSs (cxOf CX0 P w K mg base N x (defScope st) f cdv A outer s H E).nox (defBody st) t ∧ LS K H t tw ∧ ∀ ws S Q, sp ws S Q → tw { nx := fun _ S' => FgI Q .non S', rt := FgI Q } (startW N ws) S) :
    FnOk P w K mg base CX0 (k + 1) f fd ps (liftSp K sp) := fnD F SC len fun f cdv A outer s H E hr => by
  obtain ⟨t, tw, h1, h2, h3⟩ := hbody f cdv A outer s H E hr
  refine ⟨t, tw, h1, h2, fun ws S Q h => ?_⟩
  have h4 := h3 ws S Q h
  rw [FgI_eq] at h4
  exact h4
@[irreducible] def wLcI (wi : TIW) (g : TGW) (tt : TTW) (te : TEW) (vs : List Nat) : TEW := wLc wi g tt te vs
theorem wLcI_eq (wi : TIW) (g : TGW) (tt : TTW) (te : TEW) (vs : List Nat) : wLcI wi g tt te vs = wLc wi g tt te vs := by unfold wLcI; rfl
instance (priority := high) le_lcI {wi : TI} {g : TG} {tt : TT} {te : TE} {vs : List Nat} {ww : TIW} {gw : TGW} {tw : TTW} {ew : TEW} [h : LI K B wi ww] [b : LG K B g gw] [gg : GW g vs] [c : LT K B tt tw] [a : LE K B te ew] : LE K B (tLc wi g tt te vs) (wLcI ww gw tw ew vs) := by
  rw [wLcI_eq]; infer_instance
theorem lc_mk {wi : TIW} {g : TGW} {tt : TTW} {te : TEW} {vs : List Nat} {ρ : StW} {S : Sto} {Q : WK} (h : wi ρ S fun ws ok S1 => ∀ D, S1 D = none → ∃ P : Nat → List W → Sto → Prop, P 0 [] (put S1 D (.lst [])) ∧
  (∀ i acc S', P i acc S' → ok S') ∧
  (∀ i w acc S', ws[i]? = some w → P i acc S' → g w (wipeW ρ vs) S' fun ρ2 S2 => tt ρ2 S2 fun b S3 =>
    (b = true → te ρ2 S3 fun y S4 => S4 D = some (.lst acc) ∧ acc.length < sizeLine ∧ P (i + 1) (acc ++ [y]) (put S4 D (.lst (acc ++ [y])))) ∧ (b = false → P (i + 1) acc S3)) ∧
  ∀ acc S', P ws.length acc S' → Q (.ref D) S') : wLcI wi g tt te vs ρ S Q := by rw [wLcI_eq]; exact h
theorem lcMapI {wi : TIW} {j : Nat} {te : TEW} {vs : List Nat} {ρ : StW} {S S1 : Sto} {Q : WK} {ws : List W} {ok : Sto → Prop} (f : W → W) (hw : ∀ R : List W → (Sto → Prop) → Sto → Prop, R ws ok S1 → wi ρ S R) (hl : ws.length ≤ 100000)
    (hok : ∀ (D : Addr) (acc : List W), S1 D = none → ok (put S1 D (.lst acc)))
    (he : ∀ (i : Nat) (w : W) (D : Addr) (acc : List W), ws[i]? = some w → S1 D = none → ∀ Q' : WK, Q' (f w) (put S1 D (.lst acc)) → te ((wipeW ρ vs).set j (some w)) (put S1 D (.lst acc)) Q')
    (hd : ∀ (D : Addr), S1 D = none → Q (.ref D) (put S1 D (.lst (ws.map f)))) : wLcI wi (wName j) wYes te vs ρ S Q := by rw [wLcI_eq]; exact lcMap f hw hl hok he hd
/-- all but p is as it was -/
@[irreducible] def Kp (S : Sto) (p : Addr) (S' : Sto) : Prop := ∀ a c, a ≠ p → S a = some c → S' a = some c
theorem Kp_eq (S : Sto) (p : Addr) (S' : Sto) : Kp S p S' = ∀ a c, a ≠ p → S a = some c → S' a = some c := by unfold Kp; rfl
theorem Kp.refl (S : Sto) (p : Addr) : Kp S p S := by rw [Kp_eq]; exact fun _ _ _ h => h
theorem Kp.at {S S' : Sto} {p : Addr} {c : Cell} (h : Kp S p S') : Kp S p (put S' p c) := by
  rw [Kp_eq] at *
  exact fun a d ha e => by rw [put_ne ha]; exact h a d ha e
theorem Kp.free {S S' : Sto} {p d : Addr} {c : Cell} (h : Kp S p S') (hp : S' p = some c) (n : S' d = none) : S d = none := by
  rw [Kp_eq] at h
  cases e : S d with
  | none => rfl
  | some x =>
    have hd : d ≠ p := fun z => by rw [z, hp] at n; cases n
    rw [h d x hd e] at n; cases n
theorem Kp.new {S S' : Sto} {p d : Addr} {c : Cell} (h : Kp S p S') (n : S d = none) : Kp S p (put S' d c) := by
  rw [Kp_eq] at *
  exact fun a e ha q => by
    have hd : a ≠ d := fun z => by rw [z, n] at q; cases q
    rw [put_ne hd]; exact h a e ha q
theorem Kp.sub {S S' : Sto} {p : Addr} {c : Cell} (h : Kp S p S') (hp : S' p = some c) : Sub (put S p c) S' := by
  rw [Kp_eq] at h
  exact fun a d e => by
    by_cases q : a = p
    · rw [q, put_same] at e; rw [q, hp]; exact e
    · rw [put_ne q] at e; exact h a d q e
/-! pools -/
theorem take_go {p : Addr} {c n b s many : Int} {S : Sto} {Q : WK} (h : S p = some (.lst (poolL c n b s))) (ok : PoolOk c n s) (hn : n < 1000000) (h0 : 0 < many) (h1 : many < 2 ^ 64)
    (q : ∀ r c', 0 ≤ r → r < many → PoolOk c' (n + 1) s → Q (.int r) (put S p (.lst (poolL c' (n + 1) b s)))) : Hd spTake [.ref p, .int many] S Q := Hd.mk ⟨p, c, n, b, s, many, rfl, h, ok, hn, h0, h1, q⟩
theorem pool_go {ns : List Int} {k : Int} {S : Sto} {Q : WK} (h0 : 0 ≤ k) (h1 : k ≤ 1000) (hl : ns.length ≤ 63) (q : ∀ p c b s, S p = none → PoolOk c 0 s → Q (.ref p) (put S p (.lst (poolL c 0 b s)))) : Hd spPool [.rl (ns.map W.int), .int k] S Q := Hd.mk ⟨ns, k, rfl, h0, h1, hl, q⟩
theorem sh_pr (a b : Int) : shW (.tup [.int a, .int b]) := shN_sh (n := 1) (shN_tup fun w hw => by
  rw [List.mem_cons, List.mem_cons] at hw
  rcases hw with rfl | rfl | hw
  · exact shN_int _
  · exact shN_int _
  · cases hw) (by decide)
end
end Wl
set_option Elab.async false
set_option linter.all false
set_option maxRecDepth 100000
set_option maxHeartbeats 2000000
/-! Exceptions over data. -/
namespace Wl
open PySem PySem.Spec PyProof.Rows L2
variable {K : PySem.W.Frag} {B : Hp}
/-- an exception: its class, the fields of its own dict -/
structure Ex where
  cls : Value
  fs : List (Str × W) := []
def RepX (K : PySem.W.Frag) (H : Hp) (ex : Ex) (cls : Value) (d : Option Addr) : Prop :=
  cls = ex.cls ∧ ((d = none ∧ ex.fs = []) ∨ (ex.fs ≠ [] ∧ ∃ a gs, d = some a ∧ H a = some (.xd gs) ∧ RepKV K H ex.fs gs))
abbrev XQ := Ex → Sto → Prop
abbrev XW := Ex → StW → Sto → Prop
def PoX (K : PySem.W.Frag) (H : Hp) (E : XK) (Ew : XQ) : Prop := ∀ cls d H' ex S', Tk H H' → HRep K H' S' → RepX K H' ex cls d → Ew ex S' → E cls d H'
theorem PoX.tk {H H1 : Hp} {E : XK} {Ew : XQ} (h : PoX K H E Ew) (t : Tk H H1) : PoX K H1 E Ew := fun cls d H' ex S' t' => h cls d H' ex S' (t.trans t')
class PX (K : PySem.W.Frag) (B : Hp) (W : WX) (Xw : outParam XW) : Prop where
  l : ∀ cls d σ H ex ρ S, SRep K B H σ ρ → HRep K H S → RepX K H ex cls d → Xw ex ρ S → W cls d σ H
/-- nothing is let out -/
abbrev WX0 : WX := fun _ _ _ _ => False
abbrev XW0 : XW := fun _ _ _ => False
instance px_none : PX K B WX0 XW0 := ⟨fun _ _ _ _ _ _ _ _ _ _ h => h⟩
theorem SRep.rebase {H H' : Hp} {σ : L2.St} {ρ : StW} (h : SRep K H H' σ ρ) (t : Tk B H) : SRep K B H' σ ρ := ⟨t.trans h.bs, h.len, h.at_⟩
theorem SRep.top {H : Hp} {σ : L2.St} {ρ : StW} (h : SRep K B H σ ρ) : SRep K H H σ ρ := ⟨Tk.refl H, h.len, h.at_⟩
theorem PoD.rebase {H : Hp} {D : Ends} {Dw : EndsW} (h : PoD K B H D Dw) (t : Tk B H) : PoD K H H D Dw :=
  ⟨fun σ' H' ρ' S' t' hs => h.nx σ' H' ρ' S' t' (hs.rebase t), fun σ' H' ρ' S' t' hs => h.bk σ' H' ρ' S' t' (hs.rebase t), fun σ' H' ρ' S' t' hs => h.ct σ' H' ρ' S' t' (hs.rebase t), h.rt⟩

/-! ### raise -/
abbrev TMk := L2.St → Hp → XK → Prop
abbrev TMkW := StW → Sto → XQ → Prop
class LMk (K : PySem.W.Frag) (B : Hp) (t : TMk) (tw : outParam TMkW) : Prop where
  l : ∀ σ H ρ S Q Qw, SRep K B H σ ρ → HRep K H S → tw ρ S Qw → PoX K H Q Qw → t σ H Q
def tMk0 (C : Addr) : TMk := fun _ H Q => Q (.ref C) none H
def wMk0 (C : Addr) : TMkW := fun _ S Q => Q ⟨.ref C, []⟩ S
instance lmk_0 {C : Addr} : LMk K B (tMk0 C) (wMk0 C) := ⟨fun σ H ρ S Q Qw hs hh q po => po _ _ H _ S (Tk.refl H) hh ⟨rfl, .inl ⟨rfl, rfl⟩⟩ q⟩
theorem pmk_own0 {X : Cx} {C : Addr} {bmB : List Value} {B newId initId : String} {x : Str} {p pos : Pos} (F : ExcBaseFacts B newId initId bmB) (q : PySem.W.excIn X.K C bmB newId = true) (gC : X.mg x = some (.ref C)) (kC : PySem.W.keepIn X.K (.ref C) = true) (r : Raises X (.ref C)) (hg : Gl X x)
    (hdb : (x == ("__debug__" : Str)) = false := by decide) : PMk X (.Call (.Name x p) [] [] pos) (tMk0 C) := by
  intro pins s σ H Q I h
  refine wpAny_Call_Name_kw (ld_glob I hg gC ?_ hdb)
  refine PySem.W.callWith_K0 I.kIn kC ?_
  show wpAny _ _ (call (.ref C) []) _ _ _
  obtain ⟨bm, N, nm, qn, bs, hdct, sn, sub, ab, col, dd, k0, k1, k2, k3, k5, mN, hC, hN, hni, T⟩ := exc_obj I.kIn q
  refine wpAny_call_exc_subT F T hC hN hni (fun h' e hm => ?_) (Nat.zero_le _)
  exact mk_of I hm r h (I.hok.gone hm.new)
def tRaise (t : TMk) (W : WX) : TS := fun _ σ H => t σ H fun cls d H' => W cls d σ H'
def wRaise (t : TMkW) (Xw : XW) : TSW := fun _ ρ S => t ρ S fun ex S' => Xw ex ρ S'
instance ls_raise {t : TMk} {W : WX} {tw : TMkW} {Xw : XW} [px : PX K B W Xw] [m : LMk K B t tw] : LS K B (tRaise t W) (wRaise tw Xw) := ⟨fun σ H ρ S D Dw hs hh q po =>
  m.l σ H ρ S _ _ hs hh q fun cls d H' ex S' t' hh' r q' => px.l cls d σ H' ex ρ S' (hs.tk t') hh' r q'⟩
theorem ps_raiseW {X : Cx} {W : WX} {e : Expr} {t : TMk} {pos : Pos} (hc : X.calm = true) (tk : Takes X W) (he : PMk X e t) : PS X (.Raise (some e) none pos) (tRaise t W) := ps_raise hc tk he

/-! ### defs that may raise -/
abbrev SpX := List W → Sto → WK → XQ → Prop
def liftX (K : PySem.W.Frag) (sp : SpX) : Sp := fun vs H Q E => ∃ ws S Qw Ew, RepL K H ws vs ∧ HRep K H S ∧ sp ws S Qw Ew ∧ PoE K H Q Qw ∧ PoX K H E Ew
def wCallX (sp : SpX) (Xw : XW) (t : TAW) : TEW := fun ρ S Q => t ρ S fun ws S1 => sp ws S1 Q fun ex S2 => Xw ex ρ S2
instance le_callX {sp : SpX} {W : WX} {Xw : XW} {t : TA} {tw : TAW} [px : PX K B W Xw] [a : LA K B t tw] : LE K B (tCallS (liftX K sp) (WE W) t) (wCallX sp Xw tw) := ⟨fun σ H ρ S Q Qw hs hh q po =>
  a.l σ H ρ S _ _ hs hh q fun xs H1 ws S1 t1 hh1 r1 q1 => ⟨ws, S1, Qw, _, r1, hh1, q1, po.tk t1, fun cls d H' ex S' t hh' r q' => px.l cls d σ H' ex ρ S' (hs.tk (t1.trans t)) hh' r q'⟩⟩
section
variable {P : Program} {w : World} {mg : Str → Option Value} {base : Heap}
structure CalX (P : Program) (w : World) (K : PySem.W.Frag) (mg : Str → Option Value) (base : Heap) (k : Nat) (x : Str) (sp : SpX) : Prop where
  ex : ∃ (f : Addr) (fd : FuncData) (ps : List Str), FnOk P w K mg base (L2.CX P w) k f fd ps (liftX K sp) ∧ mg x = some (.ref f) ∧ PySem.W.keepIn K (.ref f) = true ∧ Binds K fd ps []
theorem CalX.mono {j k : Nat} {x : Str} {sp : SpX} (c : CalX P w K mg base j x sp) (h : j ≤ k) : CalX P w K mg base k x sp := by
  obtain ⟨f, fd, ps, F, r⟩ := c.ex
  exact ⟨f, fd, ps, F.mono h, r⟩
theorem CalX.imp {k : Nat} {x : Str} {sp sp' : SpX} (c : CalX P w K mg base k x sp) (h : ∀ ws S Q E, sp' ws S Q E → sp ws S Q E) : CalX P w K mg base k x sp' := by
  obtain ⟨f, fd, ps, F, r⟩ := c.ex
  exact ⟨f, fd, ps, F.imp fun vs H Q E ⟨ws, S, Qw, Ew, h1, h2, h3, h4⟩ => ⟨ws, S, Qw, Ew, h1, h2, h _ _ _ _ h3, h4⟩, r⟩
@[irreducible] def HdX (sp : SpX) : SpX := sp
theorem HdX_eq (sp : SpX) : HdX sp = sp := by unfold HdX; rfl
theorem HdX.mk {sp : SpX} {ws : List W} {S : Sto} {Q : WK} {E : XQ} (h : sp ws S Q E) : HdX sp ws S Q E := by rw [HdX_eq]; exact h
theorem CalX.hd {k : Nat} {x : Str} {sp : SpX} (c : CalX P w K mg base k x sp) : CalX P w K mg base k x (HdX sp) := by rw [HdX_eq]; exact c
/-- a def that raises nothing where its promise holds, called where something may be raised -/
theorem k_x (K : PySem.W.Frag) {X : Cx} {W : WX} {k j : Nat} {x : Str} {sp : SpX} {p pos : Pos} {e : Expr} {es : List Expr} {t : TA} (tk : Takes X W) (c : CalX X.prog X.w K X.mg X.base k x sp) (hr : Room j X.A) (hk : k ≤ j) (hg : Gl X x) (ha : PA X (e :: es) t)
    (hdb : (x == ("__debug__" : Str)) = false := by decide) (he : starEach (e :: es) X.env = (false, eval e X.env) :: starEach es X.env := by rfl) (hpl : (backTo pos (starEach es X.env)).any (·.1) = false := by rfl) (hK : X.K = K := by rfl) :
    PE X (.Call (.Name x p) (e :: es) [] pos) (tCallS (liftX K sp) (WE W) t) := by
  subst hK
  obtain ⟨f, fd, ps, F, hm, kp, b⟩ := c.ex
  exact pe_callS F (hr.mono hk) hg hm kp b (passAt tk) ha hdb he hpl
/-- what a def lets out -/
abbrev WD (E : XK) : WX := fun cls d _ H => E cls d H
@[irreducible] def FgX (Ew : XQ) : XQ := fun ex S => ∃ S', Sub S' S ∧ Ew ex S'
theorem FgX_eq (Ew : XQ) (ex : Ex) (S : Sto) : FgX Ew ex S = ∃ S', Sub S' S ∧ Ew ex S' := by unfold FgX; rfl
theorem fgx_here {Ew : XQ} {ex : Ex} {S : Sto} (h : Ew ex S) : FgX Ew ex S := by rw [FgX_eq]; exact ⟨S, Sub.refl S, h⟩
theorem fgx_sub {Ew : XQ} {ex : Ex} {S S' : Sto} (h : Sub S' S) (q : Ew ex S') : FgX Ew ex S := by rw [FgX_eq]; exact ⟨S', h, q⟩
abbrev XD (Ew : XQ) : XW := fun ex _ S => FgX Ew ex S
theorem calX {x : Str} {st : Stmt} {N ps : List Str} {k : Nat} {sp : SpX} (d : DefAt K mg x st ps) (SC : FnScope N ps (defScope st))
    (len : ∀ ws S Q E, sp ws S Q E → ws.length = ps.length)
    (hbody : ∀ (f : Addr) (cdv : Value) (A : Around) (outer : List Env) (s : Shared) (H : Hp) (E : XK) (Ew : XQ), Room k (A.deeper (envOfC x (defScope st) s.heap.objs.size f cdv)) →
      Takes (cxOf (L2.CX P w) P w K mg base N x (defScope st) f cdv A outer s H E) (WD E) → PX K H (WD E) (XD Ew) →
      ∃ t tw, PSs (cxOf (L2.CX P w) P w K mg base N x (defScope st) f cdv A outer s H E) (defBody st) t ∧ LS K H t tw ∧ ∀ ws S Q, sp ws S Q Ew → tw { nx := fun _ S' => FgI Q .non S', rt := FgI Q } (startW N ws) S) :
    CalX P w K mg base (k + 1) x sp := by
  obtain ⟨f, fd, F, hm, b⟩ := d.ex
  refine ⟨f, fd, ps, F.okX SC (fun vs H Q E ⟨ws, S, Qw, Ew, h1, _, h3, _⟩ => by rw [h1.length]; exact len _ _ _ _ h3) (fun cdv A outer s H vs Q E hr ⟨ws, S, Qw, Ew, h1, h2, h3, h4, h5⟩ => ?_), hm, F.kp, b⟩
  have px : PX K H (WD E) (XD Ew) := ⟨fun cls d σ H' ex ρ S' hs hh r q => by
    have q : FgX Ew ex S' := q
    rw [FgX_eq] at q
    obtain ⟨S2, sub, q⟩ := q
    exact h5 cls d H' ex S2 hs.bs (hh.sub sub) r q⟩
  obtain ⟨t, tw, ht, hl, hq⟩ := hbody f cdv A outer s H E Ew hr (takes_of rfl rfl rfl rfl) px
  refine ⟨t, ht, hl.l _ H (startW N ws) S _ _ (SRep.init h1) h2 (hq ws S Qw h3) ⟨?_, fun _ _ _ _ _ _ _ z => z.elim, fun _ _ _ _ _ _ _ z => z.elim, ?_⟩⟩
  · intro σ' H' ρ' S' t1 _ hh q
    have q : FgI Qw .non S' := q
    rw [FgI_eq] at q
    obtain ⟨S2, sub, q⟩ := q
    exact h4.non t1 (hh.sub sub) q
  · intro v H' w S' t1 hh r q
    have q : FgI Qw w S' := q
    rw [FgI_eq] at q
    obtain ⟨S2, sub, q⟩ := q
    exact h4 v H' w S2 t1 (hh.sub sub) r q
/-- where nothing can be raised, a def that may raise raises nothing -/
theorem CalX.calm {k : Nat} {x : Str} {sp : SpX} (c : CalX P w K mg base k x sp) : CalX P w K mg base k x sp := c
end

/-! ### try: .. except C: .. -/
/-- the wish that a data wish makes -/
def Wc (K : PySem.W.Frag) (B : Hp) (Xw : XW) : WX := fun cls d σ H => ∃ ex ρ S, SRep K B H σ ρ ∧ HRep K H S ∧ RepX K H ex cls d ∧ Xw ex ρ S
instance px_wc {Xw : XW} : PX K B (Wc K B Xw) Xw := ⟨fun cls d σ H ex ρ S h1 h2 h3 h4 => ⟨ex, ρ, S, h1, h2, h3, h4⟩⟩
def tWeak (tb : WX → TS) (W : WX) : TS := fun D σ H => ∃ W' : WX, (∀ cls d σ' H', W' cls d σ' H' → W cls d σ' H') ∧ tb W' D σ H
abbrev HbW (K : PySem.W.Frag) (tb : WX → TS) (tbw : XW → TSW) : Prop := ∀ (B1 : Hp) (Xw : XW), LS K B1 (tb (Wc K B1 Xw)) (tbw Xw)
def tTryO (K : PySem.W.Frag) (c : Value) (tb : WX → TS) (ts : Addr → Value → Option Addr → TS) (Wout : WX) (tbw : XW → TSW) (_ : HbW K tb tbw) : TS := fun D σ H => tWeak tb (wOnly K c ts Wout D) D σ H
def wTryO (K : PySem.W.Frag) (c : Value) (tb : XW → TSW) (ts : TSW) (Xout : XW) : TSW := fun D ρ S =>
  tb (fun ex ρ' S' => ∃ b, PySem.W.exmOne K ex.cls c = some b ∧ (b = true → ts D ρ' S') ∧ (b = false → Xout ex ρ' S')) D ρ S
instance ls_tryO {c : Value} {tb : WX → TS} {ts : Addr → Value → Option Addr → TS} {Wout : WX} {tbw : XW → TSW} {hb : HbW K tb tbw} {tsw : TSW} {Xout : XW} [px : PX K B Wout Xout]
    [hsu : ∀ a cls d, LS K B (ts a cls d) tsw] : LS K B (tTryO K c tb ts Wout tbw hb) (wTryO K c tbw tsw Xout) := ⟨fun σ H ρ S D Dw hs hh q po => by
  refine ⟨Wc K H (fun ex ρ' S' => ∃ b, PySem.W.exmOne K ex.cls c = some b ∧ (b = true → tsw Dw ρ' S') ∧ (b = false → Xout ex ρ' S')), ?_, ?_⟩
  · rintro cls d σ' H' ⟨ex, ρ', S', hs', hh', r, b, e1, e2, e3⟩
    have rc := r.1
    refine ⟨b, by rw [rc]; exact e1, fun hbt a ha => ?_, fun hbf => px.l cls d σ' H' ex ρ' S' (hs'.rebase hs.bs) hh' r (e3 hbf)⟩
    exact (hsu a cls d).l σ' H' ρ' S' D Dw (hs'.rebase hs.bs) hh' (e2 hbt) (po.tk hs'.bs)
  · exact (hb H _).l σ H ρ S D Dw hs.top hh q (po.rebase hs.bs)⟩
theorem pss_weak {X : Cx} {body : List Stmt} {tb : WX → TS} {W : WX} (tk : Takes X W) (hb : ∀ W', Takes X W' → PSs X body (tb W')) : PSs X body (tWeak tb W) :=
  ⟨fun pins s σ H D I ⟨W', hi, h⟩ => (hb W' (tk.imp hi)).run pins s σ H D I h⟩
theorem ps_tryO (K : PySem.W.Frag) {X : Cx} {x : Str} {c : Value} {body suite : List Stmt} {b₀ : Stmt} {np pos pos' : Pos} {tb : WX → TS} {ts : Addr → Value → Option Addr → TS} {Wout : WX} {tbw : XW → TSW} (hs : X.stack = X.env :: X.outer) (hf : X.env.frame = some X.env.locals) (hc : Names X x c) (tk : Takes X Wout)
    (hb : ∀ (W : WX) (pn : List (Addr × Obj)) (xe : Value → Shared → Prop), Takes (X.tr pn xe) W → PassesOwn (model X.prog X.w) X.A X.env xe → PSs (X.tr pn xe) body (tb W))
    (hsu : ∀ (a : Addr) (oe : Obj) (cls : Value) (d : Option Addr) (pn : List (Addr × Obj)), Zc cls d oe → (∃ vs, oe.data = .fields vs) → PSs (X.suite a ((a, oe) :: pn)) (b₀ :: suite) (ts a cls d)) (hbw : HbW K tb tbw) (hK : X.K = K := by rfl) :
    PS X (.Try body [.ExceptHandler (some (.Name x np)) none (b₀ :: suite) pos'] [] [] pos) (tTryO K c tb ts Wout tbw hbw) := by
  subst hK
  exact ps_try_only (tb := tWeak tb) hs hf hc tk (fun W pn xe tkb pob => pss_weak tkb fun W' tk' => hb W' pn xe tk' pob) hsu
end Wl
set_option Elab.async false
set_option linter.all false
set_option maxRecDepth 100000
set_option maxHeartbeats 2000000
/-! More built-in things over data. -/
namespace Wl
open PySem PySem.Spec PyProof.Rows L2
variable {K : PySem.W.Frag} {B : Hp}
/-! ### sep.join(texts) -/
def rJoinA (K : PySem.W.Frag) : V → List V → Hp → VK → Prop := fun x xs H Q => ∃ a p, ∃ ys : List Str, x = .str a ∧ xs = [.ref p] ∧ (SqL K H p (ys.map V.str) ∨ SqT K H p (ys.map V.str)) ∧
    (ys.map (·.length)).sum + ys.length * a.length ≤ 16777216 ∧ Q (.str (Txt.join a ys)) H
theorem k_joinM (K : PySem.W.Frag) {X : Cx} (hK : X.K = K := by rfl) : MtR X "str.join" (rJoinA K) := by subst hK; exact mt_join
/-- the texts of a row -/
def strsOf : List W → Option (List Str)
  | [] => some []
  | .str x :: ws => (strsOf ws).map (x :: ·)
  | _ => none
theorem strsOf_map (ys : List Str) : strsOf (ys.map W.str) = some ys := by
  induction ys with
  | nil => rfl
  | cons y ys ih => show (strsOf (ys.map W.str)).map (y :: ·) = _; rw [ih]; rfl
theorem strsOf_eq : ∀ {ws : List W} {ys : List Str}, strsOf ws = some ys → ws = ys.map W.str
  | [], ys, h => by cases h; rfl
  | w :: ws, ys, h => by
    cases w with
    | str x =>
      have h : (strsOf ws).map (x :: ·) = some ys := h
      cases e : strsOf ws with
      | none => rw [e] at h; cases h
      | some zs =>
        rw [e] at h
        cases h
        rw [strsOf_eq e]
        rfl
    | _ => cases h
def joinAt (a : Str) (ws : List W) (S : Sto) (Q : WK) : Prop := ∃ ys, ws = List.map W.str ys ∧ (ys.map (·.length)).sum + ys.length * a.length ≤ 16777216 ∧ Q (.str (Txt.join a ys)) S
def wJoin : W → List W → Sto → WK → Prop := fun x ws S Q => match x, ws with
  | .str a, [.tup ws] => joinAt a ws S Q
  | .str a, [.rl ws] => joinAt a ws S Q
  | .str a, [.ref p] => ∃ ws, S p = some (.lst ws) ∧ joinAt a ws S Q
  | _, _ => False
instance lm_join : LMR K (rJoinA K) wJoin := ⟨fun H S x wx xs ws Q Qw hh rx r q po => by
  unfold wJoin at q
  split at q
  · cases (show x = _ from rx)
    obtain ⟨y, rfl, p, zs, rfl, h1, h2⟩ := rep1 r
    obtain ⟨ys, rfl, hl, q⟩ := q
    rw [h2.strs] at h1
    exact ⟨_, p, ys, rfl, rfl, .inr h1, hl, po.str (Tk.refl H) hh q⟩
  · cases (show x = _ from rx)
    obtain ⟨y, rfl, p, zs, rfl, h1, h2⟩ := rep1 r
    obtain ⟨ys, rfl, hl, q⟩ := q
    rw [h2.strs] at h1
    exact ⟨_, p, ys, rfl, rfl, .inl h1.sq, hl, po.str (Tk.refl H) hh q⟩
  · cases (show x = _ from rx)
    obtain ⟨y, rfl, ry⟩ := rep1 r
    cases (show y = _ from ry)
    obtain ⟨ws, e, ys, rfl, hl, q⟩ := q
    obtain ⟨zs, h1, h2⟩ := hh _ _ e
    rw [h2.strs] at h1
    exact ⟨_, _, ys, rfl, rfl, .inl (SqL.of h1), hl, po.str (Tk.refl H) hh q⟩
  · exact q.elim⟩
/-! ### xs.extend(ys) -/
def wExtend : W → List W → Sto → WK → Prop := fun x ws S Q => match x, ws with
  | .ref l, [.ref b] => ∃ xs ys, S l = some (.lst xs) ∧ S b = some (.lst ys) ∧ xs.length + ys.length ≤ sizeLine ∧ Q .non (put S l (.lst (xs ++ ys)))
  | _, _ => False
instance lm_extend : LMR K rExtend wExtend := ⟨fun H S x wx xs ws Q Qw hh rx r q po => by
  unfold wExtend at q
  split at q
  · cases (show x = _ from rx)
    obtain ⟨y, rfl, ry⟩ := rep1 r
    cases (show y = _ from ry)
    obtain ⟨xs, ys, e1, e2, hl, q⟩ := q
    obtain ⟨vs, h1, h2⟩ := hh _ _ e1
    obtain ⟨us, g1, g2⟩ := hh _ _ e2
    have t : Tk H (upd H _ (.lst (vs ++ us))) := Tk.mut h1 (fun _ z => (by cases z)) (fun _ _ z => (by cases z))
    obtain ⟨t, hm⟩ := hh.mut (c' := .lst _) (o := .lst (vs ++ us)) e1 ⟨_, upd_same, (RepL.tk t _ _ h2).append (RepL.tk t _ _ g2)⟩
    exact ⟨_, _, vs, us, rfl, rfl, h1, g1, by rw [h2.length, g2.length]; exact hl, po.non t hm q⟩
  · exact q.elim⟩
end Wl
set_option Elab.async false
set_option linter.all false
set_option maxRecDepth 100000
set_option maxHeartbeats 2000000
/-! A module's constants, the text's own errors. -/
namespace Wl
open PySem PySem.Spec PyProof.Rows L2
variable {K : PySem.W.Frag} {B : Hp}
structure ConstAt (K : PySem.W.Frag) (mg : Str → Option Value) (x : Str) (wd : W) : Prop where
  ex : ∃ u v, mg x = some u ∧ RelV v u ∧ ∀ H, Rep K H wd v
def tGl (K : PySem.W.Frag) (wd : W) : TE := fun _ H Q => ∀ v, (∀ H', Rep K H' wd v) → Q v H
instance le_gl {wd : W} : LE K B (tGl K wd) (wC wd) := ⟨fun σ H ρ S Q Qw hs hh q po v hv => po v H wd S (Tk.refl H) hh (hv H) q⟩
theorem k_gl (K : PySem.W.Frag) {X : Cx} {x : Str} {wd : W} {pos : Pos} (c : ConstAt K X.mg x wd) (hg : Gl X x) (hd : (x == ("__debug__" : Str)) = false := by decide) : PE X (.Name x pos) (tGl K wd) := by
  obtain ⟨u, v, hm, r, hv⟩ := c.ex
  exact ⟨fun pins s σ H Q I h => (pe_glob (pos := pos) hg hm r hd).run pins s σ H Q I (h v hv)⟩
theorem const_int {mg : Str → Option Value} {x : Str} {i : Int} {t : Tok} (h : mg x = some (.int i t)) : ConstAt K mg x (.int i) := ⟨⟨_, .int i, h, ⟨t, rfl⟩, fun _ => rfl⟩⟩
theorem const_str {mg : Str → Option Value} {x : Str} {i : Str} {t : Tok} (h : mg x = some (.str i t)) : ConstAt K mg x (.str i) := ⟨⟨_, .str i, h, ⟨t, rfl⟩, fun _ => rfl⟩⟩
/-- a value of the written part -/
def Wr (K : PySem.W.Frag) (wd : W) (u : Value) : Prop := ∃ v, RelV v u ∧ ∀ H, Rep K H wd v
theorem wr_int {i : Int} {t : Tok} : Wr K (.int i) (.int i t) := ⟨.int i, ⟨t, rfl⟩, fun _ => rfl⟩
theorem wr_str {i : Str} {t : Tok} : Wr K (.str i) (.str i t) := ⟨.str i, ⟨t, rfl⟩, fun _ => rfl⟩
theorem wr_bl {i : Bool} : Wr K (.bl i) (.bool i) := ⟨.bl i, rfl, fun _ => rfl⟩
theorem wr_non : Wr K .non .none := ⟨.non, rfl, fun _ => rfl⟩
inductive Wrs (K : PySem.W.Frag) : List W → List Value → Prop where
  | nil : Wrs K [] []
  | cons {wd : W} {u : Value} {ws : List W} {us : List Value} : Wr K wd u → Wrs K ws us → Wrs K (wd :: ws) (u :: us)
theorem Wrs.vals : ∀ {ws : List W} {us : List Value}, Wrs K ws us → ∃ vs, Vals vs us ∧ ∀ H, RepL K H ws vs
  | _, _, .nil => ⟨[], .nil, fun _ => rfl⟩
  | _, _, .cons ⟨v, r, hv⟩ t => by
    obtain ⟨vs, h1, h2⟩ := t.vals
    exact ⟨v :: vs, .cons r h1, fun H => .cons (hv H) (h2 H)⟩
theorem wr_tup {r : Addr} {od : Option Addr} {its : List Value} {n : Nat} {sl : Array (Option Value)} {ws : List W} (l : K.lookup r = some ⟨.type "tuple", od, .seq its.toArray n, sl⟩) (hz : its.length ≤ 1000) (h : Wrs K ws its) : Wr K (.tup ws) (.ref r) := by
  obtain ⟨vs, h1, h2⟩ := h.vals
  exact ⟨.ref r, rfl, fun H => ⟨r, vs, rfl, .inr ⟨_, _, _, l, rfl, rfl, by rw [List.size_toArray]; exact Nat.le_trans hz (by decide), by simpa using h1⟩, h2 H⟩⟩
theorem const_wr {mg : Str → Option Value} {x : Str} {u : Value} {wd : W} (h : mg x = some u) (r : Wr K wd u) : ConstAt K mg x wd := by
  obtain ⟨v, r, hv⟩ := r
  exact ⟨⟨_, v, h, r, hv⟩⟩
/-! ### an own error class over ValueError, without __init__ -/
structure ErrAt (K : PySem.W.Frag) (mg : Str → Option Value) (x : Str) (C : Addr) : Prop where
  gC : mg x = some (.ref C)
  xC : PySem.W.excIn K C [.type "ValueError", .type "Exception", .type "BaseException", .type "object"] "ValueError.__new__" = true
  kC : PySem.W.keepIn K (.ref C) = true
  bC : PySem.W.subIn K (.ref C) (.type "BaseException") = some true
  tC : PySem.W.typeIn K (.ref C) = some (.type "type")
/-- raise C() -/
theorem k_raise0 (K : PySem.W.Frag) {X : Cx} {W : WX} {C : Addr} {x : Str} {p pos pos' : Pos} (c : ErrAt K X.mg x C) (hc : X.calm = true) (tk : Takes X W) (hg : Gl X x) (hdb : (x == ("__debug__" : Str)) = false := by decide) (hK : X.K = K := by rfl) :
    PS X (.Raise (some (.Call (.Name x p) [] [] pos)) none pos') (tRaise (tMk0 C) W) := by
  subst hK
  exact ps_raiseW hc tk (pmk_own0 PySem.F.excBase_ValueError c.xC c.gC c.kC (raises_own c.bC c.tC) hg hdb)
theorem ErrAt.names {X : Cx} {mg : Str → Option Value} {x : Str} {C : Addr} (c : ErrAt K mg x C) (hg : Gl X x) (hmg : X.mg = mg := by rfl) (hdb : (x == ("__debug__" : Str)) = false := by decide) : Names X x (.ref C) := by
  subst hmg
  exact ⟨hg, hdb, .inl c.gC⟩
end Wl
set_option Elab.async false
set_option linter.all false
set_option maxRecDepth 100000
set_option maxHeartbeats 2000000
/-! Loops, comprehensions, meeting ways: hidden until asked. -/
namespace Wl
open PySem PySem.Spec PyProof.Rows L2
variable {K : PySem.W.Frag} {B : Hp}
@[irreducible] def ForQ (g : TGW) (tb : TSW) (D : EndsW) (ρ : StW) (ws : List W) (ok : Sto → Prop) (S1 : Sto) : Prop := ∃ P : Nat → StW → Sto → Prop, P 0 ρ S1 ∧ (∀ i ρ' S', P i ρ' S' → ok S') ∧
  (∀ i w ρ' S', ws[i]? = some w → P i ρ' S' → g w ρ' S' fun ρ2 S2 => tb { D with nx := P (i + 1), ct := P (i + 1), bk := D.nx } ρ2 S2) ∧ ∀ ρ' S', P ws.length ρ' S' → D.nx ρ' S'
theorem for_q {g : TGW} {tb : TSW} {D : EndsW} {ρ : StW} {ws : List W} {ok : Sto → Prop} {S1 : Sto} (P : Nat → StW → Sto → Prop) (h0 : P 0 ρ S1) (hok : ∀ i ρ' S', P i ρ' S' → ok S')
    (turn : ∀ i w ρ' S', ws[i]? = some w → P i ρ' S' → g w ρ' S' fun ρ2 S2 => tb { D with nx := P (i + 1), ct := P (i + 1), bk := D.nx } ρ2 S2) (fin : ∀ ρ' S', P ws.length ρ' S' → D.nx ρ' S') : ForQ g tb D ρ ws ok S1 := by
  unfold ForQ
  exact ⟨P, h0, hok, turn, fin⟩
def wForQ (wi : TIW) (g : TGW) (tb : TSW) : TSW := fun D ρ S => wi ρ S fun ws ok S1 => ForQ g tb D ρ ws ok S1
theorem wForQ_eq (wi : TIW) (g : TGW) (tb : TSW) : wForQ wi g tb = wFor wi g tb := by
  funext D ρ S
  unfold wForQ wFor ForQ
  rfl
instance (priority := high) ls_forQ {wi : TI} {g : TG} {tb : TS} {ww : TIW} {gw : TGW} {tw : TSW} [h : LI K B wi ww] [b : LG K B g gw] [a : LS K B tb tw] : LS K B (tFor wi g tb) (wForQ ww gw tw) := by
  rw [wForQ_eq]; infer_instance
@[irreducible] def LcQ (g : TGW) (tt : TTW) (te : TEW) (vs : List Nat) (ρ : StW) (Q : WK) (ws : List W) (ok : Sto → Prop) (S1 : Sto) : Prop := ∀ D, S1 D = none → ∃ P : Nat → List W → Sto → Prop, P 0 [] (put S1 D (.lst [])) ∧
  (∀ i acc S', P i acc S' → ok S') ∧
  (∀ i w acc S', ws[i]? = some w → P i acc S' → g w (wipeW ρ vs) S' fun ρ2 S2 => tt ρ2 S2 fun b S3 =>
    (b = true → te ρ2 S3 fun y S4 => S4 D = some (.lst acc) ∧ acc.length < sizeLine ∧ P (i + 1) (acc ++ [y]) (put S4 D (.lst (acc ++ [y])))) ∧ (b = false → P (i + 1) acc S3)) ∧
  ∀ acc S', P ws.length acc S' → Q (.ref D) S'
def wLcQ (wi : TIW) (g : TGW) (tt : TTW) (te : TEW) (vs : List Nat) : TEW := fun ρ S Q => wi ρ S fun ws ok S1 => LcQ g tt te vs ρ Q ws ok S1
theorem wLcQ_eq (wi : TIW) (g : TGW) (tt : TTW) (te : TEW) (vs : List Nat) : wLcQ wi g tt te vs = wLc wi g tt te vs := by
  funext ρ S Q
  unfold wLcQ wLc LcQ
  rfl
instance (priority := high + 1) le_lcQ {wi : TI} {g : TG} {tt : TT} {te : TE} {vs : List Nat} {ww : TIW} {gw : TGW} {tw : TTW} {ew : TEW} [h : LI K B wi ww] [b : LG K B g gw] [gg : GW g vs] [c : LT K B tt tw] [a : LE K B te ew] : LE K B (tLc wi g tt te vs) (wLcQ ww gw tw ew vs) := by
  rw [wLcQ_eq]; exact le_lc
section
variable {g : TGW} {tt : TTW} {te : TEW} {vs : List Nat} {ρ : StW} {Q : WK} {ws : List W} {ok : Sto → Prop} {S1 : Sto}
/-- any element: what holds behind the i-th -/
theorem lc_q (h : ∀ D, S1 D = none → ∃ P : Nat → List W → Sto → Prop, P 0 [] (put S1 D (.lst [])) ∧ (∀ i acc S', P i acc S' → ok S') ∧
    (∀ i w acc S', ws[i]? = some w → P i acc S' → g w (wipeW ρ vs) S' fun ρ2 S2 => tt ρ2 S2 fun b S3 =>
      (b = true → te ρ2 S3 fun y S4 => S4 D = some (.lst acc) ∧ acc.length < sizeLine ∧ P (i + 1) (acc ++ [y]) (put S4 D (.lst (acc ++ [y])))) ∧ (b = false → P (i + 1) acc S3)) ∧
    ∀ acc S', P ws.length acc S' → Q (.ref D) S') : LcQ g tt te vs ρ Q ws ok S1 := by unfold LcQ; exact h
theorem lc_map {j : Nat} (f : W → W) (hl : ws.length ≤ 100000) (hok : ∀ (D : Addr) (acc : List W), S1 D = none → ok (put S1 D (.lst acc)))
    (he : ∀ (i : Nat) (w : W) (D : Addr) (acc : List W), ws[i]? = some w → S1 D = none → ∀ Q' : WK, Q' (f w) (put S1 D (.lst acc)) → te ((wipeW ρ vs).set j (some w)) (put S1 D (.lst acc)) Q')
    (hd : ∀ (D : Addr), S1 D = none → Q (.ref D) (put S1 D (.lst (ws.map f)))) : LcQ (wName j) wYes te vs ρ Q ws ok S1 := by
  have h := lcMap (wi := fun ρ S R => R ws ok S) (ρ := ρ) (S := S1) f (fun R h => h) hl hok he hd
  unfold wLc at h
  unfold LcQ
  exact h
/-- with a test that changes nothing -/
theorem lc_fil {j : Nat} (p : W → Bool) (f : W → W) (hl : ws.length ≤ 100000) (hok : ∀ (D : Addr) (acc : List W), S1 D = none → ok (put S1 D (.lst acc)))
    (ht : ∀ (i : Nat) (w : W) (D : Addr) (acc : List W), ws[i]? = some w → S1 D = none → EvW tt ((wipeW ρ vs).set j (some w)) (put S1 D (.lst acc)) (p w))
    (he : ∀ (i : Nat) (w : W) (D : Addr) (acc : List W), ws[i]? = some w → p w = true → S1 D = none → ∀ Q' : WK, Q' (f w) (put S1 D (.lst acc)) → te ((wipeW ρ vs).set j (some w)) (put S1 D (.lst acc)) Q')
    (hd : ∀ (D : Addr), S1 D = none → Q (.ref D) (put S1 D (.lst ((ws.filter p).map f)))) : LcQ (wName j) tt te vs ρ Q ws ok S1 := by
  refine lc_q fun D hD => ⟨fun i acc S' => i ≤ ws.length ∧ acc = ((ws.take i).filter p).map f ∧ S' = put S1 D (.lst acc), ⟨Nat.zero_le _, rfl, rfl⟩, ?_, ?_, ?_⟩
  · rintro i acc S' ⟨_, _, rfl⟩
    exact hok D acc hD
  · rintro i w acc S' e ⟨_, ha, rfl⟩
    have hi : i < ws.length := (List.getElem?_eq_some_iff.mp e).1
    have tk : ws.take (i + 1) = ws.take i ++ [w] := by rw [List.take_add_one, e]; rfl
    refine ht i w D acc e hD _ ⟨fun hb => he i w D acc e hb hD _ ⟨put_same, ?_, ?_⟩, fun hb => ⟨hi, ?_, rfl⟩⟩
    · rw [ha, List.length_map]
      refine Nat.lt_of_le_of_lt (Nat.le_trans (List.length_filter_le _ _) (by rw [List.length_take]; exact Nat.min_le_left _ _)) (Nat.lt_of_lt_of_le (show i < 200000 by omega) (by decide))
    · refine ⟨hi, ?_, put_put⟩
      rw [tk, List.filter_append, List.map_append, ha]
      simp [hb]
    · rw [tk, List.filter_append, List.map_append, ha]
      simp [hb]
  · rintro acc S' ⟨_, ha, rfl⟩
    rw [List.take_of_length_le (Nat.le_refl _)] at ha
    rw [ha]
    exact hd D hD
end
@[irreducible] def WhQ (c : TTW) (tb : TSW) : TSW := wWhile c tb
theorem WhQ_eq (c : TTW) (tb : TSW) : WhQ c tb = wWhile c tb := by unfold WhQ; rfl
instance (priority := high) ls_whQ {c : TT} {tb : TS} {cw : TTW} {tw : TSW} [h : LT K B c cw] [a : LS K B tb tw] : LS K B (tWhile c tb) (WhQ cw tw) := by
  rw [WhQ_eq]; infer_instance
theorem wh_q {c : TTW} {tb : TSW} {D : EndsW} {ρ : StW} {S : Sto} (I : Nat → StW → Sto → Prop) (h0 : ∃ m, I m ρ S) (turn : ∀ m ρ S, I m ρ S → c ρ S fun b S1 =>
  (b = true → tb { D with nx := fun ρ' S' => ∃ m', m' < m ∧ I m' ρ' S', ct := fun ρ' S' => ∃ m', m' < m ∧ I m' ρ' S', bk := D.nx } ρ S1) ∧ (b = false → D.nx ρ S1)) : WhQ c tb D ρ S := by
  rw [WhQ_eq]; exact ⟨I, h0, turn⟩
@[irreducible] def MidQ (t u : TSW) : TSW := wMid t u
theorem MidQ_eq (t u : TSW) : MidQ t u = wMid t u := by unfold MidQ; rfl
instance (priority := high) ls_midQ {t u : TS} {tw uw : TSW} [a : LS K B t tw] [b : LS K B u uw] : LS K B (tMid t u) (MidQ tw uw) := by
  rw [MidQ_eq]; infer_instance
theorem mid_q {t u : TSW} {D : EndsW} {ρ : StW} {S : Sto} (M : StW → Sto → Prop) (h1 : t { D with nx := M } ρ S) (h2 : ∀ ρ' S', M ρ' S' → u D ρ' S') : MidQ t u D ρ S := by
  rw [MidQ_eq]; exact ⟨M, h1, h2⟩
end Wl
set_option Elab.async false
set_option linter.all false
set_option maxRecDepth 100000
set_option maxHeartbeats 2000000
/-! What stays; pools; joined texts. -/
namespace Wl
open PySem PySem.Spec PyProof.Rows L2
variable {K : PySem.W.Frag} {B : Hp}
/-! a + b, tuples of any length -/
def rAddB (K : PySem.W.Frag) : R2 := fun x y H Q => rAddA K x y H Q ∨ L2.rCatA K x y H Q
theorem k_addB (K : PySem.W.Frag) {X : Cx} (hK : X.K = K := by rfl) : OpR X (binaryOp .Add) (rAddB K) := by
  subst hK
  intro pins s σ H x y v u Q I rx ry h
  rcases h with h | h
  · exact op_addA pins s σ H x y v u Q I rx ry h
  · exact L2.op_catA pins s σ H x y v u Q I rx ry h
def wAddB : RW2 := fun x y S Q => match x, y with
  | .int i, .int j => Q (.int (i + j)) S
  | .str i, .str j => i.length + j.length ≤ sizeLine ∧ Q (.str (i ++ j)) S
  | .tup a, .tup b => a.length + b.length ≤ sizeLine ∧ Q (.tup (a ++ b)) S
  | .ref a, .ref b => ∃ xs ys, S a = some (.lst xs) ∧ S b = some (.lst ys) ∧ xs.length + ys.length ≤ sizeLine ∧ ∀ p, S p = none → Q (.ref p) (put S p (.lst (xs ++ ys)))
  | _, _ => False
instance l2_addB : L2R K (rAddB K) wAddB := ⟨fun H S x y wx wy Q Qw hh rx ry q po => by
  have old : wAdd wx wy S Qw → rAddB K x y H Q := fun q => .inl (l2_add.l H S x y wx wy Q Qw hh rx ry q po)
  cases wx <;> cases wy <;> first
    | exact q.elim
    | exact old q
    | skip
  obtain ⟨a, as, rfl, h1, r1⟩ := (show ∃ a xs, x = .ref a ∧ _ from rx)
  obtain ⟨b, bs, rfl, h2, r2⟩ := (show ∃ a xs, y = .ref a ∧ _ from ry)
  obtain ⟨hl, q⟩ := q
  refine .inr ⟨a, b, as, bs, rfl, rfl, h1, h2, by rw [r1.length, r2.length]; exact hl, fun z => ?_, fun _ z => ?_, fun _ _ p hp => po.ntup hp hh (r1.append r2) q⟩
  · subst z
    have e := List.length_eq_zero_iff.mp (r1.length.symm.trans (List.length_nil))
    rw [e, List.nil_append] at q
    exact po.tup (Tk.refl H) hh h2 r2 q
  · subst z
    have e := List.length_eq_zero_iff.mp (r2.length.symm.trans (List.length_nil))
    rw [e, List.append_nil] at q
    exact po.tup (Tk.refl H) hh h1 r1 q⟩
/-- just the cells of ps may be others -/
def OffL (ps : List Addr) (S S' : Sto) : Prop := ∀ a, a ∉ ps → S' a = S a
def KpL (ps : List Addr) (S T : Sto) : Prop := ∀ a c, a ∉ ps → S a = some c → T a = some c
theorem OffL.kp {ps : List Addr} {S T : Sto} (h : OffL ps S T) : KpL ps S T := fun a c ha e => by rw [h a ha]; exact e
theorem KpL.refl (ps : List Addr) (S : Sto) : KpL ps S S := fun _ _ _ h => h
theorem KpL.trans {ps : List Addr} {S T U : Sto} (h : KpL ps S T) (g : KpL ps T U) : KpL ps S U := fun a c ha e => g a c ha (h a c ha e)
theorem KpL.mono {ps qs : List Addr} {S T : Sto} (h : KpL ps S T) (hs : ∀ a ∈ ps, a ∈ qs) : KpL qs S T := fun a c ha e => h a c (fun z => ha (hs a z)) e
theorem KpL.new {ps : List Addr} {S T : Sto} {d : Addr} {c : Cell} (h : KpL ps S T) (n : T d = none) : KpL ps S (put T d c) := fun a e ha q => by
  have h1 := h a e ha q
  rw [put_ne (fun z => by rw [z, n] at h1; cases h1)]
  exact h1
theorem KpL.at {ps : List Addr} {S T : Sto} {d : Addr} {c : Cell} (h : KpL ps S T) (hd : d ∈ ps) : KpL ps S (put T d c) := fun a e ha q => by
  rw [put_ne (fun z => ha (by rw [z]; exact hd))]
  exact h a e ha q
/-- the free cells of S may be written -/
theorem KpL.own {ps : List Addr} {S T : Sto} {d : Addr} {c : Cell} (h : KpL ps S T) (n : S d = none) : KpL ps S (put T d c) := fun a e ha q => by
  rw [put_ne (fun z => by rw [z, n] at q; cases q)]
  exact h a e ha q
theorem KpL.off {ps qs : List Addr} {S T U : Sto} (h : KpL ps S T) (g : OffL qs T U) (hs : ∀ a ∈ qs, a ∈ ps ∨ S a = none) : KpL ps S U := fun a c ha e => by
  rw [g a (fun z => by
    rcases hs a z with h1 | h1
    · exact ha h1
    · rw [h1] at e; cases e)]
  exact h a c ha e
theorem KpL.free {ps : List Addr} {S T : Sto} {d : Addr} (h : KpL ps S T) (n : T d = none) (hd : d ∉ ps) : S d = none := by
  cases e : S d with
  | none => rfl
  | some x => rw [h d x hd e] at n; cases n
theorem fg_off {ps : List Addr} {S T : Sto} {Q : WK} {v : W} (h : KpL ps S T) (q : ∀ S', OffL ps S S' → (∀ a ∈ ps, S' a = T a) → Q v S') : FgI Q v T := by
  refine fg_sub (S' := fun a => if a ∈ ps then T a else S a) (fun a c e => ?_) (q _ (fun a ha => if_neg ha) (fun a ha => if_pos ha))
  have e : (if a ∈ ps then T a else S a) = some c := e
  by_cases ha : a ∈ ps
  · rw [if_pos ha] at e; exact e
  · rw [if_neg ha] at e; exact h a c ha e
theorem notin1 {a p : Addr} (h : a ≠ p) : a ∉ [p] := fun z => h (List.mem_singleton.mp z)
theorem notin2 {a p q : Addr} (h : a ≠ p) (g : a ≠ q) : a ∉ [p, q] := fun z => by
  rcases List.mem_cons.mp z with e | e
  · exact h e
  · exact g (List.mem_singleton.mp e)
theorem notin3 {a p q r : Addr} (h : a ≠ p) (g : a ≠ q) (f : a ≠ r) : a ∉ [p, q, r] := fun z => by
  rcases List.mem_cons.mp z with e | e
  · exact h e
  · exact notin2 g f e
/-- a pool of at most N drawn numbers -/
def Pl (S : Sto) (p : Addr) (N : Int) : Prop := ∃ c n b s, S p = some (.lst (poolL c n b s)) ∧ 0 ≤ c ∧ 0 ≤ n ∧ n ≤ N ∧ 0 ≤ s ∧ s < 2147483647
theorem Pl.some {S : Sto} {p : Addr} {N : Int} (h : Pl S p N) : ∃ c, S p = some c := by
  obtain ⟨c, n, b, s, e, _⟩ := h
  exact ⟨_, e⟩
theorem Pl.ne {S : Sto} {p d : Addr} {N : Int} (h : Pl S p N) (n : S d = none) : d ≠ p := by
  obtain ⟨c, e⟩ := h.some
  exact ne_free e n
theorem Pl.eq {S T : Sto} {p : Addr} {N : Int} (h : Pl S p N) (e : T p = S p) : Pl T p N := by
  obtain ⟨c, n, b, s, e1, r⟩ := h
  exact ⟨c, n, b, s, e.trans e1, r⟩
theorem Pl.mono {S : Sto} {p : Addr} {N M : Int} (h : Pl S p N) (l : N ≤ M) : Pl S p M := by
  obtain ⟨c, n, b, s, e1, h1, h2, h3, h4⟩ := h
  exact ⟨c, n, b, s, e1, h1, h2, by omega, h4⟩
def spTk : SpW := fun ws S Q => ∃ (p : Addr) (N many : Int), ws = [.ref p, .int many] ∧ Pl S p N ∧ N < 2 ^ 40 ∧ 0 < many ∧ many < 2 ^ 64 ∧ ∀ r S', 0 ≤ r → r < many → Pl S' p (N + 1) → OffL [p] S S' → Q (.int r) S'
theorem tk_go {p : Addr} {N many : Int} {S : Sto} {Q : WK} (h : Pl S p N) (hN : N < 2 ^ 40) (h0 : 0 < many) (h1 : many < 2 ^ 64) (q : ∀ r S', 0 ≤ r → r < many → Pl S' p (N + 1) → OffL [p] S S' → Q (.int r) S') : Hd spTk [.ref p, .int many] S Q := Hd.mk ⟨p, N, many, rfl, h, hN, h0, h1, q⟩
def spPl : SpW := fun ws S Q => ∃ (ns : List Int) (k : Int), ws = [.rl (ns.map W.int), .int k] ∧ 0 ≤ k ∧ k ≤ 1000 ∧ ns.length ≤ 63 ∧ ∀ p S', S p = none → Pl S' p 0 → OffL [p] S S' → Q (.ref p) S'
theorem pl_go {ns : List Int} {k : Int} {S : Sto} {Q : WK} (h0 : 0 ≤ k) (h1 : k ≤ 1000) (hl : ns.length ≤ 63) (q : ∀ p S', S p = none → Pl S' p 0 → OffL [p] S S' → Q (.ref p) S') : Hd spPl [.rl (ns.map W.int), .int k] S Q := Hd.mk ⟨ns, k, rfl, h0, h1, hl, q⟩
/-! texts -/
def tl (x : Str) : List Nat := x.cps.toList
theorem tl_len (x : Str) : (tl x).length = x.length := by unfold tl Str.length; simp
theorem tl_ext {x y : Str} (h : tl x = tl y) : x = y := by
  cases x; cases y
  unfold tl at h
  simp only at h
  congr 1
  exact Array.ext' h
theorem tl_append (x y : Str) : tl (x ++ y) = tl x ++ tl y := by
  show (x.cps ++ y.cps).toList = _
  simp [tl]
theorem tl_one (c : Nat) : tl ⟨#[c]⟩ = [c] := rfl
theorem tl_join0 : ∀ ys : List Str, tl (Txt.join "" ys) = (ys.map tl).flatten
  | [] => by decide +kernel
  | [x] => by
    have e : Txt.join "" [x] = Str.join "" [x] := StrLaws.glued_eq_join _ _
    rw [e]
    simp [Str.join]
  | x :: y :: r => by
    have e : ∀ zs, Txt.join "" zs = Str.join "" zs := fun zs => StrLaws.glued_eq_join _ _
    have ih := tl_join0 (y :: r)
    rw [e] at ih ⊢
    show tl (x ++ "" ++ Str.join "" (y :: r)) = _
    rw [tl_append, tl_append, ih]
    have z : tl ("" : Str) = [] := by decide +kernel
    rw [z]
    simp
/-- n letters from a to z -/
def Abc (x : Str) : Prop := ∀ c ∈ tl x, 97 ≤ c ∧ c ≤ 122
def NameOk (x : Str) : Prop := 1 ≤ (tl x).length ∧ (tl x).length ≤ 8 ∧ Abc x
theorem cut_tl (z : Str) (lo hi : Option Int) : tl (cutS z lo hi) = cutL (tl z) lo hi := by
  unfold cutS cutL tl
  simp [Str.length]
end Wl
set_option Elab.async false
set_option linter.all false
set_option maxRecDepth 100000
set_option maxHeartbeats 2000000
/-! Ifs over several tests: hidden until asked. -/
namespace Wl
open PySem PySem.Spec PyProof.Rows L2
variable {K : PySem.W.Frag} {B : Hp}
@[irreducible] def IfQ (c : TTW) (t u : TSW) : TSW := wIfS c t u
theorem IfQ_eq (c : TTW) (t u : TSW) : IfQ c t u = wIfS c t u := by unfold IfQ; rfl
instance (priority := high) ls_ifAnd {c1 c2 : TT} {t u : TS} {cw : TTW} {tw uw : TSW} [h : LT K B (tAnd c1 c2) cw] [a : LS K B t tw] [b : LS K B u uw] : LS K B (tIfS (tAnd c1 c2) t u) (IfQ cw tw uw) := by
  rw [IfQ_eq]; infer_instance
instance (priority := high) ls_ifOr {c1 c2 : TT} {t u : TS} {cw : TTW} {tw uw : TSW} [h : LT K B (tOr c1 c2) cw] [a : LS K B t tw] [b : LS K B u uw] : LS K B (tIfS (tOr c1 c2) t u) (IfQ cw tw uw) := by
  rw [IfQ_eq]; infer_instance
theorem if_q {c : TTW} {t u : TSW} {D : EndsW} {ρ : StW} {S : Sto} (h : wIfS c t u D ρ S) : IfQ c t u D ρ S := by rw [IfQ_eq]; exact h
/-- the tests change nothing -/
theorem if_ev {c : TTW} {t u : TSW} {D : EndsW} {ρ : StW} {S : Sto} (b : Bool) (h : EvW c ρ S b) (h1 : b = true → t D ρ S) (h2 : b = false → u D ρ S) : IfQ c t u D ρ S := by
  rw [IfQ_eq]; exact ifEv h h1 h2
theorem isTy_nb : isTy "NoneType" "bool" = some false := by decide +kernel
theorem isTy_ni : isTy "NoneType" "int" = some false := by decide +kernel
theorem isTy_ns : isTy "NoneType" "str" = some false := by decide +kernel
theorem isTy_nt : isTy "NoneType" "tuple" = some false := by decide +kernel
theorem isTy_nl : isTy "NoneType" "list" = some false := by decide +kernel
theorem isTy_bt : isTy "bool" "tuple" = some false := by decide +kernel
theorem isTy_bl : isTy "bool" "list" = some false := by decide +kernel
theorem isTy_td : isTy "tuple" "dict" = some false := by decide +kernel
theorem isTy_dd : isTy "dict" "dict" = some true := by decide +kernel
theorem OffL.trans1 {ps : List Addr} {S T U : Sto} (h : OffL ps S T) (g : OffL ps T U) : OffL ps S U := fun a ha => (g a ha).trans (h a ha)
end Wl
set_option Elab.async false
set_option linter.all false
set_option maxRecDepth 100000
set_option maxHeartbeats 2000000
/-! insert, str of a text, sorted texts. -/
namespace Wl
open PySem PySem.Spec PyProof.Rows L2
variable {K : PySem.W.Frag} {B : Hp}
/-! ### xs.insert(i, y), i not below 0 -/
def rInsA : V → List V → Hp → VK → Prop := fun x vs H Q => ∃ (l : Addr) (xs : List V) (i : Int) (y : V), x = .ref l ∧ vs = [.int i, y] ∧ H l = some (.lst xs) ∧ xs.length < sizeLine ∧ 0 ≤ i ∧ i < 2 ^ 63 ∧
    Q .non (upd H l (.lst (xs.take i.toNat ++ [y] ++ xs.drop i.toNat)))
theorem mt_insertA {X : Cx} : MtR X "list.insert" rInsA := mt_insert
def wInsA : W → List W → Sto → WK → Prop := fun x ws S Q => match x, ws with
  | .ref l, [.int i, y] => ∃ xs, S l = some (.lst xs) ∧ xs.length < sizeLine ∧ 0 ≤ i ∧ i < 2 ^ 63 ∧ Q .non (put S l (.lst (xs.take i.toNat ++ [y] ++ xs.drop i.toNat)))
  | _, _ => False
instance lm_insertA : LMR K rInsA wInsA := ⟨fun H S x wx xs ws Q Qw hh rx r q po => by
  unfold wInsA at q
  split at q
  · rename_i l i wy
    cases (show x = _ from rx)
    obtain ⟨y, ys, rfl, ry, r⟩ := r
    cases (show y = _ from ry)
    obtain ⟨z, rfl, rz⟩ := rep1 r
    obtain ⟨zs, e, hl, h0, h1, q⟩ := q
    obtain ⟨vs, g1, g2⟩ := hh _ _ e
    have t : Tk H (upd H _ (.lst (vs.take i.toNat ++ [z] ++ vs.drop i.toNat))) := Tk.mut g1 (fun _ z => (by cases z)) (fun _ _ z => (by cases z))
    obtain ⟨t, hm⟩ := hh.mut (c' := .lst _) (o := .lst (vs.take i.toNat ++ [z] ++ vs.drop i.toNat)) e ⟨_, upd_same, ((RepL.tk t _ _ (g2.take i.toNat)).append (.one (Rep.tk t _ _ rz))).append (RepL.tk t _ _ (g2.drop i.toNat))⟩
    exact ⟨_, vs, _, z, rfl, rfl, g1, by rw [g2.length]; exact hl, h0, h1, po.non t hm q⟩
  · exact q.elim⟩
/-! ### str(n), str(x) -/
def rStrA : List V → Hp → VK → Prop := fun xs H Q => (∃ i, xs = [.int i] ∧ i.natAbs.log2 < 1920 ∧ Q (.str (toString i)) H) ∨ ∃ a, xs = [.str a] ∧ Q (.str a) H
theorem call_strA {X : Cx} : CallR X (.type "str") rStrA := by
  intro pins s σ H xs us Q I r h
  rcases h with h | h
  · exact call_str_int pins s σ H xs us Q I r h
  · exact SkE.call_str_str pins s σ H xs us Q I r h
def wStrA : RWC := fun ws S Q => match ws with
  | [.int i] => i.natAbs.log2 < 1920 ∧ Q (.str (toString i)) S
  | [.str a] => Q (.str a) S
  | _ => False
instance lc_strA : LCR K rStrA wStrA := ⟨fun H S xs ws Q Qw hh r q po => by
  unfold wStrA at q
  split at q
  · obtain ⟨x, rfl, h1⟩ := rep1 r
    cases (show x = _ from h1)
    exact .inl ⟨_, rfl, q.1, po.str (Tk.refl H) hh q.2⟩
  · obtain ⟨x, rfl, h1⟩ := rep1 r
    cases (show x = _ from h1)
    exact .inr ⟨_, rfl, po.str (Tk.refl H) hh q⟩
  · exact q.elim⟩
/-! ### sorted(xs): ints, texts -/
def rSortA (K : PySem.W.Frag) : List V → Hp → VK → Prop := fun vs H Q => rSorted K vs H Q ∨ rSortedS K vs H Q
theorem k_sortA (K : PySem.W.Frag) {X : Cx} (hK : X.K = K := by rfl) : CallR X (.builtin "sorted") (rSortA K) := by
  intro pins s σ H xs us Q I r h
  subst hK
  rcases h with h | h
  · exact cr_sorted pins s σ H xs us Q I r h
  · exact cr_sortedS pins s σ H xs us Q I r h
def wSortA : RWC := fun vs S Q => match vs with
  | [.ref a] => (∃ ns : List Int, S a = some (.lst (ns.map W.int)) ∧ ns.length < 64 ∧ ∀ (ns' : List Int) p, ns'.Perm ns → ns'.Pairwise (· ≤ ·) → S p = none → Q (.ref p) (put S p (.lst (ns'.map W.int)))) ∨
      ∃ xs : List Str, S a = some (.lst (xs.map W.str)) ∧ xs.length < 64 ∧ ∀ (ys : List Str) p, ys.Perm xs → sortedS ys = true → S p = none → Q (.ref p) (put S p (.lst (ys.map W.str)))
  | _ => False
instance lc_sortA : LCR K (rSortA K) wSortA := ⟨fun H S xs ws Q Qw hh r q po => by
  unfold wSortA at q
  split at q
  · obtain ⟨x, rfl, h1⟩ := rep1 r
    cases (show x = _ from h1)
    rcases q with ⟨ns, e, hl, q⟩ | ⟨ns, e, hl, q⟩
    · obtain ⟨vs, g1, g2⟩ := hh _ _ e
      have g3 := g2.ints
      subst g3
      exact .inl ⟨_, ns, rfl, SqL.of g1, hl, fun ns' p h1 h2 hp => po.nlst hp hh RepL.ofInts fun p hp => q ns' p h1 h2 hp⟩
    · obtain ⟨vs, g1, g2⟩ := hh _ _ e
      have g3 := g2.strs
      subst g3
      exact .inr ⟨_, ns, rfl, SqL.of g1, hl, fun ns' p h1 h2 hp => po.nlst hp hh RepL.ofStrs fun p hp => q ns' p h1 h2 hp⟩
  · exact q.elim⟩
/-! ### a text times an int -/
def rMulS : R2 := fun x y H Q => ∃ a n, x = .str a ∧ y = .int n ∧ MulOk a n ∧ Q (.str (Txt.mul a n)) H
theorem op_mulS {X : Cx} : OpR X (binaryOp .Mult) rMulS := by
  intro pins s σ H x y v u Q I rx ry h
  obtain ⟨a, n, rfl, rfl, ok, q⟩ := h
  obtain ⟨t, rfl⟩ := rx
  obtain ⟨t2, rfl⟩ := ry
  exact SB.mul ok fun t' k => ⟨.str _, H, I.tok _, ⟨_, rfl⟩, q⟩
def wMulS : RW2 := fun x y S Q => match x, y with
  | .str a, .int n => MulOk a n ∧ Q (.str (Txt.mul a n)) S
  | _, _ => False
instance l2_mulS : L2R K rMulS wMulS := ⟨fun H S x y wx wy Q Qw hh rx ry q po => by
  unfold wMulS at q
  split at q
  · cases (show x = _ from rx)
    cases (show y = _ from ry)
    exact ⟨_, _, rfl, rfl, q.1, po.str (Tk.refl H) hh q.2⟩
  · exact q.elim⟩
end Wl
set_option Elab.async false
set_option linter.all false
set_option maxRecDepth 100000
set_option maxHeartbeats 2000000
/-! Truth of lists and tuples, ranges with a step, tuple targets in comprehensions, generators. -/
namespace Wl
open PySem PySem.Spec PyProof.Rows L2
variable {K : PySem.W.Frag} {B : Hp}
/-! ### truth -/
def tTruA (K : PySem.W.Frag) (ta : TE) : TT := fun σ H Q => ta σ H fun x H' => ∃ k, TruV K x H' k ∧ Q k H'
theorem k_truth (K : PySem.W.Frag) {X : Cx} {a : Expr} {ta : TE} (ha : PE X a ta) (he : ∀ whole, isTrue a X.env whole = (do let v ← whole; standAt a.pos; holding [v] (truthy v)) := by intro _; rfl) (hK : X.K = K := by rfl) : PT X a (tTruA K ta) := by
  subst hK; exact pt_truth ha he
def wTruA (t : TEW) : TTW := fun ρ S Q => t ρ S fun x S1 => match x with
  | .non => Q false S1
  | .bl k => Q k S1
  | .int i => Q (i != 0) S1
  | .str z => z.length ≤ sizeLine ∧ Q ((z.length : Int) != 0) S1
  | .tup ws => Q (!ws.isEmpty) S1
  | .rl ws => Q (!ws.isEmpty) S1
  | .ref a => ∃ ws, S1 a = some (.lst ws) ∧ Q (!ws.isEmpty) S1
  | _ => False
theorem RepL.isE {H : Hp} {ws : List W} {xs : List V} (r : RepL K H ws xs) : xs.isEmpty = ws.isEmpty := by
  have h := r.length
  cases xs <;> cases ws <;> first | rfl | (simp at h)
instance lt_truA {t : TE} {tw : TEW} [a : LE K B t tw] : LT K B (tTruA K t) (wTruA tw) := ⟨fun σ H ρ S Q Qw hs hh q po =>
  a.l σ H ρ S _ _ hs hh q fun x H1 wx S1 t1 hh1 r1 q1 => by
    cases wx <;> try exact q1.elim
    · cases (show x = _ from r1)
      exact ⟨_, rfl, po _ H1 S1 t1 hh1 q1⟩
    · cases (show x = _ from r1)
      exact ⟨_, rfl, po _ H1 S1 t1 hh1 q1⟩
    · cases (show x = _ from r1)
      exact ⟨_, rfl, po _ H1 S1 t1 hh1 q1⟩
    · cases (show x = _ from r1)
      exact ⟨_, ⟨q1.1, rfl⟩, po _ H1 S1 t1 hh1 q1.2⟩
    · cases (show x = _ from r1)
      obtain ⟨ws, e, q⟩ := q1
      obtain ⟨xs, h1, h2⟩ := hh1 _ _ e
      exact ⟨_, .inl ⟨xs, SqL.of h1, rfl⟩, po _ H1 S1 t1 hh1 (by rw [h2.isE]; exact q)⟩
    · obtain ⟨a, xs, rfl, h1, h2⟩ := r1
      exact ⟨_, .inr (.inl ⟨xs, h1, rfl⟩), po _ H1 S1 t1 hh1 (by rw [h2.isE]; exact q1)⟩
    · obtain ⟨a, xs, rfl, h1, h2⟩ := r1
      exact ⟨_, .inl ⟨xs, h1.sq, rfl⟩, po _ H1 S1 t1 hh1 (by rw [h2.isE]; exact q1)⟩⟩

/-! ### range(i, j, -1), any step -/
def stepsW (lo c : Int) (n : Nat) : List W := (List.range n).map fun i => W.int (lo + (i : Nat) * c)
theorem stepsW_len {lo c : Int} {n : Nat} : (stepsW lo c n).length = n := by unfold stepsW; simp
theorem stepsW_get {lo c : Int} {n i : Nat} (h : i < n) : (stepsW lo c n)[i]? = some (W.int (lo + (i : Nat) * c)) := by unfold stepsW; simp [h]
theorem stepsW_at {lo c : Int} {n i : Nat} {w : W} (h : (stepsW lo c n)[i]? = some w) : i < n ∧ w = W.int (lo + (i : Nat) * c) := by
  unfold stepsW at h
  rw [List.getElem?_map] at h
  by_cases q : i < n
  · rw [List.getElem?_range q] at h
    exact ⟨q, (Option.some.inj h).symm⟩
  · rw [List.getElem?_eq_none (by simpa using q)] at h
    cases h
theorem src_steps {H1 : Hp} {lo c : Int} {n : Nat} : IsSrc K H1 (Itc lo c n) (stepsW lo c n) anyS where
  go := fun i H S t hh ok hi => by rw [stepsW_len] at hi; exact hi
  yld := fun i H S x H' t hh ok hi y => by
    obtain ⟨e, y⟩ := y
    subst e y
    rw [stepsW_len] at hi
    exact ⟨Tk.refl _, hh, W.int (lo + (i : Nat) * c), stepsW_get hi, (show Rep K _ (W.int (lo + (i : Nat) * c)) _ from rfl)⟩
  stop := fun i H S t hh ok hi => by rw [stepsW_len] at hi; exact hi
def wiR3 (ta : TAW) : TIW := fun ρ S R => ta ρ S fun ws S1 => match ws with
  | [.int i, .int j, .int c] => ∃ n, RgC i j c n ∧ R (stepsW i c n) anyS S1
  | _ => False
theorem rep3 {H : Hp} {w z u : W} {xs : List V} (r : RepL K H [w, z, u] xs) : ∃ x y a, xs = [x, y, a] ∧ Rep K H w x ∧ Rep K H z y ∧ Rep K H u a := by
  obtain ⟨x, r, rfl, h1, h2⟩ := r
  obtain ⟨y, a, rfl, h3, h4⟩ := rep2 h2
  exact ⟨x, y, a, rfl, h1, h3, h4⟩
instance li_r3 {t : TA} {tw : TAW} [a : LA K B t tw] : LI K B (iRng3 t) (wiR3 tw) := ⟨fun σ H ρ S R Rw hs hh q po => a.l σ H ρ S _ _ hs hh q fun xs H1 ws S1 t1 hh1 r1 q1 => by
  split at q1
  · obtain ⟨x, y, z, rfl, h1, h2, h3⟩ := rep3 r1
    cases (show x = _ from h1)
    cases (show y = _ from h2)
    cases (show z = _ from h3)
    obtain ⟨n, hn, q⟩ := q1
    exact ⟨_, _, _, n, rfl, hn, po _ H1 S1 _ _ t1 hh1 src_steps q⟩
  · exact q1.elim⟩

/-! ### tuple targets in comprehensions -/
class GWg (g : TG) (vs : List Nat) : Prop where
  l : ∀ v σ H Q, g v σ H Q → g v σ H fun σ2 H2 => wipe σ2 vs = wipe σ vs ∧ Q σ2 H2
  m : ∀ v σ H (Q R : L2.St → Hp → Prop), (∀ a b, Q a b → R a b) → g v σ H Q → g v σ H R
class GWgs (g : TGs) (vs : List Nat) : Prop where
  l : ∀ v σ H Q, g v σ H Q → g v σ H fun σ2 H2 => wipe σ2 vs = wipe σ vs ∧ Q σ2 H2
  m : ∀ v σ H (Q R : L2.St → Hp → Prop), (∀ a b, Q a b → R a b) → g v σ H Q → g v σ H R
theorem wipe_set' {σ : L2.St} {vs : List Nat} {j : Nat} {x : V} (hj : j ∈ vs) : wipe (σ.set j (some x)) vs = wipe σ vs := by
  apply List.ext_getElem?
  intro i
  rw [wipe_at, wipe_at]
  by_cases hi : i ∈ vs
  · simp [hi]
  · rw [if_neg hi, if_neg hi, List.getElem?_set_ne (show j ≠ i from fun e => hi (by rw [← e]; exact hj))]
theorem wipe_wipe (σ : L2.St) (vs : List Nat) : wipe (wipe σ vs) vs = wipe σ vs := by
  apply List.ext_getElem?
  intro i
  rw [wipe_at, wipe_at]
  by_cases hi : i ∈ vs
  · simp [hi, wipe_length]
  · rw [if_neg hi, if_neg hi]
instance gwg_name {j : Nat} {vs : List Nat} [h : MemN j vs] : GWg (gName j) vs := ⟨fun v σ H Q q => ⟨wipe_set' h.h, q⟩, fun v σ H Q R hm q => hm _ _ q⟩
instance gwgs_nil {vs : List Nat} : GWgs gNil vs := ⟨fun v σ H Q q => ⟨q.1, rfl, q.2⟩, fun v σ H Q R hm q => ⟨q.1, hm _ _ q.2⟩⟩
instance gwgs_cons {t : TG} {u : TGs} {vs : List Nat} [a : GWg t vs] [b : GWgs u vs] : GWgs (gCons t u) vs := ⟨fun v σ H Q ⟨x, r, e, q⟩ => ⟨x, r, e, by
  refine a.m _ _ _ _ _ ?_ (a.l x σ H _ q)
  rintro σ2 H2 ⟨e2, q2⟩
  refine b.m _ _ _ _ _ ?_ (b.l r σ2 H2 Q q2)
  rintro σ3 H3 ⟨e3, q3⟩
  exact ⟨e3.trans e2, q3⟩⟩, fun v σ H Q R hm ⟨x, r, e, q⟩ => ⟨x, r, e, a.m _ _ _ _ _ (fun σ2 H2 q2 => b.m _ _ _ _ _ hm q2) q⟩⟩
instance gwg_tup {n : Nat} {u : TGs} {vs : List Nat} [b : GWgs u vs] : GWg (gTup K n u) vs := ⟨fun v σ H Q ⟨a, xs, h1, h2, h3, q⟩ => ⟨a, xs, h1, h2, h3, b.l xs σ H Q q⟩, fun v σ H Q R hm ⟨a, xs, h1, h2, h3, q⟩ => ⟨a, xs, h1, h2, h3, b.m _ _ _ _ _ hm q⟩⟩
instance gw_tup {n : Nat} {u : TGs} {vs : List Nat} [b : GWgs u vs] : GW (gTup K n u) vs := ⟨fun v σ H Q q => by
  have h := (gwg_tup (K := K) (n := n) (u := u) (vs := vs)).l v (wipe σ vs) H Q q
  refine (gwg_tup (K := K) (n := n) (u := u) (vs := vs)).m _ _ _ _ _ ?_ h
  rintro σ2 H2 ⟨e, q2⟩
  exact ⟨e.trans (wipe_wipe σ vs), q2⟩⟩

/-! ### generators -/
structure GEndsW where
  nx : List W → StW → Sto → Prop
  rt : List W → WK
  bk : List W → StW → Sto → Prop := fun _ _ _ => False
  ct : List W → StW → Sto → Prop := fun _ _ _ => False
abbrev TGnW := GEndsW → List W → StW → Sto → Prop
def PoGS (K : PySem.W.Frag) (B H : Hp) (Q : List V → L2.St → Hp → Prop) (Qw : List W → StW → Sto → Prop) : Prop := ∀ ys ws σ' H' ρ' S', Tk H H' → RepL K H' ws ys → SRep K B H' σ' ρ' → HRep K H' S' → Qw ws ρ' S' → Q ys σ' H'
theorem PoGS.tk {H H1 : Hp} {Q : List V → L2.St → Hp → Prop} {Qw : List W → StW → Sto → Prop} (h : PoGS K B H Q Qw) (t : Tk H H1) : PoGS K B H1 Q Qw := fun ys ws σ' H' ρ' S' t' => h ys ws σ' H' ρ' S' (t.trans t')
def PoGR (K : PySem.W.Frag) (H : Hp) (Q : List V → VK) (Qw : List W → WK) : Prop := ∀ ys ws v H' w S', Tk H H' → RepL K H' ws ys → HRep K H' S' → Rep K H' w v → Qw ws w S' → Q ys v H'
theorem PoGR.tk {H H1 : Hp} {Q : List V → VK} {Qw : List W → WK} (h : PoGR K H Q Qw) (t : Tk H H1) : PoGR K H1 Q Qw := fun ys ws v H' w S' t' => h ys ws v H' w S' (t.trans t')
structure PoG (K : PySem.W.Frag) (B H : Hp) (D : GEnds) (Dw : GEndsW) : Prop where
  nx : PoGS K B H D.nx Dw.nx
  bk : PoGS K B H D.bk Dw.bk
  ct : PoGS K B H D.ct Dw.ct
  rt : PoGR K H D.rt Dw.rt
theorem PoG.tk {H H1 : Hp} {D : GEnds} {Dw : GEndsW} (h : PoG K B H D Dw) (t : Tk H H1) : PoG K B H1 D Dw := ⟨h.nx.tk t, h.bk.tk t, h.ct.tk t, h.rt.tk t⟩
class LGn (K : PySem.W.Frag) (B : Hp) (t : TGn) (tw : outParam TGnW) : Prop where
  l : ∀ ys ws σ H ρ S D Dw, RepL K H ws ys → SRep K B H σ ρ → HRep K H S → tw Dw ws ρ S → PoG K B H D Dw → t D ys σ H
def GEndsW.at (D : GEndsW) (ys : List W) : EndsW := { nx := D.nx ys, rt := D.rt ys, bk := D.bk ys, ct := D.ct ys }
def wPlainG (t : TSW) : TGnW := fun D ys ρ S => t (D.at ys) ρ S
instance lgn_plain {t : TS} {tw : TSW} [a : LS K B t tw] : LGn K B (tPlain t) (wPlainG tw) := ⟨fun ys ws σ H ρ S D Dw hy hs hh q po =>
  a.l σ H ρ S (D.at ys) (Dw.at ws) hs hh q ⟨fun σ' H' ρ' S' t1 hs' hh' q' => po.nx ys ws σ' H' ρ' S' t1 (RepL.tk t1 _ _ hy) hs' hh' q', fun σ' H' ρ' S' t1 hs' hh' q' => po.bk ys ws σ' H' ρ' S' t1 (RepL.tk t1 _ _ hy) hs' hh' q',
    fun σ' H' ρ' S' t1 hs' hh' q' => po.ct ys ws σ' H' ρ' S' t1 (RepL.tk t1 _ _ hy) hs' hh' q', fun v H' w S' t1 hh' r q' => po.rt ys ws v H' w S' t1 (RepL.tk t1 _ _ hy) hh' r q'⟩⟩
def wG0 : TGnW := fun D ys ρ S => D.nx ys ρ S
instance lgn_0 : LGn K B tG0 wG0 := ⟨fun ys ws σ H ρ S D Dw hy hs hh q po => po.nx ys ws σ H ρ S (Tk.refl H) hy hs hh q⟩
def wGThen (t u : TGnW) : TGnW := fun D ys ρ S => t { D with nx := fun ys' ρ' S' => u D ys' ρ' S' } ys ρ S
instance lgn_then {t u : TGn} {tw uw : TGnW} [a : LGn K B t tw] [b : LGn K B u uw] : LGn K B (tGThen t u) (wGThen tw uw) := ⟨fun ys ws σ H ρ S D Dw hy hs hh q po =>
  a.l ys ws σ H ρ S _ _ hy hs hh q ⟨fun ys' ws' σ' H' ρ' S' t1 hy' hs' hh' q' => b.l ys' ws' σ' H' ρ' S' D Dw hy' hs' hh' q' (po.tk t1), po.bk, po.ct, po.rt⟩⟩
def wGYield (te : TEW) : TGnW := fun D ys ρ S => ys.length < sizeLine ∧ te ρ S fun x S1 => D.nx (ys ++ [x]) ρ S1
instance lgn_yield {te : TE} {we : TEW} [a : LE K B te we] : LGn K B (tGYield te) (wGYield we) := ⟨fun ys ws σ H ρ S D Dw hy hs hh q po =>
  ⟨by rw [hy.length]; exact q.1, a.l σ H ρ S _ _ hs hh q.2 fun x H1 wx S1 t1 hh1 r1 q1 => po.nx _ _ σ H1 ρ S1 t1 ((RepL.tk t1 _ _ hy).append (.one r1)) (hs.tk t1) hh1 q1⟩⟩
@[irreducible] def WhG (c : TTW) (tb : TGnW) : TGnW := fun D ys ρ S => ∃ I : Nat → List W → StW → Sto → Prop, (∃ m, I m ys ρ S) ∧ ∀ m ys ρ S, I m ys ρ S → c ρ S fun b S1 =>
  (b = true → tb { D with nx := fun ys' ρ' S' => ∃ m', m' < m ∧ I m' ys' ρ' S', ct := fun ys' ρ' S' => ∃ m', m' < m ∧ I m' ys' ρ' S', bk := D.nx } ys ρ S1) ∧ (b = false → D.nx ys ρ S1)
theorem wh_g {c : TTW} {tb : TGnW} {D : GEndsW} {ys : List W} {ρ : StW} {S : Sto} (I : Nat → List W → StW → Sto → Prop) (h0 : ∃ m, I m ys ρ S) (turn : ∀ m ys ρ S, I m ys ρ S → c ρ S fun b S1 =>
  (b = true → tb { D with nx := fun ys' ρ' S' => ∃ m', m' < m ∧ I m' ys' ρ' S', ct := fun ys' ρ' S' => ∃ m', m' < m ∧ I m' ys' ρ' S', bk := D.nx } ys ρ S1) ∧ (b = false → D.nx ys ρ S1)) : WhG c tb D ys ρ S := by
  unfold WhG; exact ⟨I, h0, turn⟩
instance lgn_while {c : TT} {tb : TGn} {cw : TTW} {tw : TGnW} [h : LT K B c cw] [a : LGn K B tb tw] : LGn K B (tGWhile c tb) (WhG cw tw) := ⟨fun ys ws σ H ρ S D Dw hy hs hh q po => by
  unfold WhG at q
  obtain ⟨I, ⟨m0, i0⟩, st⟩ := q
  refine ⟨fun m ys' σ' H' => ∃ ws' ρ' S', Tk H H' ∧ RepL K H' ws' ys' ∧ SRep K B H' σ' ρ' ∧ HRep K H' S' ∧ I m ws' ρ' S', ⟨m0, ws, ρ, S, Tk.refl H, hy, hs, hh, i0⟩, ?_⟩
  rintro m ys1 σ1 H1 ⟨ws1, ρ1, S1, t1, hy1, hs1, hh1, i1⟩
  refine h.l σ1 H1 ρ1 S1 _ _ hs1 hh1 (st m ws1 ρ1 S1 i1) fun b H2 S2 t2 hh2 q2 => ?_
  cases b with
  | true =>
    rw [if_pos rfl]
    refine ⟨fun ys' σ' H' => ∃ m', m' < m ∧ ∃ ws' ρ' S', Tk H H' ∧ RepL K H' ws' ys' ∧ SRep K B H' σ' ρ' ∧ HRep K H' S' ∧ I m' ws' ρ' S', fun ys' σ' H' z => z, ?_⟩
    refine a.l ys1 ws1 σ1 H2 ρ1 S2 _ _ (RepL.tk t2 _ _ hy1) (hs1.tk t2) hh2 (q2.1 rfl) ⟨?_, ?_, ?_, po.rt.tk (t1.trans t2)⟩
    · rintro ys' ws' σ' H' ρ' S' t3 hy3 hs3 hh3 ⟨m', hm, q⟩
      exact ⟨m', hm, ws', ρ', S', (t1.trans t2).trans t3, hy3, hs3, hh3, q⟩
    · exact po.nx.tk (t1.trans t2)
    · rintro ys' ws' σ' H' ρ' S' t3 hy3 hs3 hh3 ⟨m', hm, q⟩
      exact ⟨m', hm, ws', ρ', S', (t1.trans t2).trans t3, hy3, hs3, hh3, q⟩
  | false =>
    rw [if_neg Bool.false_ne_true]
    exact po.nx ys1 ws1 σ1 H2 ρ1 S2 (t1.trans t2) (RepL.tk t2 _ _ hy1) (hs1.tk t2) hh2 (q2.2 rfl)⟩
/-- a generator def's promise over data: the arguments, the store, what is wanted of all that is handed out -/
abbrev SpGW := List W → Sto → (List W → Sto → Prop) → Prop
def liftG (K : PySem.W.Frag) (sp : SpGW) : SpG := fun vs H cont _ => ∃ ws S cw, RepL K H ws vs ∧ HRep K H S ∧ sp ws S cw ∧ PoA K H cont cw
section
variable {P : Program} {w : World} {mg : Str → Option Value} {base : Heap}
structure CalG (P : Program) (w : World) (K : PySem.W.Frag) (mg : Str → Option Value) (base : Heap) (k : Nat) (x : Str) (sp : SpGW) : Prop where
  ex : ∃ (f : Addr) (fd : FuncData) (ps : List Str), GFn P w K mg base k f fd ps (liftG K sp) ∧ mg x = some (.ref f) ∧ PySem.W.keepIn K (.ref f) = true ∧ Binds K fd ps []
@[irreducible] def HdG (sp : SpGW) : SpGW := sp
theorem HdG_eq (sp : SpGW) : HdG sp = sp := by unfold HdG; rfl
theorem HdG.mk {sp : SpGW} {ws : List W} {S : Sto} {Q : List W → Sto → Prop} (h : sp ws S Q) : HdG sp ws S Q := by rw [HdG_eq]; exact h
theorem CalG.hd {k : Nat} {x : Str} {sp : SpGW} (c : CalG P w K mg base k x sp) : CalG P w K mg base k x (HdG sp) := by rw [HdG_eq]; exact c
theorem never_passes {X : Cx} : Passes (L2.CX X.prog X.w) X E0 := fun pins σ H s e s' I c => by
  obtain ⟨a, B, H', cls, d, rfl, fl, _, _, _, _, _, hW⟩ := c
  exact hW.elim
theorem never_stop : NoStop K E0 := fun _ _ _ h => h.elim
/-- list(f(e, ..)), f a generator def -/
theorem k_listG (K : PySem.W.Frag) {X : Cx} {k j : Nat} {x : Str} {sp : SpGW} {p pos pos' : Pos} {e : Expr} {es : List Expr} {t : TA} {nm : Str} {p2 : Pos} (c : CalG X.prog X.w K X.mg X.base k x sp) (hr : Room j X.A) (hk : k + 3 ≤ j) (hg : Gl X x) (hgl : Gl X nm) (hmg : X.mg nm = none) (hv : bootBuiltins nm = some (.type "list")) (ha : PA X (e :: es) t)
    (hdb : (x == ("__debug__" : Str)) = false := by decide) (he : starEach (e :: es) X.env = (false, eval e X.env) :: starEach es X.env := by rfl) (hpl : (backTo pos' (starEach es X.env)).any (·.1) = false := by rfl)
    (hnm : nm ≠ "__name__" := by decide) (hdb2 : (nm == ("__debug__" : Str)) = false := by decide)
    (he2 : starEach [.Call (.Name x p) (e :: es) [] pos'] X.env = (false, eval (.Call (.Name x p) (e :: es) [] pos') X.env) :: starEach [] X.env := by rfl) (hK : X.K = K := by rfl) :
    PE X (.Call (.Name nm p2) [.Call (.Name x p) (e :: es) [] pos'] [] pos) (tListG (tCallG (liftG K sp) [] E0 t)) := by
  subst hK
  obtain ⟨f, fd, ps, F, hm, kp, b⟩ := c.ex
  exact pe_listG (pgen_call (dvs := []) F (hr.mono (by omega)) hg hm kp b .nil ha hdb he hpl) never_passes never_stop (hr.mono hk) hgl hmg hv hnm hdb2 he2
def wListG (sp : SpGW) (t : TAW) : TEW := fun ρ S Q => t ρ S fun ws S1 => sp ws S1 fun outs S2 => ∀ p, S2 p = none → Q (.ref p) (put S2 p (.lst outs))
instance le_listG {sp : SpGW} {t : TA} {tw : TAW} [a : LA K B t tw] : LE K B (tListG (tCallG (liftG K sp) [] E0 t)) (wListG sp tw) := ⟨fun σ H ρ S Q Qw hs hh q po =>
  a.l σ H ρ S _ _ hs hh q fun xs H1 ws S1 t1 hh1 r1 q1 => ⟨ws, S1, _, by rw [List.append_nil]; exact r1, hh1, q1, fun vs H2 ws2 S2 t2 hh2 r2 q2 p hp => (po.tk (t1.trans t2)).nlst hp hh2 r2 q2⟩⟩
@[irreducible] def FgG (Q : List W → Sto → Prop) : List W → Sto → Prop := fun ws S => ∃ S', Sub S' S ∧ Q ws S'
theorem FgG_eq (Q : List W → Sto → Prop) (ws : List W) (S : Sto) : FgG Q ws S = ∃ S', Sub S' S ∧ Q ws S' := by unfold FgG; rfl
theorem fgg_here {Q : List W → Sto → Prop} {v : List W} {S : Sto} (h : Q v S) : FgG Q v S := by rw [FgG_eq]; exact ⟨S, Sub.refl S, h⟩
theorem fgg_sub {Q : List W → Sto → Prop} {v : List W} {S S' : Sto} (h : Sub S' S) (q : Q v S') : FgG Q v S := by rw [FgG_eq]; exact ⟨S', h, q⟩
theorem fgg_off {ps : List Addr} {S T : Sto} {Q : List W → Sto → Prop} {v : List W} (h : KpL ps S T) (q : ∀ S', OffL ps S S' → (∀ a ∈ ps, S' a = T a) → Q v S') : FgG Q v T := by
  refine fgg_sub (S' := fun a => if a ∈ ps then T a else S a) (fun a c e => ?_) (q _ (fun a ha => if_neg ha) (fun a ha => if_pos ha))
  have e : (if a ∈ ps then T a else S a) = some c := e
  by_cases ha : a ∈ ps
  · rw [if_pos ha] at e; exact e
  · rw [if_neg ha] at e; exact h a c ha e
/-- a generator def by its body -/
theorem calG {x : Str} {st : Stmt} {N ps : List Str} {k : Nat} {sp : SpGW} (d : DefAt K mg x st ps) (SC : GScope N ps (defScope st))
    (len : ∀ ws S Q, sp ws S Q → ws.length = ps.length)
    (hbody : ∀ (f : Addr) (cdv : Value) (A : Around) (outer : List Env) (s : Shared) (H : Hp) (E : XK) (pn : List (Addr × Obj)), Room k (A.deeper (envOfC x (defScope st) s.heap.objs.size f cdv)) →
      ∃ t tw, GSs (gcxOf P w K mg base N x (defScope st) f cdv A outer s H E pn) (defBody st) t ∧ LGn K H t tw ∧ ∀ ws S Q, sp ws S Q → tw { nx := fun ys _ S' => FgG Q ys S', rt := fun ys v S' => v = .non ∧ FgG Q ys S' } [] (startW N ws) S) :
    CalG P w K mg base (k + 1) x sp := by
  obtain ⟨f, fd, F, hm, b⟩ := d.ex
  obtain ⟨oc, od, kV, doc, pm, an, cdv, ct, osl, rfl, lk, hcd⟩ := id F.ex
  refine ⟨f, _, ps, gfn_of lk hcd SC (fun vs H Q E ⟨ws, S, cw, h1, _, h3, _⟩ => by rw [h1.length]; exact len _ _ _ h3) (fun A outer s H vs Q E pn hr hsp => ?_), hm, F.kp, b⟩
  obtain ⟨ws, S, cw, h1, h2, h3, h4⟩ := hsp
  obtain ⟨t, tw, ht, hl, hq⟩ := hbody f cdv A outer s H E pn hr
  have fin : ∀ ys ws' H' S', Tk H H' → RepL K H' ws' ys → HRep K H' S' → FgG cw ws' S' → Q ys H' := fun ys ws' H' S' t1 hy hh q => by
    rw [FgG_eq] at q
    obtain ⟨S2, sub, q⟩ := q
    exact h4 ys H' ws' S2 t1 (hh.sub sub) hy q
  refine ⟨t, ht, hl.l [] [] (start N vs) H (startW N ws) S _ _ RepL.nil (SRep.init h1) h2 (hq ws S cw h3) ⟨?_, ?_, ?_, ?_⟩⟩
  · exact fun ys ws' σ' H' ρ' S' t1 hy hs hh q => fin ys ws' H' S' t1 hy hh q
  · exact fun _ _ _ _ _ _ _ _ _ _ q => q.elim
  · exact fun _ _ _ _ _ _ _ _ _ _ q => q.elim
  · rintro ys ws' v H' w S' t1 hy hh r ⟨rfl, q⟩
    exact ⟨r, fin ys ws' H' S' t1 hy hh q⟩

end
end Wl
set_option Elab.async false
set_option linter.all false
set_option maxRecDepth 100000
set_option maxHeartbeats 2000000
/-! Dicts as data; dicts of the module. -/
namespace Wl
open PySem PySem.Spec PyProof.Rows L2
variable {K : PySem.W.Frag} {B : Hp}
def keyW : Key → W
  | .inl i => .int i
  | .inr x => .str x
def toKey : W → Option Key
  | .int i => some (.inl i)
  | .str x => some (.inr x)
  | _ => none
theorem toKey_rep {H : Hp} {w : W} {v : V} {k : Key} (r : Rep K H w v) (h : toKey w = some k) : v = kV k ∧ w = keyW k := by
  cases w with
  | int i => cases h; exact ⟨r, rfl⟩
  | str i => cases h; exact ⟨r, rfl⟩
  | _ => cases h
section
variable {κ : Type} [DecidableEq κ]
def valW (kvs : List (κ × W)) (k : κ) : Option W := (kvs.find? fun kv => decide (kv.1 = k)).map (·.2)
def putW (kvs : List (κ × W)) (k : κ) (v : W) : List (κ × W) :=
  if (kvs.any fun kv => decide (kv.1 = k)) = true then kvs.map (fun kv => if kv.1 = k then (kv.1, v) else kv) else kvs ++ [(k, v)]
theorem RepKV.length {H : Hp} : ∀ {ps : List (κ × W)} {ys : List (κ × V)}, RepKV K H ps ys → ys.length = ps.length
  | [], _, h => by cases (show _ = [] from h); rfl
  | p :: ps, _, h => by
    obtain ⟨v, r, rfl, _, h2⟩ := h
    rw [List.length_cons, List.length_cons, RepKV.length h2]
theorem RepKV.val {H : Hp} (k : κ) : ∀ {ps : List (κ × W)} {ys : List (κ × V)}, RepKV K H ps ys → match valW ps k, valV ys k with
    | some w, some v => Rep K H w v
    | none, none => True
    | _, _ => False
  | [], _, h => by cases (show _ = [] from h); exact True.intro
  | p :: ps, _, h => by
    obtain ⟨v, r, rfl, h1, h2⟩ := h
    by_cases e : p.1 = k
    · have a : valW (p :: ps) k = some p.2 := by simp [valW, List.find?_cons, e]
      have b : valV ((p.1, v) :: r) k = some v := valV_pos e
      rw [a, b]
      exact h1
    · have a : valW (p :: ps) k = valW ps k := by simp [valW, List.find?_cons, e]
      have b : valV ((p.1, v) :: r) k = valV r k := valV_neg e
      rw [a, b]
      exact RepKV.val k h2
theorem RepKV.of_some {H : Hp} {k : κ} {ps : List (κ × W)} {ys : List (κ × V)} {w : W} (r : RepKV K H ps ys) (h : valW ps k = some w) : ∃ v, valV ys k = some v ∧ Rep K H w v := by
  have q := r.val k
  rw [h] at q
  cases e : valV ys k with
  | none => rw [e] at q; exact q.elim
  | some v => rw [e] at q; exact ⟨v, rfl, q⟩
theorem RepKV.of_none {H : Hp} {k : κ} {ps : List (κ × W)} {ys : List (κ × V)} (r : RepKV K H ps ys) (h : valW ps k = none) : valV ys k = none := by
  have q := r.val k
  rw [h] at q
  cases e : valV ys k with
  | none => rfl
  | some v => rw [e] at q; exact q.elim
theorem RepKV.isSome {H : Hp} {k : κ} {ps : List (κ × W)} {ys : List (κ × V)} (r : RepKV K H ps ys) : (valV ys k).isSome = (valW ps k).isSome := by
  cases e : valW ps k with
  | none => rw [r.of_none e]; rfl
  | some w => obtain ⟨v, e2, _⟩ := r.of_some e; rw [e2]; rfl
theorem RepKV.any {H : Hp} {k : κ} : ∀ {ps : List (κ × W)} {ys : List (κ × V)}, RepKV K H ps ys → (ys.any fun kv => decide (kv.1 = k)) = ps.any fun kv => decide (kv.1 = k)
  | [], _, h => by cases (show _ = [] from h); rfl
  | p :: ps, _, h => by
    obtain ⟨v, r, rfl, h1, h2⟩ := h
    rw [List.any_cons, List.any_cons, RepKV.any h2]
theorem RepKV.append {H : Hp} : ∀ {ps qs : List (κ × W)} {ys zs : List (κ × V)}, RepKV K H ps ys → RepKV K H qs zs → RepKV K H (ps ++ qs) (ys ++ zs)
  | [], _, _, _, h, g => by cases (show _ = [] from h); exact g
  | p :: ps, _, _, _, h, g => by
    obtain ⟨v, r, rfl, h1, h2⟩ := h
    exact ⟨v, _, rfl, h1, RepKV.append h2 g⟩
theorem RepKV.repl {H : Hp} {k : κ} {w : W} {x : V} (q : Rep K H w x) : ∀ {ps : List (κ × W)} {ys : List (κ × V)}, RepKV K H ps ys → RepKV K H (ps.map fun kv => if kv.1 = k then (kv.1, w) else kv) (ys.map fun kv => if kv.1 = k then (kv.1, x) else kv)
  | [], _, h => by cases (show _ = [] from h); rfl
  | p :: ps, _, h => by
    obtain ⟨v, r, rfl, h1, h2⟩ := h
    by_cases e : p.1 = k
    · refine ⟨x, _, ?_, ?_, RepKV.repl q h2⟩
      · simp [e]
      · simp [e]; exact q
    · refine ⟨v, _, ?_, ?_, RepKV.repl q h2⟩
      · simp [e]
      · simp [e]; exact h1
theorem RepKV.put {H : Hp} {k : κ} {w : W} {x : V} {ps : List (κ × W)} {ys : List (κ × V)} (h : RepKV K H ps ys) (q : Rep K H w x) : RepKV K H (putW ps k w) (putK ys k x) := by
  unfold putW putK
  rw [h.any (k := k)]
  split
  · exact h.repl q
  · exact h.append ⟨x, [], rfl, q, rfl⟩
end
/-! ### dicts of the module -/
def lkW (kvs : List (Str × W)) (z : Str) : Option W := valW kvs z
structure DkAt (K : PySem.W.Frag) (w : World) (a : Addr) (kvs : List (Str × W)) : Prop where
  ex : ∃ es n, KDict K w a es n ∧ ∀ z : Str, ∃ r, PySem.W.nsIn K a z = some r ∧ match lkW kvs z, r with
    | some wd, some u => Wr K wd u
    | none, none => True
    | _, _ => False
/-- told by the written table: each key, each value -/
inductive DkEs (K : PySem.W.Frag) : List (Str × W) → List DictEntry → Prop where
  | nil : DkEs K [] []
  | cons {k : Str} {wd : W} {t : Tok} {hh : Int} {u : Value} {kvs : List (Str × W)} {es : List DictEntry} {e : DictEntry} : e.key = .str k t → e.val = u → e.refKey = false → Wr K wd u → DkEs K kvs es → DkEs K ((k, wd) :: kvs) (e :: es)
theorem DkEs.no_ref {kvs : List (Str × W)} {es : List DictEntry} (h : DkEs K kvs es) : es.any (·.refKey) = false := by
  induction h with
  | nil => rfl
  | cons h1 h2 h3 h4 h5 ih => rw [List.any_cons, h3, ih]; rfl
theorem DkEs.look {kvs : List (Str × W)} {es : List DictEntry} (h : DkEs K kvs es) (z : Str) : match lkW kvs z, (es.find? (·.key.isStr z)).map (·.val) with
    | some wd, some u => Wr K wd u
    | none, none => True
    | _, _ => False := by
  induction h with
  | nil => exact True.intro
  | @cons k wd t hh u kvs es e h1 h2 h3 h4 h5 ih =>
    have ek : e.key.isStr z = decide (k = z) := by
      rw [h1]
      show (k == z) = _
      by_cases q : k = z
      · subst q; simp
      · simp [q]
    by_cases q : k = z
    · have a : lkW ((k, wd) :: kvs) z = some wd := by simp [lkW, valW, List.find?_cons, q]
      have b : ((e :: es).find? (·.key.isStr z)).map (·.val) = some u := by
        rw [List.find?_cons, ek, decide_eq_true q]
        show some e.val = _
        rw [h2]
      rw [a, b]
      exact h4
    · have a : lkW ((k, wd) :: kvs) z = lkW kvs z := by simp [lkW, valW, List.find?_cons, q]
      have b : ((e :: es).find? (·.key.isStr z)).map (·.val) = (es.find? (·.key.isStr z)).map (·.val) := by
        rw [List.find?_cons, ek, decide_eq_false q]
      rw [a, b]
      exact ih
theorem dkAt_of {w : World} {a : Addr} {kvs : List (Str × W)} {es : Array DictEntry} {n : Nat} (hl : K.lookup a = some ⟨.type "dict", none, .dict es n, #[]⟩) (hk : PySem.W.KeysLit w.params es.toList) (low : (a == sysModules) = false) (h : DkEs K kvs es.toList) : DkAt K w a kvs := by
  refine ⟨es, n, ⟨hl, hk, low⟩, fun z => ?_⟩
  have q := h.look z
  refine ⟨(es.toList.find? (·.key.isStr z)).map (·.val), ?_, q⟩
  unfold PySem.W.nsIn
  rw [hl]
  dsimp only
  cases e : es.toList.find? (·.key.isStr z) with
  | some x => rfl
  | none => rw [h.no_ref]; rfl
theorem DkAt.of_some {w : World} {a : Addr} {kvs : List (Str × W)} (d : DkAt K w a kvs) {z : Str} {wd : W} (h : lkW kvs z = some wd) : ∃ es n u v, KDict K w a es n ∧ PySem.W.nsIn K a z = some (some u) ∧ RelV v u ∧ ∀ H, Rep K H wd v := by
  obtain ⟨es, n, kd, hz⟩ := d.ex
  obtain ⟨r, e, m⟩ := hz z
  rw [h] at m
  cases r with
  | none => exact m.elim
  | some u => obtain ⟨v, r, hv⟩ := m; exact ⟨es, n, u, v, kd, e, r, hv⟩
theorem DkAt.isSome {w : World} {a : Addr} {kvs : List (Str × W)} (d : DkAt K w a kvs) (z : Str) : ∃ es n r, KDict K w a es n ∧ PySem.W.nsIn K a z = some r ∧ r.isSome = (lkW kvs z).isSome := by
  obtain ⟨es, n, kd, hz⟩ := d.ex
  obtain ⟨r, e, m⟩ := hz z
  refine ⟨es, n, r, kd, e, ?_⟩
  cases hw : lkW kvs z <;> rw [hw] at m <;> cases r <;> first | rfl | exact m.elim
end Wl
set_option Elab.async false
set_option linter.all false
set_option maxRecDepth 100000
set_option maxHeartbeats 2000000
/-! Dicts over data: keys that are ints or texts; dicts of the module. -/
namespace Wl
open PySem PySem.Spec PyProof.Rows L2
variable {K : PySem.W.Frag} {B : Hp}
/-! ### in -/
def ngB (neg b : Bool) : Bool := if neg then !b else b
def rInB (K : PySem.W.Frag) (w : World) (neg : Bool) : R2 := fun x y H Q => rInA K neg x y H Q ∨ (∃ a o, y = .ref a ∧ DGet H a x o ∧ Q (.bl (ngB neg o.isSome)) H) ∨
  (∃ d es n z r, KDict K w d es n ∧ x = .str z ∧ y = .ref d ∧ PySem.W.nsIn K d z = some r ∧ Q (.bl (ngB neg r.isSome)) H)
theorem k_inB (K : PySem.W.Frag) (w : World) {X : Cx} (hu : X.A.units + 1 < cLine) (hK : X.K = K := by rfl) (hw : X.w = w := by rfl) : OpR X (compareOp .In) (rInB K w false) := by
  subst hK hw
  intro pins s σ H x y v u Q I rx ry h
  rcases h with h | ⟨a, o, e, g, q⟩ | ⟨d, es, n, z, r, kd, e1, e2, e3, q⟩
  · exact op_inA pins s σ H x y v u Q I rx ry h
  · subst e
    obtain rfl : u = Value.ref a := ry
    exact d_in hu I g rx fun s3 I3 => ⟨.bl o.isSome, H, I3, rfl, q⟩
  · exact op_in_kd kd pins s σ H x y v u Q I rx ry ⟨z, r, e1, e2, e3, q⟩
theorem k_notInB (K : PySem.W.Frag) (w : World) {X : Cx} (hu : X.A.units + 1 < cLine) (hK : X.K = K := by rfl) (hw : X.w = w := by rfl) : OpR X (compareOp .NotIn) (rInB K w true) := by
  subst hK hw
  intro pins s σ H x y v u Q I rx ry h
  rcases h with h | ⟨a, o, e, g, q⟩ | ⟨d, es, n, z, r, kd, e1, e2, e3, q⟩
  · exact op_notInA pins s σ H x y v u Q I rx ry h
  · subst e
    obtain rfl : u = Value.ref a := ry
    exact d_notIn hu I g rx fun s3 I3 => ⟨.bl (!o.isSome), H, I3, rfl, q⟩
  · exact op_notIn_kd kd pins s σ H x y v u Q I rx ry ⟨z, r, e1, e2, e3, q⟩
def wInB (K : PySem.W.Frag) (w : World) (neg : Bool) : RW2 := fun x y S Q => match x, y with
  | .str i, .str j => Q (.bl (ngB neg (!(Builtin.Str.occurrences j i 0 j.length 1).isEmpty))) S
  | x, .tup ws => flatW x = true ∧ ws.all flatW = true ∧ Q (.bl (ngB neg (isInW x ws))) S
  | x, .rl ws => flatW x = true ∧ ws.all flatW = true ∧ Q (.bl (ngB neg (isInW x ws))) S
  | x, .ref a => (flatW x = true ∧ ∃ ws, S a = some (.lst ws) ∧ ws.all flatW = true ∧ Q (.bl (ngB neg (isInW x ws))) S) ∨
      (∃ kvs k, S a = some (.dk kvs) ∧ toKey x = some k ∧ Q (.bl (ngB neg (valW kvs k).isSome)) S) ∨
      ∃ kvs z, DkAt K w a kvs ∧ x = .str z ∧ Q (.bl (ngB neg (lkW kvs z).isSome)) S
  | _, _ => False
instance l2_inB {w : World} {neg : Bool} : L2R K (rInB K w neg) (wInB K w neg) := ⟨fun H S x y wx wy Q Qw hh rx ry q po => by
  have old : wIn neg wx wy S Qw → rInB K w neg x y H Q := fun q => .inl (l2_in.l H S x y wx wy Q Qw hh rx ry q po)
  have ref : ∀ {a : Addr}, Rep K H (.ref a) y → ((flatW wx = true ∧ ∃ ws, S a = some (.lst ws) ∧ ws.all flatW = true ∧ Qw (.bl (ngB neg (isInW wx ws))) S) ∨
      (∃ kvs k, S a = some (.dk kvs) ∧ toKey wx = some k ∧ Qw (.bl (ngB neg (valW kvs k).isSome)) S) ∨
      ∃ kvs z, DkAt K w a kvs ∧ wx = .str z ∧ Qw (.bl (ngB neg (lkW kvs z).isSome)) S) → (wy = .ref a) → rInB K w neg x y H Q := fun {a} r q9 ey => by
    rcases q9 with q9 | ⟨kvs, k, e, ek, q9⟩ | ⟨kvs, z, d, ex, q9⟩
    · refine old ?_
      obtain ⟨f, ws, e, g, q9⟩ := q9
      have q8 : wInK wx (.ref a) S fun b => Qw (.bl (if neg then !b else b)) S := by
        cases wx <;> exact ⟨f, ws, e, g, q9⟩
      rw [ey]
      exact q8
    · obtain ⟨ys, h1, h2⟩ := hh _ _ e
      obtain ⟨ev, _⟩ := toKey_rep rx ek
      refine .inr (.inl ⟨a, valV ys k, r, by rw [ev]; exact DGet.k h1, ?_⟩)
      rw [h2.isSome]
      exact po.bl (Tk.refl H) hh q9
    · obtain ⟨es, n, rr, kd, e, ei⟩ := d.isSome z
      rw [ex] at rx
      refine .inr (.inr ⟨a, es, n, z, rr, kd, rx, r, e, ?_⟩)
      rw [ei]
      exact po.bl (Tk.refl H) hh q9
  cases wy with
  | ref a =>
    cases wx <;> exact ref ry q rfl
  | tup ws => cases wx <;> exact old q
  | rl ws => cases wx <;> exact old q
  | str z => cases wx <;> first | exact old q | exact q.elim
  | _ => cases wx <;> exact q.elim⟩
/-! ### d[k] -/
def rIxB (K : PySem.W.Frag) (w : World) : R2 := fun x y H Q => rIx K x y H Q ∨ (∃ a v, x = .ref a ∧ DGet H a y (some v) ∧ Q v H) ∨ rIxD K w x y H Q
theorem ix_dget {X : Cx} (hu : X.A.units + 1 < cLine) : IxR X (fun x y H Q => ∃ a v, x = .ref a ∧ DGet H a y (some v) ∧ Q v H) := by
  intro value slice pins s σ H x y v u Q I rx ry h hs
  obtain ⟨a, z, rfl, g, q⟩ := h
  obtain rfl : v = Value.ref a := rx
  exact tail_any (dict_typeIs I g) PySem.F.slot_dict_getitem.lookup (d_getItem hu I g ry fun w' s3 I3 rw' => ⟨z, H, I3, rw', q⟩) hs
theorem k_ixB (K : PySem.W.Frag) (w : World) {X : Cx} (hu : X.A.units + 1 < cLine) (hK : X.K = K := by rfl) (hw : X.w = w := by rfl) : IxR X (rIxB K w) := by
  subst hK hw
  exact ix_seq.or ((ix_dget hu).or ix_kdict)
def wIxB (K : PySem.W.Frag) (w : World) : RW2 := fun x y S Q => match x, y with
  | .tup ws, .int i => rdAt (atI ws i) S Q
  | .rl ws, .int i => rdAt (atI ws i) S Q
  | .ref a, .int i => (∃ ws, S a = some (.lst ws) ∧ rdAt (atI ws i) S Q) ∨ ∃ kvs, S a = some (.dk kvs) ∧ rdAt (valW kvs (.inl i)) S Q
  | .ref a, .str z => (∃ kvs, S a = some (.dk kvs) ∧ rdAt (valW kvs (.inr z)) S Q) ∨ ∃ kvs, DkAt K w a kvs ∧ rdAt (lkW kvs z) S Q
  | .str z, .int i => z.length ≤ sizeLine ∧ ∃ c, atI z.cps.toList i = some c ∧ Q (.str ⟨#[c]⟩) S
  | _, _ => False
instance l2_ixB {w : World} : L2R K (rIxB K w) (wIxB K w) := ⟨fun H S x y wx wy Q Qw hh rx ry q po => by
  have old : wIx wx wy S Qw → rIxB K w x y H Q := fun q => .inl (l2_ix.l H S x y wx wy Q Qw hh rx ry q po)
  have dk : ∀ {a : Addr} {k : Key} {kvs : List (Key × W)}, x = .ref a → y = kV k → S a = some (.dk kvs) → rdAt (valW kvs k) S Qw → rIxB K w x y H Q := fun {a k kvs} ex ey e q => by
    obtain ⟨wd, e2, q⟩ := rdAt_of q
    obtain ⟨ys, h1, h2⟩ := hh _ _ e
    obtain ⟨v, e3, r⟩ := h2.of_some e2
    exact .inr (.inl ⟨a, v, ex, by rw [ey, ← e3]; exact DGet.k h1, po v H wd S (Tk.refl H) hh r q⟩)
  cases wx with
  | tup ws => cases wy <;> first | exact old q | exact q.elim
  | rl ws => cases wy <;> first | exact old q | exact q.elim
  | str z => cases wy <;> first | exact old q | exact q.elim
  | ref a =>
    cases wy with
    | int i =>
      rcases q with ⟨ws, e, q⟩ | ⟨kvs, e, q⟩
      · exact old ⟨ws, e, q⟩
      · exact dk (k := .inl i) rx ry e q
    | str z =>
      rcases q with ⟨kvs, e, q⟩ | ⟨kvs, d, q⟩
      · exact dk (k := .inr z) rx ry e q
      · obtain ⟨wd, e2, q⟩ := rdAt_of q
        obtain ⟨es, n, u, v, kd, e3, r, hv⟩ := d.of_some e2
        exact .inr (.inr ⟨a, z, v, rx, ry, ⟨es, n, u, kd.at_, kd.lit, e3, r⟩, po v H wd S (Tk.refl H) hh (hv H) q⟩)
    | _ => exact q.elim
  | _ => cases wy <;> exact q.elim⟩
/-! ### d[k] = v -/
def rSetB : V → V → V → Hp → (Hp → Prop) → Prop := fun o i v H Q => rSetL o i v H Q ∨ ∃ a H', o = .ref a ∧ DPut H a i v H' ∧ Q H'
theorem set_B {X : Cx} (hu : X.A.units + 1 < cLine) : PSet X rSetB := by
  intro pins s σ H o i v ov iv u Q I ro ri rv h
  rcases h with h | ⟨a, H', e, g, q⟩
  · exact set_list pins s σ H o i v ov iv u Q I ro ri rv h
  · subst e
    obtain rfl : ov = Value.ref a := ro
    exact d_setItem hu I g ri rv fun s4 I4 => ⟨H', I4, q⟩
def wGSubB (to ti : TEW) : TGW := fun w ρ S Q => to ρ S fun o S1 => ti ρ S1 fun i S2 => match o, i with
  | .ref p, .int k => (∃ ws j, S2 p = some (.lst ws) ∧ ixN ws.length k = some j ∧ Q ρ (put S2 p (.lst (ws.set j w)))) ∨ ∃ kvs, S2 p = some (.dk kvs) ∧ kvs.length < sizeLine ∧ Q ρ (put S2 p (.dk (putW kvs (.inl k) w)))
  | .ref p, .str z => ∃ kvs, S2 p = some (.dk kvs) ∧ kvs.length < sizeLine ∧ Q ρ (put S2 p (.dk (putW kvs (.inr z) w)))
  | _, _ => False
instance lg_subB {to ti : TE} {wo wi : TEW} [a : LE K B to wo] [b : LE K B ti wi] : LG K B (gSub to ti rSetB) (wGSubB wo wi) := ⟨fun v w σ H ρ S Q Qw r hs hh q po =>
  a.l σ H ρ S _ _ hs hh q fun o H1 wo S1 t1 hh1 r1 q1 => b.l σ H1 ρ S1 _ _ (hs.tk t1) hh1 q1 fun i H2 wi S2 t2 hh2 r2 q2 => by
    have ro := Rep.tk t2 _ _ r1
    have rv := Rep.tk (t1.trans t2) _ _ r
    have lst : ∀ {p : Addr} {k : Int} {ws : List W} {j : Nat}, o = .ref p → i = .int k → S2 p = some (.lst ws) → ixN ws.length k = some j → Qw ρ (put S2 p (.lst (ws.set j w))) → rSetB o i v H2 fun H3 => Q σ H3 := fun {p k ws j} eo ei e hj q => by
      obtain ⟨xs, h1, h2⟩ := hh2 _ _ e
      have t : Tk H2 (upd H2 p (.lst (xs.set j v))) := Tk.mut h1 (fun _ z => (by cases z)) (fun _ _ z => (by cases z))
      obtain ⟨t, hm⟩ := hh2.mut (c' := .lst (ws.set j w)) (o := .lst (xs.set j v)) e ⟨_, upd_same, RepL.set (Rep.tk t _ _ rv) j (RepL.tk t _ _ h2)⟩
      exact .inl ⟨_, xs, _, j, eo, ei, h1, by rw [h2.length]; exact hj, po _ _ _ _ ((t1.trans t2).trans t) (hs.tk ((t1.trans t2).trans t)) hm q⟩
    have dk : ∀ {p : Addr} {k : Key} {kvs : List (Key × W)}, o = .ref p → i = kV k → S2 p = some (.dk kvs) → kvs.length < sizeLine → Qw ρ (put S2 p (.dk (putW kvs k w))) → rSetB o i v H2 fun H3 => Q σ H3 := fun {p k kvs} eo ei e hl q => by
      obtain ⟨ys, h1, h2⟩ := hh2 _ _ e
      have t : Tk H2 (upd H2 p (.dK (putK ys k v))) := Tk.mut h1 (fun _ z => (by cases z)) (fun _ _ z => (by cases z))
      obtain ⟨t, hm⟩ := hh2.mut (c' := .dk (putW kvs k w)) (o := .dK (putK ys k v)) e ⟨_, upd_same, RepKV.put (RepKV.tk t _ _ h2) (Rep.tk t _ _ rv)⟩
      exact .inr ⟨p, _, eo, by rw [ei]; exact DPut.k h1 (by rw [h2.length]; exact hl), po _ _ _ _ ((t1.trans t2).trans t) (hs.tk ((t1.trans t2).trans t)) hm q⟩
    cases wo <;> cases wi <;> try exact q2.elim
    · rcases q2 with ⟨ws, j, e, hj, q⟩ | ⟨kvs, e, hl, q⟩
      · exact lst ro r2 e hj q
      · exact dk (k := .inl _) ro r2 e hl q
    · obtain ⟨kvs, e, hl, q⟩ := q2
      exact dk (k := .inr _) ro r2 e hl q⟩
/-! ### displays -/
def wDNew : TEW := fun _ S Q => ∀ p, S p = none → Q (.ref p) (put S p (.dk []))
instance le_dnew : LE K B tDNewK wDNew := ⟨fun σ H ρ S Q Qw hs hh q po p hp => po.ref (Tk.new hp) (hh.new (c := .dk []) hp ⟨[], upd_same, rfl⟩) (q p (hh.fresh hp))⟩
abbrev TPW := StW → Sto → (List (W × W) → Sto → Prop) → Prop
class LPs (K : PySem.W.Frag) (B : Hp) (t : List (TE × TE)) (tw : outParam TPW) : Prop where
  l : ∀ σ H ρ S Q Qw, SRep K B H σ ρ → HRep K H S → tw ρ S Qw → (∀ ps H' qs S', Tk H H' → HRep K H' S' → RepL K H' (qs.map (·.1)) (ps.map (·.1)) → RepL K H' (qs.map (·.2)) (ps.map (·.2)) → Qw qs S' → Q ps H') → tPairs t σ H Q
def wPs0 : TPW := fun _ S Q => Q [] S
def wPsC (tk tv : TEW) (r : TPW) : TPW := fun ρ S Q => tk ρ S fun x S1 => tv ρ S1 fun y S2 => r ρ S2 fun ps S3 => Q ((x, y) :: ps) S3
instance lps_nil : LPs K B [] wPs0 := ⟨fun σ H ρ S Q Qw hs hh q po => po [] H [] S (Tk.refl H) hh (show RepL K H [] [] from rfl) (show RepL K H [] [] from rfl) q⟩
instance lps_cons {tk tv : TE} {r : List (TE × TE)} {wk wv : TEW} {wr : TPW} [a : LE K B tk wk] [b : LE K B tv wv] [c : LPs K B r wr] : LPs K B ((tk, tv) :: r) (wPsC wk wv wr) := ⟨fun σ H ρ S Q Qw hs hh q po =>
  a.l σ H ρ S _ _ hs hh q fun x H1 wx S1 t1 hh1 r1 q1 => b.l σ H1 ρ S1 _ _ (hs.tk t1) hh1 q1 fun y H2 wy S2 t2 hh2 r2 q2 => c.l σ H2 ρ S2 _ _ (hs.tk (t1.trans t2)) hh2 q2 fun ps H3 qs S3 t3 hh3 r3 r4 q3 =>
    po ((x, y) :: ps) H3 ((wx, wy) :: qs) S3 ((t1.trans t2).trans t3) hh3 (RepL.cons (Rep.tk (t2.trans t3) _ _ r1) r3) (RepL.cons (Rep.tk t3 _ _ r2) r4) q3⟩
def keysW : List (W × W) → Option (List (Key × W))
  | [] => some []
  | (k, v) :: ps => match toKey k, keysW ps with
    | some k, some r => some ((k, v) :: r)
    | _, _ => none
def mergeW (kvs more : List (Key × W)) : List (Key × W) := more.foldl (fun acc kv => putW acc kv.1 kv.2) kvs
theorem RepKV.merge {H : Hp} : ∀ {ps : List (Key × W)} {ys : List (Key × V)} {qs : List (Key × W)} {zs : List (Key × V)}, RepKV K H qs zs → RepKV K H ps ys → RepKV K H (mergeW ps qs) (mergeK ys zs)
  | _, _, [], _, h, g => by cases (show _ = [] from h); exact g
  | ps, ys, p :: qs, _, h, g => by
    obtain ⟨v, r, rfl, h1, h2⟩ := h
    exact RepKV.merge (ps := putW ps p.1 p.2) (ys := putK ys p.1 v) h2 (g.put h1)
theorem keysW_rep {H : Hp} : ∀ {qs : List (W × W)} {ps : List (V × V)} {kvs : List (Key × W)}, RepL K H (qs.map (·.1)) (ps.map (·.1)) → RepL K H (qs.map (·.2)) (ps.map (·.2)) → keysW qs = some kvs →
    ∃ ys : List (Key × V), ps = ys.map (fun kv => (kV kv.1, kv.2)) ∧ RepKV K H kvs ys
  | [], ps, kvs, r1, r2, e => by
    cases e
    have : ps.map (·.1) = [] := r1
    cases ps with
    | nil => exact ⟨[], rfl, rfl⟩
    | cons p ps => cases this
  | (k, v) :: qs, ps, kvs, r1, r2, e => by
    cases ps with
    | nil => obtain ⟨x, r, e, _⟩ := r1; cases e
    | cons p ps =>
      obtain ⟨x, r, e1, h1, h2⟩ := r1
      obtain ⟨y, r', e2, h3, h4⟩ := r2
      cases e1
      cases e2
      unfold keysW at e
      split at e
      · rename_i k' r' ek er
        cases e
        obtain ⟨ys, rfl, h5⟩ := keysW_rep h2 h4 er
        obtain ⟨ev, _⟩ := toKey_rep h1 ek
        refine ⟨(k', p.2) :: ys, ?_, p.2, ys, rfl, h3, h5⟩
        rw [List.map_cons]
        show p :: _ = (kV k', p.2) :: _
        rw [← ev]
      · cases e
def wDisp (t : TPW) : TEW := fun ρ S Q => ∀ p, S p = none → t ρ (put S p (.dk [])) fun ps S2 => S2 p = some (.dk []) ∧ ∃ kvs, keysW ps = some kvs ∧ kvs.length ≤ 15 ∧ Q (.ref p) (put S2 p (.dk (mergeW [] kvs)))
theorem RepKV.len' {H : Hp} {ps : List (Key × W)} {ys : List (Key × V)} (h : RepKV K H ps ys) : ys.length = ps.length := h.length
instance le_disp {t : List (TE × TE)} {tw : TPW} [a : LPs K B t tw] : LE K B (tDisp t) (wDisp tw) := ⟨fun σ H ρ S Q Qw hs hh q po p hp => by
  have t0 : Tk H (upd H p (.dK [])) := Tk.new hp
  have hh0 : HRep K (upd H p (.dK [])) (put S p (.dk [])) := hh.new hp ⟨[], upd_same, rfl⟩
  refine a.l σ _ ρ _ _ _ (hs.tk t0) hh0 (q p (hh.fresh hp)) fun ps H2 qs S2 t2 hh2 r1 r2 q2 => ?_
  obtain ⟨e, kvs, ek, hl, q3⟩ := q2
  obtain ⟨ys, h1, h2⟩ := hh2 _ _ e
  cases (show ys = [] from h2)
  obtain ⟨zs, rfl, h3⟩ := keysW_rep r1 r2 ek
  have t : Tk H2 (upd H2 p (.dK (mergeK [] zs))) := Tk.mut h1 (fun _ z => (by cases z)) (fun _ _ z => (by cases z))
  obtain ⟨t, hm⟩ := hh2.mut (c' := .dk (mergeW [] kvs)) (o := .dK (mergeK [] zs)) e ⟨_, upd_same, RepKV.merge (RepKV.tk t _ _ h3) (show RepKV K _ [] [] from rfl)⟩
  exact ⟨h1, zs, rfl, by rw [h3.len']; exact hl, po.ref ((t0.trans t2).trans t) hm q3⟩⟩
/-! ### d.get -/
def wGet1 (td ty : TEW) : TEW := fun ρ S Q => td ρ S fun x S1 => match x with
  | .ref a => (∃ kvs, S1 a = some (.dk kvs)) ∧ ty ρ S1 fun y S2 => ∃ kvs k, S2 a = some (.dk kvs) ∧ toKey y = some k ∧ Q ((valW kvs k).getD .non) S2
  | _ => False
def wGet2 (td ty tx : TEW) : TEW := fun ρ S Q => td ρ S fun x S1 => match x with
  | .ref a => (∃ kvs, S1 a = some (.dk kvs)) ∧ ty ρ S1 fun y S2 => tx ρ S2 fun z S3 => ∃ kvs k, S3 a = some (.dk kvs) ∧ toKey y = some k ∧ Q ((valW kvs k).getD z) S3
  | _ => False
theorem getD_rep {H : Hp} {k : Key} {ps : List (Key × W)} {ys : List (Key × V)} {w : W} {v : V} (r : RepKV K H ps ys) (q : Rep K H w v) : Rep K H ((valW ps k).getD w) ((valV ys k).getD v) := by
  cases e : valW ps k with
  | none => rw [r.of_none e]; exact q
  | some w => obtain ⟨v, e2, r⟩ := r.of_some e; rw [e2]; exact r
instance le_get1 {td ty : TE} {wd wy : TEW} [a : LE K B td wd] [b : LE K B ty wy] : LE K B (tDGet1 td ty) (wGet1 wd wy) := ⟨fun σ H ρ S Q Qw hs hh q po =>
  a.l σ H ρ S _ _ hs hh q fun x H1 wx S1 t1 hh1 r1 q1 => by
    cases wx <;> try exact q1.elim
    rename_i a
    obtain ⟨⟨kvs, e⟩, q1⟩ := q1
    obtain ⟨ys, h1, h2⟩ := hh1 _ _ e
    refine ⟨a, r1, .inl ⟨ys, .inl h1⟩, b.l σ H1 ρ S1 _ _ (hs.tk t1) hh1 q1 fun y H2 wy S2 t2 hh2 r2 q2 => ?_⟩
    obtain ⟨kvs, k, e, ek, q⟩ := q2
    obtain ⟨ys, h1, h2⟩ := hh2 _ _ e
    obtain ⟨ev, _⟩ := toKey_rep r2 ek
    exact ⟨valV ys k, by rw [ev]; exact DGet.k h1, po _ H2 _ S2 (t1.trans t2) hh2 (getD_rep h2 (show Rep K H2 .non .non from rfl)) q⟩⟩
instance le_get2 {td ty tx : TE} {wd wy wx : TEW} [a : LE K B td wd] [b : LE K B ty wy] [c : LE K B tx wx] : LE K B (tDGet2 td ty tx) (wGet2 wd wy wx) := ⟨fun σ H ρ S Q Qw hs hh q po =>
  a.l σ H ρ S _ _ hs hh q fun x H1 wx S1 t1 hh1 r1 q1 => by
    cases wx <;> try exact q1.elim
    rename_i a
    obtain ⟨⟨kvs, e⟩, q1⟩ := q1
    obtain ⟨ys, h1, h2⟩ := hh1 _ _ e
    refine ⟨a, r1, .inl ⟨ys, .inl h1⟩, b.l σ H1 ρ S1 _ _ (hs.tk t1) hh1 q1 fun y H2 wy S2 t2 hh2 r2 q2 => c.l σ H2 ρ S2 _ _ (hs.tk (t1.trans t2)) hh2 q2 fun z H3 wz S3 t3 hh3 r3 q3 => ?_⟩
    obtain ⟨kvs, k, e, ek, q⟩ := q3
    obtain ⟨ys, h1, h2⟩ := hh3 _ _ e
    obtain ⟨ev, _⟩ := toKey_rep (Rep.tk t3 _ _ r2) ek
    exact ⟨valV ys k, by rw [ev]; exact DGet.k h1, po _ H3 _ S3 ((t1.trans t2).trans t3) hh3 (getD_rep h2 r3) q⟩⟩
/-! ### list(range(..)), tuple(range(..)) -/
abbrev TRgW := StW → Sto → (Int → Int → Sto → Prop) → Prop
class LRg (K : PySem.W.Frag) (B : Hp) (t : L2.St → Hp → (Int → Int → Hp → Prop) → Prop) (tw : outParam TRgW) : Prop where
  l : ∀ σ H ρ S Q Qw, SRep K B H σ ρ → HRep K H S → tw ρ S Qw → (∀ a b H' S', Tk H H' → HRep K H' S' → Qw a b S' → Q a b H') → t σ H Q
def wRg1 (ta : TEW) : TRgW := fun ρ S Q => ta ρ S fun x S1 => match x with
  | .int n => Q 0 n S1
  | _ => False
def wRg2 (ta tb : TEW) : TRgW := fun ρ S Q => ta ρ S fun x S1 => tb ρ S1 fun y S2 => match x, y with
  | .int n, .int m => Q n m S2
  | _, _ => False
instance lrg_1 {t : TE} {tw : TEW} [a : LE K B t tw] : LRg K B (tRg1 t) (wRg1 tw) := ⟨fun σ H ρ S Q Qw hs hh q po => a.l σ H ρ S _ _ hs hh q fun x H1 wx S1 t1 hh1 r1 q1 => by
  cases wx <;> try exact q1.elim
  cases (show x = _ from r1)
  exact ⟨_, rfl, po _ _ H1 S1 t1 hh1 q1⟩⟩
instance lrg_2 {t u : TE} {tw uw : TEW} [a : LE K B t tw] [b : LE K B u uw] : LRg K B (tRg2 t u) (wRg2 tw uw) := ⟨fun σ H ρ S Q Qw hs hh q po => a.l σ H ρ S _ _ hs hh q fun x H1 wx S1 t1 hh1 r1 q1 =>
  b.l σ H1 ρ S1 _ _ (hs.tk t1) hh1 q1 fun y H2 wy S2 t2 hh2 r2 q2 => by
    cases wx <;> cases wy <;> try exact q2.elim
    cases (show x = _ from r1)
    cases (show y = _ from r2)
    exact ⟨_, _, rfl, rfl, po _ _ H2 S2 (t1.trans t2) hh2 q2⟩⟩
theorem rgV_rep {H : Hp} (a b : Int) : RepL K H (intsW a (b - a).toNat) (rgV a b) := by
  have e1 : intsW a (b - a).toNat = ((List.range (b - a).toNat).map fun i => a + ((i : Nat) : Int)).map W.int := by unfold intsW; rw [List.map_map]; rfl
  have e2 : rgV a b = ((List.range (b - a).toNat).map fun i => a + ((i : Nat) : Int)).map V.int := by unfold rgV; rw [List.map_map]; rfl
  rw [e1, e2]
  exact RepL.ofInts
def wLstRg (t : TRgW) : TEW := fun ρ S Q => t ρ S fun a b S1 => RgOk a b ∧ ∀ p, S1 p = none → Q (.ref p) (put S1 p (.lst (intsW a (b - a).toNat)))
def wTupRg (t : TRgW) : TEW := fun ρ S Q => t ρ S fun a b S1 => RgOk a b ∧ Q (.tup (intsW a (b - a).toNat)) S1
instance le_lstRg {t : L2.St → Hp → (Int → Int → Hp → Prop) → Prop} {tw : TRgW} [a : LRg K B t tw] : LE K B (tLstRg t) (wLstRg tw) := ⟨fun σ H ρ S Q Qw hs hh q po =>
  a.l σ H ρ S _ _ hs hh q fun x y H1 S1 t1 hh1 q1 => ⟨q1.1, fun p hp => (po.tk t1).nlst hp hh1 (rgV_rep x y) q1.2⟩⟩
instance le_tupRg {t : L2.St → Hp → (Int → Int → Hp → Prop) → Prop} {tw : TRgW} [a : LRg K B t tw] : LE K B (tTupRg t) (wTupRg tw) := ⟨fun σ H ρ S Q Qw hs hh q po =>
  a.l σ H ρ S _ _ hs hh q fun x y H1 S1 t1 hh1 q1 => ⟨q1.1, fun p hp => (po.tk t1).ntup hp hh1 (rgV_rep x y) q1.2⟩⟩
end Wl
set_option Elab.async false
set_option linter.all false
set_option maxRecDepth 100000
set_option maxHeartbeats 2000000
/-! Methods of texts; reversed; comprehensions with a tuple target. -/
namespace Wl
open PySem PySem.Spec PyProof.Rows L2
variable {K : PySem.W.Frag} {B : Hp}
def wS0 (C : Str → Prop) (f : Str → W) : W → List W → Sto → WK → Prop := fun x ws S Q => match x, ws with
  | .str a, [] => C a ∧ Q (f a) S
  | _, _ => False
def wS1 (C : Str → Str → Prop) (f : Str → Str → W) : W → List W → Sto → WK → Prop := fun x ws S Q => match x, ws with
  | .str a, [.str b] => C a b ∧ Q (f a b) S
  | _, _ => False
instance lm_s0s {C : Str → Prop} {f : Str → Str} : LMR K (fun x xs H Q => ∃ a, x = .str a ∧ xs = [] ∧ C a ∧ Q (.str (f a)) H) (wS0 C fun a => .str (f a)) := ⟨fun H S x wx xs ws Q Qw hh rx r q po => by
  unfold wS0 at q
  split at q
  · cases (show x = _ from rx)
    cases (show xs = [] from r)
    exact ⟨_, rfl, rfl, q.1, po.str (Tk.refl H) hh q.2⟩
  · exact q.elim⟩
instance lm_s0b {C : Str → Prop} {f : Str → Bool} : LMR K (fun x xs H Q => ∃ a, x = .str a ∧ xs = [] ∧ C a ∧ Q (.bl (f a)) H) (wS0 C fun a => .bl (f a)) := ⟨fun H S x wx xs ws Q Qw hh rx r q po => by
  unfold wS0 at q
  split at q
  · cases (show x = _ from rx)
    cases (show xs = [] from r)
    exact ⟨_, rfl, rfl, q.1, po.bl (Tk.refl H) hh q.2⟩
  · exact q.elim⟩
def wS1p (f : Str → Str → W) : W → List W → Sto → WK → Prop := fun x ws S Q => match x, ws with
  | .str a, [.str b] => Q (f a b) S
  | _, _ => False
instance lm_s1b {f : Str → Str → Bool} : LMR K (fun x xs H Q => ∃ a b, x = .str a ∧ xs = [.str b] ∧ Q (.bl (f a b)) H) (wS1p fun a b => .bl (f a b)) := ⟨fun H S x wx xs ws Q Qw hh rx r q po => by
  unfold wS1p at q
  split at q
  · cases (show x = _ from rx)
    obtain ⟨y, rfl, ry⟩ := rep1 r
    cases (show y = _ from ry)
    exact ⟨_, _, rfl, rfl, po.bl (Tk.refl H) hh q⟩
  · exact q.elim⟩
instance lm_s1i {f : Str → Str → Int} : LMR K (fun x xs H Q => ∃ a b, x = .str a ∧ xs = [.str b] ∧ Q (.int (f a b)) H) (wS1p fun a b => .int (f a b)) := ⟨fun H S x wx xs ws Q Qw hh rx r q po => by
  unfold wS1p at q
  split at q
  · cases (show x = _ from rx)
    obtain ⟨y, rfl, ry⟩ := rep1 r
    cases (show y = _ from ry)
    exact ⟨_, _, rfl, rfl, po.int (Tk.refl H) hh q⟩
  · exact q.elim⟩
instance lm_s1s {C : Str → Str → Prop} {f : Str → Str → Str} : LMR K (fun x xs H Q => ∃ a b, x = .str a ∧ xs = [.str b] ∧ C a b ∧ Q (.str (f a b)) H) (wS1 C fun a b => .str (f a b)) := ⟨fun H S x wx xs ws Q Qw hh rx r q po => by
  unfold wS1 at q
  split at q
  · cases (show x = _ from rx)
    obtain ⟨y, rfl, ry⟩ := rep1 r
    cases (show y = _ from ry)
    exact ⟨_, _, rfl, rfl, q.1, po.str (Tk.refl H) hh q.2⟩
  · exact q.elim⟩
/-- s.split(t) -/
def wSplit : W → List W → Sto → WK → Prop := fun x ws S Q => match x, ws with
  | .str a, [.str b] => (b.length == 0) = false ∧ a.length + 2 ≤ sizeLine ∧ ∀ p, S p = none → Q (.ref p) (put S p (.lst ((Txt.split a b).map W.str)))
  | _, _ => False
def rSplit1 : V → List V → Hp → VK → Prop := fun x xs H Q => ∃ a b, x = .str a ∧ xs = [.str b] ∧ (b.length == 0) = false ∧ a.length + 2 ≤ sizeLine ∧ ∀ p, H p = none → Q (.ref p) (upd H p (.lst ((Txt.split a b).map V.str)))
theorem mt_split1 {X : Cx} : MtR X "str.split" rSplit1 := fun pins s σ H x xs v us Q I rx rs ⟨a, b, h1, h2, h3, h4, h5⟩ => mt_split pins s σ H x xs v us Q I rx rs ⟨a, b, h1, h2, h3, h4, h5⟩
instance lm_split : LMR K rSplit1 wSplit := ⟨fun H S x wx xs ws Q Qw hh rx r q po => by
  unfold wSplit at q
  split at q
  · cases (show x = _ from rx)
    obtain ⟨y, rfl, ry⟩ := rep1 r
    cases (show y = _ from ry)
    exact ⟨_, _, rfl, rfl, q.1, q.2.1, fun p hp => po.nlst hp hh RepL.ofStrs q.2.2⟩
  · exact q.elim⟩
/-- s.partition(t) -/
def partW (a b : Str) : W := .tup [.str (Txt.partition a b).1, .str (Txt.partition a b).2.1, .str (Txt.partition a b).2.2]
def wPartition : W → List W → Sto → WK → Prop := fun x ws S Q => match x, ws with
  | .str a, [.str b] => (b.length == 0) = false ∧ a.length ≤ sizeLine ∧ Q (partW a b) S
  | _, _ => False
def rPart1 : V → List V → Hp → VK → Prop := fun x xs H Q => ∃ a b, x = .str a ∧ xs = [.str b] ∧ (b.length == 0) = false ∧ a.length ≤ sizeLine ∧ ∀ p, H p = none → Q (.ref p) (upd H p (.tup [.str (Txt.partition a b).1, .str (Txt.partition a b).2.1, .str (Txt.partition a b).2.2]))
theorem mt_part1 {X : Cx} : MtR X "str.partition" rPart1 := fun pins s σ H x xs v us Q I rx rs ⟨a, b, h1, h2, h3, h4, h5⟩ => mt_partition pins s σ H x xs v us Q I rx rs ⟨a, b, h1, h2, h3, h4, h5⟩
instance lm_part : LMR K rPart1 wPartition := ⟨fun H S x wx xs ws Q Qw hh rx r q po => by
  unfold wPartition at q
  split at q
  · cases (show x = _ from rx)
    obtain ⟨y, rfl, ry⟩ := rep1 r
    cases (show y = _ from ry)
    exact ⟨_, _, rfl, rfl, q.1, q.2.1, fun p hp => po.ntup (ws := [.str _, .str _, .str _]) hp hh (.cons rfl (.cons rfl (.one rfl))) q.2.2⟩
  · exact q.elim⟩
/-! ### reversed -/
theorem k_rev (K : PySem.W.Frag) {X : Cx} {tg e : Expr} {ta : TA} {p pos : Pos} (hg : Gl X "reversed") (hm : X.mg "reversed" = none) (ha : PA X [e] ta) (hs : starEach [e] X.env = [(false, eval e X.env)] := by rfl) (hK : X.K = K := by rfl) : PI X tg (.Call (.Name "reversed" p) [e] [] pos) (iRev K ta) := by
  subst hK; exact pi_reversed hg hm ha hs
def keepR (a : Addr) (ws : List W) : Sto → Prop := fun S => S a = some (.lst ws)
theorem src_rev {H1 : Hp} {a : Addr} {n : Nat} {ws : List W} (hn : n = ws.length) : IsSrc K H1 (Itv K a n) ws.reverse (keepR a ws) where
  go := fun i H S t hh ok hi => by
    obtain ⟨xs, h1, h2⟩ := hh _ _ ok
    rw [List.length_reverse] at hi
    refine ⟨by omega, xs, xs[n - 1 - i]'(by rw [h2.length]; omega), SqL.of h1, ?_⟩
    exact List.getElem?_eq_getElem (by rw [h2.length]; omega)
  yld := fun i H S x H' t hh ok hi y => by
    obtain ⟨e, y⟩ := y
    subst e
    obtain ⟨xs, h1, h2⟩ := hh _ _ ok
    rw [List.length_reverse] at hi
    obtain ⟨w, e, r⟩ := h2.get' (y xs (SqL.of h1))
    refine ⟨Tk.refl _, hh, w, ?_, r⟩
    rw [List.getElem?_reverse hi, ← hn]
    exact e
  stop := fun i H S t hh ok hi => by rw [List.length_reverse] at hi; show n ≤ i; omega
def wiRev (ta : TAW) : TIW := fun ρ S R => ta ρ S fun ws S1 => match ws with
  | [.ref a] => ∃ ws, S1 a = some (.lst ws) ∧ R ws.reverse (keepR a ws) S1
  | _ => False
instance li_rev {t : TA} {tw : TAW} [a : LA K B t tw] : LI K B (iRev K t) (wiRev tw) := ⟨fun σ H ρ S R Rw hs hh q po => a.l σ H ρ S _ _ hs hh q fun xs H1 ws S1 t1 hh1 r1 q1 => by
  split at q1
  · obtain ⟨x, rfl, h1⟩ := rep1 r1
    cases (show x = _ from h1)
    obtain ⟨ws, e, q⟩ := q1
    obtain ⟨ys, h2, h3⟩ := hh1 _ _ e
    exact ⟨_, ys, rfl, SqL.of h2, po _ H1 S1 _ _ t1 hh1 (src_rev h3.length) q⟩
  · exact q1.elim⟩
/-! ### comprehensions: any target that only stores -/
section
variable {g : TGW} {tt : TTW} {te : TEW} {vs : List Nat} {ρ : StW} {Q : WK} {ws : List W} {ok : Sto → Prop} {S1 : Sto}
theorem lc_filG (r : W → StW) (p : W → Bool) (f : W → W) (hl : ws.length ≤ 100000) (hok : ∀ (D : Addr) (acc : List W), S1 D = none → ok (put S1 D (.lst acc)))
    (hg : ∀ (i : Nat) (w : W) (S : Sto) (R : StW → Sto → Prop), ws[i]? = some w → R (r w) S → g w (wipeW ρ vs) S R)
    (ht : ∀ (i : Nat) (w : W) (D : Addr) (acc : List W), ws[i]? = some w → S1 D = none → EvW tt (r w) (put S1 D (.lst acc)) (p w))
    (he : ∀ (i : Nat) (w : W) (D : Addr) (acc : List W), ws[i]? = some w → p w = true → S1 D = none → ∀ Q' : WK, Q' (f w) (put S1 D (.lst acc)) → te (r w) (put S1 D (.lst acc)) Q')
    (hd : ∀ (D : Addr), S1 D = none → Q (.ref D) (put S1 D (.lst ((ws.filter p).map f)))) : LcQ g tt te vs ρ Q ws ok S1 := by
  refine lc_q fun D hD => ⟨fun i acc S' => i ≤ ws.length ∧ acc = ((ws.take i).filter p).map f ∧ S' = put S1 D (.lst acc), ⟨Nat.zero_le _, rfl, rfl⟩, ?_, ?_, ?_⟩
  · rintro i acc S' ⟨_, _, rfl⟩
    exact hok D acc hD
  · rintro i w acc S' e ⟨_, ha, rfl⟩
    have hi : i < ws.length := (List.getElem?_eq_some_iff.mp e).1
    have tk : ws.take (i + 1) = ws.take i ++ [w] := by rw [List.take_add_one, e]; rfl
    refine hg i w _ _ e ?_
    refine ht i w D acc e hD _ ⟨fun hb => he i w D acc e hb hD _ ⟨put_same, ?_, ?_⟩, fun hb => ⟨hi, ?_, rfl⟩⟩
    · rw [ha, List.length_map]
      refine Nat.lt_of_le_of_lt (Nat.le_trans (List.length_filter_le _ _) (by rw [List.length_take]; exact Nat.min_le_left _ _)) (Nat.lt_of_lt_of_le (show i < 200000 by omega) (by decide))
    · refine ⟨hi, ?_, put_put⟩
      rw [tk, List.filter_append, List.map_append, ha]
      simp [hb]
    · rw [tk, List.filter_append, List.map_append, ha]
      simp [hb]
  · rintro acc S' ⟨_, ha, rfl⟩
    rw [List.take_of_length_le (Nat.le_refl _)] at ha
    rw [ha]
    exact hd D hD
end
theorem isTy_nd : isTy "NoneType" "dict" = some false := by decide +kernel
theorem isTy_ld : isTy "list" "dict" = some false := by decide +kernel
theorem isTy_sd : isTy "str" "dict" = some false := by decide +kernel
theorem isTy_id : isTy "int" "dict" = some false := by decide +kernel
theorem isTy_bd : isTy "bool" "dict" = some false := by decide +kernel
theorem isTy_db : isTy "dict" "bool" = some false := by decide +kernel
theorem isTy_di : isTy "dict" "int" = some false := by decide +kernel
theorem isTy_ds : isTy "dict" "str" = some false := by decide +kernel
theorem isTy_dt : isTy "dict" "tuple" = some false := by decide +kernel
theorem isTy_dl : isTy "dict" "list" = some false := by decide +kernel
theorem put_none {S : Sto} {a b : Addr} {c : Cell} (h : put S a c b = none) : b ≠ a ∧ S b = none := by
  by_cases e : b = a
  · rw [e, put_same] at h; cases h
  · rw [put_ne e] at h; exact ⟨e, h⟩
theorem evYes {ρ : StW} {S : Sto} : EvW wYes ρ S true := fun Q q => q
end Wl
set_option Elab.async false
set_option linter.all false
set_option maxRecDepth 100000
set_option maxHeartbeats 2000000
/-! Own classes over data: made, their fields, their methods, + and the like, isinstance. -/
namespace Wl
open PySem PySem.Spec PyProof.Rows L2
variable {K : PySem.W.Frag} {B : Hp}
/-! ### fields -/
def putFW (f : Str) (v : W) : List (Str × W) → List (Str × W)
  | [] => [(f, v)]
  | (g, x) :: r => if g = f then (g, v) :: r else (g, x) :: putFW f v r
theorem RepKV.putF {H : Hp} {f : Str} {w : W} {x : V} (q : Rep K H w x) : ∀ {ps : List (Str × W)} {ys : List (Str × V)}, RepKV K H ps ys → RepKV K H (putFW f w ps) (L2.putF f x ys)
  | [], _, h => by
    cases (show _ = [] from h)
    exact ⟨x, [], rfl, q, rfl⟩
  | (g, z) :: ps, _, h => by
    obtain ⟨v, r, rfl, h1, h2⟩ := h
    unfold putFW L2.putF
    by_cases e : g = f
    · rw [if_pos e, if_pos e]
      exact ⟨x, r, rfl, q, h2⟩
    · rw [if_neg e, if_neg e]
      exact ⟨v, _, rfl, h1, RepKV.putF q h2⟩
theorem RepKV.look {H : Hp} {f : Str} : ∀ {ps : List (Str × W)} {ys : List (Str × V)} {w : W}, RepKV K H ps ys → ps.lookup f = some w → ∃ v, ys.lookup f = some v ∧ Rep K H w v
  | [], _, _, h, e => by cases e
  | (g, z) :: ps, _, w, h, e => by
    obtain ⟨v, r, rfl, h1, h2⟩ := h
    unfold List.lookup at e ⊢
    cases q : f == g with
    | true => rw [q] at e; cases e; exact ⟨v, rfl, h1⟩
    | false => rw [q] at e; exact RepKV.look h2 e
theorem RepKV.lookN {H : Hp} {f : Str} : ∀ {ps : List (Str × W)} {ys : List (Str × V)}, RepKV K H ps ys → ps.lookup f = none → ys.lookup f = none
  | [], _, h, e => by cases (show _ = [] from h); rfl
  | (g, z) :: ps, _, h, e => by
    obtain ⟨v, r, rfl, h1, h2⟩ := h
    unfold List.lookup at e ⊢
    cases q : f == g with
    | true => rw [q] at e; cases e
    | false => rw [q] at e; exact RepKV.lookN h2 e
structure FldOk (K : PySem.W.Frag) (C : Addr) (f : Str) : Prop where
  cl : Cls K C
  no : NoAttr K C f
theorem k_fld (K : PySem.W.Frag) {X : Cx} {e : Expr} {f : Str} {pos : Pos} {ta : TE} (he : PE X e ta) (hb : attributeBase e f X.env (eval e X.env) = eval e X.env := by rfl) (hK : X.K = K := by rfl) : PE X (.Attribute e f pos) (tFld K ta f) := by
  subst hK; exact pe_fld he hb
def wFld (K : PySem.W.Frag) (t : TEW) (f : Str) : TEW := fun ρ S Q => t ρ S fun x S1 => match x with
  | .ref a => ∃ C fs v, S1 a = some (.ins C fs) ∧ FldOk K C f ∧ fs.lookup f = some v ∧ Q v S1
  | _ => False
instance le_fld {t : TE} {tw : TEW} {f : Str} [a : LE K B t tw] : LE K B (tFld K t f) (wFld K tw f) := ⟨fun σ H ρ S Q Qw hs hh q po => a.l σ H ρ S _ _ hs hh q fun x H1 wx S1 t1 hh1 r1 q1 => by
  cases wx <;> try exact q1.elim
  cases (show x = _ from r1)
  obtain ⟨C, fs, v, e, ok, l, q⟩ := q1
  obtain ⟨dx, gs, h1, h2⟩ := hh1 _ _ e
  obtain ⟨y, l2, r⟩ := h2.look l
  exact ⟨_, C, dx, gs, y, rfl, h1, ok.cl, ok.no, l2, po y H1 v S1 t1 hh1 r q⟩⟩
def wSFld (K : PySem.W.Frag) (to tv : TEW) (f : Str) : TSW := fun D ρ S => tv ρ S fun y S1 => to ρ S1 fun x S2 => match x with
  | .ref a => ∃ C fs, S2 a = some (.ins C fs) ∧ FldOk K C f ∧ fs.length < 1000 ∧ D.nx ρ (put S2 a (.ins C (putFW f y fs)))
  | _ => False
instance ls_sfld {to tv : TE} {wo wv : TEW} {f : Str} [a : LE K B to wo] [b : LE K B tv wv] : LS K B (sFld K to tv f) (wSFld K wo wv f) := ⟨fun σ H ρ S D Dw hs hh q po =>
  b.l σ H ρ S _ _ hs hh q fun y H1 wy S1 t1 hh1 r1 q1 => a.l σ H1 ρ S1 _ _ (hs.tk t1) hh1 q1 fun x H2 wx S2 t2 hh2 r2 q2 => by
    cases wx <;> try exact q2.elim
    cases (show x = _ from r2)
    rename_i a
    obtain ⟨C, fs, e, ok, hl, q⟩ := q2
    obtain ⟨dx, gs, h1, h2⟩ := hh2 _ _ e
    have t : Tk H2 (upd H2 a (.ins C dx (L2.putF f y gs))) := Tk.mut h1 (fun _ z => (by cases z)) (fun _ _ z => (by cases z))
    obtain ⟨t, hm⟩ := hh2.mut (c' := .ins C (putFW f wy fs)) (o := .ins C dx (L2.putF f y gs)) e ⟨dx, _, upd_same, RepKV.putF (Rep.tk t _ _ (Rep.tk t2 _ _ r1)) (RepKV.tk t _ _ h2)⟩
    exact ⟨a, C, dx, gs, rfl, h1, ok.cl, ok.no, by rw [h2.length]; exact hl, po.nx σ _ ρ _ ((t1.trans t2).trans t) (hs.tk ((t1.trans t2).trans t)) hm q⟩⟩
theorem k_sfld (K : PySem.W.Frag) {X : Cx} {o value : Expr} {f : Str} {tpos pos : Pos} {ta tv : TE} (ho : PE X o ta) (hv : PE X value tv) (hsw : swapsWith value (some (.Attribute o f tpos)) pos.line X.env = pure false := by rfl) (hK : X.K = K := by rfl) : PS X (.Assign [.Attribute o f tpos] value pos) (sFld K ta tv f) := by
  subst hK; exact ps_fld ho hv hsw
/-! ### instances made -/
section
variable {P : Program} {w : World} {mg : Str → Option Value} {base : Heap}
structure CalI (P : Program) (w : World) (K : PySem.W.Frag) (mg : Str → Option Value) (base : Heap) (k : Nat) (C : Addr) (sp : SpW) : Prop where
  ex : ∃ (f : Addr) (fd : FuncData) (ps : List Str), FnOk P w K mg base CX0 k f fd ps (liftSp K sp) ∧ Mk K C f ∧ Binds K fd ps []
structure CalM (P : Program) (w : World) (K : PySem.W.Frag) (mg : Str → Option Value) (base : Heap) (k : Nat) (C : Addr) (m : Str) (sp : SpW) : Prop where
  ex : ∃ (f : Addr) (fd : FuncData) (ps : List Str), FnOk P w K mg base CX0 k f fd ps (liftSp K sp) ∧ Meth K C m f ∧ Binds K fd ps []
theorem CalI.hd {k : Nat} {C : Addr} {sp : SpW} (c : CalI P w K mg base k C sp) : CalI P w K mg base k C (Hd sp) := by rw [Hd_eq]; exact c
theorem CalM.hd {k : Nat} {C : Addr} {m : Str} {sp : SpW} (c : CalM P w K mg base k C m sp) : CalM P w K mg base k C m (Hd sp) := by rw [Hd_eq]; exact c
theorem CalI.mono {j k : Nat} {C : Addr} {sp : SpW} (c : CalI P w K mg base j C sp) (h : j ≤ k) : CalI P w K mg base k C sp := by
  obtain ⟨f, fd, ps, F, r⟩ := c.ex
  exact ⟨f, fd, ps, F.mono h, r⟩
theorem CalM.mono {j k : Nat} {C : Addr} {m : Str} {sp : SpW} (c : CalM P w K mg base j C m sp) (h : j ≤ k) : CalM P w K mg base k C m sp := by
  obtain ⟨f, fd, ps, F, r⟩ := c.ex
  exact ⟨f, fd, ps, F.mono h, r⟩
/-- a method of the text at its class -/
structure MethAt (K : PySem.W.Frag) (C : Addr) (x qual : Str) (st : Stmt) (ps : List Str) : Prop where
  ex : ∃ (f : Addr) (fd : FuncData), Fun K x qual st f fd ∧ Meth K C x f ∧ Binds K fd ps []
theorem fnM {x qual : Str} {st : Stmt} {N ps : List Str} {k : Nat} {sp : SpW} {f : Addr} {fd : FuncData} (F : Fun K x qual st f fd) (SC : FnScope N ps (defScope st))
    (len : ∀ ws S Q, sp ws S Q → ws.length = ps.length)
    (hbody : ∀ (f : Addr) (cdv : Value) (A : Around) (outer : List Env) (s : Shared) (H : Hp) (E : XK), Room k (A.deeper (envOfC qual (defScope st) s.heap.objs.size f cdv)) →
      ∃ t tw, PSs (cxOf CX0 P w K mg base N qual (defScope st) f cdv A outer s H E).nox (defBody st) t ∧ LS K H t tw ∧ ∀ ws S Q, sp ws S Q → tw { nx := fun _ S' => FgI Q .non S', rt := FgI Q } (startW N ws) S) :
    FnOk P w K mg base CX0 (k + 1) f fd ps (liftSp K sp) :=
  F.ok SC (fun vs H Q E ⟨ws, S, Qw, h1, _, h3, _⟩ => by rw [h1.length]; exact len _ _ _ h3) (fun cdv A outer s H vs Q E hr ⟨ws, S, Qw, h1, h2, h3, h4⟩ => by
    obtain ⟨t, tw, ht, hl, hq⟩ := hbody f cdv A outer s H E hr
    refine ⟨t, ht, hl.l _ H (startW N ws) S _ _ (SRep.init h1) h2 (hq ws S Qw h3) ⟨?_, fun _ _ _ _ _ _ _ z => z.elim, fun _ _ _ _ _ _ _ z => z.elim, ?_⟩⟩
    · intro σ' H' ρ' S' t1 _ hh q
      have q : FgI Qw .non S' := q
      rw [FgI_eq] at q
      obtain ⟨S2, sub, q⟩ := q
      exact h4.non t1 (hh.sub sub) q
    · intro v H' w S' t1 hh r q
      have q : FgI Qw w S' := q
      rw [FgI_eq] at q
      obtain ⟨S2, sub, q⟩ := q
      exact h4 v H' w S2 t1 (hh.sub sub) r q)
theorem calM {C : Addr} {x qual : Str} {st : Stmt} {N ps : List Str} {k : Nat} {sp : SpW} (d : MethAt K C x qual st ps) (SC : FnScope N ps (defScope st))
    (len : ∀ ws S Q, sp ws S Q → ws.length = ps.length)
    (hbody : ∀ (f : Addr) (cdv : Value) (A : Around) (outer : List Env) (s : Shared) (H : Hp) (E : XK), Room k (A.deeper (envOfC qual (defScope st) s.heap.objs.size f cdv)) →
      ∃ t tw, PSs (cxOf CX0 P w K mg base N qual (defScope st) f cdv A outer s H E).nox (defBody st) t ∧ LS K H t tw ∧ ∀ ws S Q, sp ws S Q → tw { nx := fun _ S' => FgI Q .non S', rt := FgI Q } (startW N ws) S) :
    CalM P w K mg base (k + 1) C x sp := by
  obtain ⟨f, fd, F, hm, b⟩ := d.ex
  exact ⟨f, fd, ps, fnM F SC len hbody, hm, b⟩
structure InitAt (K : PySem.W.Frag) (C : Addr) (qual : Str) (st : Stmt) (ps : List Str) : Prop where
  ex : ∃ (f : Addr) (fd : FuncData), Fun K "__init__" qual st f fd ∧ Mk K C f ∧ Binds K fd ps []
theorem calI {C : Addr} {qual : Str} {st : Stmt} {N ps : List Str} {k : Nat} {sp : SpW} (d : InitAt K C qual st ps) (SC : FnScope N ps (defScope st))
    (len : ∀ ws S Q, sp ws S Q → ws.length = ps.length)
    (hbody : ∀ (f : Addr) (cdv : Value) (A : Around) (outer : List Env) (s : Shared) (H : Hp) (E : XK), Room k (A.deeper (envOfC qual (defScope st) s.heap.objs.size f cdv)) →
      ∃ t tw, PSs (cxOf CX0 P w K mg base N qual (defScope st) f cdv A outer s H E).nox (defBody st) t ∧ LS K H t tw ∧ ∀ ws S Q, sp ws S Q → tw { nx := fun _ S' => FgI Q .non S', rt := FgI Q } (startW N ws) S) :
    CalI P w K mg base (k + 1) C sp := by
  obtain ⟨f, fd, F, hm, b⟩ := d.ex
  exact ⟨f, fd, ps, fnM F SC len hbody, hm, b⟩
theorem k_make (K : PySem.W.Frag) {X : Cx} {C : Addr} {k j : Nat} {x : Str} {sp : SpW} {p pos : Pos} {e : Expr} {es : List Expr} {t : TA} (c : CalI X.prog X.w K X.mg X.base k C sp) (hm : X.mg x = some (.ref C)) (hr : Room j X.A) (hk : k + 1 ≤ j) (hg : Gl X x) (ha : PA X (e :: es) t)
    (hdb : (x == ("__debug__" : Str)) = false := by decide) (he : starEach (e :: es) X.env = (false, eval e X.env) :: starEach es X.env := by rfl) (hpl : (backTo pos (starEach es X.env)).any (·.1) = false := by rfl) (hK : X.K = K := by rfl) :
    PE X (.Call (.Name x p) (e :: es) [] pos) (tMake C (liftSp K sp) [] E0 t) := by
  subst hK
  obtain ⟨f, fd, ps, F, M, b⟩ := c.ex
  exact pe_make M F (hr.mono hk) hg hm b .nil pass0 ha hdb he hpl
def wMake (C : Addr) (sp : SpW) (t : TAW) : TEW := fun ρ S Q => t ρ S fun ws S1 => ∀ x, S1 x = none → sp (.ref x :: ws) (put S1 x (.ins C [])) fun v S2 => v = .non ∧ Q (.ref x) S2
instance le_make {C : Addr} {sp : SpW} {E : XK} {t : TA} {tw : TAW} [a : LA K B t tw] : LE K B (tMake C (liftSp K sp) [] E t) (wMake C sp tw) := ⟨fun σ H ρ S Q Qw hs hh q po =>
  a.l σ H ρ S _ _ hs hh q fun xs H1 ws S1 t1 hh1 r1 q1 => fun x dx hx hdx ne => by
    have tD : Tk H1 (upd H1 dx (.own x)) := Tk.new hdx
    have hx2 : upd H1 dx (.own x) x = none := by rw [upd_ne (Ne.symm ne)]; exact hx
    have tX : Tk (upd H1 dx (.own x)) (upd (upd H1 dx (.own x)) x (.ins C dx [])) := Tk.new hx2
    have hh2 : HRep K (upd H1 dx (.own x)) S1 := hh1.laid hdx
    have hh3 : HRep K (upd (upd H1 dx (.own x)) x (.ins C dx [])) (put S1 x (.ins C [])) := hh2.new hx2 ⟨dx, [], upd_same, rfl⟩
    refine ⟨.ref x :: ws, put S1 x (.ins C []), _, ?_, hh3, q1 x (hh1.fresh hx), ?_⟩
    · rw [List.append_nil]
      exact .cons rfl (RepL.tk (tD.trans tX) _ _ r1)
    · rintro v H4 wv S4 t4 hh4 r4 ⟨e, q4⟩
      subst e
      exact ⟨r4, po.ref (((t1.trans tD).trans tX).trans t4) hh4 q4⟩⟩
/-! ### methods -/
theorem k_meth (K : PySem.W.Frag) {X : Cx} {C : Addr} {k j : Nat} {m : Str} {sp : SpW} {apos pos : Pos} {o e : Expr} {es : List Expr} {ta : TE} {t : TA} {pl : Sem Bool} (cl : Cls K C) (c : CalM X.prog X.w K X.mg X.base k C m sp) (hr : Room j X.A) (hk : k ≤ j) (ho : PE X o ta) (ha : PA X (e :: es) t)
    (hst : starEach (e :: es) X.env = (false, eval e X.env) :: starEach es X.env := by rfl) (hpl : (backTo pos (starEach es X.env)).any (·.1) = false := by rfl)
    (ht : eval (.Call (.Attribute o m apos) (e :: es) [] pos) X.env = (do
      let ov ← eval o X.env
      standAt apos.atName
      let (f, first) ← holding [ov] (getMethod ov m pl)
      callWith pos f first (backTo pos (starEach (e :: es) X.env)) (backToKw pos (keywordEach [] X.env))) := by rfl) (hK : X.K = K := by rfl) :
    PE X (.Call (.Attribute o m apos) (e :: es) [] pos) (tMeth C m (liftSp K sp) [] E0 ta t) := by
  subst hK
  obtain ⟨f, fd, ps, F, M, b⟩ := c.ex
  exact pe_meth (pl := pl) ho cl M F (hr.mono hk) b .nil pass0 ha hst hpl ht
theorem k_meth0 (K : PySem.W.Frag) {X : Cx} {C : Addr} {k j : Nat} {m : Str} {sp : SpW} {apos pos : Pos} {o : Expr} {ta : TE} {pl : Sem Bool} (cl : Cls K C) (c : CalM X.prog X.w K X.mg X.base k C m sp) (hr : Room j X.A) (hk : k ≤ j) (ho : PE X o ta)
    (ht : eval (.Call (.Attribute o m apos) [] [] pos) X.env = (do
      let ov ← eval o X.env
      standAt apos.atName
      let (f, first) ← holding [ov] (getMethod ov m pl)
      callWith pos f first (backTo pos (starEach [] X.env)) (backToKw pos (keywordEach [] X.env))) := by rfl) (hK : X.K = K := by rfl) :
    PE X (.Call (.Attribute o m apos) [] [] pos) (tMeth C m (liftSp K sp) [] E0 ta tNil) := by
  subst hK
  obtain ⟨f, fd, ps, F, M, b⟩ := c.ex
  exact pe_meth0 (pl := pl) ho cl M F (hr.mono hk) b .nil pass0 ht
def wMeth (C : Addr) (m : Str) (sp : SpW) (to : TEW) (t : TAW) : TEW := fun ρ S Q => to ρ S fun x S1 => match x with
  | .ref a => (∃ fs, S1 a = some (.ins C fs) ∧ fs.lookup m = none) ∧ t ρ S1 fun ws S2 => sp (.ref a :: ws) S2 Q
  | _ => False
instance le_meth {C : Addr} {m : Str} {sp : SpW} {E : XK} {to : TE} {t : TA} {wo : TEW} {tw : TAW} [a : LE K B to wo] [b : LA K B t tw] : LE K B (tMeth C m (liftSp K sp) [] E to t) (wMeth C m sp wo tw) := ⟨fun σ H ρ S Q Qw hs hh q po =>
  a.l σ H ρ S _ _ hs hh q fun x H1 wx S1 t1 hh1 r1 q1 => by
    cases wx <;> try exact q1.elim
    cases (show x = _ from r1)
    rename_i a
    obtain ⟨⟨fs, e, l⟩, q1⟩ := q1
    obtain ⟨dx, gs, h1, h2⟩ := hh1 _ _ e
    exact ⟨a, dx, gs, rfl, h1, h2.lookN l, b.l σ H1 ρ S1 _ _ (hs.tk t1) hh1 q1 fun vs H2 ws S2 t2 hh2 r2 q2 => ⟨.ref a :: ws, S2, Qw, by rw [List.append_nil]; exact .cons rfl r2, hh2, q2, po.tk (t1.trans t2)⟩⟩⟩
/-! ### a + b and the like, by the class's own def -/
structure OwnOp (K : PySem.W.Frag) (C : Addr) : Prop where
  sf : PySem.W.selfFirst K C = true
def rOwnB (C : Addr) (sp : Sp) : R2 := fun x y H Q => ∃ a dx fs b dy gs, x = .ref a ∧ y = .ref b ∧ H a = some (.ins C dx fs) ∧ H b = some (.ins C dy gs) ∧ sp [x, y] H Q E0
theorem op_ownB {X : Cx} {C f : Addr} {fd : FuncData} {ps : List Str} {sp : Sp} {op : Operator} {k : Nat} (F : FnOk X.prog X.w X.K X.mg X.base CX0 k f fd ps sp) (hs : PySem.W.findIn X.K (.ref C) (PySem.dunder op.info.2) = some (some (.ref f))) (hf : PySem.W.isFn X.K (.ref f) = true) (hc : PySem.W.selfFirst X.K C = true)
    (hr : Room k X.A) (hb : Binds X.K fd ps []) : OpR X (binaryOp op) (rOwnB C sp) := by
  intro pins s σ H x y v u Q I rx ry h
  obtain ⟨a, dx, fs, b, dy, gs, rfl, rfl, ha, hb', q⟩ := h
  cases (show v = Value.ref a from rx)
  cases (show u = Value.ref b from ry)
  obtain ⟨mA, J, _⟩ := ins_get I.hok ha
  obtain ⟨mB, J', _⟩ := ins_get I.hok hb'
  obtain ⟨od, J, _⟩ := J.look
  obtain ⟨od', J', _⟩ := J'.look
  obtain ⟨m, hF⟩ := I.fr
  refine PySem.W.binop_K hF I.ok.mod.kin J J'.type hc hs hf ?_
  refine wpAny_mono (run_fn (us := [.ref a, .ref b]) (vs := [.ref a, .ref b]) F hr hb .nil pass0 I (.cons rfl (.cons rfl .nil)) q) (fun w s' z => ?_) fun _ _ x => x
  obtain ⟨z', H', I', rz, qz⟩ := z
  exact SlX.cmpback rz ⟨z', H', I', rz, qz⟩
def rAddO (K : PySem.W.Frag) (C : Addr) (sp : SpW) : R2 := fun x y H Q => rAddB K x y H Q ∨ rOwnB C (liftSp K sp) x y H Q
theorem k_addO (K : PySem.W.Frag) {X : Cx} {C : Addr} {k j : Nat} {sp : SpW} (ow : OwnOp K C) (c : CalM X.prog X.w K X.mg X.base k C "__add__" sp) (hr : Room j X.A) (hk : k ≤ j) (hK : X.K = K := by rfl) : OpR X (binaryOp .Add) (rAddO K C sp) := by
  subst hK
  obtain ⟨f, fd, ps, F, M, b⟩ := c.ex
  exact (k_addB X.K).or (op_ownB F M.at_ M.fn ow.sf (hr.mono hk) b)
def wAddO (C : Addr) (sp : SpW) : RW2 := fun x y S Q => match x, y with
  | .ref a, .ref b => wAddB (.ref a) (.ref b) S Q ∨ ((∃ fs, S a = some (.ins C fs)) ∧ (∃ gs, S b = some (.ins C gs)) ∧ sp [.ref a, .ref b] S Q)
  | x, y => wAddB x y S Q
theorem ownB_rep {H : Hp} {S : Sto} {C : Addr} {sp : SpW} {x y : V} {a b : Addr} {Q : VK} {Qw : WK} (hh : HRep K H S) (rx : Rep K H (.ref a) x) (ry : Rep K H (.ref b) y) (q : (∃ fs, S a = some (.ins C fs)) ∧ (∃ gs, S b = some (.ins C gs)) ∧ sp [.ref a, .ref b] S Qw) (po : PoE K H Q Qw) : rOwnB C (liftSp K sp) x y H Q := by
  obtain ⟨⟨fs, e1⟩, ⟨gs, e2⟩, q⟩ := q
  obtain ⟨dx, xs, h1, _⟩ := hh _ _ e1
  obtain ⟨dy, ys, h2, _⟩ := hh _ _ e2
  exact ⟨a, dx, xs, b, dy, ys, rx, ry, h1, h2, [.ref a, .ref b], S, Qw, .cons rx (.one ry), hh, q, po⟩
instance l2_addO {C : Addr} {sp : SpW} : L2R K (rAddO K C sp) (wAddO C sp) := ⟨fun H S x y wx wy Q Qw hh rx ry q po => by
  have old : wAddB wx wy S Qw → rAddO K C sp x y H Q := fun q => .inl (l2_addB.l H S x y wx wy Q Qw hh rx ry q po)
  cases wx with
  | ref a =>
    cases wy with
    | ref b =>
      rcases q with q | q
      · exact old q
      · exact .inr (ownB_rep hh rx ry q po)
    | _ => exact old q
  | _ => cases wy <;> exact old q⟩
/-! ### isinstance, own classes too -/
structure IsiO (K : PySem.W.Frag) (C : Addr) : Prop where
  cl : Cls K C
  ha : PySem.W.findIn K (.ref C) "__class__" = some (some (.builtin "object.__class__"))
  hn : PySem.W.specialIn K (.builtin "object.__class__") "__get__" = some (some (.builtin "getset_descriptor.__get__"))
  ht : PySem.W.takesIn K (.builtin "object.__class__") = some true
  hm : PySem.W.mroIn K C (.type "object") = some true
def rIsiO (K : PySem.W.Frag) : List V → Hp → VK → Prop := rIsi K
theorem k_isiO (K : PySem.W.Frag) {X : Cx} (hK : X.K = K := by rfl) : CallR X (.builtin "isinstance") (rIsiO K) := by subst hK; exact call_isi
def wIsiO (K : PySem.W.Frag) : RWC := fun ws S Q => match ws with
  | [x, .ty n] => ∃ t b, tyName x S = some t ∧ isTy t n = some b ∧ Q (.bl b) S
  | [.ref a, .ref C] => ∃ D fs b, S a = some (.ins D fs) ∧ IsiO K D ∧ PySem.W.kitOne K (.ref D) (.ref C) = some b ∧ Q (.bl b) S
  | _ => False
instance lc_isiO : LCR K (rIsiO K) (wIsiO K) := ⟨fun H S xs ws Q Qw hh r q po => by
  unfold wIsiO at q
  split at q
  · exact lc_isi.l H S xs _ Q Qw hh r q po
  · obtain ⟨x, y, rfl, h1, h2⟩ := rep2 r
    cases (show x = _ from h1)
    cases (show y = _ from h2)
    obtain ⟨D, fs, b, e, io, k, q⟩ := q
    obtain ⟨dx, gs, h1, _⟩ := hh _ _ e
    exact ⟨_, _, _, _, b, rfl, .own _, .base (.ins h1 io.cl io.ha io.hn io.ht io.hm), k, po.bl (Tk.refl H) hh q⟩
  · exact q.elim⟩
end
end Wl
set_option Elab.async false
set_option linter.all false
set_option maxRecDepth 100000
set_option maxHeartbeats 2000000
/-! sum of lists and tuples. -/
namespace Wl
open PySem PySem.Spec PyProof.Rows L2
variable {K : PySem.W.Frag} {B : Hp}
def rSumT (K : PySem.W.Frag) : List V → Hp → VK → Prop := fun vs H Q => ∃ (a : Addr) (ns : List Int), vs = [V.ref a] ∧ SqT K H a (ns.map V.int) ∧ Q (.int ns.sum) H
theorem cr_sumT {X : Cx} (hc : X.calm = true) : CallR X (.builtin "sum") (rSumT X.K) := by
  intro pins s σ H vs us Q I r h
  obtain ⟨a, ns, rfl, hs, q⟩ := h
  obtain ⟨its, rv, hl, _⟩ := I.tuple hs
  rw [Vals.ref1 r]
  have hi := rv.ints
  obtain ⟨xs, hx⟩ := hi.allInts.items
  have hn : numsOf its.toArray.toList = ns := by rw [show its.toArray.toList = its from rfl, hi.numsOf]
  have hl : s.heap.IsTuple a its.toArray := hl
  rw [hx] at hl hn
  rw [PySem.nums_intItems] at hn
  refine PySem.W.ktm_sumG (I.ok.hd hc) hl fun h' tk t' hk => ⟨.int _, H, I.kept hk, ⟨_, rfl⟩, ?_⟩
  rw [PySem.preSum_eq, List.take_of_length_le (by simp), hn]
  exact q
def rSumA (K : PySem.W.Frag) : List V → Hp → VK → Prop := fun vs H Q => rSum K vs H Q ∨ rSumT K vs H Q
theorem k_sumA (K : PySem.W.Frag) {X : Cx} (hc : X.calm = true) (hK : X.K = K := by rfl) : CallR X (.builtin "sum") (rSumA K) := by
  subst hK
  intro pins s σ H vs us Q I r h
  rcases h with h | h
  · exact cr_sum hc pins s σ H vs us Q I r h
  · exact cr_sumT hc pins s σ H vs us Q I r h
def sumAt (ws : List W) (S : Sto) (Q : WK) : Prop := ∃ ns : List Int, ws = List.map W.int ns ∧ Q (.int ns.sum) S
def wSumA : RWC := fun ws S Q => match ws with
  | [.tup ws] => sumAt ws S Q
  | [.rl ws] => sumAt ws S Q
  | [.ref a] => ∃ ws, S a = some (.lst ws) ∧ sumAt ws S Q
  | _ => False
instance lc_sumA : LCR K (rSumA K) wSumA := ⟨fun H S xs ws Q Qw hh r q po => by
  unfold wSumA at q
  split at q
  · obtain ⟨x, rfl, a, xs, rfl, h1, h2⟩ := rep1 r
    obtain ⟨ns, rfl, q⟩ := q
    rw [h2.ints] at h1
    exact .inr ⟨a, ns, rfl, h1, po.int (Tk.refl H) hh q⟩
  · obtain ⟨x, rfl, a, xs, rfl, h1, h2⟩ := rep1 r
    obtain ⟨ns, rfl, q⟩ := q
    rw [h2.ints] at h1
    exact .inl ⟨a, ns, rfl, h1.sq, po.int (Tk.refl H) hh q⟩
  · obtain ⟨x, rfl, h1⟩ := rep1 r
    cases (show x = _ from h1)
    obtain ⟨ws, e, ns, rfl, q⟩ := q
    obtain ⟨ys, h1, h2⟩ := hh _ _ e
    rw [h2.ints] at h1
    exact .inl ⟨_, ns, rfl, SqL.of h1, po.int (Tk.refl H) hh q⟩
  · exact q.elim⟩
end Wl
set_option Elab.async false
set_option linter.all false
set_option maxRecDepth 100000
set_option maxHeartbeats 2000000
/-! keyword-only parameters, static methods. -/
namespace Wl
open PySem PySem.Spec PyProof.Rows L2
variable {K : PySem.W.Frag} {B : Hp}
/-- a default -/
inductive KC where
  | i (n : Int) | s (x : Str)
def KC.v : KC → V
  | .i n => .int n
  | .s x => .str x
def KC.w : KC → W
  | .i n => .int n
  | .s x => .str x
theorem KC.rep {H : Hp} : ∀ c : KC, Rep K H c.w c.v
  | .i _ => rfl
  | .s _ => rfl
theorem KC.reps {H : Hp} : ∀ cs : List KC, RepL K H (cs.map KC.w) (cs.map KC.v)
  | [] => .nil
  | c :: cs => .cons c.rep (KC.reps cs)
inductive KwAll (K : PySem.W.Frag) (D : Addr) : List (Str × KC) → Prop where
  | nil : KwAll K D []
  | cons {x : Str} {c : KC} {u : Value} {l : List (Str × KC)} : PySem.W.nsIn K D x = some (some u) → RelV c.v u → KwAll K D l → KwAll K D ((x, c) :: l)
theorem kwAll_mem {D : Addr} {l : List (Str × KC)} (h : KwAll K D l) : ∀ q ∈ l.map (fun q => (q.1, q.2.v)), ∃ u, PySem.W.nsIn K D q.1 = some (some u) ∧ RelV q.2 u := by
  induction h with
  | nil => exact fun q hq => by cases hq
  | cons e r _ ih =>
    intro q hq
    rcases List.mem_cons.mp hq with hq | hq
    · rw [hq]; exact ⟨_, e, r⟩
    · exact ih q hq
section
variable {P : Program} {w : World} {mg : Str → Option Value} {base : Heap}
structure InitK (K : PySem.W.Frag) (C : Addr) (qual : Str) (st : Stmt) (kws : List (Str × KC)) : Prop where
  ex : ∃ (f : Addr) (fd : FuncData), FunD K "__init__" qual (defArgs st) (defBody st) (defScope st) [] (kws.map fun q => (q.1, q.2.v)) f fd ∧ Mk K C f
/-- C(n values, k = v for the names ks), ms the defaults that are taken -/
structure CalK (P : Program) (w : World) (K : PySem.W.Frag) (mg : Str → Option Value) (base : Heap) (k : Nat) (C : Addr) (n : Nat) (ks : List Str) (ms : List KC) (sp : SpW) : Prop where
  ex : ∃ (f : Addr) (fd : FuncData) (ps : List Str) (g : List Value → List Value → List Value), FnOk P w K mg base CX0 k f fd ps (liftSp K sp) ∧ Mk K C f ∧ KBn K fd ps (n + 1) ks g (fun vs zs => vs ++ ms.map KC.v ++ zs)
theorem CalK.hd {k : Nat} {C : Addr} {n : Nat} {ks : List Str} {ms : List KC} {sp : SpW} (c : CalK P w K mg base k C n ks ms sp) : CalK P w K mg base k C n ks ms (Hd sp) := by rw [Hd_eq]; exact c
theorem CalK.mono {j k : Nat} {C : Addr} {n : Nat} {ks : List Str} {ms : List KC} {sp : SpW} (c : CalK P w K mg base j C n ks ms sp) (h : j ≤ k) : CalK P w K mg base k C n ks ms sp := by
  obtain ⟨f, fd, ps, g, F, r⟩ := c.ex
  exact ⟨f, fd, ps, g, F.mono h, r⟩
theorem fun_of' {x qual : Str} {st : Stmt} {f : Addr} {fd : FuncData} {kws : List (Str × V)} (F : FunD K x qual (defArgs st) (defBody st) (defScope st) [] kws f fd) : Fun K x qual st f fd := by
  obtain ⟨oc, od, dV, kV, doc, pm, an, cdv, ct, osl, e, l, c, hd, _⟩ := F.ex
  rcases hd with ⟨_, e2⟩ | ⟨e2, _⟩
  · subst e2
    exact ⟨⟨oc, od, kV, doc, pm, an, cdv, ct, osl, e, l, c⟩, F.kp⟩
  · exact absurd rfl e2
def wMakeK (C : Addr) (n m : Nat) (sp : SpW) (ms : List KC) (t tk : TAW) : TEW := fun ρ S Q => t ρ S fun ws S1 => tk ρ S1 fun xs S2 => ws.length = n ∧ xs.length = m ∧ ∀ x, S2 x = none →
  sp (.ref x :: ws ++ ms.map KC.w ++ xs) (put S2 x (.ins C [])) fun v S3 => v = .non ∧ Q (.ref x) S3
def tMakeKK (C : Addr) (n m : Nat) (sp : Sp) (ms : List KC) (E : XK) (t tk : TA) : TE := tMakeK C n m sp (fun vs zs => vs ++ ms.map KC.v ++ zs) E t tk
theorem k_makeK (K : PySem.W.Frag) {X : Cx} {C : Addr} {k j n : Nat} {ks : List Str} {ms : List KC} {x : Str} {sp : SpW} {p pos : Pos} {e : Expr} {es : List Expr} {kws : List Keyword} {t tk : TA} (c : CalK X.prog X.w K X.mg X.base k C n ks ms sp) (hm : X.mg x = some (.ref C)) (hr : Room j X.A) (hk : k + 1 ≤ j) (hg : Gl X x) (ha : PA X (e :: es) t) (hkw : PK X kws tk)
    (hall : (backToKw pos (keywordEach kws X.env)).all (·.1.isSome) = true := by rfl) (hks : (backToKw pos (keywordEach kws X.env)).filterMap (·.1) = ks := by rfl) (hdb : (x == ("__debug__" : Str)) = false := by decide)
    (he : starEach (e :: es) X.env = (false, eval e X.env) :: starEach es X.env := by rfl) (hpl : ((backTo pos (starEach (e :: es) X.env)).any (·.1) || (backToKw pos (keywordEach kws X.env)).any (·.1.isNone)) = false := by rfl) (hK : X.K = K := by rfl) :
    PE X (.Call (.Name x p) (e :: es) kws pos) (tMakeKK C n ks.length (liftSp K sp) ms E0 t tk) := by
  subst hK
  obtain ⟨f, fd, ps, g, F, M, b⟩ := c.ex
  exact pe_makeK M F (hr.mono hk) hg hm b pass0 ha hkw hall hks hdb he hpl
instance le_makeK {C : Addr} {n m : Nat} {ms : List KC} {sp : SpW} {E : XK} {t tk : TA} {tw tkw : TAW} [a : LA K B t tw] [b : LA K B tk tkw] : LE K B (tMakeKK C n m (liftSp K sp) ms E t tk) (wMakeK C n m sp ms tw tkw) := ⟨fun σ H ρ S Q Qw hs hh q po =>
  a.l σ H ρ S _ _ hs hh q fun xs H1 ws S1 t1 hh1 r1 q1 => b.l σ H1 ρ S1 _ _ (hs.tk t1) hh1 q1 fun zs H2 us S2 t2 hh2 r2 ⟨l1, l2, q2⟩ => ⟨by rw [r1.length]; exact l1, by rw [r2.length]; exact l2, fun x dx hx hdx ne => by
    have tD : Tk H2 (upd H2 dx (.own x)) := Tk.new hdx
    have hx2 : upd H2 dx (.own x) x = none := by rw [upd_ne (Ne.symm ne)]; exact hx
    have tX : Tk (upd H2 dx (.own x)) (upd (upd H2 dx (.own x)) x (.ins C dx [])) := Tk.new hx2
    have hh3 : HRep K (upd H2 dx (.own x)) S2 := hh2.laid hdx
    have hh4 : HRep K (upd (upd H2 dx (.own x)) x (.ins C dx [])) (put S2 x (.ins C [])) := hh3.new hx2 ⟨dx, [], upd_same, rfl⟩
    refine ⟨.ref x :: ws ++ ms.map KC.w ++ us, put S2 x (.ins C []), _, ?_, hh4, q2 x (hh2.fresh hx), ?_⟩
    · exact RepL.append (RepL.append (.cons rfl (RepL.tk ((t2.trans tD).trans tX) _ _ r1)) (KC.reps ms)) (RepL.tk (tD.trans tX) _ _ r2)
    · rintro v H4 wv S4 t4 hh4 r4 ⟨e, q4⟩
      subst e
      exact ⟨r4, po.ref ((((t1.trans t2).trans tD).trans tX).trans t4) hh4 q4⟩⟩⟩
/-! ### static methods -/
structure CStat (K : PySem.W.Frag) (C : Addr) (m : Str) (g : Addr) : Prop where
  rd : PySem.W.readsIn K C (.type "type") = true
  ga : PySem.W.specialIn K (.ref C) "__getattribute__" = some (some (.builtin "type.__getattribute__"))
  sm : ∃ (p : Addr) (rest : List Value), PySem.W.findCls K (.ref C) (.type "type") m = some (.get (.builtin "staticmethod.__get__") (.ref p) .none (.ref C)) ∧ PySem.W.recIn K p "staticmethod" = some (.ref g :: rest)
  kp : PySem.W.keepIn K (.ref g) = true
structure StatAt (K : PySem.W.Frag) (C : Addr) (x qual : Str) (st : Stmt) (ps : List Str) : Prop where
  ex : ∃ (f : Addr) (fd : FuncData), Fun K x qual st f fd ∧ CStat K C x f ∧ Binds K fd ps []
structure CalS (P : Program) (w : World) (K : PySem.W.Frag) (mg : Str → Option Value) (base : Heap) (k : Nat) (C : Addr) (m : Str) (sp : SpW) : Prop where
  ex : ∃ (f : Addr) (fd : FuncData) (ps : List Str), FnOk P w K mg base CX0 k f fd ps (liftSp K sp) ∧ CStat K C m f ∧ Binds K fd ps []
theorem CalS.hd {k : Nat} {C : Addr} {m : Str} {sp : SpW} (c : CalS P w K mg base k C m sp) : CalS P w K mg base k C m (Hd sp) := by rw [Hd_eq]; exact c
theorem CalS.mono {j k : Nat} {C : Addr} {m : Str} {sp : SpW} (c : CalS P w K mg base j C m sp) (h : j ≤ k) : CalS P w K mg base k C m sp := by
  obtain ⟨f, fd, ps, F, r⟩ := c.ex
  exact ⟨f, fd, ps, F.mono h, r⟩
theorem getsm_ok {X : Cx} {pins : List (Addr × Obj)} {σ : L2.St} {H : Hp} {s : Shared} {C g : Addr} {m : Str} {A : Around} {E : Value → Shared → Prop} {pl : Sem Bool} {Q : Value × List Value → Shared → Prop} (I : Inv X pins σ H s) (c : CStat X.K C m g)
    (h : ∀ s', Inv X pins σ H s' → Q (.ref g, []) s') : wpAny (model X.prog X.w) A (getMethod (.ref C) m pl) Q E s := by
  obtain ⟨p, rest, e1, e2⟩ := c.sm
  refine PySem.W.method_cls I.kIn c.ga ?_
  refine PySem.W.cls_bind I.kIn c.rd e1 ?_
  refine wpAny_call (PySem.W.sm_get (s := { s with toks := s.toks + 1 }) I.kIn e2 (PySem.W.handed_on rfl ?_))
  exact h _ (I.tok _)
def tStat (C : Addr) (sp : Sp) (E : XK) (ta : TE) (t : TA) : TE := fun σ H Q => ta σ H fun x H1 => x = .ref C ∧ t σ H1 fun vs H2 => sp vs H2 Q E
theorem k_stat (K : PySem.W.Frag) {X : Cx} {C : Addr} {k j : Nat} {m : Str} {sp : SpW} {apos pos : Pos} {o e : Expr} {es : List Expr} {ta : TE} {t : TA} {pl : Sem Bool} (c : CalS X.prog X.w K X.mg X.base k C m sp) (hr : Room j X.A) (hk : k ≤ j) (ho : PE X o ta) (ha : PA X (e :: es) t)
    (hst : starEach (e :: es) X.env = (false, eval e X.env) :: starEach es X.env := by rfl) (hpl : (backTo pos (starEach es X.env)).any (·.1) = false := by rfl)
    (ht : eval (.Call (.Attribute o m apos) (e :: es) [] pos) X.env = (do
      let ov ← eval o X.env
      standAt apos.atName
      let (f, first) ← holding [ov] (getMethod ov m pl)
      callWith pos f first (backTo pos (starEach (e :: es) X.env)) (backToKw pos (keywordEach [] X.env))) := by rfl) (hK : X.K = K := by rfl) :
    PE X (.Call (.Attribute o m apos) (e :: es) [] pos) (tStat C (liftSp K sp) E0 ta t) := by
  subst hK
  obtain ⟨f, fd, ps, F, c, b⟩ := c.ex
  refine ⟨fun pins s σ H Q I h => ?_⟩
  refine PySem.W.methodCall_KW (pl := pl) (thn (ho.run pins s σ H _ I h) fun u s1 ⟨x, H1, I1, rx, ex, q⟩ => ?_) ht
  subst ex
  obtain rfl : u = Value.ref C := rx
  refine getsm_ok I1 c fun s2 I2 => ?_
  refine PySem.W.callWith_K (first := []) (h₀ := X.base) I.ok.mod.kin c.kp (thn (ha.run pos pins s2 σ H1 _ I2 q) fun us s3 ⟨vs, H2, I3, r, q2⟩ => ⟨I3.kIn, ?_⟩) hst hpl
  exact run_fn (us := us) (vs := vs) F (hr.mono hk) b .nil pass0 I3 r (by rw [List.append_nil]; exact q2)
def wStat (C : Addr) (sp : SpW) (to : TEW) (t : TAW) : TEW := fun ρ S Q => to ρ S fun x S1 => x = .ref C ∧ t ρ S1 fun ws S2 => sp ws S2 Q
instance le_stat {C : Addr} {sp : SpW} {E : XK} {to : TE} {t : TA} {wo : TEW} {tw : TAW} [a : LE K B to wo] [b : LA K B t tw] : LE K B (tStat C (liftSp K sp) E to t) (wStat C sp wo tw) := ⟨fun σ H ρ S Q Qw hs hh q po =>
  a.l σ H ρ S _ _ hs hh q fun x H1 wx S1 t1 hh1 r1 ⟨e, q1⟩ => by
    subst e
    exact ⟨r1, b.l σ H1 ρ S1 _ _ (hs.tk t1) hh1 q1 fun vs H2 ws S2 t2 hh2 r2 q2 => ⟨ws, S2, Qw, r2, hh2, q2, po.tk (t1.trans t2)⟩⟩⟩
theorem calS {C : Addr} {x qual : Str} {st : Stmt} {N ps : List Str} {k : Nat} {sp : SpW} (d : StatAt K C x qual st ps) (SC : FnScope N ps (defScope st))
    (len : ∀ ws S Q, sp ws S Q → ws.length = ps.length)
    (hbody : ∀ (f : Addr) (cdv : Value) (A : Around) (outer : List Env) (s : Shared) (H : Hp) (E : XK), Room k (A.deeper (envOfC qual (defScope st) s.heap.objs.size f cdv)) →
      ∃ t tw, PSs (cxOf CX0 P w K mg base N qual (defScope st) f cdv A outer s H E).nox (defBody st) t ∧ LS K H t tw ∧ ∀ ws S Q, sp ws S Q → tw { nx := fun _ S' => FgI Q .non S', rt := FgI Q } (startW N ws) S) :
    CalS P w K mg base (k + 1) C x sp := by
  obtain ⟨f, fd, F, hm, b⟩ := d.ex
  exact ⟨f, fd, ps, fnM F SC len hbody, hm, b⟩
/-- ms: the keyword-only names that lack, ks: those that are told, in their order -/
theorem calK {C : Addr} {qual : Str} {st : Stmt} {N ps : List Str} {k : Nat} {sp : SpW} {kws : List (Str × KC)} (d : InitK K C qual st kws) (SC : FnScope N ps (defScope st))
    (len : ∀ ws S Q, sp ws S Q → ws.length = ps.length)
    (hbody : ∀ (f : Addr) (cdv : Value) (A : Around) (outer : List Env) (s : Shared) (H : Hp) (E : XK), Room k (A.deeper (envOfC qual (defScope st) s.heap.objs.size f cdv)) →
      ∃ t tw, PSs (cxOf CX0 P w K mg base N qual (defScope st) f cdv A outer s H E).nox (defBody st) t ∧ LS K H t tw ∧ ∀ ws S Q, sp ws S Q → tw { nx := fun _ S' => FgI Q .non S', rt := FgI Q } (startW N ws) S)
    (n : Nat) (ks : List Str) (ms : List (Str × KC)) (hk : kws ≠ []) (hms : ∀ q ∈ ms, q ∈ kws)
    (h : ∀ (D : Addr) (doc pm : Value) (an : Option Addr) (cdv ct : Value) (us mv ws : List Value), us.length = n + 1 → mv.length = ms.length → ws.length = ks.length →
      KwChain D ((ms.map (·.1)).zip mv) (bindArgs (PySem.W.fnOf "__init__" qual (defArgs st) (defBody st) (defScope st) .none (.ref D) doc pm an cdv ct) ⟨us, ks.zip ws⟩) (ps.zip (us ++ mv ++ ws))) :
    CalK P w K mg base (k + 1) C n ks (ms.map (·.2)) sp := by
  obtain ⟨f, fd, F, hm⟩ := d.ex
  obtain ⟨mv, b⟩ := F.kbinds0 (ps := ps) (n + 1) ks (ms.map fun q => (q.1, q.2.v)) (fun us mv ws => us ++ mv ++ ws) (fun e => hk (List.map_eq_nil_iff.mp e))
    (fun q hq => by
      obtain ⟨r, hr, rfl⟩ := List.mem_map.mp hq
      exact List.mem_map.mpr ⟨r, hms r hr, rfl⟩) (fun r1 r2 r3 => Vals.append (Vals.append r1 r2) r3)
    (fun D doc pm an cdv ct us mv ws l1 l2 l3 => by
      have := h D doc pm an cdv ct us mv ws l1 (by rw [l2, List.length_map]) l3
      rw [List.map_map]
      exact this)
  refine ⟨f, fd, ps, (fun us ws => us ++ mv ++ ws), fnM (fun_of' F) SC len hbody, hm, ?_⟩
  rw [List.map_map] at b
  rw [List.map_map]
  exact b
end
end Wl
set_option Elab.async false
set_option linter.all false
set_option maxRecDepth 100000
set_option maxHeartbeats 2000000
/-! keyword arguments in any order. -/
namespace Wl
open PySem PySem.Spec PyProof.Rows L2
variable {K : PySem.W.Frag} {B : Hp}
def pickL {α : Type} (ix : List Nat) (l : List α) : List α := ix.filterMap fun i => l[i]?
theorem pickL_rep {H : Hp} : ∀ (ix : List Nat) {ws : List W} {xs : List V}, RepL K H ws xs → RepL K H (pickL ix ws) (pickL ix xs)
  | [], _, _, _ => .nil
  | i :: ix, ws, xs, h => by
    unfold pickL
    rw [List.filterMap_cons, List.filterMap_cons]
    cases e : ws[i]? with
    | none =>
      have e2 : xs[i]? = none := by rw [List.getElem?_eq_none_iff, h.length]; exact List.getElem?_eq_none_iff.mp e
      rw [e2]
      exact pickL_rep ix h
    | some w =>
      obtain ⟨x, e2, r⟩ := h.get e
      rw [e2]
      exact .cons r (pickL_rep ix h)
theorem Vals.get' : ∀ {vs : List V} {us : List Value} {i : Nat}, Vals vs us → (∀ v, vs[i]? = some v → ∃ u, us[i]? = some u ∧ RelV v u) ∧ (vs[i]? = none → us[i]? = none)
  | [], _, _, .nil => ⟨(fun v e => by cases e), fun _ => rfl⟩
  | _ :: _, _, 0, .cons r t => ⟨(fun v e => by cases e; exact ⟨_, rfl, r⟩), (fun e => by cases e)⟩
  | _ :: _, _, i + 1, .cons r t => Vals.get' (i := i) t
theorem pickL_vals : ∀ (ix : List Nat) {vs : List V} {us : List Value}, Vals vs us → Vals (pickL ix vs) (pickL ix us)
  | [], _, _, _ => .nil
  | i :: ix, vs, us, h => by
    unfold pickL
    rw [List.filterMap_cons, List.filterMap_cons]
    cases e : vs[i]? with
    | none =>
      rw [(Vals.get' h).2 e]
      exact pickL_vals ix h
    | some v =>
      obtain ⟨u, e2, r⟩ := (Vals.get' h).1 v e
      rw [e2]
      exact .cons r (pickL_vals ix h)
section
variable {P : Program} {w : World} {mg : Str → Option Value} {base : Heap}
/-- C(n values, k = v for the names ks), ms the defaults that are taken, ix: where each parameter stands in values, defaults, told ones -/
structure CalJ (P : Program) (w : World) (K : PySem.W.Frag) (mg : Str → Option Value) (base : Heap) (k : Nat) (C : Addr) (n : Nat) (ks : List Str) (ms : List KC) (ix : List Nat) (sp : SpW) : Prop where
  ex : ∃ (f : Addr) (fd : FuncData) (ps : List Str) (g : List Value → List Value → List Value), FnOk P w K mg base CX0 k f fd ps (liftSp K sp) ∧ Mk K C f ∧ KBn K fd ps (n + 1) ks g (fun vs zs => pickL ix (vs ++ ms.map KC.v ++ zs))
theorem CalJ.hd {k : Nat} {C : Addr} {n : Nat} {ks : List Str} {ms : List KC} {ix : List Nat} {sp : SpW} (c : CalJ P w K mg base k C n ks ms ix sp) : CalJ P w K mg base k C n ks ms ix (Hd sp) := by rw [Hd_eq]; exact c
theorem CalJ.mono {j k : Nat} {C : Addr} {n : Nat} {ks : List Str} {ms : List KC} {ix : List Nat} {sp : SpW} (c : CalJ P w K mg base j C n ks ms ix sp) (h : j ≤ k) : CalJ P w K mg base k C n ks ms ix sp := by
  obtain ⟨f, fd, ps, g, F, r⟩ := c.ex
  exact ⟨f, fd, ps, g, F.mono h, r⟩
def wMakeJ (C : Addr) (n m : Nat) (sp : SpW) (ms : List KC) (ix : List Nat) (t tk : TAW) : TEW := fun ρ S Q => t ρ S fun ws S1 => tk ρ S1 fun xs S2 => ws.length = n ∧ xs.length = m ∧ ∀ x, S2 x = none →
  sp (pickL ix (.ref x :: ws ++ ms.map KC.w ++ xs)) (put S2 x (.ins C [])) fun v S3 => v = .non ∧ Q (.ref x) S3
def tMakeJ (C : Addr) (n m : Nat) (sp : Sp) (ms : List KC) (ix : List Nat) (E : XK) (t tk : TA) : TE := tMakeK C n m sp (fun vs zs => pickL ix (vs ++ ms.map KC.v ++ zs)) E t tk
theorem k_makeJ (K : PySem.W.Frag) {X : Cx} {C : Addr} {k j n : Nat} {ks : List Str} {ms : List KC} {ix : List Nat} {x : Str} {sp : SpW} {p pos : Pos} {e : Expr} {es : List Expr} {kws : List Keyword} {t tk : TA} (c : CalJ X.prog X.w K X.mg X.base k C n ks ms ix sp) (hm : X.mg x = some (.ref C)) (hr : Room j X.A) (hk : k + 1 ≤ j) (hg : Gl X x) (ha : PA X (e :: es) t) (hkw : PK X kws tk)
    (hall : (backToKw pos (keywordEach kws X.env)).all (·.1.isSome) = true := by rfl) (hks : (backToKw pos (keywordEach kws X.env)).filterMap (·.1) = ks := by rfl) (hdb : (x == ("__debug__" : Str)) = false := by decide)
    (he : starEach (e :: es) X.env = (false, eval e X.env) :: starEach es X.env := by rfl) (hpl : ((backTo pos (starEach (e :: es) X.env)).any (·.1) || (backToKw pos (keywordEach kws X.env)).any (·.1.isNone)) = false := by rfl) (hK : X.K = K := by rfl) :
    PE X (.Call (.Name x p) (e :: es) kws pos) (tMakeJ C n ks.length (liftSp K sp) ms ix E0 t tk) := by
  subst hK
  obtain ⟨f, fd, ps, g, F, M, b⟩ := c.ex
  exact pe_makeK M F (hr.mono hk) hg hm b pass0 ha hkw hall hks hdb he hpl
instance le_makeJ {C : Addr} {n m : Nat} {ms : List KC} {ix : List Nat} {sp : SpW} {E : XK} {t tk : TA} {tw tkw : TAW} [a : LA K B t tw] [b : LA K B tk tkw] : LE K B (tMakeJ C n m (liftSp K sp) ms ix E t tk) (wMakeJ C n m sp ms ix tw tkw) := ⟨fun σ H ρ S Q Qw hs hh q po =>
  a.l σ H ρ S _ _ hs hh q fun xs H1 ws S1 t1 hh1 r1 q1 => b.l σ H1 ρ S1 _ _ (hs.tk t1) hh1 q1 fun zs H2 us S2 t2 hh2 r2 ⟨l1, l2, q2⟩ => ⟨by rw [r1.length]; exact l1, by rw [r2.length]; exact l2, fun x dx hx hdx ne => by
    have tD : Tk H2 (upd H2 dx (.own x)) := Tk.new hdx
    have hx2 : upd H2 dx (.own x) x = none := by rw [upd_ne (Ne.symm ne)]; exact hx
    have tX : Tk (upd H2 dx (.own x)) (upd (upd H2 dx (.own x)) x (.ins C dx [])) := Tk.new hx2
    have hh3 : HRep K (upd H2 dx (.own x)) S2 := hh2.laid hdx
    have hh4 : HRep K (upd (upd H2 dx (.own x)) x (.ins C dx [])) (put S2 x (.ins C [])) := hh3.new hx2 ⟨dx, [], upd_same, rfl⟩
    refine ⟨pickL ix (.ref x :: ws ++ ms.map KC.w ++ us), put S2 x (.ins C []), _, ?_, hh4, q2 x (hh2.fresh hx), ?_⟩
    · exact pickL_rep ix (RepL.append (RepL.append (.cons rfl (RepL.tk ((t2.trans tD).trans tX) _ _ r1)) (KC.reps ms)) (RepL.tk (tD.trans tX) _ _ r2))
    · rintro v H4 wv S4 t4 hh4 r4 ⟨e, q4⟩
      subst e
      exact ⟨r4, po.ref ((((t1.trans t2).trans tD).trans tX).trans t4) hh4 q4⟩⟩⟩
theorem calJ {C : Addr} {qual : Str} {st : Stmt} {N ps : List Str} {k : Nat} {sp : SpW} {kws : List (Str × KC)} (d : InitK K C qual st kws) (SC : FnScope N ps (defScope st))
    (len : ∀ ws S Q, sp ws S Q → ws.length = ps.length)
    (hbody : ∀ (f : Addr) (cdv : Value) (A : Around) (outer : List Env) (s : Shared) (H : Hp) (E : XK), Room k (A.deeper (envOfC qual (defScope st) s.heap.objs.size f cdv)) →
      ∃ t tw, PSs (cxOf CX0 P w K mg base N qual (defScope st) f cdv A outer s H E).nox (defBody st) t ∧ LS K H t tw ∧ ∀ ws S Q, sp ws S Q → tw { nx := fun _ S' => FgI Q .non S', rt := FgI Q } (startW N ws) S)
    (n : Nat) (ks : List Str) (ms : List (Str × KC)) (ix : List Nat) (hk : kws ≠ []) (hms : ∀ q ∈ ms, q ∈ kws)
    (h : ∀ (D : Addr) (doc pm : Value) (an : Option Addr) (cdv ct : Value) (us mv ws : List Value), us.length = n + 1 → mv.length = ms.length → ws.length = ks.length →
      KwChain D ((ms.map (·.1)).zip mv) (bindArgs (PySem.W.fnOf "__init__" qual (defArgs st) (defBody st) (defScope st) .none (.ref D) doc pm an cdv ct) ⟨us, ks.zip ws⟩) (ps.zip (pickL ix (us ++ mv ++ ws)))) :
    CalJ P w K mg base (k + 1) C n ks (ms.map (·.2)) ix sp := by
  obtain ⟨f, fd, F, hm⟩ := d.ex
  obtain ⟨mv, b⟩ := F.kbinds0 (ps := ps) (n + 1) ks (ms.map fun q => (q.1, q.2.v)) (fun us mv ws => pickL ix (us ++ mv ++ ws)) (fun e => hk (List.map_eq_nil_iff.mp e))
    (fun q hq => by
      obtain ⟨r, hr, rfl⟩ := List.mem_map.mp hq
      exact List.mem_map.mpr ⟨r, hms r hr, rfl⟩) (fun r1 r2 r3 => pickL_vals ix (Vals.append (Vals.append r1 r2) r3))
    (fun D doc pm an cdv ct us mv ws l1 l2 l3 => by
      have := h D doc pm an cdv ct us mv ws l1 (by rw [l2, List.length_map]) l3
      rw [List.map_map]
      exact this)
  refine ⟨f, fd, ps, (fun us ws => pickL ix (us ++ mv ++ ws)), fnM (fun_of' F) SC len hbody, hm, ?_⟩
  rw [List.map_map] at b
  rw [List.map_map]
  exact b
end
end Wl
set_option Elab.async false
set_option linter.all false
set_option maxRecDepth 100000
set_option maxHeartbeats 2000000
/-! list.clear over data. -/
namespace Wl
open PySem PySem.Spec PyProof.Rows L2
variable {K : PySem.W.Frag} {B : Hp}
def wClear : W → List W → Sto → WK → Prop := fun x ws S Q => match x, ws with
  | .ref l, [] => ∃ xs, S l = some (.lst xs) ∧ Q .non (put S l (.lst []))
  | _, _ => False
instance lm_clear : LMR K rClear wClear := ⟨fun H S x wx xs ws Q Qw hh rx r q po => by
  unfold wClear at q
  split at q
  · cases (show x = _ from rx)
    cases (show xs = [] from r)
    obtain ⟨zs, e, q⟩ := q
    obtain ⟨vs, h1, h2⟩ := hh _ _ e
    have t : Tk H (upd H _ (.lst [])) := Tk.mut h1 (fun _ z => (by cases z)) (fun _ _ z => (by cases z))
    obtain ⟨t, hm⟩ := hh.mut (c' := .lst []) (o := .lst []) e ⟨[], upd_same, .nil⟩
    exact ⟨_, vs, rfl, rfl, h1, po.non t hm q⟩
  · exact q.elim⟩
end Wl
set_option Elab.async false
set_option linter.all false
set_option maxRecDepth 100000
set_option maxHeartbeats 2000000
/-! enumerate(t), t a tuple, over data. -/
namespace Wl
open PySem PySem.Spec PyProof.Rows L2
variable {K : PySem.W.Frag} {B : Hp}
set_option maxHeartbeats 4000000 in
/-- enumerate(v), whatever v's iterator is -/
theorem en_new {v : Value} {ob : Obj} {Hh : Heap → Prop} (G : Begins v ob Hh) :
    Meets (Builtin.«enumerate.__new__» ⟨[.type "enumerate", v], []⟩) (fun _ R st => Hh st.heap ∧
      R (.ok (.ret (.ref (st.heap.push ob).objs.size))) { st with heap := (st.heap.push ob).push { cls := .type "enumerate", data := .fields #[.none, .bool false, .ref st.heap.objs.size, rawInt 0, .none, .none] } }) :=
  .of_wp fun P w A R st hst => by
    obtain ⟨hp, gl, dp, tk, os⟩ := st
    obtain ⟨hh, hr⟩ := hst
    have known := sub_enumerate
    have begun : ∀ {A' : Around} {E : Value → Shared → Prop} {Q : Value → Shared → Prop}, Q (.ref hp.objs.size) ⟨hp.push ob, gl, dp, tk, os⟩ → wpAny (model P w) A' (pyIter v) Q E ⟨hp, gl, dp, tk, os⟩ :=
      fun q => G.iter P w _ _ ⟨hp, gl, dp, tk, os⟩ _ hh q
    wp_walk using begun
    refine wpAny_stack_any (fun fr => wpAny_pure ?_)
    split
    · rename_i c _ _ _ _ _
      cases (c == Value.type "enumerate") <;> (wp_walk using begun; exact ⟨_, rfl, hr⟩)
    · (wp_walk using begun; exact ⟨_, rfl, hr⟩)
section
variable {P : Program} {w : World} {A : Around} {E : Value → Shared → Prop} {s : Shared}
theorem en_call {v : Value} {ob : Obj} {Hh : Heap → Prop} {Q : Value → Shared → Prop} (G : Begins v ob Hh) (hh : Hh s.heap)
    (fin : ∀ g, IsEnum g (s.heap.objs.size + 1) s.heap.objs.size 0 .none → g.get? s.heap.objs.size = some ob → g.objs.size = s.heap.objs.size + 2 → (∀ b o, s.heap.get? b = some o → g.get? b = some o) → Q (.ref (s.heap.objs.size + 1)) { s with heap := g }) :
    wpAny (model P w) A (call (.type "enumerate") [v]) Q E s := by
  refine callType_new F.called_enumerate (by decide) (F.typeCall_enumerate_1 _) (F.newCall_enumerate_1 _) (fun x => F.args_object_init_2 x _) F.entry_enumerate_new (en_new G) ⟨hh, ?_⟩
  have z1 : (s.heap.push ob).objs.size = s.heap.objs.size + 1 := Heap.size_push ..
  have z2 := Heap.get?_push_size (s.heap.push ob) (o := { cls := .type "enumerate", data := .fields #[.none, .bool false, .ref s.heap.objs.size, rawInt 0, .none, .none] }) rfl
  show _ ∧ _
  rw [z1] at z2 ⊢
  exact ⟨⟨_, z2, rfl⟩, fin _ z2 (Heap.get?_push_of_some _ (Heap.get?_push_size _ G.free)) (by rw [Heap.size_push, z1]) fun b o x => Heap.get?_push_of_some _ (Heap.get?_push_of_some _ x)⟩
end
/-- the tuple at a, each item in a new pair -/
def ItEn (K : PySem.W.Frag) (a : Addr) : It where
  go := fun i H => ∃ (xs : List V) (x : V), SqT K H a xs ∧ xs[i]? = some x
  yld := fun i H v H' => ∃ T x, v = .ref T ∧ H T = none ∧ H' = upd H T (.tup [.int (i : Nat), x]) ∧ ∀ xs, SqT K H a xs → xs[i]? = some x
  stop := fun i H => ∃ xs : List V, SqT K H a xs ∧ xs.length ≤ i
theorem turn_en {P : Program} {w : World} {K : PySem.W.Frag} {elts : List Expr} {kk : Nat} {tpos : Pos} (a e it : Addr) : Turn P w K (.Tuple elts kk tpos) (ItEn K a) [e, it] e (fun i h => (∃ old, IsEnum h e it (i : Nat) old) ∧ h.IsTupleIter it a i ∧ e ≠ it) where
  mem := by simp
  obj := by
    rintro i h ⟨⟨old, en⟩, ⟨o, ho, _, hd⟩, _⟩ b hb
    rcases (by simpa using hb : b = e ∨ b = it) with z | z <;> rw [z]
    · exact ⟨_, en, fun v q => nomatch q⟩
    · exact ⟨o, ho, fun v q => by rw [hd] at q; cases q⟩
  keep := by
    rintro i h h' ⟨⟨old, en⟩, ti, ne⟩ k
    exact ⟨⟨old, k e (by simp) _ en⟩, ti.at fun o q => k it (by simp) o q, ne⟩
  item := by
    intro X hP hw hK hc i pins s σ H E I hf st hg
    subst hP hw hK
    obtain ⟨⟨old, en⟩, ti, ne⟩ := st
    obtain ⟨xs, x, hq, hx⟩ := hg
    obtain ⟨its, rv, tp, _⟩ := I.tuple hq
    have tp : s.heap.IsTuple a its.toArray := tp
    obtain ⟨u, hu, ru⟩ := rv.get hx
    obtain ⟨o1, ho1, hc1, _⟩ := id tp
    obtain ⟨o2, ho2, hc2, _⟩ := id ti
    have cls_ne : ∀ {b : Addr} {o : Obj} {n : String}, s.heap.get? b = some o → o.cls = .type n → ("tuple" == n) = false → a ≠ b := fun {b o n} hb hn ht z => by
      rw [z, hb] at ho1
      rw [← Option.some.inj ho1, hn] at hc1
      rw [Value.type.inj hc1] at ht
      simp at ht
    have ae : a ≠ e := cls_ne en rfl (by decide)
    have ai : a ≠ it := cls_ne ho2 hc2 (by decide)
    have le : e < s.heap.objs.size := Heap.lt_size en
    have li : it < s.heap.objs.size := Heap.lt_size ho2
    have hlt : i < its.toArray.size := by
      have := (List.getElem?_eq_some_iff.mp hu).1
      simpa using this
    refine wpAny_pyNext_enum_itemD (Draws.tuple (show X.A.in1.handled = none from I.ok.hd hc) it a ai its.toArray) en ⟨ti, tp⟩ hlt ne (by simp [ne, Ne.symm ae]) fun y g tk hy ho ti2 hT hz hk => ?_
    have ey : y = u := by
      have hy : its.toArray[i]? = some y := hy
      rw [List.getElem?_toArray, hu] at hy
      exact (Option.some.inj hy).symm
    subst ey
    refine ⟨_, rfl, wpAny_letOwnedTupleGo_enum (s := { s with heap := g, toks := tk + 1 }) ho fun g2 en2 sb => ?_⟩
    have hT2 : g2.get? s.heap.objs.size = some { cls := .type "tuple", data := .seq #[.int i tk, y] } := (sb.2 _ (Nat.ne_of_gt le)).trans hT
    have made : ObjOk X.prog X.w (upd H s.heap.objs.size (.tup [.int (i : Nat), x])) g2 s.heap.objs.size (.tup [.int (i : Nat), x]) := ⟨by show 2 ≤ sizeLine; decide, [.int i tk, y], .cons ⟨_, rfl⟩ (.cons ru .nil), _, hT2, rfl, _, rfl⟩
    have I1 : Inv X pins σ (upd H s.heap.objs.size (.tup [.int (i : Nat), x])) { s with heap := g2, toks := tk + 1 } :=
      I.turnedNew (ch := [e, it]) (fun b ob hb q => (sb.2 b (fun z => hb (by simp [z]))).trans (hk b ob (fun z => hb (by simp [z])) (fun z => hb (by simp [z])) q)) hf (Nat.le_refl _) made
    refine ⟨.ref s.heap.objs.size, _, I1, rfl, ⟨_, x, rfl, I.hok.fresh (Nat.le_refl _), rfl, fun ys hy => by rw [I.tuple_inj hy hq]; exact hx⟩, ⟨⟨y, by rw [show ((i + 1 : Nat) : Int) = (i : Int) + 1 by omega]; exact en2⟩, ti2.1.at fun o q => (sb.2 it (Ne.symm ne)).trans q, ne⟩, fun b hb => ?_⟩
    have lb : b < s.heap.objs.size := by rcases (by simpa using hb : b = e ∨ b = it) with z | z <;> rw [z] <;> assumption
    rw [upd_ne (Nat.ne_of_lt lb)]
    exact (hf b hb).1
  done := by
    intro X hP hw hK hc i pins s σ H E I hf st hg
    subst hP hw hK
    obtain ⟨⟨old, en⟩, ti, ne⟩ := st
    obtain ⟨xs, hq, hx⟩ := hg
    obtain ⟨its, rv, tp, _⟩ := I.tuple hq
    have tp : s.heap.IsTuple a its.toArray := tp
    have none : its.toArray[i]? = none := by
      rw [List.getElem?_toArray]
      exact List.getElem?_eq_none (by rw [← rv.length]; exact hx)
    have D : Draws X.prog X.w X.A.in1 it [it, a] 0 (fun _ _ => False) (fun j h => h.IsTupleIter it a (i + j) ∧ h.IsTuple a its.toArray) := by
      refine ⟨fun j h q => ?_, fun j h h' q k => ⟨q.1.at fun o z => k it (by simp) o z, q.2.at fun o z => k a (by simp) o z⟩, fun j _ _ _ z => absurd z (Nat.not_lt_zero _), fun st Q' E' q hE => ?_⟩
      · obtain ⟨o, ho, _⟩ := q.1
        exact ⟨o, ho⟩
      · exact wpAny_nextOf_tuple_end (show X.A.in1.handled = _ from I.ok.hd hc) q.1 q.2 none hE
    obtain ⟨f0, f1, f2, f3, f4, f5⟩ := hf it (by simp)
    exact wpAny_pyNext_enum_endD D en ⟨ti, tp⟩ fun g eb => ⟨rfl, I.turned (t' := s.toks) (fun b o hb q => eb b o hb q) f0 f1 f3 f4 f5⟩
  self := fun A i s Q E ⟨⟨_, en⟩, _⟩ h => wpAny_pyIter_enum en h
def iEn (K : PySem.W.Frag) (ta : TA) : TI := fun σ H R => ta σ H fun vs H1 => ∃ a xs, vs = [.ref a] ∧ SqT K H1 a xs ∧ R (ItEn K a) H1
theorem k_enum (K : PySem.W.Frag) {X : Cx} {e : Expr} {ta : TA} {p pos tpos : Pos} {elts : List Expr} {kk : Nat} (hg : Gl X "enumerate") (hm : X.mg "enumerate" = none) (ha : PA X [e] ta) (hs : starEach [e] X.env = [(false, eval e X.env)] := by rfl) (hK : X.K = K := by rfl) :
    PI X (.Tuple elts kk tpos) (.Call (.Name "enumerate" p) [e] [] pos) (iEn K ta) := by
  subst hK
  refine ⟨fun pins s σ H R I h => Call_ (ld_blt I hg hm boot_enumerate (PyProof.Rows.callWith_type1 (thn (ha.run pos pins s σ H _ I h) fun us s1 ⟨vs, H1, I1, r1, a, xs, ex, hq, q⟩ => ?_) hs rfl))⟩
  subst ex
  cases r1 with
  | cons r rr =>
    cases rr
    cases r
    obtain ⟨its, rv, tp, _⟩ := I1.tuple hq
    have tp : s1.heap.IsTuple a its.toArray := tp
    refine en_call (begins_tuple a its.toArray) tp fun g en hi hz hk => wpAny_pyIter_enum en ?_
    have I2 : Inv X pins σ H1 { s1 with heap := g } := I1.kept (t' := s1.toks) hk
    refine ⟨s1.heap.objs.size + 1, [s1.heap.objs.size + 1, s1.heap.objs.size], _, _, H1, rfl, I2, turn_en a (s1.heap.objs.size + 1) s1.heap.objs.size, ⟨⟨.none, en⟩, ⟨_, hi, rfl, rfl⟩, Nat.succ_ne_self _⟩, fun b hb => ?_, q⟩
    have le : s1.heap.objs.size ≤ b := (by simpa using hb : b = s1.heap.objs.size + 1 ∨ b = s1.heap.objs.size).elim (fun z => z ▸ Nat.le_succ _) fun z => z ▸ Nat.le_refl _
    exact I1.fpOk le (I1.hok.fresh le)
/-- the items with their numbers -/
def enW (ws : List W) : List W := (List.range ws.length).map fun i => .tup [.int (i : Nat), (ws[i]?).getD .non]
theorem enW_at {ws : List W} {i : Nat} {w : W} (h : (enW ws)[i]? = some w) : ∃ x, ws[i]? = some x ∧ w = .tup [.int (i : Nat), x] := by
  unfold enW at h
  rw [List.getElem?_map] at h
  by_cases hi : i < ws.length
  · rw [List.getElem?_range hi] at h
    refine ⟨ws[i], List.getElem?_eq_getElem hi, ?_⟩
    have h : W.tup [.int (i : Nat), (ws[i]?).getD .non] = w := Option.some.inj h
    rw [List.getElem?_eq_getElem hi] at h
    exact h.symm
  · rw [List.getElem?_eq_none (by rw [List.length_range]; omega)] at h
    cases h
theorem enW_len (ws : List W) : (enW ws).length = ws.length := by unfold enW; rw [List.length_map, List.length_range]
theorem src_en {H1 : Hp} {a : Addr} {xs : List V} {ws : List W} (h : SqT K H1 a xs) (r : RepL K H1 ws xs) : IsSrc K H1 (ItEn K a) (enW ws) anyS where
  go := fun i H S t hh ok hi => by
    rw [enW_len] at hi
    exact ⟨xs, xs[i]'(by rw [r.length]; exact hi), t.sqt h, by simp [r.length, hi]⟩
  yld := fun i H S x H' t hh ok hi y => by
    rw [enW_len] at hi
    obtain ⟨T, z, rfl, hT, rfl, hz⟩ := y
    obtain ⟨w, ew, rw'⟩ := (RepL.tk t _ _ r).get' (hz xs (t.sqt h))
    have tn : Tk H (upd H T (.tup [.int (i : Nat), z])) := Tk.new hT
    refine ⟨tn, hh.laid hT, .tup [.int (i : Nat), w], ?_, ⟨T, _, rfl, SqT.of upd_same, RepL.tk tn _ _ (.cons rfl (.one rw'))⟩⟩
    unfold enW
    rw [List.getElem?_map, List.getElem?_range hi]
    show some (W.tup [.int (i : Nat), (ws[i]?).getD .non]) = _
    rw [ew]
    rfl
  stop := fun i H S t hh ok hi => by
    rw [enW_len] at hi
    exact ⟨xs, t.sqt h, by rw [r.length]; exact hi⟩
def wiEn (ta : TAW) : TIW := fun ρ S R => ta ρ S fun ws S1 => match ws with
  | [.tup ws] => R (enW ws) anyS S1
  | _ => False
instance li_en {t : TA} {tw : TAW} [a : LA K B t tw] : LI K B (iEn K t) (wiEn tw) := ⟨fun σ H ρ S R Rw hs hh q po => a.l σ H ρ S _ _ hs hh q fun xs H1 ws S1 t1 hh1 r1 q1 => by
  split at q1
  · obtain ⟨x, rfl, h1⟩ := rep1 r1
    obtain ⟨p, ys, rfl, h2, h3⟩ := h1
    exact ⟨_, ys, rfl, h2, po _ H1 S1 _ _ t1 hh1 (src_en h2 h3) q1⟩
  · exact q1.elim⟩
end Wl
set_option Elab.async false
set_option linter.all false
set_option maxRecDepth 100000
set_option maxHeartbeats 2000000
/-! yield from a list; comprehensions with two for; tuples of ints compared. -/
namespace Wl
open PySem PySem.Spec PyProof.Rows L2 GenW
variable {K : PySem.W.Frag} {B : Hp}
section
variable {P : Program} {w : World} {A : Around} {E : Value → Shared → Prop} {s : Shared} {it l : Addr} {i : Nat} {items : Array Value}
/-- the special method of a list's iterator, an item is left -/
theorem ln_item {x : Value} {Q : Option Value → Shared → Prop} (ho : s.heap.get? it = some (GNX.itObj l i)) (hl : s.heap.IsList l items) (hx : items[i]? = some x) (hQ : ∀ g, g.get? it = some (GNX.itObj l (i + 1)) → Heap.SameBut it s.heap g → Q (some x) { s with heap := g }) :
    wpAny (model P w) A (callSpecial? (.ref it) "__next__") Q E s := by
  have ty : s.heap.IsListIter it l i := ⟨_, ho, rfl, rfl⟩
  exact wpAny_callSpecial?_slot (name := Str.ofString "__next__") ty.typeIs slot_listiter_next (wpAny_call_entry slot_listiter_next ty.typeIs entry_listiter_next (GNX.next_item ho hl hx fun g e sb => hQ g e sb) (args_listiter_next _))
/-- nothing is left: the exception carries no value -/
theorem ln_end {Q : Option Value → Shared → Prop} (hh : A.handled = none) (ho : s.heap.get? it = some (GNX.itObj l i)) (hl : s.heap.IsList l items) (hx : items[i]? = none) (hE : ∀ e g, StopX e g → Heap.ExtBut it s.heap g → E e { s with heap := g }) :
    wpAny (model P w) A (callSpecial? (.ref it) "__next__") Q E s := by
  have ty : s.heap.IsListIter it l i := ⟨_, ho, rfl, rfl⟩
  refine wpAny_callSpecial?_slot (name := Str.ofString "__next__") ty.typeIs slot_listiter_next (wpAny_call_entry slot_listiter_next ty.typeIs entry_listiter_next ?_ (args_listiter_next _))
  obtain ⟨ol, hol, _, nl, dl⟩ := hl
  refine (show wpAny _ _ (field (.ref it) 0 >>= _) _ _ s from wpAny_bind (wpAny_field ho rfl (x := .ref l) rfl ?_))
  refine (show wpAny _ _ (if (Value.ref l == Value.none) = true then _ else _) _ _ s from ?_)
  rw [if_neg (show (Value.ref l == Value.none) ≠ true from fun z => nomatch z)]
  refine (show wpAny _ _ (field (.ref it) 1 >>= _) _ _ s from wpAny_bind (wpAny_field ho rfl (x := .int i 0) rfl ?_))
  refine (show wpAny _ _ (seqItems? (.ref l) >>= _) _ _ s from wpAny_bind (wpAny_seqItems hol dl ?_))
  simp only [hx, Int.toNat_natCast]
  refine wpAny_bind (wpAny_rule (wpAny_bind (wpAny_setField ho rfl (by simp [GNX.itObj]) ?_)))
  refine (show wpAny _ _ (newExc (.type "StopIteration") [] >>= _) _ _ _ from wpAny_bind ?_)
  simp only [newTuple, newExc]
  refine wpAny_bind (wpAny_newObj_type (wpAny_bind (m := firstArgMember _ _) (wpAny_of_eq (a := Value.none) (by first | rfl | (simp only [firstArgMember]; rfl)) (wpAny_newObj_type ?_ (by size_fits)))) (by size_fits))
  simp only [raiseNew]
  refine wpAny_bind (wpAny_handled ?_)
  have h1 : A.in1.handled = none := hh
  rw [h1]
  refine (show wpAny _ _ (throw _) _ _ _ from wpAny_throw (hE _ _ ⟨_, _, _, rfl, Heap.get?_push_size _ rfl, rfl, rfl, ?_⟩ (((Heap.SameBut.update ..).extBut.push _).push _)))
  first
    | rfl
    | (rw [Array.getElem?_append_left (by decide)]; rfl)
end
/-! ### yield from a list -/
def tYl (te : TE) : TYf := fun σ H Q => te σ H fun x H1 => ∃ a xs, x = .ref a ∧ H1 a = some (.lst xs) ∧ Q xs H1
theorem yf_l {X : Cx} {e : Expr} {te : TE} (he : PE X e te) : YfE X e (tYl te) := ⟨fun pins s σ H Q I h => thn (he.run pins s σ H _ I h) fun v s1 ⟨x, H1, I1, r1, a, xs, ex, ha, hq⟩ => by
  subst ex
  cases (show v = Value.ref a from r1)
  obtain ⟨its, rits, pl, _⟩ := I1.list (SqL.of ha)
  have hl : s1.heap.IsList a its.toArray := pl.isList
  have grow : ∀ b o, s1.heap.get? b = some o → (s1.heap.push (GNX.itObj a 0)).get? b = some o := fun b o z => Heap.get?_push_of_some _ z
  have lt : ∀ b o, s1.heap.get? b = some o → b ≠ s1.heap.objs.size := fun b o z => Nat.ne_of_lt (Heap.lt_size z)
  have ne : a ≠ s1.heap.objs.size := by
    obtain ⟨o, ho, _⟩ := id hl
    exact lt a o ho
  refine ⟨"list", hl.typeIs, by decide, wpAny_pyIter_list hl ⟨s1.heap.objs.size, H1, xs, fun j h => h.get? s1.heap.objs.size = some (GNX.itObj a j) ∧ h.IsList a its.toArray, rfl, I1.kept (t' := s1.toks) grow, .inr I1.sz, Nat.ne_of_gt I1.lt, ?_, I1.hok.fresh (Nat.le_refl _), fun p hp => lt p.1 _ (I1.pin p hp).1,
    ⟨Heap.get?_push_size _ rfl, hl.push _⟩, ⟨⟨"list_iterator", fun j h q => ⟨_, q.1, rfl⟩, by rw [typeLookup_type, builtinLookup_eq_fast]; kernel_rfl, by decide⟩, fun j h h' q hk => ?_, fun A' j x s2 Q' E' hA hx q hQ => ?_, fun A' s2 Q' E' hA q hE => ?_⟩, hq⟩⟩
  · intro y c hy
    obtain ⟨v, o, ho, _⟩ := I1.cell y c hy
    exact lt c o ho
  · obtain ⟨q1, o2, ho2, r2⟩ := q
    exact ⟨hk _ _ (.inl rfl) q1, o2, hk _ o2 (.inr (by rw [ha]; exact fun z => by cases z)) ho2, r2⟩
  · obtain ⟨u, hu, ru⟩ := rits.get hx
    exact ln_item q.1 q.2 (x := u) (by simpa using hu) fun g q1 hs => hQ u g s2.toks ru ⟨q1, q.2.extBut hs.extBut ne⟩ fun b o hb eb => hs.extBut b o hb eb
  · refine ln_end hA q.1 q.2 ?_ fun e g hS hk => hE e g s2.toks hS fun b o hb eb => hk b o hb eb
    rw [List.getElem?_toArray]
    exact List.getElem?_eq_none (Nat.le_of_eq rits.length.symm)⟩
def wGFrom (te : TEW) : TGnW := fun D ys ρ S => te ρ S fun x S1 => match x with
  | .ref a => ∃ ws, S1 a = some (.lst ws) ∧ ys.length + ws.length ≤ sizeLine ∧ D.nx (ys ++ ws) ρ S1
  | _ => False
instance lgn_from {te : TE} {we : TEW} [a : LE K B te we] : LGn K B (tGFrom (tYl te)) (wGFrom we) := ⟨fun ys ws σ H ρ S D Dw hy hs hh q po =>
  a.l σ H ρ S _ _ hs hh q fun x H1 wx S1 t1 hh1 r1 q1 => by
    split at q1
    · cases (show x = _ from r1)
      obtain ⟨ws', e, hz, q⟩ := q1
      obtain ⟨xs, h1, h2⟩ := hh1 _ _ e
      exact ⟨_, xs, rfl, h1, by rw [hy.length, h2.length]; exact hz, po.nx _ _ σ H1 ρ S1 t1 ((RepL.tk t1 _ _ hy).append h2) (hs.tk t1) hh1 q⟩
    · exact q1.elim⟩
/-! ### tuples of ints compared -/
def wLtT : RW2 := fun x y S Q => match x, y with
  | .tup xs, .tup ys => ∃ ns ms : List Int, xs = ns.map W.int ∧ ys = ms.map W.int ∧ Q (.bl (HT.lexLt ns ms)) S
  | _, _ => False
theorem k_ltT (K : PySem.W.Frag) {X : Cx} (hu : X.A.units + 64 < cLine) (hK : X.K = K := by rfl) : OpR X (compareOp .Lt) (rLtT K) := by subst hK; exact op_ltT (by omega)
instance l2_ltT : L2R K (rLtT K) wLtT := ⟨fun H S x y wx wy Q Qw hh rx ry q po => by
  unfold wLtT at q
  split at q
  · obtain ⟨a, xs, rfl, h1, h2⟩ := rx
    obtain ⟨b, ys, rfl, h3, h4⟩ := ry
    obtain ⟨ns, ms, rfl, rfl, q⟩ := q
    rw [h2.ints] at h1
    rw [h4.ints] at h3
    exact ⟨a, b, ns, ms, rfl, rfl, h1, h3, po.bl (Tk.refl H) hh q⟩
  · exact q.elim⟩
/-! ### comprehensions with two for -/
@[irreducible] def Lc2Q (g : TGW) (tt : TTW) (wi1 : TIW) (g1 : TGW) (tt1 : TTW) (te : TEW) (vs vs1 : List Nat) (ρ : StW) (Q : WK) (ws : List W) (ok : Sto → Prop) (S1 : Sto) : Prop := ∀ D, S1 D = none → ∃ P : Nat → List W → Sto → Prop, P 0 [] (put S1 D (.lst [])) ∧
  (∀ i acc S', P i acc S' → ok S') ∧
  (∀ i w acc S', ws[i]? = some w → P i acc S' → g w (wipeW ρ vs) S' fun ρ2 S2 => tt ρ2 S2 fun b S3 => (b = true → wi1 ρ2 S3 fun ws1 ok1 S4 => ∃ P1 : Nat → List W → Sto → Prop, P1 0 acc S4 ∧
    (∀ j acc1 S', P1 j acc1 S' → ok1 S') ∧
    (∀ j w1 acc1 S', ws1[j]? = some w1 → P1 j acc1 S' → g1 w1 (wipeW ρ2 vs1) S' fun ρ3 S5 => tt1 ρ3 S5 fun b1 S6 =>
      (b1 = true → te ρ3 S6 fun y S7 => S7 D = some (.lst acc1) ∧ acc1.length < sizeLine ∧ P1 (j + 1) (acc1 ++ [y]) (put S7 D (.lst (acc1 ++ [y])))) ∧ (b1 = false → P1 (j + 1) acc1 S6)) ∧
    ∀ acc1 S', P1 ws1.length acc1 S' → P (i + 1) acc1 S') ∧ (b = false → P (i + 1) acc S3)) ∧
  ∀ acc S', P ws.length acc S' → Q (.ref D) S'
def wLc2 (wi : TIW) (g : TGW) (tt : TTW) (wi1 : TIW) (g1 : TGW) (tt1 : TTW) (te : TEW) (vs vs1 : List Nat) : TEW := fun ρ S Q => wi ρ S fun ws ok S1 => Lc2Q g tt wi1 g1 tt1 te vs vs1 ρ Q ws ok S1
instance le_lc2 {wi wi1 : TI} {g g1 : TG} {tt tt1 : TT} {te : TE} {vs vs1 : List Nat} {ww ww1 : TIW} {gw gw1 : TGW} {tw tw1 : TTW} {ew : TEW} [h : LI K B wi ww] [b : LG K B g gw] [gg : GW g vs] [c : LT K B tt tw] [h1 : LI K B wi1 ww1] [b1 : LG K B g1 gw1] [gg1 : GW g1 vs1] [c1 : LT K B tt1 tw1] [a : LE K B te ew] :
    LE K B (tLc2 wi g tt wi1 g1 tt1 te vs vs1) (wLc2 ww gw tw ww1 gw1 tw1 ew vs vs1) := ⟨fun σ H ρ S Q Qw hs hh q po => by
  refine h.l σ H ρ S _ _ hs hh q fun J H1 S1 ws ok t1 hh1 src hD => fun D hDn => ?_
  unfold Lc2Q at hD
  obtain ⟨P, p0, pok, pst, pend⟩ := hD D (hh1.fresh hDn)
  have tD : Tk H1 (upd H1 D (.lst [])) := Tk.new hDn
  have hhD : HRep K (upd H1 D (.lst [])) (put S1 D (.lst [])) := hh1.new hDn ⟨[], upd_same, rfl⟩
  refine ⟨fun i m H' => m = ws.length - i ∧ i ≤ ws.length ∧ ∃ acc S', Tk H1 H' ∧ HRep K H' S' ∧ P i acc S', ⟨ws.length, by simp, Nat.zero_le _, [], _, tD, hhD, p0⟩, ?_⟩
  rintro i m H2 ⟨rfl, hi, acc, S2, t2, hh2, p2⟩
  by_cases hlt : i < ws.length
  · refine .inr ⟨src.go i H2 S2 t2 hh2 (pok _ _ _ p2) hlt, fun H' => ∃ acc S', Tk H1 H' ∧ HRep K H' S' ∧ P (i + 1) acc S', fun H' z => ⟨ws.length - (i + 1), by omega, rfl, hlt, z⟩, fun x H3 y => ?_⟩
    obtain ⟨t3, hh3, w, e, r⟩ := src.yld i H2 S2 x H3 t2 hh2 (pok _ _ _ p2) hlt y
    refine gg.l x σ H3 _ ?_
    have hs3 : SRep K B H3 (wipe σ vs) (wipeW ρ vs) := srep_wipe (hs.tk ((t1.trans t2).trans t3)) vs
    refine b.l x w (wipe σ vs) H3 (wipeW ρ vs) S2 _ _ r hs3 hh3 (pst i w acc S2 e p2) fun σ4 H4 ρ4 S4 t4 hs4 hh4 q4 => ?_
    refine c.l σ4 H4 ρ4 S4 _ _ hs4 hh4 q4 fun bb H5 S5 t5 hh5 q5 => ?_
    have t15 := ((t2.trans t3).trans t4).trans t5
    cases bb with
    | false =>
      rw [if_neg Bool.false_ne_true]
      exact ⟨acc, S5, t15, hh5, q5.2 rfl⟩
    | true =>
      rw [if_pos rfl]
      refine h1.l σ4 H5 ρ4 S5 _ _ (hs4.tk t5) hh5 (q5.1 rfl) fun J1 H6 S6 ws1 ok1 t6 hh6 src1 hP => ?_
      obtain ⟨P1, p10, p1ok, p1st, p1end⟩ := hP
      refine ⟨fun j k H' => k = ws1.length - j ∧ j ≤ ws1.length ∧ ∃ acc1 S', Tk H6 H' ∧ HRep K H' S' ∧ P1 j acc1 S', ⟨ws1.length, by simp, Nat.zero_le _, acc, S6, Tk.refl _, hh6, p10⟩, ?_⟩
      rintro j k H7 ⟨rfl, hj, acc1, S7, t7, hh7, p7⟩
      by_cases hjt : j < ws1.length
      · refine .inr ⟨src1.go j H7 S7 t7 hh7 (p1ok _ _ _ p7) hjt, fun H' => ∃ acc1 S', Tk H6 H' ∧ HRep K H' S' ∧ P1 (j + 1) acc1 S', fun H' z => ⟨ws1.length - (j + 1), by omega, rfl, hjt, z⟩, fun x1 H8 y1 => ?_⟩
        obtain ⟨t8, hh8, w1, e1, r1⟩ := src1.yld j H7 S7 x1 H8 t7 hh7 (p1ok _ _ _ p7) hjt y1
        refine gg1.l x1 σ4 H8 _ ?_
        have hs8 : SRep K B H8 (wipe σ4 vs1) (wipeW ρ4 vs1) := srep_wipe (hs4.tk (((t5.trans t6).trans t7).trans t8)) vs1
        refine b1.l x1 w1 (wipe σ4 vs1) H8 (wipeW ρ4 vs1) S7 _ _ r1 hs8 hh8 (p1st j w1 acc1 S7 e1 p7) fun σ9 H9 ρ9 S9 t9 hs9 hh9 q9 => ?_
        refine c1.l σ9 H9 ρ9 S9 _ _ hs9 hh9 q9 fun b2 H10 S10 t10 hh10 q10 => ?_
        have t710 := ((t7.trans t8).trans t9).trans t10
        cases b2 with
        | false =>
          rw [if_neg Bool.false_ne_true]
          exact ⟨acc1, S10, t710, hh10, q10.2 rfl⟩
        | true =>
          rw [if_pos rfl]
          refine a.l σ9 H10 ρ9 S10 _ _ (hs9.tk t10) hh10 (q10.1 rfl) fun z H11 wz S11 t11 hh11 r11 ⟨eD, hl, q11⟩ => ?_
          obtain ⟨vs', k1, k2⟩ := hh11 _ _ eD
          have t : Tk H11 (upd H11 D (.lst (vs' ++ [z]))) := Tk.mut k1 (fun _ z => (by cases z)) (fun _ _ z => (by cases z))
          obtain ⟨t, hm⟩ := hh11.mut (c' := .lst (acc1 ++ [wz])) (o := .lst (vs' ++ [z])) eD ⟨_, upd_same, (RepL.tk t _ _ k2).append (.one (Rep.tk t _ _ r11))⟩
          exact ⟨vs', k1, by rw [k2.length]; exact hl, _, _, (t710.trans t11).trans t, hm, q11⟩
      · have e : j = ws1.length := by omega
        subst e
        exact .inl ⟨src1.stop _ H7 S7 t7 hh7 (p1ok _ _ _ p7) (Nat.le_refl _), acc1, S7, (t15.trans t6).trans t7, hh7, p1end _ _ p7⟩
  · have e : i = ws.length := by omega
    subst e
    exact .inl ⟨src.stop _ H2 S2 t2 hh2 (pok _ _ _ p2) (Nat.le_refl _), po.ref (t1.trans t2) hh2 (pend _ _ p2)⟩⟩
theorem lc2_q {g : TGW} {tt : TTW} {wi1 : TIW} {g1 : TGW} {tt1 : TTW} {te : TEW} {vs vs1 : List Nat} {ρ : StW} {Q : WK} {ws : List W} {ok : Sto → Prop} {S1 : Sto} (h : ∀ D, S1 D = none → ∃ P : Nat → List W → Sto → Prop, P 0 [] (put S1 D (.lst [])) ∧
  (∀ i acc S', P i acc S' → ok S') ∧
  (∀ i w acc S', ws[i]? = some w → P i acc S' → g w (wipeW ρ vs) S' fun ρ2 S2 => tt ρ2 S2 fun b S3 => (b = true → wi1 ρ2 S3 fun ws1 ok1 S4 => ∃ P1 : Nat → List W → Sto → Prop, P1 0 acc S4 ∧
    (∀ j acc1 S', P1 j acc1 S' → ok1 S') ∧
    (∀ j w1 acc1 S', ws1[j]? = some w1 → P1 j acc1 S' → g1 w1 (wipeW ρ2 vs1) S' fun ρ3 S5 => tt1 ρ3 S5 fun b1 S6 =>
      (b1 = true → te ρ3 S6 fun y S7 => S7 D = some (.lst acc1) ∧ acc1.length < sizeLine ∧ P1 (j + 1) (acc1 ++ [y]) (put S7 D (.lst (acc1 ++ [y])))) ∧ (b1 = false → P1 (j + 1) acc1 S6)) ∧
    ∀ acc1 S', P1 ws1.length acc1 S' → P (i + 1) acc1 S') ∧ (b = false → P (i + 1) acc S3)) ∧
  ∀ acc S', P ws.length acc S' → Q (.ref D) S') : Lc2Q g tt wi1 g1 tt1 te vs vs1 ρ Q ws ok S1 := by unfold Lc2Q; exact h
end Wl
set_option Elab.async false
set_option linter.all false
set_option maxRecDepth 100000
set_option maxHeartbeats 2000000
/-! dict(d), list(d) over data. -/
namespace Wl
open PySem PySem.Spec PyProof.Rows L2
variable {K : PySem.W.Frag} {B : Hp} {w : World}
/-- a written dict of the module, in its order -/
structure DcAt (K : PySem.W.Frag) (w : World) (a : Addr) (kvs : List (Str × W)) : Prop where
  ex : ∃ es n, KDict K w a es n ∧ DkEs K kvs es.toList
  nd : (kvs.map (·.1)).Nodup
  sz : kvs.length ≤ sizeLine
theorem dcAt_of {a : Addr} {kvs : List (Str × W)} {es : Array DictEntry} {n : Nat} (hl : K.lookup a = some ⟨.type "dict", none, .dict es n, #[]⟩) (hk : PySem.W.KeysLit w.params es.toList) (low : (a == sysModules) = false) (h : DkEs K kvs es.toList) (nd : (kvs.map (·.1)).Nodup) (sz : kvs.length ≤ sizeLine) : DcAt K w a kvs :=
  ⟨⟨es, n, ⟨hl, hk, low⟩, h⟩, nd, sz⟩
def skW (kvs : List (Str × W)) : List (Key × W) := kvs.map fun kv => (.inr kv.1, kv.2)
/-- a dict of the module whose entries are told by xs -/
structure CpAt (K : PySem.W.Frag) (w : World) (a : Addr) (xs : List (Key × V)) : Prop where
  low : (a == sysModules) = false
  sz : xs.length ≤ sizeLine
  at_ : ∀ (P : Program) (h : Heap), K.In h → ∃ vs, KV xs vs ∧ h.DictOf (mixKind P w) a vs
theorem DkEs.told {kvs : List (Str × W)} {es : List DictEntry} (h : DkEs K kvs es) : ∃ (xs : List (Key × V)) (vs : List (Key × Value)), KV xs vs ∧ (∀ P : Program, Pairs (mixKind P w) es vs) ∧ xs.length = kvs.length ∧ vs.map (·.1) = kvs.map (fun kv => (Sum.inr kv.1 : Key)) ∧ ∀ H, RepKV K H (skW kvs) xs := by
  induction h with
  | nil => exact ⟨[], [], .nil, fun _ => .nil, rfl, rfl, fun _ => rfl⟩
  | @cons k wd t hh u kvs es e h1 h2 h3 h4 h5 ih =>
    obtain ⟨xs, vs, r1, r2, r3, r4, r5⟩ := ih
    obtain ⟨v, hv, rv⟩ := h4
    refine ⟨(.inr k, v) :: xs, (.inr k, u) :: vs, .cons ⟨rfl, hv⟩ r1, fun P => .cons ?_ h2 (r2 P), by rw [List.length_cons, r3, List.length_cons], by rw [List.map_cons, r4]; rfl, fun H => ⟨v, xs, rfl, rv H, r5 H⟩⟩
    rw [h1]
    show Value.isStrOf k (.str k t) = true
    exact decide_eq_true rfl
theorem DcAt.cp {a : Addr} {kvs : List (Str × W)} (d : DcAt K w a kvs) : ∃ xs : List (Key × V), CpAt K w a xs ∧ ∀ H, RepKV K H (skW kvs) xs := by
  obtain ⟨es, n, D, E⟩ := d.ex
  obtain ⟨xs, vs, r1, r2, r3, r4, r5⟩ := E.told (w := w)
  refine ⟨xs, ⟨D.low, by rw [r3]; exact d.sz, fun P h hK => ⟨vs, r1, _, es, n, hK _ _ D.at_, ⟨rfl, rfl, rfl⟩, rfl, fun e he => ?_, r2 P, ?_⟩⟩, r5⟩
  · obtain ⟨x, t, e1, e2⟩ := D.lit.all e (Array.mem_toList_iff.mpr he)
    refine ⟨.inr x, ?_, e2⟩
    rw [e1]
    show Value.isStrOf x (.str x t) = true
    exact decide_eq_true rfl
  · rw [r4]
    have e : kvs.map (fun kv => (Sum.inr kv.1 : Key)) = (kvs.map (·.1)).map Sum.inr := by rw [List.map_map]; rfl
    rw [e]
    exact d.nd.map _ fun a b h q => h (Sum.inr.inj q)
def rDictA (K : PySem.W.Frag) (w : World) : List V → Hp → VK → Prop := fun xs H Q => ∃ (a : Addr) (kvs : List (Key × V)), xs = [.ref a] ∧ (Rd H a (.dK kvs) ∨ CpAt K w a kvs) ∧ ∀ p, H p = none → Q (.ref p) (upd H p (.dK kvs))
theorem k_dictA (K : PySem.W.Frag) (w : World) {X : Cx} (hK : X.K = K := by rfl) (hw : X.w = w := by rfl) : CallR X (.type "dict") (rDictA K w) := by
  subst hK hw
  intro pins s σ H vs us Q I r h
  obtain ⟨a, kvs, rfl, hd, q⟩ := h
  rw [Vals.ref1 r]
  rcases hd with hd | hd
  · exact d_copyOf I hd fun p s' hp I' => ⟨.ref p, _, I', rfl, q p hp⟩
  · obtain ⟨vs, rel, dd⟩ := hd.at_ X.prog s.heap I.kIn
    refine kt_call_dict hd.low dd (by rw [← rel.length]; exact hd.sz) fun g dd' hs => ⟨.ref s.heap.objs.size, _, I.laid (a := s.heap.objs.size) (o := .dK kvs) (t' := s.toks) (fun b z hz => (hs.2 b (Nat.ne_of_lt (Heap.lt_size hz))).trans (Heap.get?_push_of_some _ hz)) (Nat.le_refl _) (dk_new hd.sz (beq_eq_false_iff_ne.mpr (Ne.symm (Nat.ne_of_lt I.big))) rel dd'), rfl, q _ (I.hok.fresh (Nat.le_refl _))⟩
def wDictA (K : PySem.W.Frag) (w : World) : RWC := fun ws S Q => match ws with
  | [.ref a] => (∃ kvs, S a = some (.dk kvs) ∧ ∀ p, S p = none → Q (.ref p) (put S p (.dk kvs))) ∨ ∃ ks, DcAt K w a ks ∧ ∀ p, S p = none → Q (.ref p) (put S p (.dk (skW ks)))
  | _ => False
instance lc_dictA : LCR K (rDictA K w) (wDictA K w) := ⟨fun H S xs ws Q Qw hh r q po => by
  unfold wDictA at q
  split at q
  · obtain ⟨x, rfl, rx⟩ := rep1 r
    cases (show x = _ from rx)
    rcases q with ⟨kvs, e, q⟩ | ⟨ks, d, q⟩
    · obtain ⟨ys, h1, h2⟩ := hh _ _ e
      exact ⟨_, ys, rfl, .inl (Rd.of h1), fun p hp => po.ref (Tk.new hp) (hh.new (c := .dk kvs) hp ⟨ys, upd_same, RepKV.tk (Tk.new hp) _ _ h2⟩) (q p (hh.fresh hp))⟩
    · obtain ⟨ys, c, h2⟩ := d.cp
      exact ⟨_, ys, rfl, .inr c, fun p hp => po.ref (Tk.new hp) (hh.new (c := .dk (skW ks)) hp ⟨ys, upd_same, h2 _⟩) (q p (hh.fresh hp))⟩
  · exact q.elim⟩
/-! ### list(d) -/
def rListB (K : PySem.W.Frag) : List V → Hp → VK → Prop := fun xs H Q => rListA K xs H Q ∨ ∃ p kvs, xs = [.ref p] ∧ H p = some (.dK kvs) ∧ ∀ q, H q = none → Q (.ref q) (upd H q (.lst (kvs.map fun kv => kV kv.1)))
theorem k_listB (K : PySem.W.Frag) {X : Cx} (hc : X.calm = true) (hK : X.K = K := by rfl) : CallR X (.type "list") (rListB K) := by
  subst hK
  intro pins s σ H vs us Q I r h
  rcases h with h | h
  · exact call_list_of pins s σ H vs us Q I r h
  · exact call_list_dK hc pins s σ H vs us Q I r h
def wListB : RWC := fun ws S Q => match ws with
  | [.ref a] => (∃ ws, S a = some (.lst ws) ∧ ∀ p, S p = none → Q (.ref p) (put S p (.lst ws))) ∨ ∃ kvs, S a = some (.dk kvs) ∧ ∀ p, S p = none → Q (.ref p) (put S p (.lst (kvs.map fun kv => keyW kv.1)))
  | ws => wList ws S Q
theorem keys_rep {H : Hp} : ∀ {kvs : List (Key × W)} {ys : List (Key × V)}, RepKV K H kvs ys → RepL K H (kvs.map fun kv => keyW kv.1) (ys.map fun kv => kV kv.1)
  | [], _, rfl => .nil
  | (.inl k, x) :: kvs, _, ⟨v, r, rfl, _, h⟩ => .cons rfl (keys_rep h)
  | (.inr k, x) :: kvs, _, ⟨v, r, rfl, _, h⟩ => .cons rfl (keys_rep h)
instance lc_listB : LCR K (rListB K) wListB := ⟨fun H S xs ws Q Qw hh r q po => by
  unfold wListB at q
  split at q
  · rcases q with q | ⟨kvs, e, q⟩
    · exact .inl (lc_list.l H S xs _ Q Qw hh r (by unfold wList; exact q) po)
    · obtain ⟨x, rfl, rx⟩ := rep1 r
      cases (show x = _ from rx)
      obtain ⟨ys, h1, h2⟩ := hh _ _ e
      exact .inr ⟨_, ys, rfl, h1, fun p hp => po.nlst hp hh (keys_rep h2) q⟩
  · exact .inl (lc_list.l H S xs _ Q Qw hh r q po)⟩
end Wl
set_option Elab.async false
set_option linter.all false
set_option maxRecDepth 100000
set_option maxHeartbeats 2000000
/-! try: .. except C as e: .. over data; isinstance of the error that the suite holds. -/
namespace Wl
open PySem PySem.Spec PyProof.Rows L2
variable {K : PySem.W.Frag} {B : Hp}
theorem SRep.gone {H : Hp} {σ : L2.St} {ρ : StW} (h : SRep K B H σ ρ) (i : Nat) : SRep K B H (σ.set i none) (ρ.set i none) := ⟨h.bs, by rw [List.length_set, List.length_set, h.len], fun j z e => by
  by_cases q : i = j
  · subst q
    by_cases hl : i < ρ.length
    · rw [List.getElem?_set_self hl] at e
      cases e
    · rw [List.getElem?_eq_none (by rw [List.length_set]; omega)] at e
      cases e
  · rw [List.getElem?_set_ne q] at e ⊢
    exact h.at_ j z e⟩
/-- behind the suite the name of the error is gone -/
abbrev goneD (i : Nat) (D : Ends) : Ends := { nx := fun σ' H' => D.nx (σ'.set i none) H', rt := D.rt, bk := fun σ' H' => D.bk (σ'.set i none) H', ct := fun σ' H' => D.ct (σ'.set i none) H' }
abbrev goneW (i : Nat) (D : EndsW) : EndsW := { nx := fun σ' H' => D.nx (σ'.set i none) H', rt := D.rt, bk := fun σ' H' => D.bk (σ'.set i none) H', ct := fun σ' H' => D.ct (σ'.set i none) H' }
theorem PoD.gone {H : Hp} {D : Ends} {Dw : EndsW} (h : PoD K B H D Dw) (i : Nat) : PoD K B H (goneD i D) (goneW i Dw) :=
  ⟨fun σ' H' ρ' S' t hs => h.nx _ H' _ S' t (hs.gone i), fun σ' H' ρ' S' t hs => h.bk _ H' _ S' t (hs.gone i), fun σ' H' ρ' S' t hs => h.ct _ H' _ S' t (hs.gone i), h.rt⟩
def tTryAs (K : PySem.W.Frag) (c : Value) (i : Nat) (tb : WX → TS) (ts : Addr → Value → Option Addr → TS) (Wout : WX) (tbw : XW → TSW) (_ : HbW K tb tbw) : TS := fun D σ H => tWeak tb (wAs K c i ts Wout D) D σ H
def wTryAs (K : PySem.W.Frag) (c : Value) (i : Nat) (tb : XW → TSW) (ts : Addr → Value → Option Addr → TSW) (Xout : XW) : TSW := fun D ρ S =>
  tb (fun ex ρ' S' => ∃ b, PySem.W.exmOne K ex.cls c = some b ∧ (b = true → ∀ a d, S' a = none → (ex.fs = [] → d = none) → ts a ex.cls d (goneW i D) (ρ'.set i (some (.ref a))) S') ∧ (b = false → Xout ex ρ' S')) D ρ S
instance ls_tryAs {c : Value} {i : Nat} {tb : WX → TS} {ts : Addr → Value → Option Addr → TS} {Wout : WX} {tbw : XW → TSW} {hb : HbW K tb tbw} {tsw : Addr → Value → Option Addr → TSW} {Xout : XW} [px : PX K B Wout Xout]
    [hsu : ∀ a cls d, LS K B (ts a cls d) (tsw a cls d)] : LS K B (tTryAs K c i tb ts Wout tbw hb) (wTryAs K c i tbw tsw Xout) := ⟨fun σ H ρ S D Dw hs hh q po => by
  refine ⟨Wc K H (fun ex ρ' S' => ∃ b, PySem.W.exmOne K ex.cls c = some b ∧ (b = true → ∀ a d, S' a = none → (ex.fs = [] → d = none) → tsw a ex.cls d (goneW i Dw) (ρ'.set i (some (.ref a))) S') ∧ (b = false → Xout ex ρ' S')), ?_, ?_⟩
  · rintro cls d σ' H' ⟨ex, ρ', S', hs', hh', r, b, e1, e2, e3⟩
    have rc := r.1
    have rd := r.2
    refine ⟨b, by rw [rc]; exact e1, fun hbt a ha => ?_, fun hbf => px.l cls d σ' H' ex ρ' S' (hs'.rebase hs.bs) hh' r (e3 hbf)⟩
    have hna : S' a = none := by
      cases q : S' a with
      | none => rfl
      | some c0 =>
        have z := hh' a c0 q
        cases c0 with
        | lst ys => obtain ⟨x, z, _⟩ := z; rw [ha] at z; cases z
        | dk ys => obtain ⟨x, z, _⟩ := z; rw [ha] at z; cases z
        | ins C0 fs0 => obtain ⟨x, gs, z, _⟩ := z; rw [ha] at z; cases z
    have hdn : ex.fs = [] → d = none := by
      rcases rd with ⟨h1, _⟩ | ⟨h1, _⟩
      · exact fun _ => h1
      · exact fun z => absurd z h1
    rw [rc]
    exact (hsu a ex.cls d).l (σ'.set i (some (.ref a))) H' (ρ'.set i (some (.ref a))) S' (goneD i D) (goneW i Dw) ((hs'.rebase hs.bs).set i rfl) hh' (e2 hbt a d hna hdn) ((po.tk hs'.bs).gone i)
  · exact (hb H _).l σ H ρ S D Dw hs.top hh q (po.rebase hs.bs)⟩
theorem ps_tryAs (K : PySem.W.Frag) {X : Cx} {x n : Str} {c : Value} {i : Nat} {body suite : List Stmt} {b₀ : Stmt} {np pos pos' : Pos} {tb : WX → TS} {ts : Addr → Value → Option Addr → TS} {Wout : WX} {tbw : XW → TSW} (hs : X.stack = X.env :: X.outer) (hf : X.env.frame = some X.env.locals)
    (hN : X.N.Nodup) (hi : X.N[i]? = some n) (hln : X.env.kindOf n = some .local) (hc : Names X x c) (tk : Takes X Wout)
    (hb : ∀ (W : WX) (pn : List (Addr × Obj)) (xe : Value → Shared → Prop), Takes (X.tr pn xe) W → PassesOwn (model X.prog X.w) X.A X.env xe → PSs (X.tr pn xe) body (tb W))
    (hsu : ∀ (a : Addr) (oe : Obj) (cls : Value) (d : Option Addr) (pn : List (Addr × Obj)), Zc cls d oe → (∃ vs, oe.data = .fields vs) → PSs (X.suite a ((a, oe) :: pn)) (b₀ :: suite) (ts a cls d)) (hbw : HbW K tb tbw) (hK : X.K = K := by rfl) :
    PS X (.Try body [.ExceptHandler (some (.Name x np)) (some n) (b₀ :: suite) pos'] [] [] pos) (tTryAs K c i tb ts Wout tbw hbw) := by
  subst hK
  exact ps_try_as (tb := tWeak tb) hs hf hN hi hln hc tk (fun W pn xe tkb pob => pss_weak tkb fun W' tk' => hb W' pn xe tk' pob) hsu

/-! ### isinstance(e, C), isinstance(e, (C, ..)) -/
def rIsEW (K : PySem.W.Frag) (cls : Value) (d : Option Addr) (a : Addr) : List V → Hp → VK → Prop := fun xs H Q => ∃ (D : Addr) (c : V) (b : Bool), cls = .ref D ∧ d = none ∧ ExcC K D ∧ xs = [.ref a, c] ∧
  ((∃ cv, ClsV c cv ∧ PySem.W.kitOne K (.ref D) cv = some b) ∨ (∃ tp cs us, c = .ref tp ∧ SqT K H tp cs ∧ Paired ClsV cs us ∧ PySem.W.kitAny K (.ref D) us = some b)) ∧ Q (.bl b) H
theorem k_isE (K : PySem.W.Frag) {X : Cx} {a : Addr} {oe : Obj} {cls : Value} {d : Option Addr} {pn : List (Addr × Obj)} (hz : Zc cls d oe) (hf : ∃ vs, oe.data = .fields vs) (hK : X.K = K := by rfl) : CallR (X.suite a ((a, oe) :: pn)) (.builtin "isinstance") (rIsEW K cls d a) := by
  subst hK
  intro pins s σ H xs us Q I r h
  obtain ⟨D, c, b, rfl, rfl, C, rfl, h, q⟩ := h
  cases r with
  | cons rx rr =>
    cases rr with
    | cons rt rr =>
      cases rr
      cases rx
      obtain ⟨hget, _⟩ := I.pin (a, oe) (List.mem_append.mpr (.inl List.mem_cons_self))
      obtain ⟨vs, hv⟩ := hf
      have J : PySem.W.InstAt s.heap a oe D none := by
        obtain ⟨oc, od, oda, osl⟩ := oe
        obtain ⟨h1, h2⟩ := hz
        dsimp only at h1 h2 hv
        subst h1 h2 hv
        exact ⟨hget, rfl, rfl, trivial⟩
      have Z := PySem.W.handS_kitx_exc (x := a) (ox := oe) C.hg C.hk C.hs C.hd C.ha C.hn C.ht C.hm
      rcases h with ⟨cv, k, e⟩ | ⟨tp, cs, ws, rfl, hT, k, e⟩
      · have ec := k.eq rt
        subst ec
        exact PySem.W.kia_one Z I.kIn J e (fun z => nomatch z) fun tk => ⟨.bl b, H, I.kept (t' := tk) fun _ _ z => z, rfl, q⟩
      · cases (show _ = Value.ref tp from rt)
        obtain ⟨its, rv, ⟨o, h1, h2, n, h3⟩, _⟩ := I.tuple hT
        have e3 := ClsV.all k rv
        subst e3
        obtain ⟨oc, od, dt, sl⟩ := o
        simp only at h2 h3
        subst h2 h3
        exact PySem.W.kia_tup Z I.kIn J h1 e (fun z => nomatch z) fun tk => ⟨.bl b, H, I.kept (t' := tk) fun _ _ z => z, rfl, q⟩
/-- a class as data -/
def clsW : W → Option Value
  | .ref C => some (.ref C)
  | .ty n => some (.type n)
  | _ => none
def clsWs : List W → Option (List Value)
  | [] => some []
  | x :: xs => match clsW x, clsWs xs with
    | some u, some us => some (u :: us)
    | _, _ => none
theorem clsW_rep {H : Hp} {x : W} {v : V} {u : Value} (r : Rep K H x v) (e : clsW x = some u) : ClsV v u := by
  cases x <;> first | cases e | skip
  · cases (show v = _ from r); exact .ty _
  · cases (show v = _ from r); exact .own _
theorem clsWs_rep {H : Hp} : ∀ {xs : List W} {vs : List V} {us : List Value}, RepL K H xs vs → clsWs xs = some us → Paired ClsV vs us
  | [], _, _, r, e => by
    cases (show _ = [] from r); cases e; exact .nil
  | x :: xs, _, _, r, e => by
    obtain ⟨v, vs, rfl, h1, h2⟩ := r
    unfold clsWs at e
    split at e
    · rename_i u us e1 e2
      cases e
      exact .cons (clsW_rep h1 e1) (clsWs_rep h2 e2)
    · cases e
def wIsE (K : PySem.W.Frag) (cls : Value) (d : Option Addr) (a : Addr) : RWC := fun ws S Q => match ws with
  | [.ref a', .tup cs] => a' = a ∧ d = none ∧ ∃ D us b, cls = .ref D ∧ ExcC K D ∧ clsWs cs = some us ∧ PySem.W.kitAny K (.ref D) us = some b ∧ Q (.bl b) S
  | [.ref a', c] => a' = a ∧ d = none ∧ ∃ D u b, cls = .ref D ∧ ExcC K D ∧ clsW c = some u ∧ PySem.W.kitOne K (.ref D) u = some b ∧ Q (.bl b) S
  | _ => False
instance lc_isE {cls : Value} {d : Option Addr} {a : Addr} : LCR K (rIsEW K cls d a) (wIsE K cls d a) := ⟨fun H S xs ws Q Qw hh r q po => by
  unfold wIsE at q
  split at q
  · obtain ⟨x, y, rfl, h1, h2⟩ := rep2 r
    cases (show x = _ from h1)
    obtain ⟨p, vs, rfl, h3, h4⟩ := h2
    obtain ⟨rfl, rfl, D, us, b, rfl, C, e1, e2, q⟩ := q
    exact ⟨D, _, b, rfl, rfl, C, rfl, .inr ⟨p, vs, us, rfl, h3, clsWs_rep h4 e1, e2⟩, po.bl (Tk.refl H) hh q⟩
  · obtain ⟨x, y, rfl, h1, h2⟩ := rep2 r
    cases (show x = _ from h1)
    obtain ⟨rfl, rfl, D, u, b, rfl, C, e1, e2, q⟩ := q
    exact ⟨D, _, b, rfl, rfl, C, rfl, .inl ⟨u, clsW_rep h2 e1, e2⟩, po.bl (Tk.refl H) hh q⟩
  · exact q.elim⟩
end Wl
set_option Elab.async false
set_option linter.all false
set_option maxRecDepth 100000
set_option maxHeartbeats 2000000
/-! chains of three, try with several clauses, a call of a local that holds a def that may raise. -/
namespace Wl
open PySem PySem.Spec PyProof.Rows L2
variable {K : PySem.W.Frag} {B : Hp}
/-! ### a o1 b o2 c o3 d -/
def tChain3 (r1 r2 r3 : R2) (ta tb tc td : TE) : TE := fun σ H Q => ta σ H fun x H1 => tb σ H1 fun y H2 => r1 x y H2 fun z H3 => ∃ k, z = .bl k ∧
  (if k = true then tc σ H3 fun w H4 => r2 y w H4 fun z2 H5 => ∃ k2, z2 = .bl k2 ∧ (if k2 = true then td σ H5 fun u H6 => r3 w u H6 Q else Q (.bl false) H5) else Q (.bl false) H3)
theorem pe_chain3 {X : Cx} {a b c d : Expr} {ta tb tc td : TE} {pos : Pos} {o1 o2 o3 : CmpOp} {r1 r2 r3 : R2} (h1 : OpR X (compareOp o1) r1) (h2 : OpR X (compareOp o2) r2) (h3 : OpR X (compareOp o3) r3) (ha : PE X a ta) (hb : PE X b tb) (hc : PE X c tc) (hd : PE X d td)
    (hm : lastMarks [o1, o2, o3] [b, c, d] = false := by with_unfolding_all rfl) : PE X (.Compare a [o1, o2, o3] [b, c, d] pos) (tChain3 r1 r2 r3 ta tb tc td) := by
  refine ⟨fun pins s σ H Q I h => ?_⟩
  refine Compare_chain (thn (ha.run pins s σ H _ I h) fun v s1 ⟨x, H1, I1, e1, q1⟩ => chain_link (thn (hb.run pins s1 σ H1 _ I1 q1) fun u s2 ⟨y, H2, I2, e2, q2⟩ =>
    thn (h1 pins s2 σ H2 x y v u _ I2 e1 e2 q2) fun d s3 ⟨z, H3, I3, e3, k, e, q3⟩ => ?_)) hm
  subst e
  cases e3
  refine wpAny_truthy_bool ?_
  cases k with
  | false => exact ite_ff ⟨.bl false, H3, I3, rfl, q3⟩
  | true =>
    refine ite_tt (chain_link (thn (hc.run pins s3 σ H3 _ I3 q3) fun u' s4 ⟨w', H4, I4, e4, q4⟩ => thn (h2 pins s4 σ H4 y w' u u' _ I4 e2 e4 q4) fun d' s5 ⟨z2, H5, I5, e5, k2, e', q5⟩ => ?_))
    subst e'
    cases e5
    refine wpAny_truthy_bool ?_
    cases k2 with
    | false => exact ite_ff ⟨.bl false, H5, I5, rfl, q5⟩
    | true => exact ite_tt (chain_last (thn (hd.run pins s5 σ H5 _ I5 q5) fun u2 s6 ⟨z', H6, I6, e6, q6⟩ => h3 pins s6 σ H6 w' z' u' u2 Q I6 e4 e6 q6))
theorem pt_chain3 {X : Cx} {a b c d : Expr} {ta tb tc td : TE} {pos : Pos} {o1 o2 o3 : CmpOp} {r1 r2 r3 : R2} (h1 : OpR X (compareOp o1) r1) (h2 : OpR X (compareOp o2) r2) (h3 : OpR X (compareOp o3) r3) (ha : PE X a ta) (hb : PE X b tb) (hc : PE X c tc) (hd : PE X d td)
    (hm : lastMarks [o1, o2, o3] [b, c, d] = false := by with_unfolding_all rfl) : PT X (.Compare a [o1, o2, o3] [b, c, d] pos) (tTest (tChain3 r1 r2 r3 ta tb tc td)) := by
  refine ⟨fun pins s σ H Q I h => ?_⟩
  refine isTrue_chain (thn (ha.run pins s σ H _ I h) fun v s1 ⟨x, H1, I1, e1, q1⟩ => test_link (thn (hb.run pins s1 σ H1 _ I1 q1) fun u s2 ⟨y, H2, I2, e2, q2⟩ =>
    thn (h1 pins s2 σ H2 x y v u _ I2 e1 e2 q2) fun d s3 ⟨z, H3, I3, e3, k, e, q3⟩ => ?_)) hm
  subst e
  cases e3
  refine wpAny_truthy_bool ?_
  cases k with
  | false =>
    obtain ⟨k', e', q'⟩ := q3
    cases e'
    exact ite_ff ⟨H3, I3, q'⟩
  | true =>
    refine ite_tt (test_link (thn (hc.run pins s3 σ H3 _ I3 q3) fun u' s4 ⟨w', H4, I4, e4, q4⟩ => thn (h2 pins s4 σ H4 y w' u u' _ I4 e2 e4 q4) fun d' s5 ⟨z2, H5, I5, e5, k2, e', q5⟩ => ?_))
    subst e'
    cases e5
    refine wpAny_truthy_bool ?_
    cases k2 with
    | false =>
      obtain ⟨k', e', q'⟩ := q5
      cases e'
      exact ite_ff ⟨H5, I5, q'⟩
    | true =>
      refine ite_tt (test_last (thn (hd.run pins s5 σ H5 _ I5 q5) fun u2 s6 ⟨z', H6, I6, e6, q6⟩ => thn (h3 pins s6 σ H6 w' z' u' u2 _ I6 e4 e6 q6) fun d' s7 ⟨z7, H7, I7, r7, k7, e7, q7⟩ => ?_))
      subst e7
      cases r7
      exact wpAny_truthy_bool ⟨H7, I7, q7⟩
def wChain3 (r1 r2 r3 : RW2) (ta tb tc td : TEW) : TEW := fun ρ S Q => ta ρ S fun x S1 => tb ρ S1 fun y S2 => r1 x y S2 fun z S3 => match z with
  | .bl k => (k = true → tc ρ S3 fun w S4 => r2 y w S4 fun z2 S5 => match z2 with
    | .bl k2 => (k2 = true → td ρ S5 fun u S6 => r3 w u S6 Q) ∧ (k2 = false → Q (.bl false) S5)
    | _ => False) ∧ (k = false → Q (.bl false) S3)
  | _ => False
instance le_chain3 {r1 r2 r3 : R2} {ta tb tc td : TE} {rw1 rw2 rw3 : RW2} {wa wb wc wd : TEW} [h1 : L2R K r1 rw1] [h2 : L2R K r2 rw2] [h3 : L2R K r3 rw3] [a : LE K B ta wa] [b : LE K B tb wb] [c : LE K B tc wc] [d : LE K B td wd] : LE K B (tChain3 r1 r2 r3 ta tb tc td) (wChain3 rw1 rw2 rw3 wa wb wc wd) := ⟨fun σ H ρ S Q Qw hs hh q po =>
  a.l σ H ρ S _ _ hs hh q fun x H1 wx S1 t1 hh1 e1 q1 => b.l σ H1 ρ S1 _ _ (hs.tk t1) hh1 q1 fun y H2 wy S2 t2 hh2 e2 q2 =>
    h1.l H2 S2 x y wx wy _ _ hh2 (Rep.tk t2 _ _ e1) e2 q2 fun z H3 wz S3 t3 hh3 e3 q3 => by
      cases wz <;> try exact q3.elim
      rename_i k
      cases (show z = _ from e3)
      refine ⟨k, rfl, ?_⟩
      have t03 := (t1.trans t2).trans t3
      cases k with
      | true =>
        rw [if_pos rfl]
        refine c.l σ H3 ρ S3 _ _ (hs.tk t03) hh3 (q3.1 rfl) fun w H4 ww S4 t4 hh4 e4 q4 => h2.l H4 S4 y w wy ww _ _ hh4 (Rep.tk (t3.trans t4) _ _ e2) e4 q4 fun z2 H5 wz2 S5 t5 hh5 e5 q5 => ?_
        cases wz2 <;> try exact q5.elim
        rename_i k2
        cases (show z2 = _ from e5)
        refine ⟨k2, rfl, ?_⟩
        have t05 := (t03.trans t4).trans t5
        cases k2 with
        | true =>
          rw [if_pos rfl]
          exact d.l σ H5 ρ S5 _ _ (hs.tk t05) hh5 (q5.1 rfl) fun u H6 wu S6 t6 hh6 e6 q6 => h3.l H6 S6 w u ww wu Q Qw hh6 (Rep.tk (t5.trans t6) _ _ e4) e6 q6 (po.tk (t05.trans t6))
        | false =>
          rw [if_neg Bool.false_ne_true]
          exact po.bl t05 hh5 (q5.2 rfl)
      | false =>
        rw [if_neg Bool.false_ne_true]
        exact po.bl t03 hh3 (q3.2 rfl)⟩

/-! ### try: .. except C1: .. except C2: .. -/
abbrev HsL := List (Value × (Addr → Value → Option Addr → TS))
abbrev HsW := List (Value × TSW)
class LHs (K : PySem.W.Frag) (l : HsL) (lw : outParam HsW) : Prop where
  l : ∀ {B : Hp} {Wout : WX} {Xout : XW} {D : Ends} {Dw : EndsW} {cls : Value} {d : Option Addr} {σ : L2.St} {H H0 : Hp} {ex : Ex} {ρ : StW} {S : Sto}, PX K B Wout Xout → PoD K B H0 D Dw → Tk H0 H → SRep K B H σ ρ → HRep K H S → RepX K H ex cls d →
    (lw.foldr (fun (h : Value × TSW) (X : XW) => (fun ex ρ S => ∃ b, PySem.W.exmOne K ex.cls h.1 = some b ∧ (b = true → h.2 Dw ρ S) ∧ (b = false → X ex ρ S) : XW)) Xout) ex ρ S → wMany K Wout D l cls d σ H
instance lhs_nil : LHs K [] [] := ⟨fun px po t hs hh r q => px.l _ _ _ _ _ _ _ hs hh r q⟩
instance lhs_cons {c : Value} {ts : Addr → Value → Option Addr → TS} {l : HsL} {tsw : TSW} {lw : HsW} [hsu : ∀ (B : Hp) a cls d, LS K B (ts a cls d) tsw] [r : LHs K l lw] : LHs K ((c, ts) :: l) ((c, tsw) :: lw) :=
  ⟨fun {B Wout Xout D Dw cls d σ H H0 ex ρ S} px po t hs hh rx q => by
    obtain ⟨b, e1, e2, e3⟩ := q
    refine ⟨b, by rw [rx.1]; exact e1, fun hb a ha => (hsu B a cls d).l σ H ρ S D Dw hs hh (e2 hb) (po.tk t), fun hb => r.l px po t hs hh rx (e3 hb)⟩⟩
def tTryM (K : PySem.W.Frag) (l : HsL) (tb : WX → TS) (Wout : WX) (tbw : XW → TSW) (_ : HbW K tb tbw) : TS := fun D σ H => tWeak tb (wMany K Wout D l) D σ H
def wTryM (K : PySem.W.Frag) (lw : HsW) (tb : XW → TSW) (Xout : XW) : TSW := fun D ρ S =>
  tb (lw.foldr (fun (h : Value × TSW) (X : XW) => (fun ex ρ S => ∃ b, PySem.W.exmOne K ex.cls h.1 = some b ∧ (b = true → h.2 D ρ S) ∧ (b = false → X ex ρ S) : XW)) Xout) D ρ S
instance ls_tryM {l : HsL} {lw : HsW} {tb : WX → TS} {Wout : WX} {tbw : XW → TSW} {hb : HbW K tb tbw} {Xout : XW} [px : PX K B Wout Xout] [hl : LHs K l lw] : LS K B (tTryM K l tb Wout tbw hb) (wTryM K lw tbw Xout) := ⟨fun σ H ρ S D Dw hs hh q po => by
  refine ⟨Wc K H _, ?_, (hb H _).l σ H ρ S D Dw hs.top hh q (po.rebase hs.bs)⟩
  rintro cls d σ' H' ⟨ex, ρ', S', hs', hh', r, q'⟩
  exact hl.l px po hs'.bs (hs'.rebase hs.bs) hh' r q'⟩
theorem ps_tryM (K : PySem.W.Frag) {X : Cx} {body : List Stmt} {h₀ : ExceptHandler} {hds : List ExceptHandler} {l : HsL} {pos : Pos} {tb : WX → TS} {Wout : WX} {tbw : XW → TSW} (hs : X.stack = X.env :: X.outer) (hf : X.env.frame = some X.env.locals) (tk : Takes X Wout)
    (hb : ∀ (W : WX) (pn : List (Addr × Obj)) (xe : Value → Shared → Prop), Takes (X.tr pn xe) W → PassesOwn (model X.prog X.w) X.A X.env xe → PSs (X.tr pn xe) body (tb W))
    (hh : HdsOk X (h₀ :: hds) l) (hbw : HbW K tb tbw) (hK : X.K = K := by rfl) : PS X (.Try body (h₀ :: hds) [] [] pos) (tTryM K l tb Wout tbw hbw) := by
  subst hK
  exact ps_try_many (tb := tWeak tb) hs hf tk (fun W pn xe tkb pob => pss_weak tkb fun W' tk' => hb W' pn xe tk' pob) hh

/-! ### a call of a local -/
structure HeldX (P : Program) (w : World) (K : PySem.W.Frag) (mg : Str → Option Value) (base : Heap) (k : Nat) (f : Addr) (sp : SpX) : Prop where
  ex : ∃ (fd : FuncData) (ps : List Str), FnOk P w K mg base (L2.CX P w) k f fd ps (liftX K sp) ∧ PySem.W.keepIn K (.ref f) = true ∧ Binds K fd ps []
theorem CalX.held {P : Program} {w : World} {mg : Str → Option Value} {base : Heap} {k j : Nat} {x : Str} {sp : SpX} {f : Addr} (c : CalX P w K mg base k x sp) (hm : mg x = some (.ref f)) (h : k ≤ j) : HeldX P w K mg base j f sp := by
  obtain ⟨f', fd, ps, F, hm', kp, b⟩ := c.ex
  rw [hm] at hm'
  cases hm'
  exact ⟨fd, ps, F.mono h, kp, b⟩
def tCallXV (K : PySem.W.Frag) (HX : Addr → SpX → Prop) (i : Nat) (W : WX) (t : TA) : TE := fun σ H Q => ∃ f sp, σ[i]? = some (some (.ref f)) ∧ HX f sp ∧ t σ H fun vs H1 => liftX K sp vs H1 Q (WE W σ)
theorem k_xv (K : PySem.W.Frag) {X : Cx} {W : WX} {k i : Nat} {x : Str} {p pos : Pos} {e : Expr} {es : List Expr} {t : TA} (tk : Takes X W) (hr : Room k X.A) (hN : X.N[i]? = some x) (hv : Vis X.env.scope x) (ha : PA X (e :: es) t)
    (hdb : (x == ("__debug__" : Str)) = false := by decide) (hcd : (x == ("__classdict__" : Str)) = false := by decide) (he : starEach (e :: es) X.env = (false, eval e X.env) :: starEach es X.env := by rfl) (hpl : (backTo pos (starEach es X.env)).any (·.1) = false := by rfl) (hK : X.K = K := by rfl) :
    PE X (.Call (.Name x p) (e :: es) [] pos) (tCallXV K (HeldX X.prog X.w K X.mg X.base k) i W t) := by
  subst hK
  refine ⟨fun pins s σ H Q I h => ?_⟩
  obtain ⟨f, sp, hs, HX, ht⟩ := h
  obtain ⟨fd, ps, F, hk, hb⟩ := HX.ex
  refine wpAny_Call_Name_kw (thn ((pe_var (pos := p) hN hv hdb hcd).run pins s σ H (fun v H1 => v = .ref f ∧ H1 = H) I ⟨.ref f, hs, rfl, rfl⟩) fun u s1 ⟨v, H1, I1, r1, q1⟩ => ?_)
  obtain ⟨rfl, rfl⟩ := q1
  cases r1
  refine PySem.W.callWith_K (h₀ := X.base) I.ok.mod.kin hk (thn (ha.run pos pins s1 σ _ _ I1 ht) fun us s2 ⟨vs, H2, I2, r, q⟩ => ⟨I2.kIn, ?_⟩) he hpl
  exact run_fnS F hr hb (passAt tk σ) I2 r q
def wCallXV (HX : Addr → SpX → Prop) (i : Nat) (Xw : XW) (t : TAW) : TEW := fun ρ S Q => ∃ f sp, ρ[i]? = some (some (.ref f)) ∧ HX f sp ∧ t ρ S fun ws S1 => sp ws S1 Q fun ex S2 => Xw ex ρ S2
instance le_callXV {HX : Addr → SpX → Prop} {i : Nat} {W : WX} {Xw : XW} {t : TA} {tw : TAW} [px : PX K B W Xw] [a : LA K B t tw] : LE K B (tCallXV K HX i W t) (wCallXV HX i Xw tw) := ⟨fun σ H ρ S Q Qw hs hh q po => by
  obtain ⟨f, sp, e, hx, q⟩ := q
  obtain ⟨v, e1, r1⟩ := hs.at_ i _ e
  cases (show v = _ from r1)
  exact ⟨f, sp, e1, hx, a.l σ H ρ S _ _ hs hh q fun xs H1 ws S1 t1 hh1 r1 q1 => ⟨ws, S1, Qw, _, r1, hh1, q1, po.tk t1, fun cls d H' ex S' t hh' r q' => px.l cls d σ H' ex ρ S' (hs.tk (t1.trans t)) hh' r q'⟩⟩⟩
theorem wr_ref {a : Addr} : Wr K (.ref a) (.ref a) := ⟨.ref a, rfl, fun _ => rfl⟩
end Wl
set_option Elab.async false
set_option linter.all false
set_option maxRecDepth 100000
set_option maxHeartbeats 2000000
/-! max(xs, default=d) over ints. -/
namespace Wl
open PySem PySem.Spec PyProof.Rows L2
variable {K : PySem.W.Frag} {B : Hp}
def rMaxDf (K : PySem.W.Frag) : List V → List V → Hp → VK → Prop := fun vs zs H Q => ∃ (a : Addr) (ns : List Int) (d : V), vs = [V.ref a] ∧ zs = [d] ∧ SqL K H a (ns.map V.int) ∧ (ns = [] → Q d H) ∧ ∀ m, m ∈ ns → (∀ y, y ∈ ns → y ≤ m) → Q (.int m) H
theorem maxOf_int : ∀ (ys : List Int) (y : Int), (PySem.W.maxOf y ys ∈ y :: ys) ∧ ∀ z, z ∈ y :: ys → z ≤ PySem.W.maxOf y ys
  | [], y => ⟨List.mem_cons_self, fun z hz => by rw [List.mem_singleton.mp hz]; exact Int.le_refl _⟩
  | x :: ys, y => by
    have e : PySem.W.maxOf y (x :: ys) = PySem.W.maxOf (if y < x then x else y) ys := by
      show PySem.W.maxOf (if decide (y < x) = true then x else y) ys = _
      simp only [decide_eq_true_eq]
    rw [e]
    obtain ⟨h1, h2⟩ := maxOf_int ys (if y < x then x else y)
    have h3 := h2 _ List.mem_cons_self
    refine ⟨?_, fun z hz => ?_⟩
    · rcases List.mem_cons.mp h1 with h | h
      · rw [h]
        split
        · exact List.mem_cons_of_mem _ List.mem_cons_self
        · exact List.mem_cons_self
      · exact List.mem_cons_of_mem _ (List.mem_cons_of_mem _ h)
    · have h4 : y ≤ (if y < x then x else y) ∧ x ≤ (if y < x then x else y) := by split <;> omega
      rcases List.mem_cons.mp hz with h | h
      · rw [h]; exact Int.le_trans h4.1 h3
      · rcases List.mem_cons.mp h with h | h
        · rw [h]; exact Int.le_trans h4.2 h3
        · exact h2 z (List.mem_cons_of_mem _ h)
theorem ck_maxD {X : Cx} {j : Nat} (hr : Room j X.A) : CallRK X (.builtin "max") [Str.ofString "default"] (rMaxDf X.K) := by
  intro pins s σ H xs zs us ws Q I r1 r2 h
  obtain ⟨a, ns, d, rfl, rfl, hs, h0, q⟩ := h
  obtain ⟨its, rv, hl, _⟩ := I.list hs
  rw [Vals.ref1 r1]
  cases r2 with
  | cons rd t =>
  cases t
  rename_i dv
  show wpAny _ _ (call (.builtin "max") [.ref a] [(Str.ofString "default", dv)]) _ _ s
  refine PySem.W.max_list_datum_default hr.hd hl.isList (PySem.W.HoldAll.of_ints rv.ints) (by have := hr.un; show X.A.units + 1 + 0 < cLine; omega) (fun e h' tk hk => ?_) fun y ys i v h' tk e hi hv hk => ?_
  · exact ⟨d, H, I.kept hk, rd, h0 e⟩
  · obtain ⟨m1, m2⟩ := maxOf_int ys y
    obtain ⟨as, hv⟩ := hv
    cases hv with
    | int _ t => exact ⟨.int _, H, I.kept hk, ⟨t, rfl⟩, q _ (by rw [e]; exact m1) (by rw [e]; exact m2)⟩
def wMaxDf (t tk : TAW) : TEW := fun ρ S Q => t ρ S fun ws S1 => tk ρ S1 fun zs S2 => match ws, zs with
  | [.ref a], [d] => ∃ ns : List Int, S2 a = some (.lst (ns.map W.int)) ∧ (ns = [] → Q d S2) ∧ ∀ m, m ∈ ns → (∀ y, y ∈ ns → y ≤ m) → Q (.int m) S2
  | _, _ => False
theorem k_maxD (K : PySem.W.Frag) {X : Cx} {j : Nat} {x : Str} {p pos : Pos} {e : Expr} {es : List Expr} {kws : List Keyword} {t tk : TA} (hr : Room j X.A) (hg : Gl X x) (hm : X.mg x = none) (hv : bootBuiltins x = some (.builtin "max")) (ha : PA X (e :: es) t) (hkw : PK X kws tk) (hn : x ≠ "__name__" := by decide) (hdb : (x == ("__debug__" : Str)) = false := by decide)
    (he : backTo pos (starEach (e :: es) X.env) = (false, eval e X.env) :: backTo pos (starEach es X.env) := by rfl) (hpl : (backTo pos (starEach (e :: es) X.env)).any (·.1) = false := by rfl)
    (hall : (backToKw pos (keywordEach kws X.env)).all (·.1.isSome) = true := by rfl) (hnone : (backToKw pos (keywordEach kws X.env)).any (·.1.isNone) = false := by rfl) (hks : (backToKw pos (keywordEach kws X.env)).filterMap (·.1) = [Str.ofString "default"] := by rfl) (hK : X.K = K := by rfl) :
    PE X (.Call (.Name x p) (e :: es) kws pos) (tCKw (rMaxDf K) t tk) := by
  subst hK
  exact pe_callBK (ck_maxD hr) hg hm hv ha hkw hn hdb he hpl hall hnone hks
instance le_maxD {t tk : TA} {tw tkw : TAW} [a : LA K B t tw] [b : LA K B tk tkw] : LE K B (tCKw (rMaxDf K) t tk) (wMaxDf tw tkw) := ⟨fun σ H ρ S Q Qw hs hh q po =>
  a.l σ H ρ S _ _ hs hh q fun xs H1 ws S1 t1 hh1 r1 q1 => b.l σ H1 ρ S1 _ _ (hs.tk t1) hh1 q1 fun zs H2 us S2 t2 hh2 r2 q2 => by
    split at q2
    · rename_i a d
      obtain ⟨x, rfl, h1⟩ := rep1 r1
      cases (show x = _ from h1)
      obtain ⟨dv, rfl, h2⟩ := rep1 r2
      obtain ⟨ns, hl, h0, hm⟩ := q2
      obtain ⟨ys, h3, h4⟩ := hh2 _ _ hl
      rw [h4.ints] at h3
      exact ⟨_, ns, dv, rfl, rfl, SqL.of h3, fun e => po dv H2 _ S2 (t1.trans t2) hh2 h2 (h0 e), fun m m1 m2 => po.int (t1.trans t2) hh2 (hm m m1 m2)⟩
    · exact q2.elim⟩
end Wl
set_option Elab.async false
set_option linter.all false
set_option maxRecDepth 100000
set_option maxHeartbeats 4000000
/-! a tuple times an int. -/
namespace Wl
open PySem PySem.Spec PyProof.Rows L2
variable {K : PySem.W.Frag} {B : Hp}
theorem tuple_mul1 (l : Addr) (items : Array Value) (n : Nat) (dd : Option Addr) (sl : Array (Option Value)) (u : Tok) (c1 : (items.isEmpty || (1 : Int) == 1) = true) :
    Meets (Builtin.«tuple.__mul__» ⟨[.ref l, .int 1 u], []⟩) (fun _ R s => s.heap.get? l = some { cls := .type "tuple", dict := dd, data := .seq items n, slots := sl } ∧
      R (.ok (.ret (Value.ref l))) s) :=
  .of_wp fun prog w A R s h => by
    obtain ⟨hp, g, d, tk, os⟩ := s
    obtain ⟨hl, h⟩ := h
    have f1 := AutoSeq1.idx_int
    wp_walk using wpAny_loadPart' hl
    repeat (first
      | (refine wpAny_ite_false (decide_eq_false (by decide)) ?_; wp_walk using wpAny_loadPart' hl)
      | (refine wpAny_ite_true (decide_eq_true (by rw [c1])) ?_; wp_walk using wpAny_loadPart' hl))
    exact ⟨_, rfl, h⟩
theorem tuple_mul0 (l : Addr) (items : Array Value) (n : Nat) (dd : Option Addr) (sl : Array (Option Value)) (x : Int) (u : Tok) (c0 : (decide (x < -(2 ^ 63)) || decide (x ≥ 2 ^ 63)) = false) (c1 : (items.isEmpty || x == 1) = false) (c2 : (decide (x ≤ 0) || items.isEmpty) = true) :
    Meets (Builtin.«tuple.__mul__» ⟨[.ref l, .int x u], []⟩) (fun _ R s => s.heap.get? l = some { cls := .type "tuple", dict := dd, data := .seq items n, slots := sl } ∧
      R (.ok (.ret (Value.ref s.heap.objs.size))) { s with heap := s.heap.push { cls := Value.type "tuple", data := Data.seq #[] }, toks := s.toks }) :=
  .of_wp fun prog w A R s h => by
    obtain ⟨hp, g, d, tk, os⟩ := s
    obtain ⟨hl, h⟩ := h
    have f1 := AutoSeq1.idx_int
    wp_walk using wpAny_loadPart' hl
    repeat (first
      | (refine wpAny_ite_false (decide_eq_false (by rw [c0]; exact Bool.false_ne_true)) ?_; wp_walk using wpAny_loadPart' hl)
      | (refine wpAny_ite_false (decide_eq_false (by rw [c1]; exact Bool.false_ne_true)) ?_; wp_walk using wpAny_loadPart' hl)
      | (refine wpAny_ite_true (decide_eq_true (by rw [c2])) ?_; wp_walk using wpAny_loadPart' hl))
    exact ⟨_, rfl, h⟩
/-- a tuple times a small number -/
def rRepN (K : PySem.W.Frag) : R2 := fun x y H Q => ∃ l k xs, x = .ref l ∧ y = .int k ∧ SqT K H l xs ∧ xs ≠ [] ∧ 0 ≤ k ∧ k ≤ 1000 ∧ xs.length ≤ 1000 ∧ (k = 1 → Q (.ref l) H) ∧ (k ≠ 1 → ∀ p, H p = none → Q (.ref p) (upd H p (.tup (List.replicate k.toNat xs).flatten)))
theorem op_repN {X : Cx} : OpR X (binaryOp .Mult) (rRepN X.K) := by
  intro pins s σ H x y v u Q I rx ry h
  obtain ⟨l, k, xs, rfl, rfl, hT, hne, h1, h2, hz, q1, q⟩ := h
  by_cases h2k : 2 ≤ k
  · exact op_repT pins s σ H _ _ v u Q I rx ry ⟨l, k, xs, rfl, rfl, hT, hne, h2k, h2, hz, q (by omega)⟩
  cases rx
  obtain ⟨t, rfl⟩ := ry
  obtain ⟨its, r, ⟨⟨cls, dd, data, sl⟩, ho, hc, n, hd⟩, hs⟩ := I.tuple hT
  simp only at hc hd
  subst hc hd
  have hle : its.length = xs.length := r.length.symm
  have hn : its ≠ [] := fun e => hne (by
    rw [e] at hle
    exact List.eq_nil_of_length_eq_zero hle.symm)
  have hi : its.toArray.isEmpty = false := by
    cases its with
    | nil => exact absurd rfl hn
    | cons a b => rfl
  obtain rfl | rfl : k = 0 ∨ k = 1 := by omega
  · refine PySem.wpAny_binaryOp_repeat_ref (T := "tuple") (U := "int") (by decide) ⟨_, ho, rfl⟩ (fun s' => typeIs_int s' 0 t) noFill_tuple_mul F.fills_int_mul F.slot_int_rmul repeat_tuple F.slot_int_index.lookup
      (call_meets F.slot_int_rmul (typeIs_int s 0 t) F.entry_int_rmul (F.args_int_rmul_2 _ _) (int_rmul_tuple 0 t l its.toArray n dd sl)
        ⟨ho, rfl, ⟨_, ho, rfl⟩, call_meets F.slot_tuple_mul ⟨_, ho, rfl⟩ F.entry_tuple_mul (F.args_tuple_mul_2 _ _) (tuple_mul0 l its.toArray n dd sl 0 t (by decide) (by rw [hi]; rfl) (by rfl)) ⟨ho, ?_⟩⟩)
    refine ⟨.ref s.heap.objs.size, _, I.laid (t' := s.toks) (o := .tup []) (fun b ob q => Heap.get?_push_of_some _ q) (Nat.le_refl _) ?_, rfl, q (by decide) _ (I.hok.fresh (Nat.le_refl _))⟩
    exact ⟨by decide, [], .nil, IsTup.new _ _⟩
  · refine PySem.wpAny_binaryOp_repeat_ref (T := "tuple") (U := "int") (by decide) ⟨_, ho, rfl⟩ (fun s' => typeIs_int s' 1 t) noFill_tuple_mul F.fills_int_mul F.slot_int_rmul repeat_tuple F.slot_int_index.lookup
      (call_meets F.slot_int_rmul (typeIs_int s 1 t) F.entry_int_rmul (F.args_int_rmul_2 _ _) (int_rmul_tuple 1 t l its.toArray n dd sl)
        ⟨ho, rfl, ⟨_, ho, rfl⟩, call_meets F.slot_tuple_mul ⟨_, ho, rfl⟩ F.entry_tuple_mul (F.args_tuple_mul_2 _ _) (tuple_mul1 l its.toArray n dd sl t (by rw [hi]; rfl)) ⟨ho, ?_⟩⟩)
    exact ⟨.ref l, H, I, rfl, q1 rfl⟩
theorem RepL.rep {H : Hp} {ws : List W} {xs : List V} (r : RepL K H ws xs) : ∀ n : Nat, RepL K H (List.replicate n ws).flatten (List.replicate n xs).flatten
  | 0 => .nil
  | n + 1 => by
    rw [List.replicate_succ, List.replicate_succ, List.flatten_cons, List.flatten_cons]
    exact RepL.append r (RepL.rep r n)
theorem k_repN (K : PySem.W.Frag) {X : Cx} (hK : X.K = K := by rfl) : OpR X (binaryOp .Mult) (rRepN K) := by
  subst hK
  exact op_repN
def wRepN : RW2 := fun x y S Q => match x, y with
  | .tup ws, .int k => ws ≠ [] ∧ 0 ≤ k ∧ k ≤ 1000 ∧ ws.length ≤ 1000 ∧ Q (.tup (List.replicate k.toNat ws).flatten) S
  | _, _ => False
instance l2_repN : L2R K (rRepN K) wRepN := ⟨fun H S x y wx wy Q Qw hh rx ry q po => by
  unfold wRepN at q
  split at q
  · rename_i ws k
    obtain ⟨hne, h0, h1, hl, q⟩ := q
    obtain ⟨a, xs, rfl, hT, r⟩ := rx
    cases (show y = _ from ry)
    have hlen := r.length
    refine ⟨a, k, xs, rfl, rfl, hT, fun e => hne (by rw [e] at hlen; exact List.eq_nil_of_length_eq_zero (by rw [← hlen]; rfl)), h0, h1, by omega, fun e => ?_, fun _ p hp => ?_⟩
    · subst e
      have e2 : (List.replicate (1 : Int).toNat ws).flatten = ws := by
        show (List.replicate 1 ws).flatten = ws
        rw [List.replicate_succ, List.replicate_zero, List.flatten_cons, List.flatten_nil, List.append_nil]
      rw [e2] at q
      exact po.tup (Tk.refl H) hh hT r q
    · exact po.ntup hp hh (RepL.rep r k.toNat) q
  · exact q.elim⟩
end Wl
set_option Elab.async false
set_option linter.all false
set_option maxRecDepth 100000
set_option maxHeartbeats 4000000
set_option synthInstance.maxHeartbeats 4000000
set_option synthInstance.maxSize 100000
namespace K62
open PySem PySem.Spec PyProof.Rows L2 Wl
/-! ### the text -/
def topS (i : Nat) : Stmt := PySem.Challenge.pw_stylepages_k62_whole_options_are_just_th.main.body.getD i (.Pass ⟨0, 0, 0, 0⟩)
abbrev s__wall : Stmt := topS 0
theorem sc__wall : FnScope ["k"] ["k"] (defScope s__wall) := ⟨rfl, rfl, rfl, by decide +kernel, rfl, by decide +kernel, by decide +kernel⟩
abbrev s__running : Stmt := topS 2
theorem sc__running : FnScope ["numbers", "sums", "number"] ["numbers"] (defScope s__running) := ⟨rfl, rfl, rfl, by decide +kernel, rfl, by decide +kernel, by decide +kernel⟩
abbrev s_Sums___init__ : Stmt := inClass (topS 3) 0
theorem sc_Sums___init__ : FnScope ["self", "galley", "line", "height"] ["self", "galley"] (defScope s_Sums___init__) := ⟨rfl, rfl, rfl, by decide +kernel, rfl, by decide +kernel, by decide +kernel⟩
abbrev s_Sums_last_line : Stmt := inClass (topS 3) 1
theorem sc_Sums_last_line : FnScope ["self"] ["self"] (defScope s_Sums_last_line) := ⟨rfl, rfl, rfl, by decide +kernel, rfl, by decide +kernel, by decide +kernel⟩
abbrev s_Sums_last_float : Stmt := inClass (topS 3) 2
theorem sc_Sums_last_float : FnScope ["self"] ["self"] (defScope s_Sums_last_float) := ⟨rfl, rfl, rfl, by decide +kernel, rfl, by decide +kernel, by decide +kernel⟩
abbrev s_Sums_may_cut : Stmt := inClass (topS 3) 3
theorem sc_Sums_may_cut : FnScope ["self", "line"] ["self", "line"] (defScope s_Sums_may_cut) := ⟨rfl, rfl, rfl, by decide +kernel, rfl, by decide +kernel, by decide +kernel⟩
abbrev s_Sums_marked_before : Stmt := inClass (topS 3) 4
theorem sc_Sums_marked_before : FnScope ["self", "line"] ["self", "line"] (defScope s_Sums_marked_before) := ⟨rfl, rfl, rfl, by decide +kernel, rfl, by decide +kernel, by decide +kernel⟩
abbrev s_Sums_lines_height : Stmt := inClass (topS 3) 5
theorem sc_Sums_lines_height : FnScope ["self", "start", "end"] ["self", "start", "end"] (defScope s_Sums_lines_height) := ⟨rfl, rfl, rfl, by decide +kernel, rfl, by decide +kernel, by decide +kernel⟩
abbrev s_Sums_column_height : Stmt := inClass (topS 3) 6
theorem sc_Sums_column_height : FnScope ["self", "start", "end"] ["self", "start", "end"] (defScope s_Sums_column_height) := ⟨rfl, rfl, rfl, by decide +kernel, rfl, by decide +kernel, by decide +kernel⟩
abbrev s_Sums_notes_height : Stmt := inClass (topS 3) 7
theorem sc_Sums_notes_height : FnScope ["self", "start", "end", "rule"] ["self", "start", "end", "rule"] (defScope s_Sums_notes_height) := ⟨rfl, rfl, rfl, by decide +kernel, rfl, by decide +kernel, by decide +kernel⟩
abbrev s_Sums_floats_height : Stmt := inClass (topS 3) 8
theorem sc_Sums_floats_height : FnScope ["self", "start", "end", "under"] ["self", "start", "end", "under"] (defScope s_Sums_floats_height) := ⟨rfl, rfl, rfl, by decide +kernel, rfl, by decide +kernel, by decide +kernel⟩
abbrev s_Options___init__ : Stmt := inClass (topS 5) 0
theorem sc_Options___init__ : FnScope ["self", "galley", "frame"] ["self", "galley", "frame"] (defScope s_Options___init__) := ⟨rfl, rfl, rfl, by decide +kernel, rfl, by decide +kernel, by decide +kernel⟩
abbrev s_Options__least_floats_end : Stmt := inClass (topS 5) 1
theorem sc_Options__least_floats_end : FnScope ["self", "state", "end", "_", "floats", "ages", "k", "age"] ["self", "state", "end"] (defScope s_Options__least_floats_end) := ⟨rfl, rfl, rfl, by decide +kernel, rfl, by decide +kernel, by decide +kernel⟩
abbrev s_Options__page_ends : Stmt := inClass (topS 5) 2
theorem sc_Options__page_ends : FnScope ["self", "line", "ends", "end"] ["self", "line"] (defScope s_Options__page_ends) := ⟨rfl, rfl, rfl, by decide +kernel, rfl, by decide +kernel, by decide +kernel⟩
abbrev s_Options__moves_to : Stmt := inClass (topS 5) 3
theorem sc_Options__moves_to : FnScope ["self", "state", "end", "line", "floats", "ages", "older", "age", "pending_before", "marked", "free", "found", "floats_end", "room", "fresh"] ["self", "state", "end"] (defScope s_Options__moves_to) := ⟨rfl, rfl, rfl, by decide +kernel, rfl, by decide +kernel, by decide +kernel⟩
abbrev s_Options_moves : Stmt := inClass (topS 5) 4
theorem sc_Options_moves : FnScope ["self", "state", "end", "move"] ["self", "state"] (defScope s_Options_moves) := ⟨rfl, rfl, rfl, by decide +kernel, rfl, by decide +kernel, by decide +kernel⟩
abbrev s_Options__splits : Stmt := inClass (topS 5) 5
theorem sc_Options__splits : FnScope ["self", "line", "end", "split"] ["self", "line", "end"] (defScope s_Options__splits) := ⟨rfl, rfl, rfl, by decide +kernel, rfl, by decide +kernel, by decide +kernel⟩
abbrev s_Options__split_price : Stmt := inClass (topS 5) 6
theorem sc_Options__split_price : FnScope ["self", "line", "end", "split", "room", "is_last", "one", "other", "slack"] ["self", "line", "end", "split", "room", "is_last"] (defScope s_Options__split_price) := ⟨rfl, rfl, rfl, by decide +kernel, rfl, by decide +kernel, by decide +kernel⟩
abbrev s_Options_split_prices : Stmt := inClass (topS 5) 7
theorem sc_Options_split_prices : FnScope ["self", "line", "end", "room", "is_last", "rows", "split", "price"] ["self", "line", "end", "room", "is_last"] (defScope s_Options_split_prices) := ⟨rfl, rfl, rfl, by decide +kernel, rfl, by decide +kernel, by decide +kernel⟩
abbrev s_Options_late_price : Stmt := inClass (topS 5) 8
theorem sc_Options_late_price : FnScope ["self", "state"] ["self", "state"] (defScope s_Options_late_price) := ⟨rfl, rfl, rfl, by decide +kernel, rfl, by decide +kernel, by decide +kernel⟩
abbrev s_Options__best_split : Stmt := inClass (topS 5) 9
theorem sc_Options__best_split : FnScope ["self", "line", "end", "room", "is_last"] ["self", "line", "end", "room", "is_last"] (defScope s_Options__best_split) := ⟨rfl, rfl, rfl, by decide +kernel, rfl, by decide +kernel, by decide +kernel⟩
abbrev s_Options_cheapest : Stmt := inClass (topS 5) 10
theorem sc_Options_cheapest : FnScope ["self", "state"] ["self", "state"] (defScope s_Options_cheapest) := ⟨rfl, rfl, rfl, by decide +kernel, rfl, by decide +kernel, by decide +kernel⟩
abbrev s_page_options : Stmt := topS 6
theorem sc_page_options : FnScope ["galley", "frame", "state", "options", "pages", "end", "floats_end", "room", "behind", "late", "split", "price"] ["galley", "frame", "state"] (defScope s_page_options) := ⟨rfl, rfl, rfl, by decide +kernel, rfl, by decide +kernel, by decide +kernel⟩
abbrev s_Frame___init__ : Stmt := inClass (topS 8) 0
theorem sc_Frame___init__ : FnScope ["self", "height", "columns", "rule", "under", "wait", "late", "uneven"] ["self", "height", "columns", "rule", "under", "wait", "late", "uneven"] (defScope s_Frame___init__) := ⟨rfl, rfl, rfl, by decide +kernel, rfl, by decide +kernel, by decide +kernel⟩
abbrev s_Frame_of : Stmt := inClass (topS 8) 1
theorem sc_Frame_of : FnScope ["key", "height", "columns", "rule", "under", "wait", "late", "uneven"] ["key"] (defScope s_Frame_of) := ⟨rfl, rfl, rfl, by decide +kernel, rfl, by decide +kernel, by decide +kernel⟩
abbrev s_Frame_key : Stmt := inClass (topS 8) 2
theorem sc_Frame_key : FnScope ["self"] ["self"] (defScope s_Frame_key) := ⟨rfl, rfl, rfl, by decide +kernel, rfl, by decide +kernel, by decide +kernel⟩
abbrev s__law_pool : Stmt := topS 10
theorem sc__law_pool : FnScope ["_law_script", "_law_at", "_law_cell"] ["_law_script", "_law_at"] (defScope s__law_pool) := ⟨rfl, rfl, rfl, by decide +kernel, rfl, by decide +kernel, by decide +kernel⟩
abbrev s__law_take : Stmt := topS 11
theorem sc__law_take : FnScope ["_law_pool_here", "_law_many", "_law_got", "_law_one", "_law_two"] ["_law_pool_here", "_law_many"] (defScope s__law_take) := ⟨rfl, rfl, rfl, by decide +kernel, rfl, by decide +kernel, by decide +kernel⟩
abbrev s__law_same : Stmt := topS 12
theorem sc__law_same : FnScope ["_law_one", "_law_two", "_law_both", "_law_k"] ["_law_one", "_law_two"] (defScope s__law_same) := ⟨rfl, rfl, rfl, by decide +kernel, rfl, by decide +kernel, by decide +kernel⟩
abbrev s__law_ranges : Stmt := topS 13
theorem sc__law_ranges : FnScope ["_law_pool_here", "_law_plain", "_law_unit", "_law_wide"] ["_law_pool_here"] (defScope s__law_ranges) := ⟨rfl, rfl, rfl, by decide +kernel, rfl, by decide +kernel, by decide +kernel⟩
abbrev s__law_frame_key : Stmt := topS 14
theorem sc__law_frame_key : FnScope ["_law_pool_here", "_law_scale", "_law_high", "_law_cols", "_law_foot", "_law_head", "_law_patience", "_law_dear"] ["_law_pool_here", "_law_scale"] (defScope s__law_frame_key) := ⟨rfl, rfl, rfl, by decide +kernel, rfl, by decide +kernel, by decide +kernel⟩
abbrev s__law_frame : Stmt := topS 15
theorem sc__law_frame : FnScope ["_law_key", "_law_way"] ["_law_key", "_law_way"] (defScope s__law_frame) := ⟨rfl, rfl, rfl, by decide +kernel, rfl, by decide +kernel, by decide +kernel⟩
abbrev s__law_heights : Stmt := topS 16
theorem sc__law_heights : FnScope ["_law_pool_here", "_law_many", "_law_tall", "_law_k"] ["_law_pool_here", "_law_many", "_law_tall"] (defScope s__law_heights) := ⟨rfl, rfl, rfl, by decide +kernel, rfl, by decide +kernel, by decide +kernel⟩
abbrev s__law_galley : Stmt := topS 17
theorem sc__law_galley : FnScope ["_law_pool_here", "_law_longest", "_law_limit", "_law_scale", "_law_lines", "_law_floats", "_law_k", "_law_notes", "_law_some", "_law_own", "_law_high", "_law_over"] ["_law_pool_here", "_law_longest", "_law_limit", "_law_scale"] (defScope s__law_galley) := ⟨rfl, rfl, rfl, by decide +kernel, rfl, by decide +kernel, by decide +kernel⟩
abbrev s__law_float_rows : Stmt := topS 18
theorem sc__law_float_rows : FnScope ["_law_galley_here", "_law_rows", "_law_k", "_law_high"] ["_law_galley_here"] (defScope s__law_float_rows) := ⟨rfl, rfl, rfl, by decide +kernel, rfl, by decide +kernel, by decide +kernel⟩
abbrev s__law_column : Stmt := topS 19
theorem sc__law_column : FnScope ["_law_galley_here", "_law_start", "_law_end", "_law_high", "_law_k"] ["_law_galley_here", "_law_start", "_law_end"] (defScope s__law_column) := ⟨rfl, rfl, rfl, by decide +kernel, rfl, by decide +kernel, by decide +kernel⟩
abbrev s__law_cuts : Stmt := topS 20
theorem sc__law_cuts : FnScope ["_law_galley_here", "_law_line", "_law_triple", "_law_cols", "_law_end", "_law_split"] ["_law_galley_here", "_law_line", "_law_triple", "_law_cols"] (defScope s__law_cuts) := ⟨rfl, rfl, rfl, by decide +kernel, rfl, by decide +kernel, by decide +kernel⟩
abbrev s__law_older : Stmt := topS 21
theorem sc__law_older : FnScope ["_law_rows", "_law_state", "_law_triple", "_law_older_here", "_law_k"] ["_law_rows", "_law_state", "_law_triple"] (defScope s__law_older) := ⟨rfl, rfl, rfl, by decide +kernel, rfl, by decide +kernel, by decide +kernel⟩
abbrev s__law_page : Stmt := topS 22
theorem sc__law_page : FnScope ["_law_galley_here", "_law_rows", "_law_key", "_law_state", "_law_triple", "_law_own", "_law_row", "_law_notes", "_law_line", "_law_room", "_law_one", "_law_two", "_law_older_here", "_law_slack", "_law_age", "_law_after", "_law_price"] ["_law_galley_here", "_law_rows", "_law_key", "_law_state", "_law_triple"] (defScope s__law_page) := ⟨rfl, rfl, rfl, by decide +kernel, rfl, by decide +kernel, by decide +kernel⟩
abbrev s__law_pages : Stmt := topS 23
theorem sc__law_pages : FnScope ["_law_galley_here", "_law_rows", "_law_key", "_law_state", "_law_found", "_law_end", "_law_begin", "_law_last", "_law_split", "_law_page_here"] ["_law_galley_here", "_law_rows", "_law_key", "_law_state"] (defScope s__law_pages) := ⟨rfl, rfl, rfl, by decide +kernel, rfl, by decide +kernel, by decide +kernel⟩
abbrev s_law : Stmt := topS 24
theorem sc_law : FnScope ["_law_script", "_law_pool_here", "_law_scale", "_law_key", "_law_frame_here", "_law_bound", "_law_galley_here", "_law_rows", "_law_walk", "_law_state", "_law_k", "_law_due", "_law_told"] ["_law_script"] (defScope s_law) := ⟨rfl, rfl, rfl, by decide +kernel, rfl, by decide +kernel, by decide +kernel⟩
structure Cls where
  Frame : Addr
  Options : Addr
  Sums : Addr
structure Txt (K : PySem.W.Frag) (mg : Str → Option Value) (ec : Cls) : Prop where
  b_abs : mg "abs" = none
  b_bool : mg "bool" = none
  b_enumerate : mg "enumerate" = none
  b_int : mg "int" = none
  b_isinstance : mg "isinstance" = none
  b_len : mg "len" = none
  b_list : mg "list" = none
  b_max : mg "max" = none
  b_min : mg "min" = none
  b_range : mg "range" = none
  b_str : mg "str" = none
  b_sum : mg "sum" = none
  b_tuple : mg "tuple" = none
  g_Frame : ConstAt K mg "Frame" (.ref ec.Frame)
  gm_Frame : mg "Frame" = some (.ref ec.Frame)
  cl_Frame : L2.Cls K ec.Frame
  fl_Frame_height : FldOk K ec.Frame "height"
  fl_Frame_columns : FldOk K ec.Frame "columns"
  fl_Frame_rule : FldOk K ec.Frame "rule"
  fl_Frame_under : FldOk K ec.Frame "under"
  fl_Frame_wait : FldOk K ec.Frame "wait"
  fl_Frame_late : FldOk K ec.Frame "late"
  fl_Frame_uneven : FldOk K ec.Frame "uneven"
  is_Frame : IsiO K ec.Frame
  kk_Frame : PySem.W.kitOne K (.ref ec.Frame) (.ref ec.Frame) = some true
  ow_Frame : OwnOp K ec.Frame
  g_Options : ConstAt K mg "Options" (.ref ec.Options)
  gm_Options : mg "Options" = some (.ref ec.Options)
  cl_Options : L2.Cls K ec.Options
  fl_Options__sums : FldOk K ec.Options "_sums"
  fl_Options__frame : FldOk K ec.Options "_frame"
  fl_Options__best : FldOk K ec.Options "_best"
  fl_Options_last_state : FldOk K ec.Options "last_state"
  is_Options : IsiO K ec.Options
  kk_Options : PySem.W.kitOne K (.ref ec.Options) (.ref ec.Options) = some true
  ow_Options : OwnOp K ec.Options
  g_Sums : ConstAt K mg "Sums" (.ref ec.Sums)
  gm_Sums : mg "Sums" = some (.ref ec.Sums)
  cl_Sums : L2.Cls K ec.Sums
  fl_Sums__cuts : FldOk K ec.Sums "_cuts"
  fl_Sums__heights : FldOk K ec.Sums "_heights"
  fl_Sums__spaces : FldOk K ec.Sums "_spaces"
  fl_Sums__notes : FldOk K ec.Sums "_notes"
  fl_Sums__many_notes : FldOk K ec.Sums "_many_notes"
  fl_Sums__many_floats : FldOk K ec.Sums "_many_floats"
  fl_Sums__floats : FldOk K ec.Sums "_floats"
  is_Sums : IsiO K ec.Sums
  kk_Sums : PySem.W.kitOne K (.ref ec.Sums) (.ref ec.Sums) = some true
  ow_Sums : OwnOp K ec.Sums
local macro_rules | `(tactic| walk_at "w") => `(tactic| (conv => whnf))
/-! what a store holds -/
local macro_rules | `(tactic| walk_at "ne") => `(tactic| first | assumption | (apply Ne.symm; assumption) | exact ne_free (by assumption) (by assumption) | exact (ne_free (by assumption) (by assumption)).symm | exact Pl.ne (by assumption) (by assumption) | exact (Pl.ne (by assumption) (by assumption)).symm)
local macro_rules | `(tactic| walk_at "s") => `(tactic| first
  | exact put_same
  | assumption
  | (refine (put_ne ?_).trans ?_; (· walk_at "ne"); (· walk_at "s")))
/-! a side condition -/
local macro_rules | `(tactic| walk_at "c") => `(tactic| first
  | exact Or.inl (Or.inl ⟨by omega, by omega⟩)
  | exact Or.inl (Or.inr ⟨by omega, by omega⟩)
  | exact Or.inl ⟨by omega, by omega⟩
  | exact Or.inl ⟨rfl, _, by walk_at "s"⟩
  | rfl
  | omega
  | decide
  | exact Nat.le_trans (by omega) sizeLine_ge)
/-! one question is answered, if the answer is plain -/
local macro_rules | `(tactic| walk_at "g1") => `(tactic| first
  | refine ⟨fun _ => ?_, fun h => absurd (show true = false from h) (by decide)⟩
  | refine ⟨fun h => absurd (show false = true from h) Bool.false_ne_true, fun _ => ?_⟩
  | refine ⟨_, by walk_at "s", ?_⟩
  | refine ⟨_, _, by walk_at "s", by walk_at "s", ?_⟩
  | refine ⟨_, by walk_at "s", by simpa using (by omega), ?_⟩
  | refine ⟨_, rfl, ?_⟩
  | refine ⟨_, _, rfl, (by first | exact isTy_tt | exact isTy_ii | exact isTy_ll | exact isTy_ss | exact isTy_ib | exact isTy_tb | exact isTy_ti | exact isTy_ts | exact isTy_tl | exact isTy_lb | exact isTy_li | exact isTy_ls | exact isTy_lt | exact isTy_sb | exact isTy_si | exact isTy_st | exact isTy_sl | exact isTy_is | exact isTy_it | exact isTy_il | exact isTy_bi | exact isTy_bs | exact isTy_bb | exact isTy_nb | exact isTy_ni | exact isTy_ns | exact isTy_nt | exact isTy_nl | exact isTy_bt | exact isTy_bl | exact isTy_nd | exact isTy_td | exact isTy_ld | exact isTy_sd | exact isTy_id | exact isTy_bd | exact isTy_dd | exact isTy_db | exact isTy_di | exact isTy_ds | exact isTy_dt | exact isTy_dl), ?_⟩
  | refine ⟨_, _, tyName_lst (by walk_at "s"), (by first | exact isTy_ll | exact isTy_lb | exact isTy_li | exact isTy_ls | exact isTy_lt), ?_⟩
  | refine if_q ?_
  | refine ⟨by walk_at "c", ?_⟩)
local macro_rules | `(tactic| walk_at "go") => `(tactic| (walk_at "w"; repeat (walk_at "g1"; walk_at "w")))
/-! a branch that cannot be -/
local macro_rules | `(tactic| walk_at "two") => `(tactic| refine ⟨fun h => ?_, fun h => ?_⟩)
/-! pools of four numbers -/
def poolL (c n b s : Int) : List W := [.int c, .int n, .int b, .int s]
/-- a pool of at most N drawn numbers -/
def Pl (S : Sto) (p : Addr) (N : Int) : Prop := ∃ c n b s, S p = some (.lst (poolL c n b s)) ∧ 0 ≤ c ∧ 0 ≤ n ∧ n ≤ N ∧ 0 ≤ s ∧ s < 2147483647
theorem Pl.some {S : Sto} {p : Addr} {N : Int} (h : Pl S p N) : ∃ c, S p = some c := by
  obtain ⟨c, n, b, s, e, _⟩ := h
  exact ⟨_, e⟩
theorem Pl.ne {S : Sto} {p d : Addr} {N : Int} (h : Pl S p N) (n : S d = none) : d ≠ p := by
  obtain ⟨c, e⟩ := h.some
  exact ne_free e n
theorem Pl.eq {S T : Sto} {p : Addr} {N : Int} (h : Pl S p N) (e : T p = S p) : Pl T p N := by
  obtain ⟨c, n, b, s, e1, r⟩ := h
  exact ⟨c, n, b, s, e.trans e1, r⟩
theorem Pl.mono {S : Sto} {p : Addr} {N M : Int} (h : Pl S p N) (l : N ≤ M) : Pl S p M := by
  obtain ⟨c, n, b, s, e1, h1, h2, h3, h4⟩ := h
  exact ⟨c, n, b, s, e1, h1, h2, by omega, h4⟩
def spTk : SpW := fun ws S Q => ∃ (p : Addr) (N many : Int), ws = [.ref p, .int many] ∧ Pl S p N ∧ N < 2 ^ 40 ∧ 0 < many ∧ many < 2 ^ 64 ∧ ∀ r S', 0 ≤ r → r < many → Pl S' p (N + 1) → OffL [p] S S' → Q (.int r) S'
theorem tk_go {p : Addr} {N many : Int} {S : Sto} {Q : WK} (h : Pl S p N) (hN : N < 2 ^ 40) (h0 : 0 < many) (h1 : many < 2 ^ 64) (q : ∀ r S', 0 ≤ r → r < many → Pl S' p (N + 1) → OffL [p] S S' → Q (.int r) S') : Hd spTk [.ref p, .int many] S Q := Hd.mk ⟨p, N, many, rfl, h, hN, h0, h1, q⟩
def spPl : SpW := fun ws S Q => ∃ (ns : List Int) (k : Int), ws = [.rl (ns.map W.int), .int k] ∧ 0 ≤ k ∧ k ≤ 1000 ∧ ns.length ≤ 63 ∧ ∀ p S', S p = none → Pl S' p 0 → OffL [p] S S' → Q (.ref p) S'
theorem pl_go {ns : List Int} {k : Int} {S : Sto} {Q : WK} (h0 : 0 ≤ k) (h1 : k ≤ 1000) (hl : ns.length ≤ 63) (q : ∀ p S', S p = none → Pl S' p 0 → OffL [p] S S' → Q (.ref p) S') : Hd spPl [.rl (ns.map W.int), .int k] S Q := Hd.mk ⟨ns, k, rfl, h0, h1, hl, q⟩
section
variable {P : Program} {w : World} {K : PySem.W.Frag} {mg : Str → Option Value} {base : Heap} {ec : Cls}
theorem ok__law_take (T : Txt K mg ec) (d : DefAt K mg "_law_take" s__law_take ["_law_pool_here", "_law_many"]) : CalW P w K mg base 1 "_law_take" spTk :=
  calDI d sc__law_take (fun ws S Q ⟨p, N, many, e, _⟩ => by rw [e]; rfl) fun f cdv A outer s H E hr => ⟨_, _,
    (pss_cons (ps_asg (pe_op (k_addB K) (pe_ix (k_ix K) (pv 0) pe_int (fun _ _ => rfl)) pe_int) (pg_sub (pv 0) pe_int set_list))
      (pss_cons (ps_if (PW.pt (pw_and (pt_cmpR (k_eq K hr.units) (pe_ix (k_ix K) (pv 0) pe_int (fun _ _ => rfl)) pe_int (nomark _)) (pw_and1 (pt_cmpR op_gtA (pe_ix (k_ix K) (pv 0) pe_int (fun _ _ => rfl)) pe_int (nomark _)))))
       (pss_cons (ps_set (i := 2) sc__law_take.nd rfl (Or.inl rfl) (pe_op op_mod (pe_callTy call_int1 (by rfl) T.b_int (by decide +kernel) (pa_cons (pe_ix (k_ix K) (pv 0) pe_int (fun _ _ => rfl)) pa_nil)) (pv 1)))
       (pss_cons (ps_asg (pe_op op_fdivA (pe_ix (k_ix K) (pv 0) pe_int (fun _ _ => rfl)) (pv 1)) (pg_sub (pv 0) pe_int set_list))
       (pss_one (ps_ret (pv 2)))))
       pss_nil)
      (pss_cons (ps_set (i := 3) sc__law_take.nd rfl (Or.inl rfl) (pe_op op_mod (pe_callTy call_int1 (by rfl) T.b_int (by decide +kernel) (pa_cons (pe_op (k_addB K) (pe_op (k_addB K) (pe_op op_mulA (pe_ix (k_ix K) (pv 0) pe_int (fun _ _ => rfl)) pe_int) (pe_op op_mulA (pe_ix (k_ix K) (pv 0) pe_int (fun _ _ => rfl)) pe_int)) pe_int) pa_nil)) pe_int))
      (pss_cons (ps_set (i := 4) sc__law_take.nd rfl (Or.inl rfl) (pe_op op_mod (pe_callTy call_int1 (by rfl) T.b_int (by decide +kernel) (pa_cons (pe_op (k_addB K) (pe_op (k_addB K) (pe_op op_mulA (pv 3) pe_int) (pe_op op_fdivA (pv 3) pe_int)) (pe_op op_mulA (pe_op op_mulA (pe_ix (k_ix K) (pv 0) pe_int (fun _ _ => rfl)) (pe_ix (k_ix K) (pv 0) pe_int (fun _ _ => rfl))) pe_int)) pa_nil)) pe_int))
      (pss_one (ps_ret (pe_op op_mod (pe_callTy call_int1 (by rfl) T.b_int (by decide +kernel) (pa_cons (pe_op op_fdivA (pv 4) (pe_op (k_addB K) (pe_ix (k_ix K) (pv 0) pe_int (fun _ _ => rfl)) pe_int)) pa_nil)) (pv 1)))))))), inferInstance, by
    rintro ws S Q ⟨p, N, many, rfl, ⟨c, n, b, sd, hp, c0, n0, n1, s0, s1⟩, hN, hm, hm2, q⟩
    have ok' : ∀ c' b', 0 ≤ c' → Pl (put S p (.lst (poolL c' (n + 1) b' sd))) p (N + 1) := fun c' b' h => ⟨c', n + 1, b', sd, put_same, h, by omega, by omega, s0, s1⟩
    have off : ∀ c', OffL [p] S (put S p c') := fun c' a ha => put_ne (fun e => ha (by rw [e]; exact List.mem_singleton.mpr rfl))
    have dv : CDivA c many := .inr (wide_div hm (b := 64) (by omega) (by decide) (by decide))
    walk_at "w"
    refine ⟨_, hp, ?_⟩
    walk_at "w"
    refine ⟨_, 1, hp, rfl, ?_⟩
    walk_at "w"
    refine if_q ?_
    walk_at "w"
    refine ⟨_, put_same, ?_⟩
    walk_at "w"
    refine ⟨fun h => ?_, fun h => ?_⟩
    · walk_at "w"
      refine ⟨_, put_same, ?_⟩
      walk_at "w"
      refine ⟨fun h => ?_, fun h => ?_⟩
      · walk_at "w"
        refine ⟨_, put_same, ?_⟩
        walk_at "w"
        refine ⟨hm, ?_⟩
        walk_at "w"
        refine ⟨_, put_same, ?_⟩
        walk_at "w"
        refine ⟨dv, ?_⟩
        walk_at "w"
        refine ⟨_, 0, put_same, rfl, ?_⟩
        rw [put_put]
        exact fg_here (q _ _ (Int.emod_nonneg _ (by omega)) (Int.emod_lt_of_pos _ hm) (ok' _ b (Int.ediv_nonneg c0 (by omega))) (off _))
      · walk_at "w"
        refine ⟨_, put_same, ?_⟩
        walk_at "w"
        refine ⟨.inl (.inl ⟨by omega, by omega⟩), ?_⟩
        walk_at "w"
        refine ⟨_, put_same, ?_⟩
        walk_at "w"
        refine ⟨.inl (.inl ⟨by omega, by omega⟩), ?_⟩
        walk_at "w"
        refine ⟨(by show (0 : Int) < 2147483647; decide), ?_⟩
        generalize ho : (sd * 48271 + (n + 1) * 69621 + 11) % 2147483647 = one
        have o0 : 0 ≤ one := by rw [← ho]; exact Int.emod_nonneg _ (by decide)
        have o1 : one < 2147483647 := by rw [← ho]; exact Int.emod_lt_of_pos _ (by decide)
        walk_at "w"
        refine ⟨.inl (.inl ⟨by omega, by omega⟩), ?_⟩
        walk_at "w"
        refine ⟨.inl ⟨by decide, by decide⟩, ?_⟩
        walk_at "w"
        refine ⟨_, put_same, ?_⟩
        walk_at "w"
        refine ⟨_, put_same, ?_⟩
        walk_at "w"
        refine ⟨.inl (.inl ⟨by omega, by omega⟩), ?_⟩
        walk_at "w"
        refine ⟨.inl (.inr ⟨by decide, by decide⟩), ?_⟩
        walk_at "w"
        refine ⟨(by show (0 : Int) < 2147483399; decide), ?_⟩
        generalize ht : (one * 16807 + one / 65536 + (n + 1) * (n + 1) * 40692) % 2147483399 = two
        walk_at "w"
        refine ⟨_, put_same, ?_⟩
        walk_at "w"
        refine ⟨.inr (wide_div (by omega) (b := 64) (by omega) (by decide) (by decide)), ?_⟩
        walk_at "w"
        refine ⟨hm, ?_⟩
        exact fg_here (q _ _ (Int.emod_nonneg _ (by omega)) (Int.emod_lt_of_pos _ hm) (ok' c b c0) (off _))
    · refine ⟨fun h => absurd (show false = true from h) Bool.false_ne_true, fun _ => ?_⟩
      walk_at "w"
      refine ⟨_, put_same, ?_⟩
      walk_at "w"
      refine ⟨.inl (.inl ⟨by omega, by omega⟩), ?_⟩
      walk_at "w"
      refine ⟨_, put_same, ?_⟩
      walk_at "w"
      refine ⟨.inl (.inl ⟨by omega, by omega⟩), ?_⟩
      walk_at "w"
      refine ⟨(by show (0 : Int) < 2147483647; decide), ?_⟩
      generalize ho : (sd * 48271 + (n + 1) * 69621 + 11) % 2147483647 = one
      have o0 : 0 ≤ one := by rw [← ho]; exact Int.emod_nonneg _ (by decide)
      have o1 : one < 2147483647 := by rw [← ho]; exact Int.emod_lt_of_pos _ (by decide)
      walk_at "w"
      refine ⟨.inl (.inl ⟨by omega, by omega⟩), ?_⟩
      walk_at "w"
      refine ⟨.inl ⟨by decide, by decide⟩, ?_⟩
      walk_at "w"
      refine ⟨_, put_same, ?_⟩
      walk_at "w"
      refine ⟨_, put_same, ?_⟩
      walk_at "w"
      refine ⟨.inl (.inl ⟨by omega, by omega⟩), ?_⟩
      walk_at "w"
      refine ⟨.inl (.inr ⟨by decide, by decide⟩), ?_⟩
      walk_at "w"
      refine ⟨(by show (0 : Int) < 2147483399; decide), ?_⟩
      generalize ht : (one * 16807 + one / 65536 + (n + 1) * (n + 1) * 40692) % 2147483399 = two
      walk_at "w"
      refine ⟨_, put_same, ?_⟩
      walk_at "w"
      refine ⟨.inr (wide_div (by omega) (b := 64) (by omega) (by decide) (by decide)), ?_⟩
      walk_at "w"
      refine ⟨hm, ?_⟩
      exact fg_here (q _ _ (Int.emod_nonneg _ (by omega)) (Int.emod_lt_of_pos _ hm) (ok' c b c0) (off _))⟩
theorem ok__law_pool (T : Txt K mg ec) (d : DefAt K mg "_law_pool" s__law_pool ["_law_script", "_law_at"]) : CalW P w K mg base 1 "_law_pool" spPl :=
  calDI d sc__law_pool (fun ws S Q ⟨n, k, e, _⟩ => by rw [e]; rfl) fun f cdv A outer s H E hr => ⟨_, _,
    (pss_cons (ps_set (i := 2) sc__law_pool.nd rfl (Or.inl rfl) pe_int)
      (pss_mid (ps_if (pt_cmpR op_ltA (pv 1) (pe_callB (k_len K) (by rfl) T.b_len (by decide +kernel) (pa_cons (pv 0) pa_nil)) (nomark _))
       (pss_one (ps_set (i := 2) sc__law_pool.nd rfl (Or.inl rfl) (pe_callB call_abs (by rfl) T.b_abs (by decide +kernel) (pa_cons (pe_callTy call_int1 (by rfl) T.b_int (by decide +kernel) (pa_cons (pe_ix (k_ix K) (pv 0) (pv 1) (fun _ _ => rfl)) pa_nil)) pa_nil))))
       pss_nil)
      (pss_one (ps_ret (pe_lst (pa_cons (pv 2) (pa_cons pe_int (pa_cons (pe_callTy call_int1 (by rfl) T.b_int (by decide +kernel) (pa_cons (pe_cmpR op_geA (pv 2) (pe_op op_pow pe_int pe_int) (nomark _)) pa_nil)) (pa_cons (pe_op op_mod (pe_callTy call_int1 (by rfl) T.b_int (by decide +kernel) (pa_cons (pe_op (k_addB K) (pv 2) (pe_op op_mulA (pv 1) pe_int)) pa_nil)) pe_int) pa_nil))))))))), inferInstance, by
    rintro ws S Q ⟨ns, k, rfl, h0, h1, hl, q⟩
    walk_at "w"
    refine mid_q (fun ρ S' => S' = S ∧ ∃ c : Int, 0 ≤ c ∧ ρ = [some (.rl (ns.map W.int)), some (.int k), some (.int c)]) ?_ ?_
    · walk_at "w"
      refine ⟨fun h => ?_, fun h => ?_⟩
      · have h := of_decide_eq_true h
        rw [List.length_map] at h
        obtain ⟨n, e⟩ := atI_int (ns := ns) h0 h
        show rdAt (atI (ns.map W.int) k) S _
        rw [e]
        refine ⟨rfl, _, ?_, rfl⟩
        show 0 ≤ if n < 0 then -n else n
        split <;> omega
      · exact ⟨rfl, 0, Int.le_refl 0, rfl⟩
    · rintro ρ S' ⟨rfl, c, hc, rfl⟩
      walk_at "w"
      refine ⟨⟨by decide, by decide, by decide⟩, .inl (.inl ⟨by omega, by omega⟩), (by show (0 : Int) < 2147483647; decide), ?_⟩
      intro p hp
      refine fg_here (q p _ hp ⟨c, 0, _, _, put_same, hc, Int.le_refl 0, Int.le_refl 0, ?_, ?_⟩ fun a ha => put_ne (fun e => ha (by rw [e]; exact List.mem_singleton.mpr rfl)))
      · exact Int.emod_nonneg _ (by decide)
      · exact Int.emod_lt_of_pos _ (by decide)⟩
end
end K62
set_option Elab.async false
set_option linter.all false
set_option maxRecDepth 100000
set_option maxHeartbeats 4000000
set_option synthInstance.maxHeartbeats 4000000
set_option synthInstance.maxSize 100000
namespace K62
open PySem PySem.Spec PyProof.Rows L2 Wl
local macro_rules | `(tactic| walk_at "w") => `(tactic| (conv => whnf))
/-! what a store holds -/
local macro_rules | `(tactic| walk_at "ne") => `(tactic| first | assumption | (apply Ne.symm; assumption) | exact ne_free (by assumption) (by assumption) | exact (ne_free (by assumption) (by assumption)).symm | exact Pl.ne (by assumption) (by assumption) | exact (Pl.ne (by assumption) (by assumption)).symm)
local macro_rules | `(tactic| walk_at "s") => `(tactic| first
  | exact put_same
  | assumption
  | (refine (put_ne ?_).trans ?_; (· walk_at "ne"); (· walk_at "s")))
/-! a side condition -/
local macro_rules | `(tactic| walk_at "c") => `(tactic| first
  | exact Or.inl (Or.inl ⟨by omega, by omega⟩)
  | exact Or.inl (Or.inr ⟨by omega, by omega⟩)
  | exact Or.inl ⟨by omega, by omega⟩
  | exact Or.inl ⟨rfl, _, by walk_at "s"⟩
  | rfl
  | omega
  | decide
  | exact Nat.le_trans (by omega) sizeLine_ge)
/-! one question is answered, if the answer is plain -/
local macro_rules | `(tactic| walk_at "g1") => `(tactic| first
  | refine ⟨fun _ => ?_, fun h => absurd (show true = false from h) (by decide)⟩
  | refine ⟨fun h => absurd (show false = true from h) Bool.false_ne_true, fun _ => ?_⟩
  | refine ⟨_, by walk_at "s", ?_⟩
  | refine ⟨_, _, by walk_at "s", by walk_at "s", ?_⟩
  | refine ⟨_, by walk_at "s", by simpa using (by omega), ?_⟩
  | refine ⟨_, rfl, ?_⟩
  | refine ⟨_, _, rfl, (by first | exact isTy_tt | exact isTy_ii | exact isTy_ll | exact isTy_ss | exact isTy_ib | exact isTy_tb | exact isTy_ti | exact isTy_ts | exact isTy_tl | exact isTy_lb | exact isTy_li | exact isTy_ls | exact isTy_lt | exact isTy_sb | exact isTy_si | exact isTy_st | exact isTy_sl | exact isTy_is | exact isTy_it | exact isTy_il | exact isTy_bi | exact isTy_bs | exact isTy_bb | exact isTy_nb | exact isTy_ni | exact isTy_ns | exact isTy_nt | exact isTy_nl | exact isTy_bt | exact isTy_bl | exact isTy_nd | exact isTy_td | exact isTy_ld | exact isTy_sd | exact isTy_id | exact isTy_bd | exact isTy_dd | exact isTy_db | exact isTy_di | exact isTy_ds | exact isTy_dt | exact isTy_dl), ?_⟩
  | refine ⟨_, _, tyName_lst (by walk_at "s"), (by first | exact isTy_ll | exact isTy_lb | exact isTy_li | exact isTy_ls | exact isTy_lt), ?_⟩
  | refine if_q ?_
  | refine ⟨by walk_at "c", ?_⟩)
local macro_rules | `(tactic| walk_at "go") => `(tactic| (walk_at "w"; repeat (walk_at "g1"; walk_at "w")))
/-! a branch that cannot be -/
local macro_rules | `(tactic| walk_at "two") => `(tactic| refine ⟨fun h => ?_, fun h => ?_⟩)
section
variable {P : Program} {w : World} {K : PySem.W.Frag} {mg : Str → Option Value} {base : Heap} {ec : Cls}
/-! frames -/
structure FK where
  w : Int
  i : Int
  al : Int
  hy : Int
  tw : Int
  ri : Int
  lo : Int
def FK.fs (k : FK) : List (Str × W) := [("height", .int k.w), ("columns", .int k.i), ("rule", .int k.al), ("under", .int k.hy), ("wait", .int k.tw), ("late", .int k.ri), ("uneven", .int k.lo)]
def FK.key (k : FK) : W := .tup [.int k.w, .int k.i, .int k.al, .int k.hy, .int k.tw, .int k.ri, .int k.lo]
def fraC (C : Addr) (k : FK) : Cell := .ins C k.fs
theorem fra_put (k : FK) : putFW "uneven" (.int k.lo) (putFW "late" (.int k.ri) (putFW "wait" (.int k.tw) (putFW "under" (.int k.hy) (putFW "rule" (.int k.al) (putFW "columns" (.int k.i) (putFW "height" (.int k.w) [])))))) = k.fs := by rfl
theorem fra_w (k : FK) : List.lookup ("height" : Str) k.fs = some (.int k.w) := by rfl
theorem fra_i (k : FK) : List.lookup ("columns" : Str) k.fs = some (.int k.i) := by rfl
theorem fra_al (k : FK) : List.lookup ("rule" : Str) k.fs = some (.int k.al) := by rfl
theorem fra_hy (k : FK) : List.lookup ("under" : Str) k.fs = some (.int k.hy) := by rfl
theorem fra_tw (k : FK) : List.lookup ("wait" : Str) k.fs = some (.int k.tw) := by rfl
theorem fra_ri (k : FK) : List.lookup ("late" : Str) k.fs = some (.int k.ri) := by rfl
theorem fra_lo (k : FK) : List.lookup ("uneven" : Str) k.fs = some (.int k.lo) := by rfl
def spFI (C : Addr) : SpW := fun ws S Q => ∃ (x : Addr) (k : FK), ws = [.ref x, .int k.w, .int k.i, .int k.al, .int k.hy, .int k.tw, .int k.ri, .int k.lo] ∧ S x = some (.ins C []) ∧ Q .non (put S x (fraC C k))
theorem fi_go {C x : Addr} {k : FK} {S : Sto} {Q : WK} (h : S x = some (.ins C [])) (q : Q .non (put S x (fraC C k))) : Hd (spFI C) [.ref x, .int k.w, .int k.i, .int k.al, .int k.hy, .int k.tw, .int k.ri, .int k.lo] S Q := Hd.mk ⟨x, k, rfl, h, q⟩
theorem ok_Frame_body (T : Txt K mg ec) : ∀ (f : Addr) (cdv : Value) (A : Around) (outer : List Env) (s : Shared) (H : Hp) (E : XK), Room 0 (A.deeper (envOfC "Frame.__init__" (defScope s_Frame___init__) s.heap.objs.size f cdv)) →
      ∃ t tw, PSs (cxOf CX0 P w K mg base ["self", "height", "columns", "rule", "under", "wait", "late", "uneven"] "Frame.__init__" (defScope s_Frame___init__) f cdv A outer s H E).nox (defBody s_Frame___init__) t ∧ LS K H t tw ∧ ∀ ws S Q, spFI ec.Frame ws S Q → tw { nx := fun _ S' => FgI Q .non S', rt := FgI Q } (startW ["self", "height", "columns", "rule", "under", "wait", "late", "uneven"] ws) S := fun f cdv A outer s H E hr => ⟨_, _,
    (pss_cons (k_sfld K (pv 0) (pv 1))
      (pss_cons (k_sfld K (pv 0) (pv 2))
      (pss_cons (k_sfld K (pv 0) (pv 3))
      (pss_cons (k_sfld K (pv 0) (pv 4))
      (pss_cons (k_sfld K (pv 0) (pv 5))
      (pss_cons (k_sfld K (pv 0) (pv 6))
      (pss_one (k_sfld K (pv 0) (pv 7))))))))), inferInstance, by
    rintro ws S Q ⟨x, k, rfl, hx, q⟩
    walk_at "w"
    refine ⟨_, _, hx, T.fl_Frame_height, by show 0 < 1000; decide, ?_⟩
    walk_at "w"
    refine ⟨_, _, put_same, T.fl_Frame_columns, by show 1 < 1000; decide, ?_⟩
    walk_at "w"
    refine ⟨_, _, put_same, T.fl_Frame_rule, by show 2 < 1000; decide, ?_⟩
    walk_at "w"
    refine ⟨_, _, put_same, T.fl_Frame_under, by show 3 < 1000; decide, ?_⟩
    walk_at "w"
    refine ⟨_, _, put_same, T.fl_Frame_wait, by show 4 < 1000; decide, ?_⟩
    walk_at "w"
    refine ⟨_, _, put_same, T.fl_Frame_late, by show 5 < 1000; decide, ?_⟩
    walk_at "w"
    refine ⟨_, _, put_same, T.fl_Frame_uneven, by show 6 < 1000; decide, ?_⟩
    refine fg_here ?_
    rw [put_put, put_put, put_put, put_put, put_put, put_put, fra_put]
    exact q⟩
def kwsF : List (Str × KC) := [("columns", .i 1), ("rule", .i 4), ("under", .i 4), ("wait", .i 1), ("late", .i 50), ("uneven", .i 1)]
theorem ok_Frame_k6 (T : Txt K mg ec) (d : InitK K ec.Frame "Frame.__init__" s_Frame___init__ kwsF) : CalK P w K mg base 1 ec.Frame 1 ["columns", "rule", "under", "wait", "late", "uneven"] [] (spFI ec.Frame) :=
  calK d sc_Frame___init__ (fun ws S Q ⟨x, k, e, _⟩ => by rw [e]; rfl) (ok_Frame_body T) 1 _ [] (by decide) (fun _ h => by cases h) (fun D doc pm an cdv ct us mv ws l1 l2 l3 => by
    match us, mv, ws, l1, l2, l3 with
    | [a, b], [], [c1, c2, c3, c4, c5, c6], _, _, _ => rfl)
theorem ok_Frame_k0 (T : Txt K mg ec) (d : InitK K ec.Frame "Frame.__init__" s_Frame___init__ kwsF) : CalK P w K mg base 1 ec.Frame 1 [] [.i 1, .i 4, .i 4, .i 1, .i 50, .i 1] (spFI ec.Frame) :=
  calK d sc_Frame___init__ (fun ws S Q ⟨x, k, e, _⟩ => by rw [e]; rfl) (ok_Frame_body T) 1 [] kwsF (by decide) (fun _ h => h) (fun D doc pm an cdv ct us mv ws l1 l2 l3 => by
    match us, mv, ws, l1, l2, l3 with
    | [a, b], [c1, c2, c3, c4, c5, c6], [], _, _, _ => exact ⟨_, _, _, _, _, _, rfl, rfl, _, _, _, _, _, _, rfl, rfl, _, _, _, _, _, _, rfl, rfl, _, _, _, _, _, _, rfl, rfl, _, _, _, _, _, _, rfl, rfl, _, _, _, _, _, _, rfl, rfl, rfl⟩)
def spOfF (C : Addr) : SpW := fun ws S Q => ∃ k : FK, ws = [k.key] ∧ ∀ z, S z = none → Q (.ref z) (put S z (fraC C k))
theorem ok_Frame_of (T : Txt K mg ec) (c_Frame_k6 : CalK P w K mg base 1 ec.Frame 1 ["columns", "rule", "under", "wait", "late", "uneven"] [] (Hd (spFI ec.Frame))) (d : StatAt K ec.Frame "of" "Frame.of" s_Frame_of ["key"]) : CalS P w K mg base 3 ec.Frame "of" (spOfF ec.Frame) :=
  calS d sc_Frame_of (fun ws S Q ⟨k, e, _⟩ => by rw [e]; rfl) fun f cdv A outer s H E hr => ⟨_, _,
    (pss_cons (ps_asg (pv 0) (k_gtup K (n := 7) rfl (pgs_cons (pg_name (i := 1) sc_Frame_of.nd rfl (Or.inl rfl)) (pgs_cons (pg_name (i := 2) sc_Frame_of.nd rfl (Or.inl rfl)) (pgs_cons (pg_name (i := 3) sc_Frame_of.nd rfl (Or.inl rfl)) (pgs_cons (pg_name (i := 4) sc_Frame_of.nd rfl (Or.inl rfl)) (pgs_cons (pg_name (i := 5) sc_Frame_of.nd rfl (Or.inl rfl)) (pgs_cons (pg_name (i := 6) sc_Frame_of.nd rfl (Or.inl rfl)) (pgs_cons (pg_name (i := 7) sc_Frame_of.nd rfl (Or.inl rfl)) pgs_nil)))))))))
      (pss_one (ps_ret (k_makeK K c_Frame_k6 T.gm_Frame hr (by decide) rfl (pa_cons (pv 1) pa_nil) (pk_cons (pv 2) (pk_cons (pv 3) (pk_cons (pv 4) (pk_cons (pv 5) (pk_cons (pv 6) (pk_cons (pv 7) pk_nil)))))))))), inferInstance, by
    rintro ws S Q ⟨k, rfl, q⟩
    walk_at "w"
    refine ⟨rfl, rfl, ?_⟩
    walk_at "w"
    refine ⟨rfl, rfl, ?_⟩
    intro z hz
    refine fi_go put_same ?_
    refine ⟨rfl, ?_⟩
    rw [put_put]
    exact fg_here (q z hz)⟩
end
end K62
set_option Elab.async false
set_option linter.all false
set_option maxRecDepth 100000
set_option maxHeartbeats 4000000
set_option synthInstance.maxHeartbeats 4000000
set_option synthInstance.maxSize 100000
namespace K62
open PySem PySem.Spec PyProof.Rows L2 Wl
local macro_rules | `(tactic| walk_at "w") => `(tactic| (conv => whnf))
/-! what a store holds -/
local macro_rules | `(tactic| walk_at "ne") => `(tactic| first | assumption | (apply Ne.symm; assumption) | exact ne_free (by assumption) (by assumption) | exact (ne_free (by assumption) (by assumption)).symm | exact Pl.ne (by assumption) (by assumption) | exact (Pl.ne (by assumption) (by assumption)).symm)
local macro_rules | `(tactic| walk_at "s") => `(tactic| first
  | exact put_same
  | assumption
  | (refine (put_ne ?_).trans ?_; (· walk_at "ne"); (· walk_at "s")))
/-! a side condition -/
local macro_rules | `(tactic| walk_at "c") => `(tactic| first
  | exact Or.inl (Or.inl ⟨by omega, by omega⟩)
  | exact Or.inl (Or.inr ⟨by omega, by omega⟩)
  | exact Or.inl ⟨by omega, by omega⟩
  | exact Or.inl ⟨rfl, _, by walk_at "s"⟩
  | rfl
  | omega
  | decide
  | exact Nat.le_trans (by omega) sizeLine_ge)
/-! one question is answered, if the answer is plain -/
local macro_rules | `(tactic| walk_at "g1") => `(tactic| first
  | refine ⟨fun _ => ?_, fun h => absurd (show true = false from h) (by decide)⟩
  | refine ⟨fun h => absurd (show false = true from h) Bool.false_ne_true, fun _ => ?_⟩
  | refine ⟨_, by walk_at "s", ?_⟩
  | refine ⟨_, _, by walk_at "s", by walk_at "s", ?_⟩
  | refine ⟨_, by walk_at "s", by simpa using (by omega), ?_⟩
  | refine ⟨_, rfl, ?_⟩
  | refine ⟨_, _, rfl, (by first | exact isTy_tt | exact isTy_ii | exact isTy_ll | exact isTy_ss | exact isTy_ib | exact isTy_tb | exact isTy_ti | exact isTy_ts | exact isTy_tl | exact isTy_lb | exact isTy_li | exact isTy_ls | exact isTy_lt | exact isTy_sb | exact isTy_si | exact isTy_st | exact isTy_sl | exact isTy_is | exact isTy_it | exact isTy_il | exact isTy_bi | exact isTy_bs | exact isTy_bb | exact isTy_nb | exact isTy_ni | exact isTy_ns | exact isTy_nt | exact isTy_nl | exact isTy_bt | exact isTy_bl | exact isTy_nd | exact isTy_td | exact isTy_ld | exact isTy_sd | exact isTy_id | exact isTy_bd | exact isTy_dd | exact isTy_db | exact isTy_di | exact isTy_ds | exact isTy_dt | exact isTy_dl), ?_⟩
  | refine ⟨_, _, tyName_lst (by walk_at "s"), (by first | exact isTy_ll | exact isTy_lb | exact isTy_li | exact isTy_ls | exact isTy_lt), ?_⟩
  | refine if_q ?_
  | refine ⟨by walk_at "c", ?_⟩)
local macro_rules | `(tactic| walk_at "go") => `(tactic| (walk_at "w"; repeat (walk_at "g1"; walk_at "w")))
/-! a branch that cannot be -/
local macro_rules | `(tactic| walk_at "two") => `(tactic| refine ⟨fun h => ?_, fun h => ?_⟩)
section
variable {P : Program} {w : World} {K : PySem.W.Frag} {mg : Str → Option Value} {base : Heap} {ec : Cls}
/-! a galley, and its sums -/
structure Ln where
  h : Int
  o : Int
  c : Bool
  ns : List Int
  fs : List Int
def Ln.v (l : Ln) : W := .tup [.int l.h, .int l.o, .bl l.c, .tup (l.ns.map W.int), .tup (l.fs.map W.int)]
def galT (g : List Ln) : W := .tup (g.map Ln.v)
def runL (xs : List Int) : List Int := (List.range (xs.length + 1)).map fun i => (xs.take i).sum
theorem runL_len (xs : List Int) : (runL xs).length = xs.length + 1 := by unfold runL; rw [List.length_map, List.length_range]
theorem runL_get {xs : List Int} {i : Nat} (h : i ≤ xs.length) : (runL xs)[i]? = some (xs.take i).sum := by
  unfold runL
  rw [List.getElem?_map, List.getElem?_range (by omega)]
  rfl
theorem sum_take_succ {xs : List Int} {i : Nat} {x : Int} (h : xs[i]? = some x) : (xs.take (i + 1)).sum = (xs.take i).sum + x := by
  rw [List.take_add_one, h, List.sum_append]
  show _ + (x + 0) = _
  omega
theorem run_at {xs : List Int} {i : Nat} (h : i ≤ xs.length) : atI ((runL xs).map W.int) (i : Int) = some (.int (xs.take i).sum) := atI_nat (by rw [List.getElem?_map, runL_get h]; rfl)
theorem atI_last {ws : List W} {x : W} : atI (ws ++ [x]) (-1) = some x := by
  have e : ixN (ws ++ [x]).length (-1) = some ws.length := by
    unfold ixN
    rw [if_neg (by decide), List.length_append, if_pos (by show -((ws.length + 1 : Nat) : Int) ≤ -1; omega)]
    exact congrArg some (by show (-1 + ((ws.length + 1 : Nat) : Int)).toNat = _; omega)
  unfold atI
  rw [e]
  show (ws ++ [x])[ws.length]? = _
  rw [List.getElem?_append_right (Nat.le_refl _), Nat.sub_self]
  rfl
def spRn : SpW := fun ws S Q => ∃ (a : Addr) (xs : List Int), ws = [.ref a] ∧ S a = some (.lst (xs.map W.int)) ∧ xs.length ≤ 10000 ∧ ∀ L S', S' L = some (.lst ((runL xs).map W.int)) → S L = none → KpL [] S S' → Q (.ref L) S'
theorem rn_go {a : Addr} {xs : List Int} {S : Sto} {Q : WK} (h : S a = some (.lst (xs.map W.int))) (hl : xs.length ≤ 10000) (q : ∀ L S', S' L = some (.lst ((runL xs).map W.int)) → S L = none → KpL [] S S' → Q (.ref L) S') : Hd spRn [.ref a] S Q := Hd.mk ⟨a, xs, rfl, h, hl, q⟩
theorem ok__running (T : Txt K mg ec) (d : DefAt K mg "_running" s__running ["numbers"]) : CalW P w K mg base 1 "_running" spRn :=
  calDI d sc__running (fun ws S Q ⟨a, xs, e, _⟩ => by rw [e]; rfl) fun f cdv A outer s H E hr => ⟨_, _,
    (pss_cons (ps_set (i := 1) sc__running.nd rfl (Or.inl rfl) (pe_lst (pa_cons pe_int pa_nil)))
      (pss_cons (ps_for PassesOwn.never rfl (k_any K (pv 0)) (pg_name (i := 2) sc__running.nd rfl (Or.inl rfl))
       (pss_one (ps_expr (k_bm K PySem.F.plainAttrs_list PySem.F.slot_list_append PySem.F.type_list_append mt_append (pv 1) (pa_cons (pe_op (k_addB K) (pe_ix (k_ix K) (pv 1) (pe_un un_neg pe_int) (fun _ _ => rfl)) (pv 2)) pa_nil)))))
      (pss_one (ps_ret (pv 1))))), inferInstance, by
    rintro ws S Q ⟨a, xs, rfl, ha, hl, q⟩
    walk_at "w"
    intro L hL
    have hLa : L ≠ a := ne_free ha hL
    walk_at "w"
    refine ⟨_, (put_ne hLa.symm).trans ha, ?_⟩
    refine for_q (fun i ρ' S' => i ≤ xs.length ∧ ∃ (a2 : Option W), ρ' = [some (.ref a), some (.ref L), a2] ∧ S' = put S L (.lst (((List.range (i + 1)).map fun j => (xs.take j).sum).map W.int)))
      ⟨Nat.zero_le _, _, rfl, rfl⟩ (fun i ρ' S' h => by obtain ⟨_, _, _, rfl⟩ := h; exact (put_ne hLa.symm).trans ha) ?_ ?_
    · rintro i w ρ' S' e ⟨hi, a2, rfl, rfl⟩
      rw [List.getElem?_map] at e
      obtain ⟨x, ex, rfl⟩ : ∃ x : Int, xs[i]? = some x ∧ W.int x = w := by
        cases h : xs[i]? with
        | none => rw [h] at e; cases e
        | some x => rw [h] at e; exact ⟨x, rfl, Option.some.inj e⟩
      have hi2 := (List.getElem?_eq_some_iff.mp ex).1
      walk_at "w"
      refine ⟨.inl ⟨rfl, _, put_same⟩, ?_⟩
      walk_at "w"
      refine ⟨_, put_same, ?_⟩
      refine rdAt_ok (w := .int (xs.take i).sum) ?_ ?_
      · rw [List.range_succ, List.map_append, List.map_append]
        exact atI_last
      walk_at "w"
      refine ⟨_, put_same, ?_, hi2, _, rfl, ?_⟩
      · rw [List.length_map, List.length_map, List.length_range]
        exact Nat.lt_of_lt_of_le (show i + 1 < 20000 by omega) (by decide)
      · rw [put_put, List.range_succ (n := i + 1), List.map_append, List.map_append]
        show _ = put S L (.lst (_ ++ [W.int (xs.take (i + 1)).sum]))
        rw [sum_take_succ ex]
    · rintro ρ' S' ⟨hi, a2, rfl, rfl⟩
      walk_at "w"
      rw [List.length_map]
      exact fg_here (q L _ put_same hL ((KpL.refl [] S).new hL))⟩
end
end K62
set_option Elab.async false
set_option linter.all false
set_option maxRecDepth 100000
set_option maxHeartbeats 4000000
set_option synthInstance.maxHeartbeats 4000000
set_option synthInstance.maxSize 100000
namespace K62
open PySem PySem.Spec PyProof.Rows L2 Wl
local macro_rules | `(tactic| walk_at "w") => `(tactic| (conv => whnf))
/-! what a store holds -/
local macro_rules | `(tactic| walk_at "ne") => `(tactic| first | assumption | (apply Ne.symm; assumption) | exact ne_free (by assumption) (by assumption) | exact (ne_free (by assumption) (by assumption)).symm | exact Pl.ne (by assumption) (by assumption) | exact (Pl.ne (by assumption) (by assumption)).symm)
local macro_rules | `(tactic| walk_at "s") => `(tactic| first
  | exact put_same
  | assumption
  | (refine (put_ne ?_).trans ?_; (· walk_at "ne"); (· walk_at "s")))
/-! a side condition -/
local macro_rules | `(tactic| walk_at "c") => `(tactic| first
  | exact Or.inl (Or.inl ⟨by omega, by omega⟩)
  | exact Or.inl (Or.inr ⟨by omega, by omega⟩)
  | exact Or.inl ⟨by omega, by omega⟩
  | exact Or.inl ⟨rfl, _, by walk_at "s"⟩
  | rfl
  | omega
  | decide
  | exact Nat.le_trans (by omega) sizeLine_ge)
/-! one question is answered, if the answer is plain -/
local macro_rules | `(tactic| walk_at "g1") => `(tactic| first
  | refine ⟨fun _ => ?_, fun h => absurd (show true = false from h) (by decide)⟩
  | refine ⟨fun h => absurd (show false = true from h) Bool.false_ne_true, fun _ => ?_⟩
  | refine ⟨_, by walk_at "s", ?_⟩
  | refine ⟨_, _, by walk_at "s", by walk_at "s", ?_⟩
  | refine ⟨_, by walk_at "s", by simpa using (by omega), ?_⟩
  | refine ⟨_, rfl, ?_⟩
  | refine ⟨_, _, rfl, (by first | exact isTy_tt | exact isTy_ii | exact isTy_ll | exact isTy_ss | exact isTy_ib | exact isTy_tb | exact isTy_ti | exact isTy_ts | exact isTy_tl | exact isTy_lb | exact isTy_li | exact isTy_ls | exact isTy_lt | exact isTy_sb | exact isTy_si | exact isTy_st | exact isTy_sl | exact isTy_is | exact isTy_it | exact isTy_il | exact isTy_bi | exact isTy_bs | exact isTy_bb | exact isTy_nb | exact isTy_ni | exact isTy_ns | exact isTy_nt | exact isTy_nl | exact isTy_bt | exact isTy_bl | exact isTy_nd | exact isTy_td | exact isTy_ld | exact isTy_sd | exact isTy_id | exact isTy_bd | exact isTy_dd | exact isTy_db | exact isTy_di | exact isTy_ds | exact isTy_dt | exact isTy_dl), ?_⟩
  | refine ⟨_, _, tyName_lst (by walk_at "s"), (by first | exact isTy_ll | exact isTy_lb | exact isTy_li | exact isTy_ls | exact isTy_lt), ?_⟩
  | refine if_q ?_
  | refine ⟨by walk_at "c", ?_⟩)
local macro_rules | `(tactic| walk_at "go") => `(tactic| (walk_at "w"; repeat (walk_at "g1"; walk_at "w")))
/-! a branch that cannot be -/
local macro_rules | `(tactic| walk_at "two") => `(tactic| refine ⟨fun h => ?_, fun h => ?_⟩)
section
variable {P : Program} {w : World} {K : PySem.W.Frag} {mg : Str → Option Value} {base : Heap} {ec : Cls}
theorem lc_filD {α : Type} (F : α → W) (rs : List α) (r : α → StW) (p : α → Bool) (f : α → W) {g : TGW} {tt : TTW} {te : TEW} {vs : List Nat} {ρ : StW} {Q : WK} {ok : Sto → Prop} {S1 : Sto} (hl : rs.length ≤ 100000) (hok : ∀ (D : Addr) (acc : List W), S1 D = none → ok (put S1 D (.lst acc)))
    (hg : ∀ (x : α) (S : Sto) (R : StW → Sto → Prop), x ∈ rs → R (r x) S → g (F x) (wipeW ρ vs) S R)
    (ht : ∀ (x : α) (D : Addr) (acc : List W), x ∈ rs → S1 D = none → EvW tt (r x) (put S1 D (.lst acc)) (p x))
    (he : ∀ (x : α) (D : Addr) (acc : List W), x ∈ rs → p x = true → S1 D = none → ∀ Q' : WK, Q' (f x) (put S1 D (.lst acc)) → te (r x) (put S1 D (.lst acc)) Q')
    (hd : ∀ (D : Addr), S1 D = none → Q (.ref D) (put S1 D (.lst ((rs.filter p).map f)))) : LcQ g tt te vs ρ Q (rs.map F) ok S1 := by
  refine lc_q fun D hD => ⟨fun i acc S' => i ≤ rs.length ∧ acc = ((rs.take i).filter p).map f ∧ S' = put S1 D (.lst acc), ⟨Nat.zero_le _, rfl, rfl⟩, ?_, ?_, ?_⟩
  · rintro i acc S' ⟨_, _, rfl⟩
    exact hok D acc hD
  · rintro i w acc S' e ⟨_, ha, rfl⟩
    obtain ⟨x, ex, rfl⟩ : ∃ x, rs[i]? = some x ∧ F x = w := by
      rw [List.getElem?_map] at e
      cases hc : rs[i]? with
      | none => rw [hc] at e; cases e
      | some x => rw [hc] at e; exact ⟨x, rfl, Option.some.inj e⟩
    have hm := List.mem_of_getElem? ex
    have hi : i < rs.length := (List.getElem?_eq_some_iff.mp ex).1
    have tk : rs.take (i + 1) = rs.take i ++ [x] := by rw [List.take_add_one, ex]; rfl
    refine hg x _ _ hm ?_
    refine ht x D acc hm hD _ ⟨fun hb => he x D acc hm hb hD _ ⟨put_same, ?_, ?_⟩, fun hb => ⟨hi, ?_, rfl⟩⟩
    · rw [ha, List.length_map]
      refine Nat.lt_of_le_of_lt (Nat.le_trans (List.length_filter_le _ _) (by rw [List.length_take]; exact Nat.min_le_left _ _)) (Nat.lt_of_lt_of_le (show i < 200000 by omega) (by decide))
    · refine ⟨hi, ?_, put_put⟩
      rw [tk, List.filter_append, List.map_append, ha]
      simp [hb]
    · rw [tk, List.filter_append, List.map_append, ha]
      simp [hb]
  · rintro acc S' ⟨_, ha, rfl⟩
    rw [List.length_map, List.take_of_length_le (Nat.le_refl _)] at ha
    rw [ha]
    exact hd D hD
theorem lc_mapD {α : Type} (F : α → W) (rs : List α) (f : α → W) {j : Nat} {te : TEW} {vs : List Nat} {ρ : StW} {Q : WK} {ok : Sto → Prop} {S1 : Sto} (hl : rs.length ≤ 100000) (hok : ∀ (D : Addr) (acc : List W), S1 D = none → ok (put S1 D (.lst acc)))
    (he : ∀ (x : α) (D : Addr) (acc : List W), x ∈ rs → S1 D = none → ∀ Q' : WK, Q' (f x) (put S1 D (.lst acc)) → te ((wipeW ρ vs).set j (some (F x))) (put S1 D (.lst acc)) Q')
    (hd : ∀ (D : Addr), S1 D = none → Q (.ref D) (put S1 D (.lst (rs.map f)))) : LcQ (wName j) wYes te vs ρ Q (rs.map F) ok S1 :=
  lc_filD F rs (fun x => (wipeW ρ vs).set j (some (F x))) (fun _ => true) f hl hok (fun _ _ _ _ h => h) (fun _ _ _ _ _ => fun Q q => q) (fun x D acc hx _ hD => he x D acc hx hD) (fun D hD => by rw [List.filter_eq_self.mpr (fun _ _ => rfl)]; exact hd D hD)
/-- the numbers of a galley -/
def hsG (g : List Ln) : List Int := g.map fun l => l.h
def osG (g : List Ln) : List Int := g.map fun l => l.o
def nsG (g : List Ln) : List Int := g.map fun l => l.ns.sum
def nnG (g : List Ln) : List Int := g.map fun l => (l.ns.length : Int)
def nfG (g : List Ln) : List Int := g.map fun l => (l.fs.length : Int)
def fsG (g : List Ln) : List Int := g.flatMap fun l => l.fs
structure SmA where
  a0 : Addr
  a1 : Addr
  a2 : Addr
  a3 : Addr
  a4 : Addr
  a5 : Addr
  a6 : Addr
def SmA.fl (a : SmA) : List (Str × W) := [("_cuts", .ref a.a0), ("_heights", .ref a.a1), ("_spaces", .ref a.a2), ("_notes", .ref a.a3), ("_many_notes", .ref a.a4), ("_many_floats", .ref a.a5), ("_floats", .ref a.a6)]
/-- an object Sums of a galley -/
structure SmAt (C : Addr) (S : Sto) (x : Addr) (g : List Ln) (a : SmA) : Prop where
  hx : S x = some (.ins C a.fl)
  h0 : S a.a0 = some (.lst (g.map fun l => W.bl l.c))
  h1 : S a.a1 = some (.lst ((runL (hsG g)).map W.int))
  h2 : S a.a2 = some (.lst ((runL (osG g)).map W.int))
  h3 : S a.a3 = some (.lst ((runL (nsG g)).map W.int))
  h4 : S a.a4 = some (.lst ((runL (nnG g)).map W.int))
  h5 : S a.a5 = some (.lst ((runL (nfG g)).map W.int))
  h6 : S a.a6 = some (.lst ((runL (fsG g)).map W.int))
theorem SmAt.keep {C x : Addr} {S S' : Sto} {g : List Ln} {a : SmA} (h : SmAt C S x g a) (k : ∀ b c, S b = some c → S' b = some c) : SmAt C S' x g a :=
  ⟨k _ _ h.hx, k _ _ h.h0, k _ _ h.h1, k _ _ h.h2, k _ _ h.h3, k _ _ h.h4, k _ _ h.h5, k _ _ h.h6⟩
def spSi (C : Addr) : SpW := fun ws S Q => ∃ (x : Addr) (g : List Ln), ws = [.ref x, galT g] ∧ S x = some (.ins C []) ∧ g.length ≤ 1000 ∧ (fsG g).length ≤ 5000 ∧ ∀ (a : SmA) S', SmAt C S' x g a → KpL [x] S S' → Q .non S'
theorem si_go {C x : Addr} {g : List Ln} {S : Sto} {Q : WK} (h : S x = some (.ins C [])) (hl : g.length ≤ 1000) (hf : (fsG g).length ≤ 5000) (q : ∀ (a : SmA) S', SmAt C S' x g a → KpL [x] S S' → Q .non S') : Hd (spSi C) [.ref x, galT g] S Q := Hd.mk ⟨x, g, rfl, h, hl, hf, q⟩
theorem ok_Sums_init (T : Txt K mg ec) (c__running : CalW P w K mg base 1 "_running" (Hd spRn)) (d : InitAt K ec.Sums "Sums.__init__" s_Sums___init__ ["self", "galley"]) : CalI P w K mg base 2 ec.Sums (spSi ec.Sums) :=
  calI d sc_Sums___init__ (fun ws S Q ⟨x, g, e, _⟩ => by rw [e]; rfl) fun f cdv A outer s H E hr => ⟨_, _,
    (pss_cons (k_sfld K (pv 0) (pe_lc (own := [("line", 2)]) rfl sc_Sums___init__.nd (k_any K (pv 1)) (blkOk_by (own := [("line", 2)]) (N := ["self", "galley", "line", "height"]) (sc := defScope s_Sums___init__) (by decide +kernel)) (fun _ _ _ _ _ => (pg_name (i := 2) sc_Sums___init__.nd rfl (Or.inl rfl))) (fun _ _ _ _ _ => pts_nil) (fun _ _ _ _ _ => (pe_ix (k_ix K) (pv 2) pe_int (fun _ _ => rfl)))))
      (pss_cons (k_sfld K (pv 0) (k_w K c__running hr (by decide) rfl (pa_cons (pe_lc (own := [("line", 2)]) rfl sc_Sums___init__.nd (k_any K (pv 1)) (blkOk_by (own := [("line", 2)]) (N := ["self", "galley", "line", "height"]) (sc := defScope s_Sums___init__) (by decide +kernel)) (fun _ _ _ _ _ => (pg_name (i := 2) sc_Sums___init__.nd rfl (Or.inl rfl))) (fun _ _ _ _ _ => pts_nil) (fun _ _ _ _ _ => (pe_ix (k_ix K) (pv 2) pe_int (fun _ _ => rfl)))) pa_nil)))
      (pss_cons (k_sfld K (pv 0) (k_w K c__running hr (by decide) rfl (pa_cons (pe_lc (own := [("line", 2)]) rfl sc_Sums___init__.nd (k_any K (pv 1)) (blkOk_by (own := [("line", 2)]) (N := ["self", "galley", "line", "height"]) (sc := defScope s_Sums___init__) (by decide +kernel)) (fun _ _ _ _ _ => (pg_name (i := 2) sc_Sums___init__.nd rfl (Or.inl rfl))) (fun _ _ _ _ _ => pts_nil) (fun _ _ _ _ _ => (pe_ix (k_ix K) (pv 2) pe_int (fun _ _ => rfl)))) pa_nil)))
      (pss_cons (k_sfld K (pv 0) (k_w K c__running hr (by decide) rfl (pa_cons (pe_lc (own := [("line", 2)]) rfl sc_Sums___init__.nd (k_any K (pv 1)) (blkOk_by (own := [("line", 2)]) (N := ["self", "galley", "line", "height"]) (sc := defScope s_Sums___init__) (by decide +kernel)) (fun _ _ _ _ _ => (pg_name (i := 2) sc_Sums___init__.nd rfl (Or.inl rfl))) (fun _ _ _ _ _ => pts_nil) (fun _ _ _ _ _ => (pe_callB (k_sumA K rfl) (by rfl) T.b_sum (by decide +kernel) (pa_cons (pe_ix (k_ix K) (pv 2) pe_int (fun _ _ => rfl)) pa_nil)))) pa_nil)))
      (pss_cons (k_sfld K (pv 0) (k_w K c__running hr (by decide) rfl (pa_cons (pe_lc (own := [("line", 2)]) rfl sc_Sums___init__.nd (k_any K (pv 1)) (blkOk_by (own := [("line", 2)]) (N := ["self", "galley", "line", "height"]) (sc := defScope s_Sums___init__) (by decide +kernel)) (fun _ _ _ _ _ => (pg_name (i := 2) sc_Sums___init__.nd rfl (Or.inl rfl))) (fun _ _ _ _ _ => pts_nil) (fun _ _ _ _ _ => (pe_callB (k_len K) (by rfl) T.b_len (by decide +kernel) (pa_cons (pe_ix (k_ix K) (pv 2) pe_int (fun _ _ => rfl)) pa_nil)))) pa_nil)))
      (pss_cons (k_sfld K (pv 0) (k_w K c__running hr (by decide) rfl (pa_cons (pe_lc (own := [("line", 2)]) rfl sc_Sums___init__.nd (k_any K (pv 1)) (blkOk_by (own := [("line", 2)]) (N := ["self", "galley", "line", "height"]) (sc := defScope s_Sums___init__) (by decide +kernel)) (fun _ _ _ _ _ => (pg_name (i := 2) sc_Sums___init__.nd rfl (Or.inl rfl))) (fun _ _ _ _ _ => pts_nil) (fun _ _ _ _ _ => (pe_callB (k_len K) (by rfl) T.b_len (by decide +kernel) (pa_cons (pe_ix (k_ix K) (pv 2) pe_int (fun _ _ => rfl)) pa_nil)))) pa_nil)))
      (pss_one (k_sfld K (pv 0) (k_w K c__running hr (by decide) rfl (pa_cons (pe_lc2 (own := [("line", 2), ("height", 3)]) (vs1 := [3]) rfl sc_Sums___init__.nd (k_any K (pv 1)) (blkOk_by (own := [("line", 2), ("height", 3)]) (N := ["self", "galley", "line", "height"]) (sc := defScope s_Sums___init__) (by decide +kernel)) (by decide) (fun _ _ _ _ _ => (pg_name (i := 2) sc_Sums___init__.nd rfl (Or.inl rfl))) (fun _ _ _ _ _ => pts_nil) (fun _ _ _ _ _ => (k_any K (pe_ix (k_ix K) (pv 2) pe_int (fun _ _ => rfl)))) (fun _ _ _ _ _ => (pg_name (i := 3) sc_Sums___init__.nd rfl (Or.inl rfl))) (fun _ _ _ _ _ => pts_nil) (fun _ _ _ _ _ => (pv 3))) pa_nil)))))))))), inferInstance, by
    rintro ws S Q ⟨x, g, rfl, hx, hl, hfl, q⟩
    walk_at "w"
    refine lc_mapD Ln.v g (fun l => .bl l.c) (by omega) (fun _ _ _ => trivial) ?_ ?_
    · intro l D acc hm hD Q' q'
      walk_at "w"
      exact q'
    intro a0 ha0
    have hx0 : a0 ≠ x := ne_free hx ha0
    walk_at "w"
    refine ⟨_, _, (put_ne hx0.symm).trans hx, T.fl_Sums__cuts, by show 0 < 1000; decide, ?_⟩
    have x0 : (put (put S a0 (.lst (g.map fun l => W.bl l.c))) x (.ins ec.Sums (putFW "_cuts" (.ref a0) []))) x = some (.ins ec.Sums [("_cuts", .ref a0)]) := put_same
    have e0 : (put (put S a0 (.lst (g.map fun l => W.bl l.c))) x (.ins ec.Sums (putFW "_cuts" (.ref a0) []))) a0 = some (.lst (g.map fun l => W.bl l.c)) := (put_ne hx0).trans put_same
    have k0 : KpL [x] S (put (put S a0 (.lst (g.map fun l => W.bl l.c))) x (.ins ec.Sums (putFW "_cuts" (.ref a0) []))) := ((KpL.refl [x] S).new ha0).at (List.mem_singleton.mpr rfl)
    generalize put (put S a0 (.lst (g.map fun l => W.bl l.c))) x (.ins ec.Sums (putFW "_cuts" (.ref a0) [])) = S0 at x0 e0 k0
    walk_at "w"
    refine lc_mapD Ln.v g (fun l => .int ((fun l : Ln => l.h) l)) (by omega) (fun _ _ _ => trivial) ?_ ?_
    · intro l D acc hm hD Q' q'
      walk_at "w"
      exact q'
    intro d1 hd1
    refine rn_go (xs := hsG g) (by rw [put_same]; unfold hsG; rw [List.map_map]; rfl) (by unfold hsG; rw [List.length_map]; omega) fun a1 S1' e1 f1 r1 => ?_
    have kk1 : ∀ b c, S0 b = some c → S1' b = some c := fun b c hb => r1 b c (fun h => by cases h) ((put_ne (ne_free hb hd1).symm).trans hb)
    have hn1 : a1 ≠ x := ne_free ((put_ne (ne_free x0 hd1).symm).trans x0) f1
    walk_at "w"
    refine ⟨_, _, kk1 _ _ x0, T.fl_Sums__heights, by show 1 < 1000; decide, ?_⟩
    obtain ⟨S1, hS1⟩ : ∃ S'', S'' = put S1' x (.ins ec.Sums (putFW "_heights" (.ref a1) [("_cuts", .ref a0)])) := ⟨_, rfl⟩
    rw [← hS1]
    have x1 : S1 x = some (.ins ec.Sums [("_cuts", .ref a0), ("_heights", .ref a1)]) := by rw [hS1]; exact put_same
    have n1 : ∀ b c, b ≠ x → S0 b = some c → S1 b = some c := fun b c hb h => by rw [hS1, put_ne hb]; exact kk1 b c h
    have e1 : S1 a1 = some (.lst ((runL (hsG g)).map W.int)) := by rw [hS1, put_ne hn1]; exact e1
    have k1 : KpL [x] S S1 := fun b c hb h => n1 b c (fun e => hb (by rw [e]; exact List.mem_singleton.mpr rfl)) (k0 b c hb h)
    have e0 := n1 a0 _ hx0 e0
    clear hS1 kk1 n1 r1 f1 hd1
    clear x0 k0
    walk_at "w"
    refine lc_mapD Ln.v g (fun l => .int ((fun l : Ln => l.o) l)) (by omega) (fun _ _ _ => trivial) ?_ ?_
    · intro l D acc hm hD Q' q'
      walk_at "w"
      exact q'
    intro d2 hd2
    refine rn_go (xs := osG g) (by rw [put_same]; unfold osG; rw [List.map_map]; rfl) (by unfold osG; rw [List.length_map]; omega) fun a2 S2' e2 f2 r2 => ?_
    have kk2 : ∀ b c, S1 b = some c → S2' b = some c := fun b c hb => r2 b c (fun h => by cases h) ((put_ne (ne_free hb hd2).symm).trans hb)
    have hn2 : a2 ≠ x := ne_free ((put_ne (ne_free x1 hd2).symm).trans x1) f2
    walk_at "w"
    refine ⟨_, _, kk2 _ _ x1, T.fl_Sums__spaces, by show 2 < 1000; decide, ?_⟩
    obtain ⟨S2, hS2⟩ : ∃ S'', S'' = put S2' x (.ins ec.Sums (putFW "_spaces" (.ref a2) [("_cuts", .ref a0), ("_heights", .ref a1)])) := ⟨_, rfl⟩
    rw [← hS2]
    have x2 : S2 x = some (.ins ec.Sums [("_cuts", .ref a0), ("_heights", .ref a1), ("_spaces", .ref a2)]) := by rw [hS2]; exact put_same
    have n2 : ∀ b c, b ≠ x → S1 b = some c → S2 b = some c := fun b c hb h => by rw [hS2, put_ne hb]; exact kk2 b c h
    have e2 : S2 a2 = some (.lst ((runL (osG g)).map W.int)) := by rw [hS2, put_ne hn2]; exact e2
    have k2 : KpL [x] S S2 := fun b c hb h => n2 b c (fun e => hb (by rw [e]; exact List.mem_singleton.mpr rfl)) (k1 b c hb h)
    have e0 := n2 a0 _ hx0 e0
    have e1 := n2 a1 _ hn1 e1
    clear hS2 kk2 n2 r2 f2 hd2
    clear x1 k1
    walk_at "w"
    refine lc_mapD Ln.v g (fun l => .int ((fun l : Ln => l.ns.sum) l)) (by omega) (fun _ _ _ => trivial) ?_ ?_
    · intro l D acc hm hD Q' q'
      walk_at "w"
      refine ⟨l.ns, rfl, ?_⟩
      exact q'
    intro d3 hd3
    refine rn_go (xs := nsG g) (by rw [put_same]; unfold nsG; rw [List.map_map]; rfl) (by unfold nsG; rw [List.length_map]; omega) fun a3 S3' e3 f3 r3 => ?_
    have kk3 : ∀ b c, S2 b = some c → S3' b = some c := fun b c hb => r3 b c (fun h => by cases h) ((put_ne (ne_free hb hd3).symm).trans hb)
    have hn3 : a3 ≠ x := ne_free ((put_ne (ne_free x2 hd3).symm).trans x2) f3
    walk_at "w"
    refine ⟨_, _, kk3 _ _ x2, T.fl_Sums__notes, by show 3 < 1000; decide, ?_⟩
    obtain ⟨S3, hS3⟩ : ∃ S'', S'' = put S3' x (.ins ec.Sums (putFW "_notes" (.ref a3) [("_cuts", .ref a0), ("_heights", .ref a1), ("_spaces", .ref a2)])) := ⟨_, rfl⟩
    rw [← hS3]
    have x3 : S3 x = some (.ins ec.Sums [("_cuts", .ref a0), ("_heights", .ref a1), ("_spaces", .ref a2), ("_notes", .ref a3)]) := by rw [hS3]; exact put_same
    have n3 : ∀ b c, b ≠ x → S2 b = some c → S3 b = some c := fun b c hb h => by rw [hS3, put_ne hb]; exact kk3 b c h
    have e3 : S3 a3 = some (.lst ((runL (nsG g)).map W.int)) := by rw [hS3, put_ne hn3]; exact e3
    have k3 : KpL [x] S S3 := fun b c hb h => n3 b c (fun e => hb (by rw [e]; exact List.mem_singleton.mpr rfl)) (k2 b c hb h)
    have e0 := n3 a0 _ hx0 e0
    have e1 := n3 a1 _ hn1 e1
    have e2 := n3 a2 _ hn2 e2
    clear hS3 kk3 n3 r3 f3 hd3
    clear x2 k2
    walk_at "w"
    refine lc_mapD Ln.v g (fun l => .int ((fun l : Ln => (l.ns.length : Int)) l)) (by omega) (fun _ _ _ => trivial) ?_ ?_
    · intro l D acc hm hD Q' q'
      walk_at "w"
      rw [List.length_map]
      exact q'
    intro d4 hd4
    refine rn_go (xs := nnG g) (by rw [put_same]; unfold nnG; rw [List.map_map]; rfl) (by unfold nnG; rw [List.length_map]; omega) fun a4 S4' e4 f4 r4 => ?_
    have kk4 : ∀ b c, S3 b = some c → S4' b = some c := fun b c hb => r4 b c (fun h => by cases h) ((put_ne (ne_free hb hd4).symm).trans hb)
    have hn4 : a4 ≠ x := ne_free ((put_ne (ne_free x3 hd4).symm).trans x3) f4
    walk_at "w"
    refine ⟨_, _, kk4 _ _ x3, T.fl_Sums__many_notes, by show 4 < 1000; decide, ?_⟩
    obtain ⟨S4, hS4⟩ : ∃ S'', S'' = put S4' x (.ins ec.Sums (putFW "_many_notes" (.ref a4) [("_cuts", .ref a0), ("_heights", .ref a1), ("_spaces", .ref a2), ("_notes", .ref a3)])) := ⟨_, rfl⟩
    rw [← hS4]
    have x4 : S4 x = some (.ins ec.Sums [("_cuts", .ref a0), ("_heights", .ref a1), ("_spaces", .ref a2), ("_notes", .ref a3), ("_many_notes", .ref a4)]) := by rw [hS4]; exact put_same
    have n4 : ∀ b c, b ≠ x → S3 b = some c → S4 b = some c := fun b c hb h => by rw [hS4, put_ne hb]; exact kk4 b c h
    have e4 : S4 a4 = some (.lst ((runL (nnG g)).map W.int)) := by rw [hS4, put_ne hn4]; exact e4
    have k4 : KpL [x] S S4 := fun b c hb h => n4 b c (fun e => hb (by rw [e]; exact List.mem_singleton.mpr rfl)) (k3 b c hb h)
    have e0 := n4 a0 _ hx0 e0
    have e1 := n4 a1 _ hn1 e1
    have e2 := n4 a2 _ hn2 e2
    have e3 := n4 a3 _ hn3 e3
    clear hS4 kk4 n4 r4 f4 hd4
    clear x3 k3
    walk_at "w"
    refine lc_mapD Ln.v g (fun l => .int ((fun l : Ln => (l.fs.length : Int)) l)) (by omega) (fun _ _ _ => trivial) ?_ ?_
    · intro l D acc hm hD Q' q'
      walk_at "w"
      rw [List.length_map]
      exact q'
    intro d5 hd5
    refine rn_go (xs := nfG g) (by rw [put_same]; unfold nfG; rw [List.map_map]; rfl) (by unfold nfG; rw [List.length_map]; omega) fun a5 S5' e5 f5 r5 => ?_
    have kk5 : ∀ b c, S4 b = some c → S5' b = some c := fun b c hb => r5 b c (fun h => by cases h) ((put_ne (ne_free hb hd5).symm).trans hb)
    have hn5 : a5 ≠ x := ne_free ((put_ne (ne_free x4 hd5).symm).trans x4) f5
    walk_at "w"
    refine ⟨_, _, kk5 _ _ x4, T.fl_Sums__many_floats, by show 5 < 1000; decide, ?_⟩
    obtain ⟨S5, hS5⟩ : ∃ S'', S'' = put S5' x (.ins ec.Sums (putFW "_many_floats" (.ref a5) [("_cuts", .ref a0), ("_heights", .ref a1), ("_spaces", .ref a2), ("_notes", .ref a3), ("_many_notes", .ref a4)])) := ⟨_, rfl⟩
    rw [← hS5]
    have x5 : S5 x = some (.ins ec.Sums [("_cuts", .ref a0), ("_heights", .ref a1), ("_spaces", .ref a2), ("_notes", .ref a3), ("_many_notes", .ref a4), ("_many_floats", .ref a5)]) := by rw [hS5]; exact put_same
    have n5 : ∀ b c, b ≠ x → S4 b = some c → S5 b = some c := fun b c hb h => by rw [hS5, put_ne hb]; exact kk5 b c h
    have e5 : S5 a5 = some (.lst ((runL (nfG g)).map W.int)) := by rw [hS5, put_ne hn5]; exact e5
    have k5 : KpL [x] S S5 := fun b c hb h => n5 b c (fun e => hb (by rw [e]; exact List.mem_singleton.mpr rfl)) (k4 b c hb h)
    have e0 := n5 a0 _ hx0 e0
    have e1 := n5 a1 _ hn1 e1
    have e2 := n5 a2 _ hn2 e2
    have e3 := n5 a3 _ hn3 e3
    have e4 := n5 a4 _ hn4 e4
    clear hS5 kk5 n5 r5 f5 hd5
    clear x4 k4
    walk_at "w"
    refine lc2_q fun D hD => ⟨fun i acc S' => i ≤ g.length ∧ acc = (fsG (g.take i)).map W.int ∧ S' = put S5 D (.lst acc), ⟨Nat.zero_le _, rfl, rfl⟩, fun _ _ _ _ => trivial, ?_, ?_⟩
    · rintro i w acc S' e ⟨_, rfl, rfl⟩
      rw [List.getElem?_map] at e
      obtain ⟨l, el, rfl⟩ : ∃ l : Ln, g[i]? = some l ∧ l.v = w := by
        cases h : g[i]? with
        | none => rw [h] at e; cases e
        | some l => rw [h] at e; exact ⟨l, rfl, Option.some.inj e⟩
      have hi := (List.getElem?_eq_some_iff.mp el).1
      have eF : fsG (g.take (i + 1)) = fsG (g.take i) ++ l.fs := by
        unfold fsG
        rw [List.take_add_one, el, List.flatMap_append]
        show _ ++ (l.fs ++ []) = _
        rw [List.append_nil]
      have hF : (fsG (g.take i)).length + l.fs.length ≤ (fsG g).length := by
        have h1 : fsG g = fsG (g.take (i + 1)) ++ fsG (g.drop (i + 1)) := by
          unfold fsG
          rw [← List.flatMap_append, List.take_append_drop]
        rw [h1, eF, List.length_append, List.length_append]
        omega
      walk_at "w"
      refine ⟨fun _ => ?_, fun h => absurd (show true = false from h) (by decide)⟩
      walk_at "w"
      refine ⟨fun j acc1 S' => j ≤ l.fs.length ∧ acc1 = (fsG (g.take i) ++ l.fs.take j).map W.int ∧ S' = put S5 D (.lst acc1), ⟨Nat.zero_le _, by rw [List.take_zero, List.append_nil], rfl⟩, fun _ _ _ _ => trivial, ?_, ?_⟩
      · rintro j w1 acc1 S' e1 ⟨_, rfl, rfl⟩
        rw [List.getElem?_map] at e1
        obtain ⟨x, ex, rfl⟩ : ∃ x : Int, l.fs[j]? = some x ∧ W.int x = w1 := by
          cases h : l.fs[j]? with
          | none => rw [h] at e1; cases e1
          | some x => rw [h] at e1; exact ⟨x, rfl, Option.some.inj e1⟩
        have hj := (List.getElem?_eq_some_iff.mp ex).1
        walk_at "w"
        refine ⟨fun _ => ?_, fun h => absurd (show true = false from h) (by decide)⟩
        walk_at "w"
        refine ⟨put_same, ?_, hj, ?_, put_put⟩
        · rw [List.length_map, List.length_append, List.length_take]
          exact Nat.lt_of_lt_of_le (show _ < 20000 by omega) (by decide)
        · rw [List.take_add_one, ex, ← List.append_assoc, List.map_append, List.map_append, List.map_append]
          rfl
      · rintro acc1 S' ⟨_, rfl, rfl⟩
        rw [List.length_map, List.take_length, ← eF]
        exact ⟨hi, rfl, rfl⟩
    · rintro acc S' ⟨_, rfl, rfl⟩
      rw [List.length_map, List.take_length]
      walk_at "w"
      refine rn_go (xs := fsG g) put_same (by omega) fun a6 S6' e6 f6 r6 => ?_
      have kk6 : ∀ b c, S5 b = some c → S6' b = some c := fun b c hb => r6 b c (fun h => by cases h) ((put_ne (ne_free hb hD).symm).trans hb)
      have hn6 : a6 ≠ x := ne_free ((put_ne (ne_free x5 hD).symm).trans x5) f6
      walk_at "w"
      refine ⟨_, _, kk6 _ _ x5, T.fl_Sums__floats, by show 6 < 1000; decide, ?_⟩
      refine fg_here (q ⟨a0, a1, a2, a3, a4, a5, a6⟩ _ ⟨put_same, (put_ne hx0).trans (kk6 _ _ e0), (put_ne hn1).trans (kk6 _ _ e1), (put_ne hn2).trans (kk6 _ _ e2), (put_ne hn3).trans (kk6 _ _ e3), (put_ne hn4).trans (kk6 _ _ e4), (put_ne hn5).trans (kk6 _ _ e5), (put_ne hn6).trans e6⟩ ?_)
      intro b c hb h
      rw [put_ne (fun e => hb (by rw [e]; exact List.mem_singleton.mpr rfl))]
      exact kk6 b c (k5 b c hb h)⟩
end
end K62
set_option Elab.async false
set_option linter.all false
set_option maxRecDepth 100000
set_option maxHeartbeats 4000000
set_option synthInstance.maxHeartbeats 4000000
set_option synthInstance.maxSize 100000
namespace K62
open PySem PySem.Spec PyProof.Rows L2 Wl
local macro_rules | `(tactic| walk_at "w") => `(tactic| (conv => whnf))
/-! what a store holds -/
local macro_rules | `(tactic| walk_at "ne") => `(tactic| first | assumption | (apply Ne.symm; assumption) | exact ne_free (by assumption) (by assumption) | exact (ne_free (by assumption) (by assumption)).symm | exact Pl.ne (by assumption) (by assumption) | exact (Pl.ne (by assumption) (by assumption)).symm)
local macro_rules | `(tactic| walk_at "s") => `(tactic| first
  | exact put_same
  | assumption
  | (refine (put_ne ?_).trans ?_; (· walk_at "ne"); (· walk_at "s")))
/-! a side condition -/
local macro_rules | `(tactic| walk_at "c") => `(tactic| first
  | exact Or.inl (Or.inl ⟨by omega, by omega⟩)
  | exact Or.inl (Or.inr ⟨by omega, by omega⟩)
  | exact Or.inl ⟨by omega, by omega⟩
  | exact Or.inl ⟨rfl, _, by walk_at "s"⟩
  | rfl
  | omega
  | decide
  | exact Nat.le_trans (by omega) sizeLine_ge)
/-! one question is answered, if the answer is plain -/
local macro_rules | `(tactic| walk_at "g1") => `(tactic| first
  | refine ⟨fun _ => ?_, fun h => absurd (show true = false from h) (by decide)⟩
  | refine ⟨fun h => absurd (show false = true from h) Bool.false_ne_true, fun _ => ?_⟩
  | refine ⟨_, by walk_at "s", ?_⟩
  | refine ⟨_, _, by walk_at "s", by walk_at "s", ?_⟩
  | refine ⟨_, by walk_at "s", by simpa using (by omega), ?_⟩
  | refine ⟨_, rfl, ?_⟩
  | refine ⟨_, _, rfl, (by first | exact isTy_tt | exact isTy_ii | exact isTy_ll | exact isTy_ss | exact isTy_ib | exact isTy_tb | exact isTy_ti | exact isTy_ts | exact isTy_tl | exact isTy_lb | exact isTy_li | exact isTy_ls | exact isTy_lt | exact isTy_sb | exact isTy_si | exact isTy_st | exact isTy_sl | exact isTy_is | exact isTy_it | exact isTy_il | exact isTy_bi | exact isTy_bs | exact isTy_bb | exact isTy_nb | exact isTy_ni | exact isTy_ns | exact isTy_nt | exact isTy_nl | exact isTy_bt | exact isTy_bl | exact isTy_nd | exact isTy_td | exact isTy_ld | exact isTy_sd | exact isTy_id | exact isTy_bd | exact isTy_dd | exact isTy_db | exact isTy_di | exact isTy_ds | exact isTy_dt | exact isTy_dl), ?_⟩
  | refine ⟨_, _, tyName_lst (by walk_at "s"), (by first | exact isTy_ll | exact isTy_lb | exact isTy_li | exact isTy_ls | exact isTy_lt), ?_⟩
  | refine if_q ?_
  | refine ⟨by walk_at "c", ?_⟩)
local macro_rules | `(tactic| walk_at "go") => `(tactic| (walk_at "w"; repeat (walk_at "g1"; walk_at "w")))
/-! a branch that cannot be -/
local macro_rules | `(tactic| walk_at "two") => `(tactic| refine ⟨fun h => ?_, fun h => ?_⟩)
section
variable {P : Program} {w : World} {K : PySem.W.Frag} {mg : Str → Option Value} {base : Heap} {ec : Cls}
theorem sm_0 (a : SmA) : List.lookup ("_cuts" : Str) a.fl = some (.ref a.a0) := by rfl
theorem sm_1 (a : SmA) : List.lookup ("_heights" : Str) a.fl = some (.ref a.a1) := by rfl
theorem sm_2 (a : SmA) : List.lookup ("_spaces" : Str) a.fl = some (.ref a.a2) := by rfl
theorem sm_3 (a : SmA) : List.lookup ("_notes" : Str) a.fl = some (.ref a.a3) := by rfl
theorem sm_4 (a : SmA) : List.lookup ("_many_notes" : Str) a.fl = some (.ref a.a4) := by rfl
theorem sm_5 (a : SmA) : List.lookup ("_many_floats" : Str) a.fl = some (.ref a.a5) := by rfl
theorem sm_6 (a : SmA) : List.lookup ("_floats" : Str) a.fl = some (.ref a.a6) := by rfl
def sumT (xs : List Int) (i : Nat) : Int := (xs.take i).sum
theorem sumT_at {xs : List Int} {i : Nat} (h : i ≤ xs.length) : atI ((runL xs).map W.int) (i : Int) = some (.int (sumT xs i)) := run_at h
def mayC (g : List Ln) (i : Nat) : Bool := match g[i]? with
  | some l => l.c
  | none => true
def colH (g : List Ln) (s e : Nat) : Int := if s = e then 0 else sumT (hsG g) e - sumT (hsG g) s + sumT (osG g) e - sumT (osG g) (s + 1)
def notH (g : List Ln) (s e : Nat) (r : Int) : Int := if sumT (nnG g) s = sumT (nnG g) e then 0 else sumT (nsG g) e - sumT (nsG g) s + r
def floH (g : List Ln) (s e : Nat) (u : Int) : Int := if s = e then 0 else sumT (fsG g) e - sumT (fsG g) s + u
theorem hsG_len (g : List Ln) : (hsG g).length = g.length := by unfold hsG; rw [List.length_map]
theorem osG_len (g : List Ln) : (osG g).length = g.length := by unfold osG; rw [List.length_map]
theorem nsG_len (g : List Ln) : (nsG g).length = g.length := by unfold nsG; rw [List.length_map]
theorem nnG_len (g : List Ln) : (nnG g).length = g.length := by unfold nnG; rw [List.length_map]
theorem nfG_len (g : List Ln) : (nfG g).length = g.length := by unfold nfG; rw [List.length_map]
def spLL (C : Addr) : SpW := fun ws S Q => ∃ (x : Addr) (g : List Ln) (a : SmA) , ws = [.ref x] ∧ SmAt C S x g a ∧ Q (.int g.length) S
theorem ok_Sums_last_line (T : Txt K mg ec) (d : MethAt K ec.Sums "last_line" "Sums.last_line" s_Sums_last_line ["self"]) : CalM P w K mg base 1 ec.Sums "last_line" (spLL ec.Sums) :=
  calM d sc_Sums_last_line (fun ws S Q ⟨x, g, a, hE, _⟩ => by rw [hE]; rfl) fun f cdv A outer s0 H E hr => ⟨_, _,
    (pss_one (ps_ret (pe_callB (k_len K) (by rfl) T.b_len (by decide +kernel) (pa_cons (k_fld K (pv 0)) pa_nil)))), inferInstance, by
    rintro ws S Q ⟨x, g, a, rfl, h, q⟩
    walk_at "w"
    refine ⟨_, _, _, h.hx, T.fl_Sums__cuts, sm_0 a, ?_⟩
    walk_at "w"
    refine ⟨_, h.h0, ?_⟩
    rw [List.length_map]
    exact fg_here q⟩
def spLF (C : Addr) : SpW := fun ws S Q => ∃ (x : Addr) (g : List Ln) (a : SmA) , ws = [.ref x] ∧ SmAt C S x g a ∧ Q (.int (fsG g).length) S
theorem ok_Sums_last_float (T : Txt K mg ec) (d : MethAt K ec.Sums "last_float" "Sums.last_float" s_Sums_last_float ["self"]) : CalM P w K mg base 1 ec.Sums "last_float" (spLF ec.Sums) :=
  calM d sc_Sums_last_float (fun ws S Q ⟨x, g, a, hE, _⟩ => by rw [hE]; rfl) fun f cdv A outer s0 H E hr => ⟨_, _,
    (pss_one (ps_ret (pe_op op_sub (pe_callB (k_len K) (by rfl) T.b_len (by decide +kernel) (pa_cons (k_fld K (pv 0)) pa_nil)) pe_int))), inferInstance, by
    rintro ws S Q ⟨x, g, a, rfl, h, q⟩
    walk_at "w"
    refine ⟨_, _, _, h.hx, T.fl_Sums__floats, sm_6 a, ?_⟩
    walk_at "w"
    refine ⟨_, h.h6, ?_⟩
    walk_at "w"
    rw [List.length_map, runL_len, show (((fsG g).length + 1 : Nat) : Int) - 1 = ((fsG g).length : Int) by omega]
    exact fg_here q⟩
def spMC (C : Addr) : SpW := fun ws S Q => ∃ (x : Addr) (g : List Ln) (a : SmA) (i : Nat), ws = [.ref x, .int i] ∧ SmAt C S x g a ∧ i ≤ g.length ∧ Q (.bl (mayC g i)) S
theorem ok_Sums_may_cut (T : Txt K mg ec) (d : MethAt K ec.Sums "may_cut" "Sums.may_cut" s_Sums_may_cut ["self", "line"]) : CalM P w K mg base 1 ec.Sums "may_cut" (spMC ec.Sums) :=
  calM d sc_Sums_may_cut (fun ws S Q ⟨x, g, a, i, hE, _⟩ => by rw [hE]; rfl) fun f cdv A outer s0 H E hr => ⟨_, _,
    (pss_one (ps_ret (pe_or (pe_cmpR (k_eq K hr.units) (pv 1) (pe_callB (k_len K) (by rfl) T.b_len (by decide +kernel) (pa_cons (k_fld K (pv 0)) pa_nil)) (nomark _)) (pe_one (pe_ix (k_ix K) (k_fld K (pv 0)) (pv 1) (fun _ _ => rfl)))))), inferInstance, by
    rintro ws S Q ⟨x, g, a, i, rfl, h, p0, q⟩
    walk_at "w"
    refine ⟨_, _, _, h.hx, T.fl_Sums__cuts, sm_0 a, ?_⟩
    walk_at "w"
    refine ⟨_, h.h0, ?_⟩
    walk_at "w"
    rw [List.length_map]
    refine ⟨fun e => ?_, fun e => ?_⟩
    · have e := of_decide_eq_true e
      obtain rfl : i = g.length := by omega
      have : mayC g g.length = true := by unfold mayC; rw [List.getElem?_eq_none (Nat.le_refl _)]
      rw [this] at q
      walk_at "w"
      exact fg_here q
    · have e := of_decide_eq_false e
      have hi : i < g.length := by omega
      walk_at "w"
      refine ⟨_, _, _, h.hx, T.fl_Sums__cuts, sm_0 a, ?_⟩
      walk_at "w"
      refine ⟨_, h.h0, ?_⟩
      refine rdAt_ok (w := .bl (mayC g i)) (atI_nat ?_) ?_
      · rw [List.getElem?_map, List.getElem?_eq_getElem hi]
        unfold mayC
        rw [List.getElem?_eq_getElem hi]
        rfl
      exact fg_here q⟩
def spMB (C : Addr) : SpW := fun ws S Q => ∃ (x : Addr) (g : List Ln) (a : SmA) (i : Nat), ws = [.ref x, .int i] ∧ SmAt C S x g a ∧ i ≤ g.length ∧ Q (.int (sumT (nfG g) i)) S
theorem ok_Sums_marked_before (T : Txt K mg ec) (d : MethAt K ec.Sums "marked_before" "Sums.marked_before" s_Sums_marked_before ["self", "line"]) : CalM P w K mg base 1 ec.Sums "marked_before" (spMB ec.Sums) :=
  calM d sc_Sums_marked_before (fun ws S Q ⟨x, g, a, i, hE, _⟩ => by rw [hE]; rfl) fun f cdv A outer s0 H E hr => ⟨_, _,
    (pss_one (ps_ret (pe_ix (k_ix K) (k_fld K (pv 0)) (pv 1) (fun _ _ => rfl)))), inferInstance, by
    rintro ws S Q ⟨x, g, a, i, rfl, h, p0, q⟩
    walk_at "w"
    refine ⟨_, _, _, h.hx, T.fl_Sums__many_floats, sm_5 a, ?_⟩
    walk_at "w"
    refine ⟨_, h.h5, ?_⟩
    refine rdAt_ok (sumT_at (i := i) (by rw [nfG_len]; exact p0)) ?_
    walk_at "w"
    exact fg_here q⟩
def spLH (C : Addr) : SpW := fun ws S Q => ∃ (x : Addr) (g : List Ln) (a : SmA) (s : Nat) (e : Nat), ws = [.ref x, .int s, .int e] ∧ SmAt C S x g a ∧ s ≤ g.length ∧ e ≤ g.length ∧ Q (.int (sumT (hsG g) e - sumT (hsG g) s)) S
theorem ok_Sums_lines_height (T : Txt K mg ec) (d : MethAt K ec.Sums "lines_height" "Sums.lines_height" s_Sums_lines_height ["self", "start", "end"]) : CalM P w K mg base 1 ec.Sums "lines_height" (spLH ec.Sums) :=
  calM d sc_Sums_lines_height (fun ws S Q ⟨x, g, a, s, e, hE, _⟩ => by rw [hE]; rfl) fun f cdv A outer s0 H E hr => ⟨_, _,
    (pss_one (ps_ret (pe_op op_sub (pe_ix (k_ix K) (k_fld K (pv 0)) (pv 2) (fun _ _ => rfl)) (pe_ix (k_ix K) (k_fld K (pv 0)) (pv 1) (fun _ _ => rfl))))), inferInstance, by
    rintro ws S Q ⟨x, g, a, s, e, rfl, h, p0, p1, q⟩
    walk_at "w"
    refine ⟨_, _, _, h.hx, T.fl_Sums__heights, sm_1 a, ?_⟩
    walk_at "w"
    refine ⟨_, h.h1, ?_⟩
    refine rdAt_ok (sumT_at (i := e) (by rw [hsG_len]; exact p1)) ?_
    walk_at "w"
    refine ⟨_, _, _, h.hx, T.fl_Sums__heights, sm_1 a, ?_⟩
    walk_at "w"
    refine ⟨_, h.h1, ?_⟩
    refine rdAt_ok (sumT_at (i := s) (by rw [hsG_len]; exact p0)) ?_
    walk_at "w"
    exact fg_here q⟩
def spCH (C : Addr) : SpW := fun ws S Q => ∃ (x : Addr) (g : List Ln) (a : SmA) (s : Nat) (e : Nat), ws = [.ref x, .int s, .int e] ∧ SmAt C S x g a ∧ s ≤ e ∧ e ≤ g.length ∧ Q (.int (colH g s e)) S
theorem ok_Sums_column_height (T : Txt K mg ec) (c_Sums_lines_height : CalM P w K mg base 1 ec.Sums "lines_height" (Hd (spLH ec.Sums))) (d : MethAt K ec.Sums "column_height" "Sums.column_height" s_Sums_column_height ["self", "start", "end"]) : CalM P w K mg base 2 ec.Sums "column_height" (spCH ec.Sums) :=
  calM d sc_Sums_column_height (fun ws S Q ⟨x, g, a, s, e, hE, _⟩ => by rw [hE]; rfl) fun f cdv A outer s0 H E hr => ⟨_, _,
    (pss_cons (ps_if (pt_cmpR (k_eq K hr.units) (pv 1) (pv 2) (nomark _))
       (pss_one (ps_ret pe_int))
       pss_nil)
      (pss_one (ps_ret (pe_op op_sub (pe_op (k_addB K) (k_meth K T.cl_Sums c_Sums_lines_height hr (by decide) (pv 0) (pa_cons (pv 1) (pa_cons (pv 2) pa_nil))) (pe_ix (k_ix K) (k_fld K (pv 0)) (pv 2) (fun _ _ => rfl))) (pe_ix (k_ix K) (k_fld K (pv 0)) (pe_op (k_addB K) (pv 1) pe_int) (fun _ _ => rfl)))))), inferInstance, by
    rintro ws S Q ⟨x, g, a, s, e, rfl, h, p0, p1, q⟩
    walk_at "w"
    refine ⟨fun z => ?_, fun z => ?_⟩
    · have z := of_decide_eq_true z
      unfold colH at q
      rw [if_pos (by omega)] at q
      walk_at "w"
      exact fg_here q
    have z := of_decide_eq_false z
    unfold colH at q
    rw [if_neg (by omega)] at q
    walk_at "w"
    refine ⟨⟨_, h.hx, rfl⟩, ?_⟩
    walk_at "w"
    refine Hd.mk ⟨x, g, a, s, e, rfl, h, by omega, p1, ?_⟩
    walk_at "w"
    refine ⟨_, _, _, h.hx, T.fl_Sums__spaces, sm_2 a, ?_⟩
    walk_at "w"
    refine ⟨_, h.h2, ?_⟩
    refine rdAt_ok (sumT_at (i := e) (by rw [osG_len]; exact p1)) ?_
    walk_at "w"
    refine ⟨_, _, _, h.hx, T.fl_Sums__spaces, sm_2 a, ?_⟩
    walk_at "w"
    refine ⟨_, h.h2, ?_⟩
    refine rdAt_ok (w := .int (sumT (osG g) (s + 1))) ?_ ?_
    · rw [show ((s : Int) + 1) = ((s + 1 : Nat) : Int) by omega]
      exact sumT_at (by rw [osG_len]; omega)
    walk_at "w"
    exact fg_here q⟩
def spNH (C : Addr) : SpW := fun ws S Q => ∃ (x : Addr) (g : List Ln) (a : SmA) (s : Nat) (e : Nat) (r : Int), ws = [.ref x, .int s, .int e, .int r] ∧ SmAt C S x g a ∧ s ≤ g.length ∧ e ≤ g.length ∧ Q (.int (notH g s e r)) S
theorem ok_Sums_notes_height (T : Txt K mg ec) (d : MethAt K ec.Sums "notes_height" "Sums.notes_height" s_Sums_notes_height ["self", "start", "end", "rule"]) : CalM P w K mg base 1 ec.Sums "notes_height" (spNH ec.Sums) :=
  calM d sc_Sums_notes_height (fun ws S Q ⟨x, g, a, s, e, r, hE, _⟩ => by rw [hE]; rfl) fun f cdv A outer s0 H E hr => ⟨_, _,
    (pss_cons (ps_if (pt_cmpR (k_eq K hr.units) (pe_ix (k_ix K) (k_fld K (pv 0)) (pv 1) (fun _ _ => rfl)) (pe_ix (k_ix K) (k_fld K (pv 0)) (pv 2) (fun _ _ => rfl)) (nomark _))
       (pss_one (ps_ret pe_int))
       pss_nil)
      (pss_one (ps_ret (pe_op (k_addB K) (pe_op op_sub (pe_ix (k_ix K) (k_fld K (pv 0)) (pv 2) (fun _ _ => rfl)) (pe_ix (k_ix K) (k_fld K (pv 0)) (pv 1) (fun _ _ => rfl))) (pv 3))))), inferInstance, by
    rintro ws S Q ⟨x, g, a, s, e, r, rfl, h, p0, p1, q⟩
    walk_at "w"
    refine ⟨_, _, _, h.hx, T.fl_Sums__many_notes, sm_4 a, ?_⟩
    walk_at "w"
    refine ⟨_, h.h4, ?_⟩
    refine rdAt_ok (sumT_at (i := s) (by rw [nnG_len]; exact p0)) ?_
    walk_at "w"
    refine ⟨_, _, _, h.hx, T.fl_Sums__many_notes, sm_4 a, ?_⟩
    walk_at "w"
    refine ⟨_, h.h4, ?_⟩
    refine rdAt_ok (sumT_at (i := e) (by rw [nnG_len]; exact p1)) ?_
    walk_at "w"
    refine ⟨fun z => ?_, fun z => ?_⟩
    · have z := of_decide_eq_true z
      unfold notH at q
      rw [if_pos z] at q
      walk_at "w"
      exact fg_here q
    have z := of_decide_eq_false z
    unfold notH at q
    rw [if_neg z] at q
    walk_at "w"
    refine ⟨_, _, _, h.hx, T.fl_Sums__notes, sm_3 a, ?_⟩
    walk_at "w"
    refine ⟨_, h.h3, ?_⟩
    refine rdAt_ok (sumT_at (i := e) (by rw [nsG_len]; exact p1)) ?_
    walk_at "w"
    refine ⟨_, _, _, h.hx, T.fl_Sums__notes, sm_3 a, ?_⟩
    walk_at "w"
    refine ⟨_, h.h3, ?_⟩
    refine rdAt_ok (sumT_at (i := s) (by rw [nsG_len]; exact p0)) ?_
    walk_at "w"
    exact fg_here q⟩
def spFH (C : Addr) : SpW := fun ws S Q => ∃ (x : Addr) (g : List Ln) (a : SmA) (s : Nat) (e : Nat) (u : Int), ws = [.ref x, .int s, .int e, .int u] ∧ SmAt C S x g a ∧ s ≤ (fsG g).length ∧ e ≤ (fsG g).length ∧ Q (.int (floH g s e u)) S
theorem ok_Sums_floats_height (T : Txt K mg ec) (d : MethAt K ec.Sums "floats_height" "Sums.floats_height" s_Sums_floats_height ["self", "start", "end", "under"]) : CalM P w K mg base 1 ec.Sums "floats_height" (spFH ec.Sums) :=
  calM d sc_Sums_floats_height (fun ws S Q ⟨x, g, a, s, e, u, hE, _⟩ => by rw [hE]; rfl) fun f cdv A outer s0 H E hr => ⟨_, _,
    (pss_cons (ps_if (pt_cmpR (k_eq K hr.units) (pv 1) (pv 2) (nomark _))
       (pss_one (ps_ret pe_int))
       pss_nil)
      (pss_one (ps_ret (pe_op (k_addB K) (pe_op op_sub (pe_ix (k_ix K) (k_fld K (pv 0)) (pv 2) (fun _ _ => rfl)) (pe_ix (k_ix K) (k_fld K (pv 0)) (pv 1) (fun _ _ => rfl))) (pv 3))))), inferInstance, by
    rintro ws S Q ⟨x, g, a, s, e, u, rfl, h, p0, p1, q⟩
    walk_at "w"
    refine ⟨fun z => ?_, fun z => ?_⟩
    · have z := of_decide_eq_true z
      unfold floH at q
      rw [if_pos (by omega)] at q
      walk_at "w"
      exact fg_here q
    have z := of_decide_eq_false z
    unfold floH at q
    rw [if_neg (by omega)] at q
    walk_at "w"
    refine ⟨_, _, _, h.hx, T.fl_Sums__floats, sm_6 a, ?_⟩
    walk_at "w"
    refine ⟨_, h.h6, ?_⟩
    refine rdAt_ok (sumT_at (i := e) (p1)) ?_
    walk_at "w"
    refine ⟨_, _, _, h.hx, T.fl_Sums__floats, sm_6 a, ?_⟩
    walk_at "w"
    refine ⟨_, h.h6, ?_⟩
    refine rdAt_ok (sumT_at (i := s) (p0)) ?_
    walk_at "w"
    exact fg_here q⟩
end
end K62
set_option Elab.async false
set_option linter.all false
set_option maxRecDepth 100000
set_option maxHeartbeats 4000000
set_option synthInstance.maxHeartbeats 4000000
set_option synthInstance.maxSize 100000
namespace K62
open PySem PySem.Spec PyProof.Rows L2 Wl
local macro_rules | `(tactic| walk_at "w") => `(tactic| (conv => whnf))
/-! what a store holds -/
local macro_rules | `(tactic| walk_at "ne") => `(tactic| first | assumption | (apply Ne.symm; assumption) | exact ne_free (by assumption) (by assumption) | exact (ne_free (by assumption) (by assumption)).symm | exact Pl.ne (by assumption) (by assumption) | exact (Pl.ne (by assumption) (by assumption)).symm)
local macro_rules | `(tactic| walk_at "s") => `(tactic| first
  | exact put_same
  | assumption
  | (refine (put_ne ?_).trans ?_; (· walk_at "ne"); (· walk_at "s")))
/-! a side condition -/
local macro_rules | `(tactic| walk_at "c") => `(tactic| first
  | exact Or.inl (Or.inl ⟨by omega, by omega⟩)
  | exact Or.inl (Or.inr ⟨by omega, by omega⟩)
  | exact Or.inl ⟨by omega, by omega⟩
  | exact Or.inl ⟨rfl, _, by walk_at "s"⟩
  | rfl
  | omega
  | decide
  | exact Nat.le_trans (by omega) sizeLine_ge)
/-! one question is answered, if the answer is plain -/
local macro_rules | `(tactic| walk_at "g1") => `(tactic| first
  | refine ⟨fun _ => ?_, fun h => absurd (show true = false from h) (by decide)⟩
  | refine ⟨fun h => absurd (show false = true from h) Bool.false_ne_true, fun _ => ?_⟩
  | refine ⟨_, by walk_at "s", ?_⟩
  | refine ⟨_, _, by walk_at "s", by walk_at "s", ?_⟩
  | refine ⟨_, by walk_at "s", by simpa using (by omega), ?_⟩
  | refine ⟨_, rfl, ?_⟩
  | refine ⟨_, _, rfl, (by first | exact isTy_tt | exact isTy_ii | exact isTy_ll | exact isTy_ss | exact isTy_ib | exact isTy_tb | exact isTy_ti | exact isTy_ts | exact isTy_tl | exact isTy_lb | exact isTy_li | exact isTy_ls | exact isTy_lt | exact isTy_sb | exact isTy_si | exact isTy_st | exact isTy_sl | exact isTy_is | exact isTy_it | exact isTy_il | exact isTy_bi | exact isTy_bs | exact isTy_bb | exact isTy_nb | exact isTy_ni | exact isTy_ns | exact isTy_nt | exact isTy_nl | exact isTy_bt | exact isTy_bl | exact isTy_nd | exact isTy_td | exact isTy_ld | exact isTy_sd | exact isTy_id | exact isTy_bd | exact isTy_dd | exact isTy_db | exact isTy_di | exact isTy_ds | exact isTy_dt | exact isTy_dl), ?_⟩
  | refine ⟨_, _, tyName_lst (by walk_at "s"), (by first | exact isTy_ll | exact isTy_lb | exact isTy_li | exact isTy_ls | exact isTy_lt), ?_⟩
  | refine if_q ?_
  | refine ⟨by walk_at "c", ?_⟩)
local macro_rules | `(tactic| walk_at "go") => `(tactic| (walk_at "w"; repeat (walk_at "g1"; walk_at "w")))
/-! a branch that cannot be -/
local macro_rules | `(tactic| walk_at "two") => `(tactic| refine ⟨fun h => ?_, fun h => ?_⟩)
section
variable {P : Program} {w : World} {K : PySem.W.Frag} {mg : Str → Option Value} {base : Heap} {ec : Cls}
/-! options -/
structure Sta where
  l : Nat
  f : Nat
  a : List Int
def Sta.v (s : Sta) : W := .tup [.int s.l, .int s.f, .tup (s.a.map W.int)]
def lastS (g : List Ln) : Sta := ⟨g.length, (fsG g).length, []⟩
structure OpAt (CO CS CF : Addr) (S : Sto) (x : Addr) (g : List Ln) (k : FK) (m f b : Addr) (a : SmA) : Prop where
  hx : S x = some (.ins CO [("_sums", .ref m), ("_frame", .ref f), ("_best", .ref b), ("last_state", (lastS g).v)])
  sm : SmAt CS S m g a
  fr : S f = some (fraC CF k)
theorem OpAt.keep {CO CS CF x m f b : Addr} {S S' : Sto} {g : List Ln} {k : FK} {a : SmA} (h : OpAt CO CS CF S x g k m f b a) (q : ∀ b c, S b = some c → S' b = some c) : OpAt CO CS CF S' x g k m f b a :=
  ⟨q _ _ h.hx, h.sm.keep q, q _ _ h.fr⟩
theorem SmAt.off {C C' m x : Addr} {S : Sto} {g : List Ln} {a : SmA} {fs : List (Str × W)} {c : Cell} (h : SmAt C S m g a) (hx : S x = some (.ins C' fs)) (hm : m ≠ x) : SmAt C (put S x c) m g a := by
  have ne : ∀ {b : Addr} {ws : List W}, S b = some (.lst ws) → b ≠ x := fun hb e => by rw [e, hx] at hb; cases hb
  exact ⟨(put_ne hm).trans h.hx, (put_ne (ne h.h0)).trans h.h0, (put_ne (ne h.h1)).trans h.h1, (put_ne (ne h.h2)).trans h.h2, (put_ne (ne h.h3)).trans h.h3, (put_ne (ne h.h4)).trans h.h4, (put_ne (ne h.h5)).trans h.h5, (put_ne (ne h.h6)).trans h.h6⟩
def spOi (CO CS CF : Addr) : SpW := fun ws S Q => ∃ (x f : Addr) (g : List Ln) (k : FK), ws = [.ref x, galT g, .ref f] ∧ S x = some (.ins CO []) ∧ S f = some (fraC CF k) ∧ g.length ≤ 1000 ∧ (fsG g).length ≤ 5000 ∧ ∀ (m b : Addr) (a : SmA) S', OpAt CO CS CF S' x g k m f b a → KpL [x] S S' → Q .non S'
theorem ok_Options_init (T : Txt K mg ec) (c_Sums___init__ : CalI P w K mg base 2 ec.Sums (Hd (spSi ec.Sums))) (c_Sums_last_line : CalM P w K mg base 1 ec.Sums "last_line" (Hd (spLL ec.Sums))) (c_Sums_last_float : CalM P w K mg base 1 ec.Sums "last_float" (Hd (spLF ec.Sums))) (d : InitAt K ec.Options "Options.__init__" s_Options___init__ ["self", "galley", "frame"]) : CalI P w K mg base 4 ec.Options (spOi ec.Options ec.Sums ec.Frame) :=
  have c_Sums___init__ := c_Sums___init__.mono (k := 2) (by decide)
  calI d sc_Options___init__ (fun ws S Q ⟨x, f, g, k, e, _⟩ => by rw [e]; rfl) fun f cdv A outer s H E hr => ⟨_, _,
    (pss_cons (k_sfld K (pv 0) (k_make K c_Sums___init__ T.gm_Sums hr (by decide) rfl (pa_cons (pv 1) pa_nil)))
      (pss_cons (k_sfld K (pv 0) (pv 2))
      (pss_cons (k_sfld K (pv 0) pe_dnewK)
      (pss_one (k_sfld K (pv 0) (pe_tup (pa_cons (k_meth0 K T.cl_Sums c_Sums_last_line hr (by decide) (k_fld K (pv 0))) (pa_cons (k_meth0 K T.cl_Sums c_Sums_last_float hr (by decide) (k_fld K (pv 0))) (pa_cons (pe_tup pa_nil) pa_nil))))))))), inferInstance, by
    rintro ws S Q ⟨x, f, g, k, rfl, hx, hf, hl, hfl, q⟩
    walk_at "w"
    intro m hm
    have hmx : m ≠ x := ne_free hx hm
    have hmf : m ≠ f := ne_free hf hm
    refine si_go put_same hl hfl fun a S1 sm k1 => ⟨rfl, ?_⟩
    have x1 : S1 x = some (.ins ec.Options []) := k1 x _ (notin1 hmx.symm) ((put_ne hmx.symm).trans hx)
    have f1 : S1 f = some (fraC ec.Frame k) := k1 f _ (notin1 hmf.symm) ((put_ne hmf.symm).trans hf)
    have hfx : f ≠ x := fun e => by
      rw [e, hx] at hf
      have h2 := Option.some.inj hf
      unfold fraC FK.fs at h2
      injection h2 with _ h3
      cases h3
    have kS1 : ∀ b c, b ≠ x → S b = some c → S1 b = some c := fun b c hb h => k1 b c (notin1 (ne_free h hm).symm) ((put_ne (ne_free h hm).symm).trans h)
    walk_at "w"
    refine ⟨_, _, x1, T.fl_Options__sums, by show 0 < 1000; decide, ?_⟩
    walk_at "w"
    refine ⟨_, _, put_same, T.fl_Options__frame, by show 1 < 1000; decide, ?_⟩
    walk_at "w"
    rw [put_put]
    intro b hb
    have x2 : (put S1 x (.ins ec.Options (putFW "_frame" (.ref f) (putFW "_sums" (.ref m) [])))) x = some (.ins ec.Options [("_sums", .ref m), ("_frame", .ref f)]) := put_same
    have hbx : b ≠ x := ne_free x2 hb
    have sm2 := sm.off (c := .ins ec.Options (putFW "_frame" (.ref f) (putFW "_sums" (.ref m) []))) x1 hmx
    have f2 := (put_ne (c := .ins ec.Options (putFW "_frame" (.ref f) (putFW "_sums" (.ref m) []))) hfx).trans f1
    have k2 : ∀ b c, b ≠ x → S b = some c → (put S1 x (.ins ec.Options (putFW "_frame" (.ref f) (putFW "_sums" (.ref m) [])))) b = some c := fun b c hb h => (put_ne hb).trans (kS1 b c hb h)
    generalize put S1 x (.ins ec.Options (putFW "_frame" (.ref f) (putFW "_sums" (.ref m) []))) = S2 at x2 hb sm2 f2 k2
    have x3 := (put_ne (c := .dk []) hbx.symm).trans x2
    have sm3 := sm2.keep (S' := put S2 b (.dk [])) (fun c d h => (put_ne (ne_free h hb).symm).trans h)
    have f3 := (put_ne (c := .dk []) (ne_free f2 hb).symm).trans f2
    have k3 : ∀ c d, c ≠ x → S c = some d → (put S2 b (.dk [])) c = some d := fun c d hc h => (put_ne (ne_free (k2 c d hc h) hb).symm).trans (k2 c d hc h)
    generalize put S2 b (.dk []) = S3 at x3 sm3 f3 k3
    walk_at "w"
    refine ⟨_, _, x3, T.fl_Options__best, by show 2 < 1000; decide, ?_⟩
    have x4 : (put S3 x (.ins ec.Options (putFW "_best" (.ref b) [("_sums", .ref m), ("_frame", .ref f)]))) x = some (.ins ec.Options [("_sums", .ref m), ("_frame", .ref f), ("_best", .ref b)]) := put_same
    have sm4 := sm3.off (c := .ins ec.Options (putFW "_best" (.ref b) [("_sums", .ref m), ("_frame", .ref f)])) x3 hmx
    have f4 := (put_ne (c := .ins ec.Options (putFW "_best" (.ref b) [("_sums", .ref m), ("_frame", .ref f)])) hfx).trans f3
    have k4 : ∀ c d, c ≠ x → S c = some d → (put S3 x (.ins ec.Options (putFW "_best" (.ref b) [("_sums", .ref m), ("_frame", .ref f)]))) c = some d := fun c d hc h => (put_ne hc).trans (k3 c d hc h)
    generalize put S3 x (.ins ec.Options (putFW "_best" (.ref b) [("_sums", .ref m), ("_frame", .ref f)])) = S4 at x4 sm4 f4 k4
    walk_at "w"
    refine ⟨_, _, _, x4, T.fl_Options__sums, rfl, ?_⟩
    walk_at "w"
    refine ⟨⟨_, sm4.hx, rfl⟩, ?_⟩
    walk_at "w"
    refine Hd.mk ⟨m, g, a, rfl, sm4, ?_⟩
    walk_at "w"
    refine ⟨_, _, _, x4, T.fl_Options__sums, rfl, ?_⟩
    walk_at "w"
    refine ⟨⟨_, sm4.hx, rfl⟩, ?_⟩
    walk_at "w"
    refine Hd.mk ⟨m, g, a, rfl, sm4, ?_⟩
    walk_at "w"
    refine ⟨_, _, x4, T.fl_Options_last_state, by show 3 < 1000; decide, ?_⟩
    refine fg_here (q m b a _ ⟨put_same, sm4.off x4 hmx, (put_ne hfx).trans f4⟩ fun c d hc h => ?_)
    have hcx : c ≠ x := fun e => hc (by rw [e]; exact List.mem_singleton.mpr rfl)
    rw [put_ne hcx]
    exact k4 c d hcx h⟩
end
end K62
set_option Elab.async false
set_option linter.all false
set_option maxRecDepth 100000
set_option maxHeartbeats 4000000
set_option synthInstance.maxHeartbeats 4000000
set_option synthInstance.maxSize 100000
namespace K62
open PySem PySem.Spec PyProof.Rows L2 Wl
local macro_rules | `(tactic| walk_at "w") => `(tactic| (conv => whnf))
/-! what a store holds -/
local macro_rules | `(tactic| walk_at "ne") => `(tactic| first | assumption | (apply Ne.symm; assumption) | exact ne_free (by assumption) (by assumption) | exact (ne_free (by assumption) (by assumption)).symm | exact Pl.ne (by assumption) (by assumption) | exact (Pl.ne (by assumption) (by assumption)).symm)
local macro_rules | `(tactic| walk_at "s") => `(tactic| first
  | exact put_same
  | assumption
  | (refine (put_ne ?_).trans ?_; (· walk_at "ne"); (· walk_at "s")))
/-! a side condition -/
local macro_rules | `(tactic| walk_at "c") => `(tactic| first
  | exact Or.inl (Or.inl ⟨by omega, by omega⟩)
  | exact Or.inl (Or.inr ⟨by omega, by omega⟩)
  | exact Or.inl ⟨by omega, by omega⟩
  | exact Or.inl ⟨rfl, _, by walk_at "s"⟩
  | rfl
  | omega
  | decide
  | exact Nat.le_trans (by omega) sizeLine_ge)
/-! one question is answered, if the answer is plain -/
local macro_rules | `(tactic| walk_at "g1") => `(tactic| first
  | refine ⟨fun _ => ?_, fun h => absurd (show true = false from h) (by decide)⟩
  | refine ⟨fun h => absurd (show false = true from h) Bool.false_ne_true, fun _ => ?_⟩
  | refine ⟨_, by walk_at "s", ?_⟩
  | refine ⟨_, _, by walk_at "s", by walk_at "s", ?_⟩
  | refine ⟨_, by walk_at "s", by simpa using (by omega), ?_⟩
  | refine ⟨_, rfl, ?_⟩
  | refine ⟨_, _, rfl, (by first | exact isTy_tt | exact isTy_ii | exact isTy_ll | exact isTy_ss | exact isTy_ib | exact isTy_tb | exact isTy_ti | exact isTy_ts | exact isTy_tl | exact isTy_lb | exact isTy_li | exact isTy_ls | exact isTy_lt | exact isTy_sb | exact isTy_si | exact isTy_st | exact isTy_sl | exact isTy_is | exact isTy_it | exact isTy_il | exact isTy_bi | exact isTy_bs | exact isTy_bb | exact isTy_nb | exact isTy_ni | exact isTy_ns | exact isTy_nt | exact isTy_nl | exact isTy_bt | exact isTy_bl | exact isTy_nd | exact isTy_td | exact isTy_ld | exact isTy_sd | exact isTy_id | exact isTy_bd | exact isTy_dd | exact isTy_db | exact isTy_di | exact isTy_ds | exact isTy_dt | exact isTy_dl), ?_⟩
  | refine ⟨_, _, tyName_lst (by walk_at "s"), (by first | exact isTy_ll | exact isTy_lb | exact isTy_li | exact isTy_ls | exact isTy_lt), ?_⟩
  | refine if_q ?_
  | refine ⟨by walk_at "c", ?_⟩)
local macro_rules | `(tactic| walk_at "go") => `(tactic| (walk_at "w"; repeat (walk_at "g1"; walk_at "w")))
/-! a branch that cannot be -/
local macro_rules | `(tactic| walk_at "two") => `(tactic| refine ⟨fun h => ?_, fun h => ?_⟩)
section
variable {P : Program} {w : World} {K : PySem.W.Frag} {mg : Str → Option Value} {base : Heap} {ec : Cls}
/-- how many floats at the front have to come, so that none waits too long -/
def lateN (w : Int) : List Int → Nat
  | [] => 0
  | a :: as => if lateN w as = 0 then (if w ≤ a then 1 else 0) else lateN w as + 1
theorem lateN_le (w : Int) : ∀ as : List Int, lateN w as ≤ as.length
  | [] => Nat.le_refl _
  | a :: as => by
    have := lateN_le w as
    rw [List.length_cons]
    unfold lateN
    split
    · split <;> omega
    · omega
theorem lateN_ge (w : Int) : ∀ (as : List Int) (i : Nat) (a : Int), as[i]? = some a → w ≤ a → i + 1 ≤ lateN w as
  | [], i, a, h, _ => by simp at h
  | x :: as, 0, a, h, hw => by
    have h : x = a := by simpa using h
    subst h
    unfold lateN
    split <;> (try split) <;> omega
  | x :: as, i + 1, a, h, hw => by
    have := lateN_ge w as i a (by simpa using h) hw
    unfold lateN
    rw [if_neg (by omega)]
    omega
theorem lateN_at (w : Int) : ∀ as : List Int, lateN w as = 0 ∨ ∃ a, as[lateN w as - 1]? = some a ∧ w ≤ a
  | [] => .inl rfl
  | x :: as => by
    unfold lateN
    by_cases h : lateN w as = 0
    · rw [if_pos h]
      by_cases hx : w ≤ x
      · rw [if_pos hx]; exact .inr ⟨x, rfl, hx⟩
      · rw [if_neg hx]; exact .inl rfl
    · rw [if_neg h]
      rcases lateN_at w as with h0 | ⟨a, ha, hw⟩
      · exact absurd h0 h
      · refine .inr ⟨a, ?_, hw⟩
        obtain ⟨n, hn⟩ : ∃ n, lateN w as = n + 1 := ⟨lateN w as - 1, by omega⟩
        rw [hn] at ha ⊢
        rw [Nat.add_sub_cancel] at ha ⊢
        rw [List.getElem?_cons_succ]
        exact ha
def enL (as : List Int) : List (Nat × Int) := (List.range as.length).map fun i => (i, (as[i]?).getD 0)
def enF (x : Nat × Int) : W := .tup [.int (x.1 : Nat), .int x.2]
theorem enL_len (as : List Int) : (enL as).length = as.length := by unfold enL; rw [List.length_map, List.length_range]
theorem enL_W (as : List Int) : enW (as.map W.int) = (enL as).map enF := by
  unfold enW enL
  rw [List.map_map, List.length_map]
  refine List.map_congr_left fun i hi => ?_
  have hi : i < as.length := List.mem_range.mp hi
  rw [List.getElem?_map, List.getElem?_eq_getElem hi]
  show _ = enF (i, (as[i]?).getD 0)
  rw [List.getElem?_eq_getElem hi]
  rfl
def lateL (w : Int) (as : List Int) : List Int := ((enL as).filter fun x => decide (w ≤ x.2)).map fun x => ((x.1 : Nat) : Int) + 1
theorem lateL_mem {w : Int} {as : List Int} {m : Int} : m ∈ lateL w as ↔ ∃ (i : Nat) (a : Int), as[i]? = some a ∧ w ≤ a ∧ m = (i : Int) + 1 := by
  unfold lateL enL
  constructor
  · intro h
    obtain ⟨x, hx, rfl⟩ := List.mem_map.mp h
    obtain ⟨hx, hw⟩ := List.mem_filter.mp hx
    obtain ⟨i, hi, rfl⟩ := List.mem_map.mp hx
    have hi : i < as.length := List.mem_range.mp hi
    rw [List.getElem?_eq_getElem hi] at hw
    exact ⟨i, as[i], List.getElem?_eq_getElem hi, of_decide_eq_true hw, rfl⟩
  · rintro ⟨i, a, hi, hw, rfl⟩
    refine List.mem_map.mpr ⟨(i, a), List.mem_filter.mpr ⟨List.mem_map.mpr ⟨i, List.mem_range.mpr (List.getElem?_eq_some_iff.mp hi).1, by rw [hi]; rfl⟩, decide_eq_true hw⟩, rfl⟩
theorem lateL_nil {w : Int} {as : List Int} (h : lateL w as = []) : lateN w as = 0 := by
  rcases lateN_at w as with h0 | ⟨a, ha, hw⟩
  · exact h0
  · have : ((lateN w as - 1 : Nat) : Int) + 1 ∈ lateL w as := lateL_mem.mpr ⟨_, a, ha, hw, rfl⟩
    rw [h] at this
    cases this
theorem lateL_max {w : Int} {as : List Int} {m : Int} (h : m ∈ lateL w as) (hm : ∀ y, y ∈ lateL w as → y ≤ m) : m = lateN w as := by
  obtain ⟨i, a, hi, hw, rfl⟩ := lateL_mem.mp h
  have h1 := lateN_ge w as i a hi hw
  rcases lateN_at w as with h0 | ⟨a2, ha, hw2⟩
  · omega
  · have := hm _ (lateL_mem.mpr ⟨_, a2, ha, hw2, rfl⟩)
    omega
def leastF (g : List Ln) (k : FK) (s : Sta) (e : Nat) : Int := if k.tw = 0 then sumT (nfG g) e else s.f + lateN k.tw s.a
def spLe (CO CS CF : Addr) : SpW := fun ws S Q => ∃ (x m f b : Addr) (g : List Ln) (k : FK) (a : SmA) (s : Sta) (e : Nat), ws = [.ref x, s.v, .int e] ∧ OpAt CO CS CF S x g k m f b a ∧ e ≤ g.length ∧ s.a.length ≤ 10000 ∧ Q (.int (leastF g k s e)) S
theorem ok_least (T : Txt K mg ec) (c_Sums_marked_before : CalM P w K mg base 1 ec.Sums "marked_before" (Hd (spMB ec.Sums))) (d : MethAt K ec.Options "_least_floats_end" "Options._least_floats_end" s_Options__least_floats_end ["self", "state", "end"]) : CalM P w K mg base 2 ec.Options "_least_floats_end" (spLe ec.Options ec.Sums ec.Frame) :=
  calM d sc_Options__least_floats_end (fun ws S Q ⟨x, m, f, b, g, k, a, s, e, hE, _⟩ => by rw [hE]; rfl) fun f cdv A outer s0 H E hr => ⟨_, _,
    (pss_cons (ps_asg (pv 1) (k_gtup K (n := 3) rfl (pgs_cons (pg_name (i := 3) sc_Options__least_floats_end.nd rfl (Or.inl rfl)) (pgs_cons (pg_name (i := 4) sc_Options__least_floats_end.nd rfl (Or.inl rfl)) (pgs_cons (pg_name (i := 5) sc_Options__least_floats_end.nd rfl (Or.inl rfl)) pgs_nil)))))
      (pss_cons (ps_if (pt_cmpR (k_eq K hr.units) (k_fld K (k_fld K (pv 0))) pe_int (nomark _))
       (pss_one (ps_ret (k_meth K T.cl_Sums c_Sums_marked_before hr (by decide) (k_fld K (pv 0)) (pa_cons (pv 2) pa_nil))))
       pss_nil)
      (pss_one (ps_ret (pe_op (k_addB K) (pv 4) (k_maxD K hr rfl T.b_max (by decide +kernel) (pa_cons (pe_lc (own := [("k", 6), ("age", 7)]) rfl sc_Options__least_floats_end.nd (k_enum K rfl T.b_enumerate (pa_cons (pv 5) pa_nil)) (blkOk_by (own := [("k", 6), ("age", 7)]) (N := ["self", "state", "end", "_", "floats", "ages", "k", "age"]) (sc := defScope s_Options__least_floats_end) (by decide +kernel)) (fun _ _ _ _ _ => (k_gtup K (n := 2) rfl (pgs_cons (pg_name (i := 6) sc_Options__least_floats_end.nd rfl (Or.inl rfl)) (pgs_cons (pg_name (i := 7) sc_Options__least_floats_end.nd rfl (Or.inl rfl)) pgs_nil)))) (fun _ _ _ _ _ => (pts_one (pt_cmpR op_geA (pv 7) (k_fld K (k_fld K (pv 0))) (nomark _)))) (fun _ _ _ _ _ => (pe_op (k_addB K) (pv 6) pe_int))) pa_nil) (pk_cons pe_int pk_nil))))))), inferInstance, by
    rintro ws S Q ⟨x, m, f, b, g, k, a, s, e, rfl, h, he, hsl, q⟩
    unfold leastF at q
    walk_at "w"
    refine ⟨rfl, ?_⟩
    walk_at "w"
    refine ⟨rfl, ?_⟩
    walk_at "w"
    refine ⟨_, _, _, h.hx, T.fl_Options__frame, rfl, ?_⟩
    walk_at "w"
    refine ⟨_, _, _, h.fr, T.fl_Frame_wait, fra_tw k, ?_⟩
    walk_at "w"
    refine ⟨fun z => ?_, fun z => ?_⟩
    · have z := of_decide_eq_true z
      rw [if_pos z] at q
      walk_at "w"
      refine ⟨_, _, _, h.hx, T.fl_Options__sums, rfl, ?_⟩
      walk_at "w"
      refine ⟨⟨_, h.sm.hx, rfl⟩, ?_⟩
      walk_at "w"
      refine Hd.mk ⟨m, g, a, e, rfl, h.sm, he, ?_⟩
      exact fg_here q
    · have z := of_decide_eq_false z
      rw [if_neg z] at q
      walk_at "w"
      rw [enL_W]
      refine lc_filD enF (enL s.a) (fun y => [some (.ref x), some s.v, some (.int e), some (.int s.l), some (.int s.f), some (.tup (s.a.map W.int)), some (.int (y.1 : Nat)), some (.int y.2)]) (fun y => decide (k.tw ≤ y.2)) (fun y => .int ((y.1 : Int) + 1)) (by rw [enL_len]; omega) (fun _ _ _ => trivial) ?_ ?_ ?_ ?_
      · intro y S8 R8 hy hR8
        unfold enF
        walk_at "w"
        refine ⟨rfl, ?_⟩
        walk_at "w"
        exact ⟨rfl, hR8⟩
      · intro y D acc hy hD Q' q'
        have h2 := h.keep (S' := put S D (.lst acc)) (fun c d hc => (put_ne (ne_free hc hD).symm).trans hc)
        walk_at "w"
        refine ⟨_, _, _, h2.hx, T.fl_Options__frame, rfl, ?_⟩
        walk_at "w"
        refine ⟨_, _, _, h2.fr, T.fl_Frame_wait, fra_tw k, ?_⟩
        walk_at "w"
        exact q'
      · intro y D acc hy hpy hD Q' q'
        walk_at "w"
        exact q'
      intro D hD
      walk_at "w"
      refine ⟨lateL k.tw s.a, ?_, fun e => ?_, fun mm h1 h2 => ?_⟩
      · rw [put_same]
        unfold lateL
        rw [List.map_map]
        rfl
      · have := lateL_nil e
        rw [this] at q
        exact fg_sub (Sub.new hD) q
      · rw [lateL_max h1 h2]
        exact fg_sub (Sub.new hD) q⟩
end
end K62
set_option Elab.async false
set_option linter.all false
set_option maxRecDepth 100000
set_option maxHeartbeats 4000000
set_option synthInstance.maxHeartbeats 4000000
set_option synthInstance.maxSize 100000
namespace K62
open PySem PySem.Spec PyProof.Rows L2 Wl
local macro_rules | `(tactic| walk_at "w") => `(tactic| (conv => whnf))
/-! what a store holds -/
local macro_rules | `(tactic| walk_at "ne") => `(tactic| first | assumption | (apply Ne.symm; assumption) | exact ne_free (by assumption) (by assumption) | exact (ne_free (by assumption) (by assumption)).symm | exact Pl.ne (by assumption) (by assumption) | exact (Pl.ne (by assumption) (by assumption)).symm)
local macro_rules | `(tactic| walk_at "s") => `(tactic| first
  | exact put_same
  | assumption
  | (refine (put_ne ?_).trans ?_; (· walk_at "ne"); (· walk_at "s")))
/-! a side condition -/
local macro_rules | `(tactic| walk_at "c") => `(tactic| first
  | exact Or.inl (Or.inl ⟨by omega, by omega⟩)
  | exact Or.inl (Or.inr ⟨by omega, by omega⟩)
  | exact Or.inl ⟨by omega, by omega⟩
  | exact Or.inl ⟨rfl, _, by walk_at "s"⟩
  | rfl
  | omega
  | decide
  | exact Nat.le_trans (by omega) sizeLine_ge)
/-! one question is answered, if the answer is plain -/
local macro_rules | `(tactic| walk_at "g1") => `(tactic| first
  | refine ⟨fun _ => ?_, fun h => absurd (show true = false from h) (by decide)⟩
  | refine ⟨fun h => absurd (show false = true from h) Bool.false_ne_true, fun _ => ?_⟩
  | refine ⟨_, by walk_at "s", ?_⟩
  | refine ⟨_, _, by walk_at "s", by walk_at "s", ?_⟩
  | refine ⟨_, by walk_at "s", by simpa using (by omega), ?_⟩
  | refine ⟨_, rfl, ?_⟩
  | refine ⟨_, _, rfl, (by first | exact isTy_tt | exact isTy_ii | exact isTy_ll | exact isTy_ss | exact isTy_ib | exact isTy_tb | exact isTy_ti | exact isTy_ts | exact isTy_tl | exact isTy_lb | exact isTy_li | exact isTy_ls | exact isTy_lt | exact isTy_sb | exact isTy_si | exact isTy_st | exact isTy_sl | exact isTy_is | exact isTy_it | exact isTy_il | exact isTy_bi | exact isTy_bs | exact isTy_bb | exact isTy_nb | exact isTy_ni | exact isTy_ns | exact isTy_nt | exact isTy_nl | exact isTy_bt | exact isTy_bl | exact isTy_nd | exact isTy_td | exact isTy_ld | exact isTy_sd | exact isTy_id | exact isTy_bd | exact isTy_dd | exact isTy_db | exact isTy_di | exact isTy_ds | exact isTy_dt | exact isTy_dl), ?_⟩
  | refine ⟨_, _, tyName_lst (by walk_at "s"), (by first | exact isTy_ll | exact isTy_lb | exact isTy_li | exact isTy_ls | exact isTy_lt), ?_⟩
  | refine if_q ?_
  | refine ⟨by walk_at "c", ?_⟩)
local macro_rules | `(tactic| walk_at "go") => `(tactic| (walk_at "w"; repeat (walk_at "g1"; walk_at "w")))
/-! a branch that cannot be -/
local macro_rules | `(tactic| walk_at "two") => `(tactic| refine ⟨fun h => ?_, fun h => ?_⟩)
section
variable {P : Program} {w : World} {K : PySem.W.Frag} {mg : Str → Option Value} {base : Heap} {ec : Cls}
theorem tw_stop {α : Type} {p : α → Bool} : ∀ {xs : List α} {i : Nat} {y : α}, (∀ x ∈ xs.take i, p x = true) → xs[i]? = some y → p y = false → xs.takeWhile p = xs.take i
  | [], i, y, _, h, _ => by simp at h
  | x :: xs, 0, y, _, h, hy => by
    have h : x = y := by simpa using h
    subst h
    rw [List.takeWhile_cons, hy]
    rfl
  | x :: xs, i + 1, y, ha, h, hy => by
    rw [List.take_succ_cons] at ha ⊢
    rw [List.takeWhile_cons, ha x List.mem_cons_self]
    show x :: xs.takeWhile p = _
    rw [tw_stop (fun z hz => ha z (List.mem_cons_of_mem _ hz)) (by simpa using h) hy]
theorem tw_all {α : Type} {p : α → Bool} {xs : List α} (h : ∀ x ∈ xs, p x = true) : xs.takeWhile p = xs := by
  induction xs with
  | nil => rfl
  | cons x xs ih =>
    rw [List.takeWhile_cons, h x List.mem_cons_self]
    show x :: xs.takeWhile p = _
    rw [ih fun y hy => h y (List.mem_cons_of_mem _ hy)]
/-- what a frame may be -/
structure FkOk (k : FK) : Prop where
  w0 : 0 ≤ k.w
  w1 : k.w ≤ 1000000
  i0 : 1 ≤ k.i
  i1 : k.i ≤ 2
  al0 : 0 ≤ k.al
  hy0 : 0 ≤ k.hy
  tw0 : 0 ≤ k.tw
  ri0 : 0 ≤ k.ri
  ri1 : k.ri ≤ 1000000
  lo0 : 0 ≤ k.lo
  lo1 : k.lo ≤ 1000000
def natW (es : List Nat) : List W := es.map fun e : Nat => W.int (e : Int)
def fitE (g : List Ln) (k : FK) (l e : Nat) : Bool := !decide (sumT (hsG g) e - sumT (hsG g) l > k.i * k.w)
def pageE (g : List Ln) (k : FK) (l : Nat) : List Nat := l :: ((List.range' (l + 1) (g.length - l)).takeWhile (fitE g k l)).filter (mayC g)
theorem range'_at {s n i : Nat} (h : i < n) : (List.range' s n)[i]? = some (s + i) := by
  rw [List.getElem?_range' h, Nat.one_mul]
def spPe (CO CS CF : Addr) : SpW := fun ws S Q => ∃ (x m f b : Addr) (g : List Ln) (k : FK) (a : SmA) (l : Nat), ws = [.ref x, .int l] ∧ OpAt CO CS CF S x g k m f b a ∧ l ≤ g.length ∧ g.length ≤ 1000 ∧ FkOk k ∧ ∀ D S', S' D = some (.lst (natW (pageE g k l))) → S D = none → KpL [] S S' → Q (.ref D) S'
theorem ok_page_ends (T : Txt K mg ec) (c_Sums_last_line : CalM P w K mg base 1 ec.Sums "last_line" (Hd (spLL ec.Sums))) (c_Sums_lines_height : CalM P w K mg base 1 ec.Sums "lines_height" (Hd (spLH ec.Sums))) (c_Sums_may_cut : CalM P w K mg base 1 ec.Sums "may_cut" (Hd (spMC ec.Sums))) (d : MethAt K ec.Options "_page_ends" "Options._page_ends" s_Options__page_ends ["self", "line"]) : CalM P w K mg base 2 ec.Options "_page_ends" (spPe ec.Options ec.Sums ec.Frame) :=
  calM d sc_Options__page_ends (fun ws S Q ⟨x, m, f, b, g, k, a, l, hE, _⟩ => by rw [hE]; rfl) fun f cdv A outer s0 H E hr => ⟨_, _,
    (pss_cons (ps_set (i := 2) sc_Options__page_ends.nd rfl (Or.inl rfl) (pe_lst (pa_cons (pv 1) pa_nil)))
      (pss_cons (ps_for PassesOwn.never rfl (pi_range2 rfl T.b_range (pa_cons (pe_op (k_addB K) (pv 1) pe_int) (pa_cons (pe_op (k_addB K) (k_meth0 K T.cl_Sums c_Sums_last_line hr (by decide) (k_fld K (pv 0))) pe_int) pa_nil))) (pg_name (i := 3) sc_Options__page_ends.nd rfl (Or.inl rfl))
       (pss_cons (ps_if (pt_cmpR op_gtA (k_meth K T.cl_Sums c_Sums_lines_height hr (by decide) (k_fld K (pv 0)) (pa_cons (pv 1) (pa_cons (pv 3) pa_nil))) (pe_op op_mulA (k_fld K (k_fld K (pv 0))) (k_fld K (k_fld K (pv 0)))) (nomark _))
        (pss_one ps_break)
        pss_nil)
       (pss_one (ps_if (pt_val (k_meth K T.cl_Sums c_Sums_may_cut hr (by decide) (k_fld K (pv 0)) (pa_cons (pv 3) pa_nil)))
        (pss_one (ps_expr (k_bm K PySem.F.plainAttrs_list PySem.F.slot_list_append PySem.F.type_list_append mt_append (pv 2) (pa_cons (pv 3) pa_nil))))
        pss_nil))))
      (pss_one (ps_ret (pv 2))))), inferInstance, by
    rintro ws S Q ⟨x, m, f, b, g, k, a, l, rfl, h, hln, hn, fk, q⟩
    have w0 := fk.w0
    have w1 := fk.w1
    have i0 := fk.i0
    have i1 := fk.i1
    walk_at "w"
    intro D hD
    have h1 : ∀ c, OpAt ec.Options ec.Sums ec.Frame (put S D c) x g k m f b a := fun c => h.keep (fun c d hc => (put_ne (ne_free hc hD).symm).trans hc)
    walk_at "w"
    refine ⟨_, _, _, (h1 _).hx, T.fl_Options__sums, rfl, ?_⟩
    walk_at "w"
    refine ⟨⟨_, (h1 _).sm.hx, rfl⟩, ?_⟩
    walk_at "w"
    refine Hd.mk ⟨m, g, a, rfl, (h1 _).sm, ?_⟩
    walk_at "w"
    refine ⟨⟨by omega, by omega, by omega, by omega⟩, ?_⟩
    have elen : ((g.length : Int) + 1 - ((l : Int) + 1)).toNat = g.length - l := by omega
    refine for_q (fun i ρ' S' => i ≤ g.length - l ∧ (∀ e ∈ (List.range' (l + 1) (g.length - l)).take i, fitE g k l e = true) ∧ ∃ (a3 : Option W), ρ' = [some (.ref x), some (.int l), some (.ref D), a3] ∧ S' = put S D (.lst (natW (l :: ((List.range' (l + 1) (g.length - l)).take i).filter (mayC g)))))
      ⟨Nat.zero_le _, (fun _ h => by rw [List.take_zero] at h; cases h), _, rfl, rfl⟩ (fun _ _ _ _ => trivial) ?_ ?_
    · rintro i w ρ' S' e ⟨_, hfit, a3, rfl, rfl⟩
      obtain ⟨hi, rfl⟩ := intsW_at e
      rw [elen] at hi
      have ee : (List.range' (l + 1) (g.length - l))[i]? = some (l + 1 + i) := range'_at hi
      have ex : (l : Int) + 1 + (i : Int) = ((l + 1 + i : Nat) : Int) := by omega
      walk_at "w"
      rw [ex]
      refine ⟨_, _, _, (h1 _).hx, T.fl_Options__sums, rfl, ?_⟩
      walk_at "w"
      refine ⟨⟨_, (h1 _).sm.hx, rfl⟩, ?_⟩
      walk_at "w"
      refine Hd.mk ⟨m, g, a, l, l + 1 + i, rfl, (h1 _).sm, hln, by omega, ?_⟩
      walk_at "w"
      refine ⟨_, _, _, (h1 _).hx, T.fl_Options__frame, rfl, ?_⟩
      walk_at "w"
      refine ⟨_, _, _, (h1 _).fr, T.fl_Frame_columns, fra_i k, ?_⟩
      walk_at "w"
      refine ⟨_, _, _, (h1 _).hx, T.fl_Options__frame, rfl, ?_⟩
      walk_at "w"
      refine ⟨_, _, _, (h1 _).fr, T.fl_Frame_height, fra_w k, ?_⟩
      walk_at "w"
      refine ⟨.inl (.inl ⟨by omega, by omega⟩), ?_⟩
      walk_at "w"
      refine ⟨fun z => ?_, fun z => ?_⟩
      · have hno : fitE g k l (l + 1 + i) = false := by
          unfold fitE
          rw [show decide (sumT (hsG g) (l + 1 + i) - sumT (hsG g) l > k.i * k.w) = true from z]
          rfl
        walk_at "w"
        refine fg_here (q D _ ?_ hD ((KpL.refl [] S).new hD))
        rw [put_same]
        unfold pageE
        rw [tw_stop hfit ee hno]
      · have hyes : fitE g k l (l + 1 + i) = true := by
          unfold fitE
          rw [show decide (sumT (hsG g) (l + 1 + i) - sumT (hsG g) l > k.i * k.w) = false from z]
          rfl
        have hfit2 : ∀ e ∈ (List.range' (l + 1) (g.length - l)).take (i + 1), fitE g k l e = true := fun e he => by
          rw [List.take_add_one, ee] at he
          rcases List.mem_append.mp he with h' | h'
          · exact hfit e h'
          · rw [List.mem_singleton.mp h']; exact hyes
        walk_at "w"
        refine ⟨_, _, _, (h1 _).hx, T.fl_Options__sums, rfl, ?_⟩
        walk_at "w"
        refine ⟨⟨_, (h1 _).sm.hx, rfl⟩, ?_⟩
        walk_at "w"
        refine Hd.mk ⟨m, g, a, l + 1 + i, rfl, (h1 _).sm, by omega, ?_⟩
        walk_at "w"
        have efil : (List.filter (mayC g) ((List.range' (l + 1) (g.length - l)).take (i + 1))) = (List.filter (mayC g) ((List.range' (l + 1) (g.length - l)).take i)) ++ (if mayC g (l + 1 + i) = true then [l + 1 + i] else []) := by
          rw [List.take_add_one, ee, List.filter_append]
          congr 1
          show List.filter (mayC g) [l + 1 + i] = _
          rw [List.filter_cons]
          rfl
        refine ⟨fun z2 => ?_, fun z2 => ?_⟩
        · rw [show mayC g (l + 1 + i) = true from z2, if_pos rfl] at efil
          walk_at "w"
          refine ⟨.inl ⟨rfl, _, put_same⟩, ?_⟩
          walk_at "w"
          refine ⟨_, put_same, ?_, hi, hfit2, _, rfl, ?_⟩
          · show ((l :: _).map _).length < _
            rw [List.length_map, List.length_cons]
            have h3 := List.length_filter_le (mayC g) ((List.range' (l + 1) (g.length - l)).take i)
            rw [List.length_take] at h3
            exact Nat.lt_of_lt_of_le (show _ < 20000 by omega) (by decide)
          · rw [put_put, efil]
            unfold natW
            rw [← List.cons_append, List.map_append]
            rfl
        · rw [show mayC g (l + 1 + i) = false from z2, if_neg (by decide), List.append_nil] at efil
          exact ⟨hi, hfit2, _, rfl, by rw [efil]⟩
    · rintro ρ' S' ⟨_, hfit, a3, rfl, rfl⟩
      rw [intsW_len, elen, List.take_of_length_le (by rw [List.length_range']; exact Nat.le_refl _)] at hfit ⊢
      walk_at "w"
      refine fg_here (q D _ ?_ hD ((KpL.refl [] S).new hD))
      rw [put_same]
      unfold pageE
      rw [tw_all hfit]⟩
end
end K62
set_option Elab.async false
set_option linter.all false
set_option maxRecDepth 100000
set_option maxHeartbeats 4000000
set_option synthInstance.maxHeartbeats 4000000
set_option synthInstance.maxSize 100000
namespace K62
open PySem PySem.Spec PyProof.Rows L2 Wl
local macro_rules | `(tactic| walk_at "w") => `(tactic| (conv => whnf))
/-! what a store holds -/
local macro_rules | `(tactic| walk_at "ne") => `(tactic| first | assumption | (apply Ne.symm; assumption) | exact ne_free (by assumption) (by assumption) | exact (ne_free (by assumption) (by assumption)).symm | exact Pl.ne (by assumption) (by assumption) | exact (Pl.ne (by assumption) (by assumption)).symm)
local macro_rules | `(tactic| walk_at "s") => `(tactic| first
  | exact put_same
  | assumption
  | (refine (put_ne ?_).trans ?_; (· walk_at "ne"); (· walk_at "s")))
/-! a side condition -/
local macro_rules | `(tactic| walk_at "c") => `(tactic| first
  | exact Or.inl (Or.inl ⟨by omega, by omega⟩)
  | exact Or.inl (Or.inr ⟨by omega, by omega⟩)
  | exact Or.inl ⟨by omega, by omega⟩
  | exact Or.inl ⟨rfl, _, by walk_at "s"⟩
  | rfl
  | omega
  | decide
  | exact Nat.le_trans (by omega) sizeLine_ge)
/-! one question is answered, if the answer is plain -/
local macro_rules | `(tactic| walk_at "g1") => `(tactic| first
  | refine ⟨fun _ => ?_, fun h => absurd (show true = false from h) (by decide)⟩
  | refine ⟨fun h => absurd (show false = true from h) Bool.false_ne_true, fun _ => ?_⟩
  | refine ⟨_, by walk_at "s", ?_⟩
  | refine ⟨_, _, by walk_at "s", by walk_at "s", ?_⟩
  | refine ⟨_, by walk_at "s", by simpa using (by omega), ?_⟩
  | refine ⟨_, rfl, ?_⟩
  | refine ⟨_, _, rfl, (by first | exact isTy_tt | exact isTy_ii | exact isTy_ll | exact isTy_ss | exact isTy_ib | exact isTy_tb | exact isTy_ti | exact isTy_ts | exact isTy_tl | exact isTy_lb | exact isTy_li | exact isTy_ls | exact isTy_lt | exact isTy_sb | exact isTy_si | exact isTy_st | exact isTy_sl | exact isTy_is | exact isTy_it | exact isTy_il | exact isTy_bi | exact isTy_bs | exact isTy_bb | exact isTy_nb | exact isTy_ni | exact isTy_ns | exact isTy_nt | exact isTy_nl | exact isTy_bt | exact isTy_bl | exact isTy_nd | exact isTy_td | exact isTy_ld | exact isTy_sd | exact isTy_id | exact isTy_bd | exact isTy_dd | exact isTy_db | exact isTy_di | exact isTy_ds | exact isTy_dt | exact isTy_dl), ?_⟩
  | refine ⟨_, _, tyName_lst (by walk_at "s"), (by first | exact isTy_ll | exact isTy_lb | exact isTy_li | exact isTy_ls | exact isTy_lt), ?_⟩
  | refine if_q ?_
  | refine ⟨by walk_at "c", ?_⟩)
local macro_rules | `(tactic| walk_at "go") => `(tactic| (walk_at "w"; repeat (walk_at "g1"; walk_at "w")))
/-! a branch that cannot be -/
local macro_rules | `(tactic| walk_at "two") => `(tactic| refine ⟨fun h => ?_, fun h => ?_⟩)
section
variable {P : Program} {w : World} {K : PySem.W.Frag} {mg : Str → Option Value} {base : Heap} {ec : Cls}
/-- how many floats are marked ahead of a line -/
def mkN (g : List Ln) (i : Nat) : Nat := (fsG (g.take i)).length
theorem mkN_sum (g : List Ln) (i : Nat) : sumT (nfG g) i = mkN g i := by
  unfold sumT mkN nfG fsG
  rw [← List.map_take]
  induction g.take i with
  | nil => rfl
  | cons l ls ih =>
    rw [List.map_cons, List.sum_cons, List.flatMap_cons, List.length_append, ih]
    omega
theorem mkN_mono (g : List Ln) {i j : Nat} (h : i ≤ j) : mkN g i ≤ mkN g j := by
  unfold mkN
  have : g.take j = g.take i ++ (g.take j).drop i := by
    rw [show g.take i = (g.take j).take i by rw [List.take_take, Nat.min_eq_left h], List.take_append_drop]
  rw [this]
  unfold fsG
  rw [List.flatMap_append, List.length_append]
  omega
theorem mkN_le (g : List Ln) (i : Nat) : mkN g i ≤ (fsG g).length := by
  have h1 := mkN_mono g (show i ≤ max i g.length by omega)
  have h2 : mkN g (max i g.length) = (fsG g).length := by
    unfold mkN
    rw [List.take_of_length_le (by omega)]
  omega
structure Mv where
  e : Nat
  fe : Nat
  r : Int
  s : Sta
def Mv.v (x : Mv) : W := .tup [.int x.e, .int x.fe, .int x.r, x.s.v]
def roomM (g : List Ln) (k : FK) (s : Sta) (e fe : Nat) : Int := k.w - notH g s.l e k.al - floH g s.f fe k.hy
def staM (g : List Ln) (s : Sta) (e fe : Nat) : Sta := ⟨e, fe, (s.a.map fun a => a + 1).drop (fe - s.f) ++ List.replicate (mkN g e - max fe (mkN g s.l)) 1⟩
def lowM (g : List Ln) (k : FK) (s : Sta) (e : Nat) : Nat := (leastF g k s e).toNat
def rngM (g : List Ln) (k : FK) (s : Sta) (e : Nat) : List Nat := List.range' (lowM g k s e) (mkN g e + 1 - lowM g k s e)
def mvM (g : List Ln) (k : FK) (s : Sta) (e fe : Nat) : Mv := ⟨e, fe, roomM g k s e fe, staM g s e fe⟩
def okM (s : Sta) (e fe : Nat) : Bool := decide ((e : Int) > (s.l : Int)) || decide ((fe : Int) > (s.f : Int))
theorem rep_flat (n : Nat) : (List.replicate n [W.int 1]).flatten = (List.replicate n (1 : Int)).map W.int := by
  induction n with
  | zero => rfl
  | succ n ih => rw [List.replicate_succ, List.replicate_succ, List.flatten_cons, List.map_cons, ih]; rfl
theorem cutI (ps : List Int) (lo hi : Option Int) : cutL (ps.map W.int) lo hi = (cutL ps lo hi).map W.int := by
  unfold cutL
  rw [List.length_map, ← List.map_drop, ← List.map_take]
theorem cut_from {α : Type} (xs : List α) (k : Nat) : cutL xs (some (k : Int)) none = xs.drop k := by
  unfold cutL
  rw [HT.sIx_none, HT.sIx_nat]
  by_cases h : k ≤ xs.length
  · rw [Nat.min_eq_left h]
    exact List.take_of_length_le (by rw [List.length_drop]; omega)
  · rw [Nat.min_eq_right (by omega)]
    rw [List.drop_eq_nil_of_le (Nat.le_refl _), List.drop_eq_nil_of_le (by omega)]
    simp
def movesT (g : List Ln) (k : FK) (s : Sta) (e : Nat) : List Mv := (((rngM g k s e).takeWhile fun fe => decide (0 ≤ roomM g k s e fe)).filter (okM s e)).map (mvM g k s e)
/-- a state that may be -/
structure StOk (g : List Ln) (s : Sta) : Prop where
  l : s.l ≤ g.length
  f : s.f ≤ mkN g s.l
  a : s.a.length = mkN g s.l - s.f
theorem leastF_lo {g : List Ln} {k : FK} {s : Sta} {e : Nat} (h : StOk g s) (he : s.l ≤ e) : leastF g k s e = (lowM g k s e : Int) ∧ s.f ≤ lowM g k s e ∧ (lowM g k s e : Int) ≤ 2 * (mkN g e : Int) := by
  have h1 := mkN_mono g he
  have h2 := h.f
  have h3 := h.a
  have h4 := lateN_le k.tw s.a
  unfold lowM leastF
  split
  · rw [mkN_sum]; omega
  · omega
def spMo (CO CS CF : Addr) : SpW := fun ws S Q => ∃ (x m f b : Addr) (g : List Ln) (k : FK) (a : SmA) (s : Sta) (e : Nat), ws = [.ref x, s.v, .int e] ∧ OpAt CO CS CF S x g k m f b a ∧ StOk g s ∧ s.l ≤ e ∧ e ≤ g.length ∧ g.length ≤ 1000 ∧ (fsG g).length ≤ 1000 ∧ FkOk k ∧ ∀ D S', S' D = some (.lst ((movesT g k s e).map Mv.v)) → S D = none → KpL [] S S' → Q (.ref D) S'
theorem ok_moves_to (T : Txt K mg ec) (c_Sums_marked_before : CalM P w K mg base 1 ec.Sums "marked_before" (Hd (spMB ec.Sums))) (c_Sums_notes_height : CalM P w K mg base 1 ec.Sums "notes_height" (Hd (spNH ec.Sums))) (c_Sums_floats_height : CalM P w K mg base 1 ec.Sums "floats_height" (Hd (spFH ec.Sums)))
    (c_Options__least_floats_end : CalM P w K mg base 2 ec.Options "_least_floats_end" (Hd (spLe ec.Options ec.Sums ec.Frame))) (d : MethAt K ec.Options "_moves_to" "Options._moves_to" s_Options__moves_to ["self", "state", "end"]) : CalM P w K mg base 3 ec.Options "_moves_to" (spMo ec.Options ec.Sums ec.Frame) :=
  have c_Sums_marked_before := c_Sums_marked_before.mono (k := 2) (by decide)
  have c_Sums_notes_height := c_Sums_notes_height.mono (k := 2) (by decide)
  have c_Sums_floats_height := c_Sums_floats_height.mono (k := 2) (by decide)
  calM d sc_Options__moves_to (fun ws S Q ⟨x, m, f, b, g, k, a, s, e, hE, _⟩ => by rw [hE]; rfl) fun f cdv A outer s0 H E hr => ⟨_, _,
    (pss_cons (ps_asg (pv 1) (k_gtup K (n := 3) rfl (pgs_cons (pg_name (i := 3) sc_Options__moves_to.nd rfl (Or.inl rfl)) (pgs_cons (pg_name (i := 4) sc_Options__moves_to.nd rfl (Or.inl rfl)) (pgs_cons (pg_name (i := 5) sc_Options__moves_to.nd rfl (Or.inl rfl)) pgs_nil)))))
      (pss_cons (ps_set (i := 6) sc_Options__moves_to.nd rfl (Or.inl rfl) (pe_callTy (k_tuple K) (by rfl) T.b_tuple (by decide +kernel) (pa_cons (pe_lc (own := [("age", 7)]) rfl sc_Options__moves_to.nd (k_any K (pv 5)) (blkOk_by (own := [("age", 7)]) (N := ["self", "state", "end", "line", "floats", "ages", "older", "age", "pending_before", "marked", "free", "found", "floats_end", "room", "fresh"]) (sc := defScope s_Options__moves_to) (by decide +kernel)) (fun _ _ _ _ _ => (pg_name (i := 7) sc_Options__moves_to.nd rfl (Or.inl rfl))) (fun _ _ _ _ _ => pts_nil) (fun _ _ _ _ _ => (pe_op (k_addB K) (pv 7) pe_int))) pa_nil)))
      (pss_cons (ps_par (i := 8) (j := 9) (by rfl) sc_Options__moves_to.nd rfl rfl (by decide) rfl rfl (pa_cons (k_meth K T.cl_Sums c_Sums_marked_before hr (by decide) (k_fld K (pv 0)) (pa_cons (pv 3) pa_nil)) (pa_cons (k_meth K T.cl_Sums c_Sums_marked_before hr (by decide) (k_fld K (pv 0)) (pa_cons (pv 2) pa_nil)) pa_nil)) (by rfl))
      (pss_cons (ps_set (i := 10) sc_Options__moves_to.nd rfl (Or.inl rfl) (pe_op op_sub (k_fld K (k_fld K (pv 0))) (k_meth K T.cl_Sums c_Sums_notes_height hr (by decide) (k_fld K (pv 0)) (pa_cons (pv 3) (pa_cons (pv 2) (pa_cons (k_fld K (k_fld K (pv 0))) pa_nil))))))
      (pss_cons (ps_set (i := 11) sc_Options__moves_to.nd rfl (Or.inl rfl) (pe_lst pa_nil))
      (pss_cons (ps_for PassesOwn.never rfl (pi_range2 rfl T.b_range (pa_cons (k_meth K T.cl_Options c_Options__least_floats_end hr (by decide) (pv 0) (pa_cons (pv 1) (pa_cons (pv 2) pa_nil))) (pa_cons (pe_op (k_addB K) (pv 9) pe_int) pa_nil))) (pg_name (i := 12) sc_Options__moves_to.nd rfl (Or.inl rfl))
       (pss_cons (ps_set (i := 13) sc_Options__moves_to.nd rfl (Or.inl rfl) (pe_op op_sub (pv 10) (k_meth K T.cl_Sums c_Sums_floats_height hr (by decide) (k_fld K (pv 0)) (pa_cons (pv 4) (pa_cons (pv 12) (pa_cons (k_fld K (k_fld K (pv 0))) pa_nil))))))
       (pss_cons (ps_if (pt_cmpR op_ltA (pv 13) pe_int (nomark _))
        (pss_one ps_break)
        pss_nil)
       (pss_one (ps_if (PW.pt (pw_or (pt_cmpR op_gtA (pv 2) (pv 3) (nomark _)) (pw_or1 (pt_cmpR op_gtA (pv 12) (pv 4) (nomark _)))))
        (pss_cons (ps_set (i := 14) sc_Options__moves_to.nd rfl (Or.inl rfl) (pe_op (k_repN K) (pe_tup (pa_cons pe_int pa_nil)) (pe_op op_sub (pv 9) (pe_callB (call_max2 rfl) (by rfl) T.b_max (by decide +kernel) (pa_cons (pv 12) (pa_cons (pv 8) pa_nil))))))
        (pss_one (ps_expr (k_bm K PySem.F.plainAttrs_list PySem.F.slot_list_append PySem.F.type_list_append mt_append (pv 11) (pa_cons (pe_tup (pa_cons (pv 2) (pa_cons (pv 12) (pa_cons (pv 13) (pa_cons (pe_tup (pa_cons (pv 2) (pa_cons (pv 12) (pa_cons (pe_op (k_addB K) (pe_slice (k_sl K) (pv 6) (po_some (pe_op op_sub (pv 12) (pv 4))) po_none) (pv 14)) pa_nil)))) pa_nil))))) pa_nil)))))
        pss_nil)))))
      (pss_one (ps_ret (pv 11))))))))), inferInstance, by
    rintro ws S Q ⟨x, m, f, b, g, k, a, s, e, rfl, h, hs, hle, hen, hn, hF, fk, q⟩
    have hfe := mkN_mono g hle
    have hf1 := hs.f
    have hal := hs.a
    have hmF := mkN_le g e
    have hml := mkN_le g s.l
    obtain ⟨lo1, lo2, lo3⟩ := leastF_lo (k := k) hs hle
    walk_at "w"
    refine ⟨rfl, ?_⟩
    walk_at "w"
    refine ⟨rfl, ?_⟩
    walk_at "w"
    refine lc_mapD W.int s.a (fun v => .int (v + 1)) (by omega) (fun _ _ _ => trivial) ?_ ?_
    · intro v D acc hv hD Q' q'
      walk_at "w"
      exact q'
    intro D0 hD0
    have h1 := h.keep (S' := put S D0 (.lst (s.a.map fun v => W.int (v + 1)))) (fun c d hc => (put_ne (ne_free hc hD0).symm).trans hc)
    have k1 : KpL [] S (put S D0 (.lst (s.a.map fun v => W.int (v + 1)))) := (KpL.refl [] S).new hD0
    have d1 : (put S D0 (.lst (s.a.map fun v => W.int (v + 1)))) D0 = some (.lst ((s.a.map fun a => a + 1).map W.int)) := by rw [put_same, List.map_map]; rfl
    generalize put S D0 (.lst (s.a.map fun v => W.int (v + 1))) = S1 at h1 k1 d1
    walk_at "w"
    refine ⟨_, d1, ?_⟩
    walk_at "w"
    refine ⟨_, _, _, h1.hx, T.fl_Options__sums, rfl, ?_⟩
    walk_at "w"
    refine ⟨⟨_, h1.sm.hx, rfl⟩, ?_⟩
    walk_at "w"
    refine Hd.mk ⟨m, g, a, s.l, rfl, h1.sm, hs.l, ?_⟩
    rw [mkN_sum]
    walk_at "w"
    refine ⟨_, _, _, h1.hx, T.fl_Options__sums, rfl, ?_⟩
    walk_at "w"
    refine ⟨⟨_, h1.sm.hx, rfl⟩, ?_⟩
    walk_at "w"
    refine Hd.mk ⟨m, g, a, e, rfl, h1.sm, hen, ?_⟩
    rw [mkN_sum]
    walk_at "w"
    refine ⟨_, _, _, h1.hx, T.fl_Options__frame, rfl, ?_⟩
    walk_at "w"
    refine ⟨_, _, _, h1.fr, T.fl_Frame_height, fra_w k, ?_⟩
    walk_at "w"
    refine ⟨_, _, _, h1.hx, T.fl_Options__sums, rfl, ?_⟩
    walk_at "w"
    refine ⟨⟨_, h1.sm.hx, rfl⟩, ?_⟩
    walk_at "w"
    refine ⟨_, _, _, h1.hx, T.fl_Options__frame, rfl, ?_⟩
    walk_at "w"
    refine ⟨_, _, _, h1.fr, T.fl_Frame_rule, fra_al k, ?_⟩
    walk_at "w"
    refine Hd.mk ⟨m, g, a, s.l, e, k.al, rfl, h1.sm, hs.l, hen, ?_⟩
    walk_at "w"
    intro D hD
    have hDS : S D = none := k1.free hD (fun h => by cases h)
    have h2 : ∀ c, OpAt ec.Options ec.Sums ec.Frame (put S1 D c) x g k m f b a := fun c => h1.keep (fun c d hc => (put_ne (ne_free hc hD).symm).trans hc)
    walk_at "w"
    refine ⟨⟨_, (h2 _).hx, rfl⟩, ?_⟩
    walk_at "w"
    refine Hd.mk ⟨x, m, f, b, g, k, a, s, e, rfl, h2 _, hen, by omega, ?_⟩
    rw [lo1]
    walk_at "w"
    refine ⟨⟨by omega, by omega, by omega, by omega⟩, ?_⟩
    have elen : ((mkN g e : Int) + 1 - (lowM g k s e : Int)).toNat = mkN g e + 1 - lowM g k s e := by omega
    refine for_q (fun i ρ' S' => i ≤ mkN g e + 1 - lowM g k s e ∧ (∀ y ∈ (rngM g k s e).take i, decide (0 ≤ roomM g k s e y) = true) ∧ ∃ (a12 a13 a14 : Option W), ρ' = [some (.ref x), some s.v, some (.int e), some (.int s.l), some (.int s.f), some (.tup (s.a.map W.int)), some (.tup ((s.a.map fun a => a + 1).map W.int)), none, some (.int (mkN g s.l)), some (.int (mkN g e)), some (.int (k.w - notH g s.l e k.al)), some (.ref D), a12, a13, a14] ∧
        S' = put S1 D (.lst ((((rngM g k s e).take i).filter (okM s e)).map fun y => (mvM g k s e y).v)))
      ⟨Nat.zero_le _, (fun _ h => by rw [List.take_zero] at h; cases h), _, _, _, rfl, rfl⟩ (fun _ _ _ _ => trivial) ?_ ?_
    · rintro i w ρ' S' z ⟨_, hfit, a12, a13, a14, rfl, rfl⟩
      obtain ⟨hi, rfl⟩ := intsW_at z
      rw [elen] at hi
      have ee : (rngM g k s e)[i]? = some (lowM g k s e + i) := range'_at hi
      have ex : (lowM g k s e : Int) + (i : Int) = ((lowM g k s e + i : Nat) : Int) := by omega
      rw [ex]
      have hfe2 : lowM g k s e + i ≤ mkN g e := by omega
      walk_at "w"
      refine ⟨_, _, _, (h2 _).hx, T.fl_Options__sums, rfl, ?_⟩
      walk_at "w"
      refine ⟨⟨_, (h2 _).sm.hx, rfl⟩, ?_⟩
      walk_at "w"
      refine ⟨_, _, _, (h2 _).hx, T.fl_Options__frame, rfl, ?_⟩
      walk_at "w"
      refine ⟨_, _, _, (h2 _).fr, T.fl_Frame_under, fra_hy k, ?_⟩
      walk_at "w"
      refine Hd.mk ⟨m, g, a, s.f, lowM g k s e + i, k.hy, rfl, (h2 _).sm, by omega, by omega, ?_⟩
      walk_at "w"
      refine ⟨fun z => ?_, fun z => ?_⟩
      · have z := of_decide_eq_true z
        have hno : decide (0 ≤ roomM g k s e (lowM g k s e + i)) = false := decide_eq_false (by unfold roomM; omega)
        walk_at "w"
        refine fg_here (q D _ ?_ hDS (k1.new hD))
        rw [put_same]
        unfold movesT
        rw [tw_stop hfit ee hno, List.map_map]
        rfl
      · have z := of_decide_eq_false z
        have hyes : decide (0 ≤ roomM g k s e (lowM g k s e + i)) = true := decide_eq_true (by unfold roomM; omega)
        have hfit2 : ∀ y ∈ (rngM g k s e).take (i + 1), decide (0 ≤ roomM g k s e y) = true := fun y he => by
          rw [List.take_add_one, ee] at he
          rcases List.mem_append.mp he with h' | h'
          · exact hfit y h'
          · rw [List.mem_singleton.mp h']; exact hyes
        have efil : (List.filter (okM s e) ((rngM g k s e).take (i + 1))) = (List.filter (okM s e) ((rngM g k s e).take i)) ++ (if okM s e (lowM g k s e + i) = true then [lowM g k s e + i] else []) := by
          rw [List.take_add_one, ee, List.filter_append]
          congr 1
          show List.filter (okM s e) [lowM g k s e + i] = _
          rw [List.filter_cons]
          rfl
        walk_at "w"
        have emx : (fun i j : Int => if j > i then j else i) ((lowM g k s e + i : Nat) : Int) (mkN g s.l : Int) = ((max (lowM g k s e + i) (mkN g s.l) : Nat) : Int) := by
          show (if (mkN g s.l : Int) > ((lowM g k s e + i : Nat) : Int) then (mkN g s.l : Int) else ((lowM g k s e + i : Nat) : Int)) = _
          split <;> omega
        refine if_ev (okM s e (lowM g k s e + i)) (evOr (fun Q q => ?_) (fun _ Q q => ?_)) (fun hok => ?_) (fun hok => ?_)
        · walk_at "w"
          exact q
        · walk_at "w"
          exact q
        · rw [hok, if_pos rfl] at efil
          walk_at "w"
          rw [emx]
          refine ⟨List.cons_ne_nil _ _, by omega, by omega, by show 1 ≤ 1000; decide, ?_⟩
          rw [rep_flat]
          walk_at "w"
          refine ⟨.inl ⟨rfl, _, put_same⟩, ?_⟩
          walk_at "w"
          have esl : cutL ((s.a.map fun a => a + 1).map W.int) (some (((lowM g k s e + i : Nat) : Int) - (s.f : Int))) none = ((s.a.map fun a => a + 1).drop (lowM g k s e + i - s.f)).map W.int := by
            rw [cutI, show ((lowM g k s e + i : Nat) : Int) - (s.f : Int) = ((lowM g k s e + i - s.f : Nat) : Int) by omega, cut_from]
          have ern : ((mkN g e : Int) - ((max (lowM g k s e + i) (mkN g s.l) : Nat) : Int)).toNat = mkN g e - max (lowM g k s e + i) (mkN g s.l) := by omega
          rw [esl, ern]
          refine ⟨?_, ?_⟩
          · rw [List.length_map, List.length_map, List.length_drop, List.length_map, List.length_replicate]
            exact Nat.le_trans (show _ ≤ 20000 by omega) (by decide)
          walk_at "w"
          refine ⟨_, put_same, ?_, hi, hfit2, _, _, _, rfl, ?_⟩
          · rw [List.length_map]
            have h3 := List.length_filter_le (okM s e) ((rngM g k s e).take i)
            rw [List.length_take] at h3
            exact Nat.lt_of_lt_of_le (show _ < 20000 by omega) (by decide)
          · rw [put_put, efil, List.map_append, ← List.map_append (f := W.int)]
            rfl
        · rw [hok, if_neg (by decide), List.append_nil] at efil
          exact ⟨hi, hfit2, _, _, _, rfl, by rw [efil]⟩
    · rintro ρ' S' ⟨_, hfit, a12, a13, a14, rfl, rfl⟩
      rw [intsW_len, elen, List.take_of_length_le (by unfold rngM; rw [List.length_range']; exact Nat.le_refl _)] at hfit ⊢
      walk_at "w"
      refine fg_here (q D _ ?_ hDS (k1.new hD))
      rw [put_same]
      unfold movesT
      rw [tw_all hfit, List.map_map]
      rfl⟩
end
end K62
set_option Elab.async false
set_option linter.all false
set_option maxRecDepth 100000
set_option maxHeartbeats 4000000
set_option synthInstance.maxHeartbeats 4000000
set_option synthInstance.maxSize 100000
namespace K62
open PySem PySem.Spec PyProof.Rows L2 Wl
local macro_rules | `(tactic| walk_at "w") => `(tactic| (conv => whnf))
/-! what a store holds -/
local macro_rules | `(tactic| walk_at "ne") => `(tactic| first | assumption | (apply Ne.symm; assumption) | exact ne_free (by assumption) (by assumption) | exact (ne_free (by assumption) (by assumption)).symm | exact Pl.ne (by assumption) (by assumption) | exact (Pl.ne (by assumption) (by assumption)).symm)
local macro_rules | `(tactic| walk_at "s") => `(tactic| first
  | exact put_same
  | assumption
  | (refine (put_ne ?_).trans ?_; (· walk_at "ne"); (· walk_at "s")))
/-! a side condition -/
local macro_rules | `(tactic| walk_at "c") => `(tactic| first
  | exact Or.inl (Or.inl ⟨by omega, by omega⟩)
  | exact Or.inl (Or.inr ⟨by omega, by omega⟩)
  | exact Or.inl ⟨by omega, by omega⟩
  | exact Or.inl ⟨rfl, _, by walk_at "s"⟩
  | rfl
  | omega
  | decide
  | exact Nat.le_trans (by omega) sizeLine_ge)
/-! one question is answered, if the answer is plain -/
local macro_rules | `(tactic| walk_at "g1") => `(tactic| first
  | refine ⟨fun _ => ?_, fun h => absurd (show true = false from h) (by decide)⟩
  | refine ⟨fun h => absurd (show false = true from h) Bool.false_ne_true, fun _ => ?_⟩
  | refine ⟨_, by walk_at "s", ?_⟩
  | refine ⟨_, _, by walk_at "s", by walk_at "s", ?_⟩
  | refine ⟨_, by walk_at "s", by simpa using (by omega), ?_⟩
  | refine ⟨_, rfl, ?_⟩
  | refine ⟨_, _, rfl, (by first | exact isTy_tt | exact isTy_ii | exact isTy_ll | exact isTy_ss | exact isTy_ib | exact isTy_tb | exact isTy_ti | exact isTy_ts | exact isTy_tl | exact isTy_lb | exact isTy_li | exact isTy_ls | exact isTy_lt | exact isTy_sb | exact isTy_si | exact isTy_st | exact isTy_sl | exact isTy_is | exact isTy_it | exact isTy_il | exact isTy_bi | exact isTy_bs | exact isTy_bb | exact isTy_nb | exact isTy_ni | exact isTy_ns | exact isTy_nt | exact isTy_nl | exact isTy_bt | exact isTy_bl | exact isTy_nd | exact isTy_td | exact isTy_ld | exact isTy_sd | exact isTy_id | exact isTy_bd | exact isTy_dd | exact isTy_db | exact isTy_di | exact isTy_ds | exact isTy_dt | exact isTy_dl), ?_⟩
  | refine ⟨_, _, tyName_lst (by walk_at "s"), (by first | exact isTy_ll | exact isTy_lb | exact isTy_li | exact isTy_ls | exact isTy_lt), ?_⟩
  | refine if_q ?_
  | refine ⟨by walk_at "c", ?_⟩)
local macro_rules | `(tactic| walk_at "go") => `(tactic| (walk_at "w"; repeat (walk_at "g1"; walk_at "w")))
/-! a branch that cannot be -/
local macro_rules | `(tactic| walk_at "two") => `(tactic| refine ⟨fun h => ?_, fun h => ?_⟩)
section
variable {P : Program} {w : World} {K : PySem.W.Frag} {mg : Str → Option Value} {base : Heap} {ec : Cls}
theorem pageE_mem {g : List Ln} {k : FK} {l e : Nat} (hl : l ≤ g.length) (h : e ∈ pageE g k l) : l ≤ e ∧ e ≤ g.length := by
  unfold pageE at h
  rcases List.mem_cons.mp h with h | h
  · omega
  · have h1 := List.takeWhile_subset _ (List.mem_filter.mp h).1
    obtain ⟨i, hi, rfl⟩ := List.mem_range'.mp h1
    omega
theorem pageE_len {g : List Ln} {k : FK} {l : Nat} : (pageE g k l).length ≤ g.length - l + 1 := by
  unfold pageE
  rw [List.length_cons]
  have h1 := List.length_filter_le (mayC g) ((List.range' (l + 1) (g.length - l)).takeWhile (fitE g k l))
  have h2 := (List.takeWhile_prefix (l := List.range' (l + 1) (g.length - l)) (fitE g k l)).length_le
  rw [List.length_range'] at h2
  omega
theorem movesT_len {g : List Ln} {k : FK} {s : Sta} {e : Nat} : (movesT g k s e).length ≤ mkN g e + 1 := by
  unfold movesT
  rw [List.length_map]
  have h1 := List.length_filter_le (okM s e) ((rngM g k s e).takeWhile fun fe => decide (0 ≤ roomM g k s e fe))
  have h2 := (List.takeWhile_prefix (l := rngM g k s e) (fun fe => decide (0 ≤ roomM g k s e fe))).length_le
  unfold rngM at h1 h2
  rw [List.length_range'] at h2
  unfold rngM
  omega
def movesA (g : List Ln) (k : FK) (s : Sta) : List Mv := (pageE g k s.l).flatMap (movesT g k s)
theorem flat_len {α β : Type} {f : α → List β} {c : Nat} : ∀ (xs : List α), (∀ x ∈ xs, (f x).length ≤ c) → (xs.flatMap f).length ≤ xs.length * c
  | [], _ => by simp
  | x :: xs, h => by
    rw [List.flatMap_cons, List.length_append, List.length_cons]
    have h1 := h x List.mem_cons_self
    have h2 := flat_len xs fun y hy => h y (List.mem_cons_of_mem _ hy)
    rw [Nat.succ_mul]
    omega
theorem flat_take {α β : Type} {f : α → List β} {xs : List α} {i : Nat} {x : α} (h : xs[i]? = some x) : (xs.take (i + 1)).flatMap f = (xs.take i).flatMap f ++ f x := by
  rw [List.take_add_one, h, List.flatMap_append]
  show _ ++ (f x ++ []) = _
  rw [List.append_nil]
def spMv (CO CS CF : Addr) : SpW := fun ws S Q => ∃ (x m f b : Addr) (g : List Ln) (k : FK) (a : SmA) (s : Sta), ws = [.ref x, s.v] ∧ OpAt CO CS CF S x g k m f b a ∧ StOk g s ∧ g.length ≤ 1000 ∧ (fsG g).length ≤ 1000 ∧ FkOk k ∧ ∀ D S', S' D = some (.lst ((movesA g k s).map Mv.v)) → S D = none → KpL [] S S' → Q (.ref D) S'
theorem ok_moves (T : Txt K mg ec) (c_Options__page_ends : CalM P w K mg base 2 ec.Options "_page_ends" (Hd (spPe ec.Options ec.Sums ec.Frame))) (c_Options__moves_to : CalM P w K mg base 3 ec.Options "_moves_to" (Hd (spMo ec.Options ec.Sums ec.Frame))) (d : MethAt K ec.Options "moves" "Options.moves" s_Options_moves ["self", "state"]) : CalM P w K mg base 4 ec.Options "moves" (spMv ec.Options ec.Sums ec.Frame) :=
  have c_Options__page_ends := c_Options__page_ends.mono (k := 3) (by decide)
  calM d sc_Options_moves (fun ws S Q ⟨x, m, f, b, g, k, a, s, hE, _⟩ => by rw [hE]; rfl) fun f cdv A outer s0 H E hr => ⟨_, _,
    (pss_one (ps_ret (pe_lc2 (own := [("end", 2), ("move", 3)]) (vs1 := [3]) rfl sc_Options_moves.nd (k_any K (k_meth K T.cl_Options c_Options__page_ends hr (by decide) (pv 0) (pa_cons (pe_ix (k_ix K) (pv 1) pe_int (fun _ _ => rfl)) pa_nil))) (blkOk_by (own := [("end", 2), ("move", 3)]) (N := ["self", "state", "end", "move"]) (sc := defScope s_Options_moves) (by decide +kernel)) (by decide) (fun _ _ _ _ _ => (pg_name (i := 2) sc_Options_moves.nd rfl (Or.inl rfl))) (fun _ _ _ _ _ => pts_nil) (fun _ _ _ _ _ => (k_any K (k_meth K T.cl_Options c_Options__moves_to hr (by decide) (pv 0) (pa_cons (pv 1) (pa_cons (pv 2) pa_nil))))) (fun _ _ _ _ _ => (pg_name (i := 3) sc_Options_moves.nd rfl (Or.inl rfl))) (fun _ _ _ _ _ => pts_nil) (fun _ _ _ _ _ => (pv 3))))), inferInstance, by
    rintro ws S Q ⟨x, m, f, b, g, k, a, s, rfl, h, hs, hn, hF, fk, q⟩
    walk_at "w"
    refine ⟨⟨_, h.hx, rfl⟩, ?_⟩
    walk_at "w"
    refine Hd.mk ⟨x, m, f, b, g, k, a, s.l, rfl, h, hs.l, hn, fk, fun E0 S1 hE0 hE0f k1 => ?_⟩
    have h1 := h.keep (fun c d hc => k1 c d (fun h => by cases h) hc)
    walk_at "w"
    refine ⟨_, hE0, ?_⟩
    refine lc2_q fun D hD => ⟨fun i acc S' => i ≤ (pageE g k s.l).length ∧ acc = (((pageE g k s.l).take i).flatMap (movesT g k s)).map Mv.v ∧ S' D = some (.lst acc) ∧ KpL [] S1 S', ⟨Nat.zero_le _, rfl, put_same, (KpL.refl [] S1).new hD⟩, fun i acc S' hh => hh.2.2.2 E0 _ (fun h => by cases h) hE0, ?_, ?_⟩
    · rintro i w acc S' e ⟨_, rfl, hDc, k2⟩
      unfold natW at e
      rw [List.getElem?_map] at e
      obtain ⟨y, ey, rfl⟩ : ∃ y : Nat, (pageE g k s.l)[i]? = some y ∧ W.int (y : Int) = w := by
        cases h : (pageE g k s.l)[i]? with
        | none => rw [h] at e; cases e
        | some y => rw [h] at e; exact ⟨y, rfl, Option.some.inj e⟩
      have hi := (List.getElem?_eq_some_iff.mp ey).1
      obtain ⟨y0, y1⟩ := pageE_mem hs.l (List.mem_of_getElem? ey)
      have h2 := h1.keep (fun c d hc => k2 c d (fun h => by cases h) hc)
      have efl := flat_take (f := movesT g k s) ey
      walk_at "w"
      refine ⟨fun _ => ?_, fun h => absurd (show true = false from h) (by decide)⟩
      walk_at "w"
      refine ⟨⟨_, h2.hx, rfl⟩, ?_⟩
      walk_at "w"
      refine Hd.mk ⟨x, m, f, b, g, k, a, s, y, rfl, h2, hs, y0, y1, hn, hF, fk, fun E1 S3 hE1 hE1f k3 => ?_⟩
      have hD3 := k3 D _ (fun h => by cases h) hDc
      have hE1D : E1 ≠ D := fun e => by rw [e, hDc] at hE1f; cases hE1f
      walk_at "w"
      refine ⟨_, hE1, ?_⟩
      refine ⟨fun j acc1 S' => j ≤ (movesT g k s y).length ∧ acc1 = (((pageE g k s.l).take i).flatMap (movesT g k s) ++ (movesT g k s y).take j).map Mv.v ∧ S' D = some (.lst acc1) ∧ KpL [D] S3 S', ⟨Nat.zero_le _, by rw [List.take_zero, List.append_nil], hD3, KpL.refl [D] S3⟩, fun j acc1 S' hh => hh.2.2.2 E1 _ (notin1 hE1D) hE1, ?_, ?_⟩
      · rintro j w1 acc1 S' e1 ⟨_, rfl, hDc2, k4⟩
        rw [List.getElem?_map] at e1
        obtain ⟨mv, emv, rfl⟩ : ∃ mv : Mv, (movesT g k s y)[j]? = some mv ∧ mv.v = w1 := by
          cases h : (movesT g k s y)[j]? with
          | none => rw [h] at e1; cases e1
          | some mv => rw [h] at e1; exact ⟨mv, rfl, Option.some.inj e1⟩
        have hj := (List.getElem?_eq_some_iff.mp emv).1
        walk_at "w"
        refine ⟨fun _ => ?_, fun h => absurd (show true = false from h) (by decide)⟩
        walk_at "w"
        refine ⟨hDc2, ?_, hj, ?_, put_same, k4.at (List.mem_singleton.mpr rfl)⟩
        · rw [List.length_map, List.length_append, List.length_take]
          have h3 := flat_len (f := movesT g k s) (c := 1001) ((pageE g k s.l).take i) (fun e _ => by
            have := movesT_len (g := g) (k := k) (s := s) (e := e)
            have := mkN_le g e
            omega)
          have h4 := pageE_len (g := g) (k := k) (l := s.l)
          have h5 := movesT_len (g := g) (k := k) (s := s) (e := y)
          have h6 := mkN_le g y
          have h7 : ((pageE g k s.l).take i).length ≤ 1001 := by rw [List.length_take]; omega
          have h8 := Nat.mul_le_mul_right 1001 h7
          exact Nat.lt_of_lt_of_le (show _ < 1100000 by omega) (by decide)
        · rw [List.take_add_one, emv, ← List.append_assoc, List.map_append (l₂ := (some mv).toList)]
          rfl
      · rintro acc1 S' ⟨_, rfl, hDc2, k4⟩
        rw [List.length_map, List.take_length] at hDc2 ⊢
        rw [efl]
        refine ⟨hi, rfl, hDc2, fun c d hc hd => ?_⟩
        have hcD : c ≠ D := (ne_free hd hD).symm
        exact k4 c d (notin1 hcD) (k3 c d (fun h => by cases h) (k2 c d hc hd))
    · rintro acc S' ⟨_, rfl, hDc, k2⟩
      unfold natW at hDc
      rw [List.length_map, List.take_length] at hDc
      exact fg_here (q D S' hDc (k1.free hD (fun h => by cases h)) (k1.trans k2))⟩
end
end K62
set_option Elab.async false
set_option linter.all false
set_option maxRecDepth 100000
set_option maxHeartbeats 4000000
set_option synthInstance.maxHeartbeats 4000000
set_option synthInstance.maxSize 100000
namespace K62
open PySem PySem.Spec PyProof.Rows L2 Wl
local macro_rules | `(tactic| walk_at "w") => `(tactic| (conv => whnf))
/-! what a store holds -/
local macro_rules | `(tactic| walk_at "ne") => `(tactic| first | assumption | (apply Ne.symm; assumption) | exact ne_free (by assumption) (by assumption) | exact (ne_free (by assumption) (by assumption)).symm | exact Pl.ne (by assumption) (by assumption) | exact (Pl.ne (by assumption) (by assumption)).symm)
local macro_rules | `(tactic| walk_at "s") => `(tactic| first
  | exact put_same
  | assumption
  | (refine (put_ne ?_).trans ?_; (· walk_at "ne"); (· walk_at "s")))
/-! a side condition -/
local macro_rules | `(tactic| walk_at "c") => `(tactic| first
  | exact Or.inl (Or.inl ⟨by omega, by omega⟩)
  | exact Or.inl (Or.inr ⟨by omega, by omega⟩)
  | exact Or.inl ⟨by omega, by omega⟩
  | exact Or.inl ⟨rfl, _, by walk_at "s"⟩
  | rfl
  | omega
  | decide
  | exact Nat.le_trans (by omega) sizeLine_ge)
/-! one question is answered, if the answer is plain -/
local macro_rules | `(tactic| walk_at "g1") => `(tactic| first
  | refine ⟨fun _ => ?_, fun h => absurd (show true = false from h) (by decide)⟩
  | refine ⟨fun h => absurd (show false = true from h) Bool.false_ne_true, fun _ => ?_⟩
  | refine ⟨_, by walk_at "s", ?_⟩
  | refine ⟨_, _, by walk_at "s", by walk_at "s", ?_⟩
  | refine ⟨_, by walk_at "s", by simpa using (by omega), ?_⟩
  | refine ⟨_, rfl, ?_⟩
  | refine ⟨_, _, rfl, (by first | exact isTy_tt | exact isTy_ii | exact isTy_ll | exact isTy_ss | exact isTy_ib | exact isTy_tb | exact isTy_ti | exact isTy_ts | exact isTy_tl | exact isTy_lb | exact isTy_li | exact isTy_ls | exact isTy_lt | exact isTy_sb | exact isTy_si | exact isTy_st | exact isTy_sl | exact isTy_is | exact isTy_it | exact isTy_il | exact isTy_bi | exact isTy_bs | exact isTy_bb | exact isTy_nb | exact isTy_ni | exact isTy_ns | exact isTy_nt | exact isTy_nl | exact isTy_bt | exact isTy_bl | exact isTy_nd | exact isTy_td | exact isTy_ld | exact isTy_sd | exact isTy_id | exact isTy_bd | exact isTy_dd | exact isTy_db | exact isTy_di | exact isTy_ds | exact isTy_dt | exact isTy_dl), ?_⟩
  | refine ⟨_, _, tyName_lst (by walk_at "s"), (by first | exact isTy_ll | exact isTy_lb | exact isTy_li | exact isTy_ls | exact isTy_lt), ?_⟩
  | refine if_q ?_
  | refine ⟨by walk_at "c", ?_⟩)
local macro_rules | `(tactic| walk_at "go") => `(tactic| (walk_at "w"; repeat (walk_at "g1"; walk_at "w")))
/-! a branch that cannot be -/
local macro_rules | `(tactic| walk_at "two") => `(tactic| refine ⟨fun h => ?_, fun h => ?_⟩)
section
variable {P : Program} {w : World} {K : PySem.W.Frag} {mg : Str → Option Value} {base : Heap} {ec : Cls}
def splitsL (g : List Ln) (k : FK) (l e : Nat) : List Nat := if k.i = 1 ∨ l = e then [e] else (List.range' (l + 1) (e - l)).filter (mayC g)
def mx2 (a b : Int) : Int := if b > a then b else a
def absI (i : Int) : Int := if i < 0 then -i else i
def slackS (mx room : Int) (last : Bool) : Int := if last then 0 else room - mx
def priceS (g : List Ln) (k : FK) (l e p : Nat) (room : Int) (last : Bool) : Option Int :=
  if mx2 (colH g l p) (colH g p e) > room then none
  else some (if k.i = 1 then slackS (mx2 (colH g l p) (colH g p e)) room last * slackS (mx2 (colH g l p) (colH g p e)) room last
    else slackS (mx2 (colH g l p) (colH g p e)) room last * slackS (mx2 (colH g l p) (colH g p e)) room last + k.lo * absI (colH g l p - colH g p e))
/-- what a galley may be -/
structure GOk (g : List Ln) : Prop where
  n : g.length ≤ 1000
  f : (fsG g).length ≤ 1000
  h0 : ∀ l ∈ g, 0 ≤ l.h
  o0 : ∀ l ∈ g, 0 ≤ l.o
  n0 : ∀ l ∈ g, ∀ x ∈ l.ns, 0 ≤ x
  f0 : ∀ l ∈ g, ∀ x ∈ l.fs, 0 ≤ x
  nn : ∀ l ∈ g, l.ns.length ≤ 100
theorem sumT_mono {xs : List Int} (h : ∀ x ∈ xs, 0 ≤ x) : ∀ {j i : Nat}, i ≤ j → sumT xs i ≤ sumT xs j := by
  intro j
  induction j with
  | zero => intro i hi; rw [show i = 0 by omega]; exact Int.le_refl _
  | succ j ih =>
    intro i hi
    by_cases he : i = j + 1
    · rw [he]; exact Int.le_refl _
    · have h1 := ih (i := i) (by omega)
      cases e : xs[j]? with
      | none =>
        have h2 : sumT xs (j + 1) = sumT xs j := by
          unfold sumT
          rw [List.take_add_one, e]
          show ((xs.take j) ++ []).sum = _
          rw [List.append_nil]
        omega
      | some x =>
        have h2 : sumT xs (j + 1) = sumT xs j + x := sum_take_succ e
        have := h x (List.mem_of_getElem? e)
        omega
theorem colH_nonneg {g : List Ln} (h : GOk g) {s e : Nat} (hs : s ≤ e) : 0 ≤ colH g s e := by
  unfold colH
  split
  · exact Int.le_refl _
  · have h1 := sumT_mono (xs := hsG g) (fun x hx => by obtain ⟨l, hl, rfl⟩ := List.mem_map.mp hx; exact h.h0 l hl) hs
    have h2 := sumT_mono (xs := osG g) (fun x hx => by obtain ⟨l, hl, rfl⟩ := List.mem_map.mp hx; exact h.o0 l hl) (show s + 1 ≤ e by omega)
    omega
def spSp (CO CS CF : Addr) : SpW := fun ws S Q => ∃ (x m f b : Addr) (g : List Ln) (k : FK) (a : SmA) (l e : Nat), ws = [.ref x, .int l, .int e] ∧ OpAt CO CS CF S x g k m f b a ∧ GOk g ∧ l ≤ e ∧ e ≤ g.length ∧ ∀ D S', S' D = some (.lst (natW (splitsL g k l e))) → S D = none → KpL [] S S' → Q (.ref D) S'
theorem ok_splits (T : Txt K mg ec) (c_Sums_may_cut : CalM P w K mg base 1 ec.Sums "may_cut" (Hd (spMC ec.Sums))) (d : MethAt K ec.Options "_splits" "Options._splits" s_Options__splits ["self", "line", "end"]) : CalM P w K mg base 2 ec.Options "_splits" (spSp ec.Options ec.Sums ec.Frame) :=
  calM d sc_Options__splits (fun ws S Q ⟨x, m, f, b, g, k, a, l, e, hE, _⟩ => by rw [hE]; rfl) fun f cdv A outer s0 H E hr => ⟨_, _,
    (pss_cons (ps_if (PW.pt (pw_or (pt_cmpR (k_eq K hr.units) (k_fld K (k_fld K (pv 0))) pe_int (nomark _)) (pw_or1 (pt_cmpR (k_eq K hr.units) (pv 1) (pv 2) (nomark _)))))
       (pss_one (ps_ret (pe_lst (pa_cons (pv 2) pa_nil))))
       pss_nil)
      (pss_one (ps_ret (pe_lc (own := [("split", 3)]) rfl sc_Options__splits.nd (pi_range2 rfl T.b_range (pa_cons (pe_op (k_addB K) (pv 1) pe_int) (pa_cons (pe_op (k_addB K) (pv 2) pe_int) pa_nil))) (blkOk_by (own := [("split", 3)]) (N := ["self", "line", "end", "split"]) (sc := defScope s_Options__splits) (by decide +kernel)) (fun _ _ _ _ _ => (pg_name (i := 3) sc_Options__splits.nd rfl (Or.inl rfl))) (fun _ _ _ _ _ => (pts_one (pt_val (k_meth K T.cl_Sums c_Sums_may_cut hr (by decide) (k_fld K (pv 0)) (pa_cons (pv 3) pa_nil))))) (fun _ _ _ _ _ => (pv 3)))))), inferInstance, by
    rintro ws S Q ⟨x, m, f, b, g, k, a, l, e, rfl, h, hg, hle, hen, q⟩
    have hgn := hg.n
    have one : k.i = 1 ∨ l = e → ∀ D, S D = none → FgI Q (.ref D) (put S D (.lst [.int e])) := fun hc D hD => by
      refine fg_here (q D _ ?_ hD ((KpL.refl [] S).new hD))
      rw [put_same]
      unfold splitsL
      rw [if_pos hc]
      rfl
    walk_at "w"
    refine if_ev (decide (k.i = 1) || decide ((l : Int) = (e : Int))) (evOr (fun Q q => ?_) (fun _ Q q => ?_)) (fun hc => ?_) (fun hc => ?_)
    · walk_at "w"
      refine ⟨_, _, _, h.hx, T.fl_Options__frame, rfl, ?_⟩
      walk_at "w"
      refine ⟨_, _, _, h.fr, T.fl_Frame_columns, fra_i k, ?_⟩
      exact q
    · walk_at "w"
      exact q
    · have hc : k.i = 1 ∨ l = e := by
        rw [Bool.or_eq_true, decide_eq_true_eq, decide_eq_true_eq] at hc
        omega
      walk_at "w"
      intro D hD
      exact one hc D hD
    · have hc : ¬ (k.i = 1 ∨ l = e) := by
        rw [Bool.or_eq_false_iff, decide_eq_false_iff_not, decide_eq_false_iff_not] at hc
        omega
      walk_at "w"
      refine ⟨⟨by omega, by omega, by omega, by omega⟩, ?_⟩
      have erg : intsW ((l : Int) + 1) ((e : Int) + 1 - ((l : Int) + 1)).toNat = (List.range' (l + 1) (e - l)).map fun z : Nat => W.int (z : Int) := by
        unfold intsW
        rw [show ((e : Int) + 1 - ((l : Int) + 1)).toNat = e - l by omega, List.range'_eq_map_range, List.map_map]
        refine List.map_congr_left fun z _ => ?_
        show W.int _ = W.int _
        congr 1
        all_goals omega
      rw [erg]
      refine lc_filD (fun z : Nat => W.int (z : Int)) (List.range' (l + 1) (e - l)) (fun z => [some (.ref x), some (.int l), some (.int e), some (.int (z : Int))]) (mayC g) (fun z => W.int (z : Int)) (by rw [List.length_range']; omega) (fun _ _ _ => trivial) ?_ ?_ ?_ ?_
      · intro z S8 R8 hz hR8
        exact hR8
      · intro z D acc hz hD Q' q'
        obtain ⟨i, hi, rfl⟩ := List.mem_range'.mp hz
        have h2 := h.keep (S' := put S D (.lst acc)) (fun c d hc => (put_ne (ne_free hc hD).symm).trans hc)
        walk_at "w"
        refine ⟨_, _, _, h2.hx, T.fl_Options__sums, rfl, ?_⟩
        walk_at "w"
        refine ⟨⟨_, h2.sm.hx, rfl⟩, ?_⟩
        walk_at "w"
        refine Hd.mk ⟨m, g, a, l + 1 + 1 * i, rfl, h2.sm, by omega, ?_⟩
        exact q'
      · intro z D acc hz hpz hD Q' q'
        walk_at "w"
        exact q'
      intro D hD
      refine fg_here (q D _ ?_ hD ((KpL.refl [] S).new hD))
      rw [put_same]
      unfold splitsL natW
      rw [if_neg hc]⟩
def optI : Option Int → W
  | some i => .int i
  | none => .non
def spPr2 (CO CS CF : Addr) : SpW := fun ws S Q => ∃ (x m f b : Addr) (g : List Ln) (k : FK) (a : SmA) (l e p : Nat) (room : Int) (last : Bool), ws = [.ref x, .int l, .int e, .int p, .int room, .bl last] ∧ OpAt CO CS CF S x g k m f b a ∧ GOk g ∧ FkOk k ∧ l ≤ p ∧ p ≤ e ∧ e ≤ g.length ∧ room ≤ 1000000 ∧ Q (optI (priceS g k l e p room last)) S
theorem ok_split_price (T : Txt K mg ec) (c_Sums_column_height : CalM P w K mg base 2 ec.Sums "column_height" (Hd (spCH ec.Sums))) (d : MethAt K ec.Options "_split_price" "Options._split_price" s_Options__split_price ["self", "line", "end", "split", "room", "is_last"]) : CalM P w K mg base 3 ec.Options "_split_price" (spPr2 ec.Options ec.Sums ec.Frame) :=
  calM d sc_Options__split_price (fun ws S Q ⟨x, m, f, b, g, k, a, l, e, p, room, last, hE, _⟩ => by rw [hE]; rfl) fun f cdv A outer s0 H E hr => ⟨_, _,
    (pss_cons (ps_par (i := 6) (j := 7) (by rfl) sc_Options__split_price.nd rfl rfl (by decide) rfl rfl (pa_cons (k_meth K T.cl_Sums c_Sums_column_height hr (by decide) (k_fld K (pv 0)) (pa_cons (pv 1) (pa_cons (pv 3) pa_nil))) (pa_cons (k_meth K T.cl_Sums c_Sums_column_height hr (by decide) (k_fld K (pv 0)) (pa_cons (pv 3) (pa_cons (pv 2) pa_nil))) pa_nil)) (by rfl))
      (pss_cons (ps_if (pt_cmpR op_gtA (pe_callB (call_max2 rfl) (by rfl) T.b_max (by decide +kernel) (pa_cons (pv 6) (pa_cons (pv 7) pa_nil))) (pv 4) (nomark _))
       (pss_one (ps_ret pe_non))
       pss_nil)
      (pss_cons (ps_set (i := 8) sc_Options__split_price.nd rfl (Or.inl rfl) (pe_ifExp (k_truth K (pv 5)) pe_int (pe_op op_sub (pv 4) (pe_callB (call_max2 rfl) (by rfl) T.b_max (by decide +kernel) (pa_cons (pv 6) (pa_cons (pv 7) pa_nil))))))
      (pss_cons (ps_if (pt_cmpR (k_eq K hr.units) (k_fld K (k_fld K (pv 0))) pe_int (nomark _))
       (pss_one (ps_ret (pe_op op_mulA (pv 8) (pv 8))))
       pss_nil)
      (pss_one (ps_ret (pe_op (k_addB K) (pe_op op_mulA (pv 8) (pv 8)) (pe_op op_mulA (k_fld K (k_fld K (pv 0))) (pe_callB call_abs (by rfl) T.b_abs (by decide +kernel) (pa_cons (pe_op op_sub (pv 6) (pv 7)) pa_nil)))))))))), inferInstance, by
    rintro ws S Q ⟨x, m, f, b, g, k, a, l, e, p, room, last, rfl, h, hg, fk, hlp, hpe, hen, hroom, q⟩
    have c1 := colH_nonneg hg hlp
    have c2 := colH_nonneg hg hpe
    have lo0 := fk.lo0
    have lo1 := fk.lo1
    unfold priceS at q
    walk_at "w"
    refine ⟨_, _, _, h.hx, T.fl_Options__sums, rfl, ?_⟩
    walk_at "w"
    refine ⟨⟨_, h.sm.hx, rfl⟩, ?_⟩
    walk_at "w"
    refine Hd.mk ⟨m, g, a, l, p, rfl, h.sm, hlp, by omega, ?_⟩
    walk_at "w"
    refine ⟨_, _, _, h.hx, T.fl_Options__sums, rfl, ?_⟩
    walk_at "w"
    refine ⟨⟨_, h.sm.hx, rfl⟩, ?_⟩
    walk_at "w"
    refine Hd.mk ⟨m, g, a, p, e, rfl, h.sm, hpe, hen, ?_⟩
    walk_at "w"
    generalize colH g l p = A1 at q c1
    generalize colH g p e = A2 at q c2
    have hm1 : A1 ≤ mx2 A1 A2 ∧ A2 ≤ mx2 A1 A2 := by unfold mx2; split <;> omega
    refine ⟨fun z => ?_, fun z => ?_⟩
    · have z : decide (room < mx2 A1 A2) = true := z
      rw [if_pos (of_decide_eq_true z)] at q
      walk_at "w"
      exact fg_here q
    have z : decide (room < mx2 A1 A2) = false := z
    have z := of_decide_eq_false z
    rw [if_neg z] at q
    have ab : absI (A1 - A2) ≤ 1000000 ∧ 0 ≤ absI (A1 - A2) := by unfold absI; split <;> omega
    have cont : ∀ sl : Int, slackS (mx2 A1 A2) room last = sl → 0 ≤ sl ∧ sl ≤ 1000000 →
        wSeq (wIfS (wT (wOp wEq (wFld K (wFld K (wVar 0) "_frame") "columns") (wC (W.int 1)))) (wRet (wOp (wIC CMulA HMul.hMul) (wVar 8) (wVar 8))) wNext)
          (wRet (wOp wAddB (wOp (wIC CMulA HMul.hMul) (wVar 8) (wVar 8)) (wOp (wIC CMulA HMul.hMul) (wFld K (wFld K (wVar 0) "_frame") "uneven") (wCB (w1I fun i => if i < 0 then -i else i) (wCons (wOp (wII HSub.hSub) (wVar 6) (wVar 7)) wNil)))))
          { nx := fun x S' => FgI Q W.non S', rt := FgI Q } [some (.ref x), some (.int l), some (.int e), some (.int p), some (.int room), some (.bl last), some (.int A1), some (.int A2), some (.int sl)] S := fun sl es hsl => by
      rw [es] at q
      walk_at "w"
      refine ⟨_, _, _, h.hx, T.fl_Options__frame, rfl, ?_⟩
      walk_at "w"
      refine ⟨_, _, _, h.fr, T.fl_Frame_columns, fra_i k, ?_⟩
      walk_at "w"
      refine ⟨fun y => ?_, fun y => ?_⟩
      · rw [if_pos (of_decide_eq_true y)] at q
        walk_at "w"
        refine ⟨.inl (.inl ⟨by omega, by omega⟩), ?_⟩
        exact fg_here q
      · rw [if_neg (of_decide_eq_false y)] at q
        walk_at "w"
        refine ⟨.inl (.inl ⟨by omega, by omega⟩), ?_⟩
        walk_at "w"
        refine ⟨_, _, _, h.hx, T.fl_Options__frame, rfl, ?_⟩
        walk_at "w"
        refine ⟨_, _, _, h.fr, T.fl_Frame_uneven, fra_lo k, ?_⟩
        walk_at "w"
        refine ⟨.inl (.inl ⟨by omega, by omega⟩), ?_⟩
        exact fg_here q
    cases last with
    | true =>
      walk_at "w"
      refine ⟨fun _ => ?_, fun h => absurd (show true = false from h) (by decide)⟩
      exact cont 0 rfl ⟨by decide, by decide⟩
    | false =>
      walk_at "w"
      refine ⟨fun h => absurd (show false = true from h) Bool.false_ne_true, fun _ => ?_⟩
      exact cont (room - mx2 A1 A2) rfl ⟨by omega, by omega⟩⟩
end
end K62
set_option Elab.async false
set_option linter.all false
set_option maxRecDepth 100000
set_option maxHeartbeats 4000000
set_option synthInstance.maxHeartbeats 4000000
set_option synthInstance.maxSize 100000
namespace K62
open PySem PySem.Spec PyProof.Rows L2 Wl
local macro_rules | `(tactic| walk_at "w") => `(tactic| (conv => whnf))
/-! what a store holds -/
local macro_rules | `(tactic| walk_at "ne") => `(tactic| first | assumption | (apply Ne.symm; assumption) | exact ne_free (by assumption) (by assumption) | exact (ne_free (by assumption) (by assumption)).symm | exact Pl.ne (by assumption) (by assumption) | exact (Pl.ne (by assumption) (by assumption)).symm)
local macro_rules | `(tactic| walk_at "s") => `(tactic| first
  | exact put_same
  | assumption
  | (refine (put_ne ?_).trans ?_; (· walk_at "ne"); (· walk_at "s")))
/-! a side condition -/
local macro_rules | `(tactic| walk_at "c") => `(tactic| first
  | exact Or.inl (Or.inl ⟨by omega, by omega⟩)
  | exact Or.inl (Or.inr ⟨by omega, by omega⟩)
  | exact Or.inl ⟨by omega, by omega⟩
  | exact Or.inl ⟨rfl, _, by walk_at "s"⟩
  | rfl
  | omega
  | decide
  | exact Nat.le_trans (by omega) sizeLine_ge)
/-! one question is answered, if the answer is plain -/
local macro_rules | `(tactic| walk_at "g1") => `(tactic| first
  | refine ⟨fun _ => ?_, fun h => absurd (show true = false from h) (by decide)⟩
  | refine ⟨fun h => absurd (show false = true from h) Bool.false_ne_true, fun _ => ?_⟩
  | refine ⟨_, by walk_at "s", ?_⟩
  | refine ⟨_, _, by walk_at "s", by walk_at "s", ?_⟩
  | refine ⟨_, by walk_at "s", by simpa using (by omega), ?_⟩
  | refine ⟨_, rfl, ?_⟩
  | refine ⟨_, _, rfl, (by first | exact isTy_tt | exact isTy_ii | exact isTy_ll | exact isTy_ss | exact isTy_ib | exact isTy_tb | exact isTy_ti | exact isTy_ts | exact isTy_tl | exact isTy_lb | exact isTy_li | exact isTy_ls | exact isTy_lt | exact isTy_sb | exact isTy_si | exact isTy_st | exact isTy_sl | exact isTy_is | exact isTy_it | exact isTy_il | exact isTy_bi | exact isTy_bs | exact isTy_bb | exact isTy_nb | exact isTy_ni | exact isTy_ns | exact isTy_nt | exact isTy_nl | exact isTy_bt | exact isTy_bl | exact isTy_nd | exact isTy_td | exact isTy_ld | exact isTy_sd | exact isTy_id | exact isTy_bd | exact isTy_dd | exact isTy_db | exact isTy_di | exact isTy_ds | exact isTy_dt | exact isTy_dl), ?_⟩
  | refine ⟨_, _, tyName_lst (by walk_at "s"), (by first | exact isTy_ll | exact isTy_lb | exact isTy_li | exact isTy_ls | exact isTy_lt), ?_⟩
  | refine if_q ?_
  | refine ⟨by walk_at "c", ?_⟩)
local macro_rules | `(tactic| walk_at "go") => `(tactic| (walk_at "w"; repeat (walk_at "g1"; walk_at "w")))
/-! a branch that cannot be -/
local macro_rules | `(tactic| walk_at "two") => `(tactic| refine ⟨fun h => ?_, fun h => ?_⟩)
section
variable {P : Program} {w : World} {K : PySem.W.Frag} {mg : Str → Option Value} {base : Heap} {ec : Cls}
theorem splitsL_mem {g : List Ln} {k : FK} {l e p : Nat} (hle : l ≤ e) (h : p ∈ splitsL g k l e) : l ≤ p ∧ p ≤ e := by
  unfold splitsL at h
  split at h
  · rw [List.mem_singleton.mp h]; exact ⟨hle, Nat.le_refl _⟩
  · obtain ⟨i, hi, rfl⟩ := List.mem_range'.mp (List.mem_filter.mp h).1
    omega
theorem splitsL_len {g : List Ln} {k : FK} {l e : Nat} : (splitsL g k l e).length ≤ e - l + 1 := by
  unfold splitsL
  split
  · show 1 ≤ _; omega
  · have := List.length_filter_le (mayC g) (List.range' (l + 1) (e - l))
    rw [List.length_range'] at this
    omega
def sprW (x : Nat × Option Int) : W := .tup [.int (x.1 : Int), optI x.2]
def sprL (g : List Ln) (k : FK) (l e : Nat) (room : Int) (last : Bool) : List (Nat × Option Int) := (splitsL g k l e).map fun p => (p, priceS g k l e p room last)
def sprS (g : List Ln) (k : FK) (l e : Nat) (room : Int) (last : Bool) : List (Nat × Option Int) := (sprL g k l e room last).filter fun x => x.2.isSome
theorem isN_opt (o : Option Int) : isN (optI o) = !o.isSome := by cases o <;> rfl
def spPs (CO CS CF : Addr) : SpW := fun ws S Q => ∃ (x m f b : Addr) (g : List Ln) (k : FK) (a : SmA) (l e : Nat) (room : Int) (last : Bool), ws = [.ref x, .int l, .int e, .int room, .bl last] ∧ OpAt CO CS CF S x g k m f b a ∧ GOk g ∧ FkOk k ∧ l ≤ e ∧ e ≤ g.length ∧ room ≤ 1000000 ∧ ∀ D S', S' D = some (.lst ((sprS g k l e room last).map sprW)) → S D = none → KpL [] S S' → Q (.ref D) S'
theorem ok_split_prices (T : Txt K mg ec) (c_Options__splits : CalM P w K mg base 2 ec.Options "_splits" (Hd (spSp ec.Options ec.Sums ec.Frame))) (c_Options__split_price : CalM P w K mg base 3 ec.Options "_split_price" (Hd (spPr2 ec.Options ec.Sums ec.Frame))) (d : MethAt K ec.Options "split_prices" "Options.split_prices" s_Options_split_prices ["self", "line", "end", "room", "is_last"]) : CalM P w K mg base 4 ec.Options "split_prices" (spPs ec.Options ec.Sums ec.Frame) :=
  have c_Options__splits := c_Options__splits.mono (k := 3) (by decide)
  calM d sc_Options_split_prices (fun ws S Q ⟨x, m, f, b, g, k, a, l, e, room, last, hE, _⟩ => by rw [hE]; rfl) fun f cdv A outer s0 H E hr => ⟨_, _,
    (pss_cons (ps_setLc (i := 5) (own := [("split", 6)]) rfl sc_Options_split_prices.nd rfl rfl (sw_true rfl rfl rfl (by decide +kernel)) (k_any K (k_meth K T.cl_Options c_Options__splits hr (by decide) (pv 0) (pa_cons (pv 1) (pa_cons (pv 2) pa_nil)))) (blkOk_by (own := [("split", 6)]) (N := ["self", "line", "end", "room", "is_last", "rows", "split", "price"]) (sc := defScope s_Options_split_prices) (by decide +kernel)) (fun _ _ _ _ _ => (pg_name (i := 6) sc_Options_split_prices.nd rfl (Or.inl rfl))) (fun _ _ _ _ _ => pts_nil) (fun _ _ _ _ _ => (pe_tup (pa_cons (pv 6) (pa_cons (k_meth K T.cl_Options c_Options__split_price hr (by decide) (pv 0) (pa_cons (pv 1) (pa_cons (pv 2) (pa_cons (pv 6) (pa_cons (pv 3) (pa_cons (pv 4) pa_nil)))))) pa_nil)))))
      (pss_one (ps_ret (pe_lc (own := [("split", 6), ("price", 7)]) rfl sc_Options_split_prices.nd (k_any K (pv 5)) (blkOk_by (own := [("split", 6), ("price", 7)]) (N := ["self", "line", "end", "room", "is_last", "rows", "split", "price"]) (sc := defScope s_Options_split_prices) (by decide +kernel)) (fun _ _ _ _ _ => (k_gtup K (n := 2) rfl (pgs_cons (pg_name (i := 6) sc_Options_split_prices.nd rfl (Or.inl rfl)) (pgs_cons (pg_name (i := 7) sc_Options_split_prices.nd rfl (Or.inl rfl)) pgs_nil)))) (fun _ _ _ _ _ => (pts_one (pt_cmpR op_notN (pv 7) pe_non (nomark _)))) (fun _ _ _ _ _ => (pe_tup (pa_cons (pv 6) (pa_cons (pv 7) pa_nil)))))))), inferInstance, by
    rintro ws S Q ⟨x, m, f, b, g, k, a, l, e, room, last, rfl, h, hg, fk, hle, hen, hroom, q⟩
    have hgn := hg.n
    walk_at "w"
    refine ⟨⟨_, h.hx, rfl⟩, ?_⟩
    walk_at "w"
    refine Hd.mk ⟨x, m, f, b, g, k, a, l, e, rfl, h, hg, hle, hen, fun E0 S1 hE0 hE0f k1 => ?_⟩
    have h1 := h.keep (fun c d hc => k1 c d (fun h => by cases h) hc)
    have hsl := splitsL_len (g := g) (k := k) (l := l) (e := e)
    walk_at "w"
    refine ⟨_, hE0, ?_⟩
    unfold natW
    refine lc_mapD (fun z : Nat => W.int (z : Int)) (splitsL g k l e) (fun z => sprW (z, priceS g k l e z room last)) (by omega) (fun D acc hD => (put_ne (ne_free hE0 hD).symm).trans hE0) ?_ ?_
    · intro z D acc hz hD Q' q'
      have h2 := h1.keep (S' := put S1 D (.lst acc)) (fun c d hc => (put_ne (ne_free hc hD).symm).trans hc)
      obtain ⟨z1, z2⟩ := splitsL_mem hle hz
      walk_at "w"
      refine ⟨⟨_, h2.hx, rfl⟩, ?_⟩
      walk_at "w"
      refine Hd.mk ⟨x, m, f, b, g, k, a, l, e, z, room, last, rfl, h2, hg, fk, z1, z2, hen, hroom, ?_⟩
      exact q'
    intro D hD
    have d1 : (put S1 D (.lst ((splitsL g k l e).map fun z => sprW (z, priceS g k l e z room last)))) D = some (.lst ((sprL g k l e room last).map sprW)) := by
      rw [put_same]
      unfold sprL
      rw [List.map_map]
      rfl
    have k2 : KpL [] S (put S1 D (.lst ((splitsL g k l e).map fun z => sprW (z, priceS g k l e z room last)))) := k1.new hD
    generalize put S1 D (.lst ((splitsL g k l e).map fun z => sprW (z, priceS g k l e z room last))) = S2 at d1 k2
    walk_at "w"
    refine ⟨_, d1, ?_⟩
    refine lc_filD sprW (sprL g k l e room last) (fun z => [some (.ref x), some (.int l), some (.int e), some (.int room), some (.bl last), some (.ref D), some (.int (z.1 : Int)), some (optI z.2)]) (fun z => z.2.isSome) sprW (by unfold sprL; rw [List.length_map]; omega) (fun D2 acc hD2 => (put_ne (ne_free d1 hD2).symm).trans d1) ?_ ?_ ?_ ?_
    · intro z S8 R8 hz hR8
      unfold sprW
      walk_at "w"
      refine ⟨rfl, ?_⟩
      walk_at "w"
      exact ⟨rfl, hR8⟩
    · intro z D2 acc hz hD2 Q' q'
      walk_at "w"
      refine ⟨rfl, ?_⟩
      rw [isN_opt, Bool.not_not]
      exact q'
    · intro z D2 acc hz hpz hD2 Q' q'
      walk_at "w"
      exact q'
    intro D2 hD2
    exact fg_here (q D2 _ put_same (k2.free hD2 (fun h => by cases h)) (k2.new hD2))⟩
def spLp (CO CS CF : Addr) : SpW := fun ws S Q => ∃ (x m f b : Addr) (g : List Ln) (k : FK) (a : SmA) (s : Sta), ws = [.ref x, s.v] ∧ OpAt CO CS CF S x g k m f b a ∧ FkOk k ∧ s.a.length ≤ 10000 ∧ Q (.int (k.ri * s.a.length)) S
theorem ok_late_price (T : Txt K mg ec) (d : MethAt K ec.Options "late_price" "Options.late_price" s_Options_late_price ["self", "state"]) : CalM P w K mg base 1 ec.Options "late_price" (spLp ec.Options ec.Sums ec.Frame) :=
  calM d sc_Options_late_price (fun ws S Q ⟨x, m, f, b, g, k, a, s, hE, _⟩ => by rw [hE]; rfl) fun f cdv A outer s0 H E hr => ⟨_, _,
    (pss_one (ps_ret (pe_op op_mulA (k_fld K (k_fld K (pv 0))) (pe_callB (k_len K) (by rfl) T.b_len (by decide +kernel) (pa_cons (pe_ix (k_ix K) (pv 1) pe_int (fun _ _ => rfl)) pa_nil))))), inferInstance, by
    rintro ws S Q ⟨x, m, f, b, g, k, a, s, rfl, h, fk, hl, q⟩
    have r0 := fk.ri0
    have r1 := fk.ri1
    walk_at "w"
    refine ⟨_, _, _, h.hx, T.fl_Options__frame, rfl, ?_⟩
    walk_at "w"
    refine ⟨_, _, _, h.fr, T.fl_Frame_late, fra_ri k, ?_⟩
    walk_at "w"
    rw [List.length_map]
    refine ⟨.inl (.inl ⟨by omega, by omega⟩), ?_⟩
    exact fg_here q⟩
end
end K62
set_option Elab.async false
set_option linter.all false
set_option maxRecDepth 100000
set_option maxHeartbeats 4000000
set_option synthInstance.maxHeartbeats 4000000
set_option synthInstance.maxSize 100000
namespace K62
open PySem PySem.Spec PyProof.Rows L2 Wl
local macro_rules | `(tactic| walk_at "w") => `(tactic| (conv => whnf))
/-! what a store holds -/
local macro_rules | `(tactic| walk_at "ne") => `(tactic| first | assumption | (apply Ne.symm; assumption) | exact ne_free (by assumption) (by assumption) | exact (ne_free (by assumption) (by assumption)).symm | exact Pl.ne (by assumption) (by assumption) | exact (Pl.ne (by assumption) (by assumption)).symm)
local macro_rules | `(tactic| walk_at "s") => `(tactic| first
  | exact put_same
  | assumption
  | (refine (put_ne ?_).trans ?_; (· walk_at "ne"); (· walk_at "s")))
/-! a side condition -/
local macro_rules | `(tactic| walk_at "c") => `(tactic| first
  | exact Or.inl (Or.inl ⟨by omega, by omega⟩)
  | exact Or.inl (Or.inr ⟨by omega, by omega⟩)
  | exact Or.inl ⟨by omega, by omega⟩
  | exact Or.inl ⟨rfl, _, by walk_at "s"⟩
  | rfl
  | omega
  | decide
  | exact Nat.le_trans (by omega) sizeLine_ge)
/-! one question is answered, if the answer is plain -/
local macro_rules | `(tactic| walk_at "g1") => `(tactic| first
  | refine ⟨fun _ => ?_, fun h => absurd (show true = false from h) (by decide)⟩
  | refine ⟨fun h => absurd (show false = true from h) Bool.false_ne_true, fun _ => ?_⟩
  | refine ⟨_, by walk_at "s", ?_⟩
  | refine ⟨_, _, by walk_at "s", by walk_at "s", ?_⟩
  | refine ⟨_, by walk_at "s", by simpa using (by omega), ?_⟩
  | refine ⟨_, rfl, ?_⟩
  | refine ⟨_, _, rfl, (by first | exact isTy_tt | exact isTy_ii | exact isTy_ll | exact isTy_ss | exact isTy_ib | exact isTy_tb | exact isTy_ti | exact isTy_ts | exact isTy_tl | exact isTy_lb | exact isTy_li | exact isTy_ls | exact isTy_lt | exact isTy_sb | exact isTy_si | exact isTy_st | exact isTy_sl | exact isTy_is | exact isTy_it | exact isTy_il | exact isTy_bi | exact isTy_bs | exact isTy_bb | exact isTy_nb | exact isTy_ni | exact isTy_ns | exact isTy_nt | exact isTy_nl | exact isTy_bt | exact isTy_bl | exact isTy_nd | exact isTy_td | exact isTy_ld | exact isTy_sd | exact isTy_id | exact isTy_bd | exact isTy_dd | exact isTy_db | exact isTy_di | exact isTy_ds | exact isTy_dt | exact isTy_dl), ?_⟩
  | refine ⟨_, _, tyName_lst (by walk_at "s"), (by first | exact isTy_ll | exact isTy_lb | exact isTy_li | exact isTy_ls | exact isTy_lt), ?_⟩
  | refine if_q ?_
  | refine ⟨by walk_at "c", ?_⟩)
local macro_rules | `(tactic| walk_at "go") => `(tactic| (walk_at "w"; repeat (walk_at "g1"; walk_at "w")))
/-! a branch that cannot be -/
local macro_rules | `(tactic| walk_at "two") => `(tactic| refine ⟨fun h => ?_, fun h => ?_⟩)
section
variable {P : Program} {w : World} {K : PySem.W.Frag} {mg : Str → Option Value} {base : Heap} {ec : Cls}
theorem sum_nonneg {xs : List Int} (h : ∀ x ∈ xs, 0 ≤ x) : 0 ≤ xs.sum := by
  induction xs with
  | nil => exact Int.le_refl _
  | cons x xs ih =>
    rw [List.sum_cons]
    have h1 := h x List.mem_cons_self
    have h2 := ih fun y hy => h y (List.mem_cons_of_mem _ hy)
    omega
theorem notH_nonneg {g : List Ln} {k : FK} (h : GOk g) (fk : FkOk k) {s e : Nat} (hs : s ≤ e) : 0 ≤ notH g s e k.al := by
  unfold notH
  split
  · exact Int.le_refl _
  · have h1 := sumT_mono (xs := nsG g) (fun x hx => by obtain ⟨l, hl, rfl⟩ := List.mem_map.mp hx; exact sum_nonneg (h.n0 l hl)) hs
    have := fk.al0
    omega
theorem floH_nonneg {g : List Ln} {k : FK} (h : GOk g) (fk : FkOk k) {s e : Nat} (hs : s ≤ e) : 0 ≤ floH g s e k.hy := by
  unfold floH
  split
  · exact Int.le_refl _
  · have h1 := sumT_mono (xs := fsG g) (fun x hx => by obtain ⟨l, hl, hx⟩ := List.mem_flatMap.mp hx; exact h.f0 l hl x hx) hs
    have := fk.hy0
    omega
/-- what holds of a move -/
structure MvOk (g : List Ln) (k : FK) (s : Sta) (x : Mv) : Prop where
  e0 : s.l ≤ x.e
  e1 : x.e ≤ g.length
  f0 : s.f ≤ x.fe
  f1 : x.fe ≤ mkN g x.e
  mv : x = mvM g k s x.e x.fe
  r : x.r ≤ 1000000
  st : StOk g x.s
theorem movesT_ok {g : List Ln} {k : FK} {s : Sta} {e : Nat} {x : Mv} (hg : GOk g) (fk : FkOk k) (hs : StOk g s) (h0 : s.l ≤ e) (h1 : e ≤ g.length) (h : x ∈ movesT g k s e) : MvOk g k s x := by
  unfold movesT at h
  obtain ⟨fe, hf, rfl⟩ := List.mem_map.mp h
  have hr := List.takeWhile_subset _ (List.mem_filter.mp hf).1
  unfold rngM at hr
  obtain ⟨i, hi, rfl⟩ := List.mem_range'.mp hr
  obtain ⟨l1, l2, l3⟩ := leastF_lo (k := k) hs h0
  have hm := mkN_mono g h0
  have hf1 := hs.f
  have hal := hs.a
  refine ⟨h0, h1, by show s.f ≤ lowM g k s e + 1 * i; omega, by show lowM g k s e + 1 * i ≤ mkN g e; omega, rfl, ?_, h1, by show lowM g k s e + 1 * i ≤ mkN g e; omega, ?_⟩
  · show roomM g k s e (lowM g k s e + 1 * i) ≤ _
    unfold roomM
    have a1 := notH_nonneg hg fk h0
    have a2 := floH_nonneg hg fk (show s.f ≤ lowM g k s e + 1 * i by omega)
    have := fk.w1
    omega
  · show ((s.a.map fun a => a + 1).drop (lowM g k s e + 1 * i - s.f) ++ List.replicate (mkN g e - max (lowM g k s e + 1 * i) (mkN g s.l)) 1).length = mkN g e - (lowM g k s e + 1 * i)
    rw [List.length_append, List.length_drop, List.length_map, List.length_replicate]
    omega
theorem movesA_ok {g : List Ln} {k : FK} {s : Sta} {x : Mv} (hg : GOk g) (fk : FkOk k) (hs : StOk g s) (h : x ∈ movesA g k s) : MvOk g k s x := by
  obtain ⟨e, he, hx⟩ := List.mem_flatMap.mp h
  obtain ⟨e0, e1⟩ := pageE_mem hs.l he
  exact movesT_ok hg fk hs e0 e1 hx
structure Row where
  e : Nat
  fe : Nat
  p : Nat
  c : Int
  s : Sta
def Row.v (x : Row) : W := .tup [.int x.e, .int x.fe, .int x.p, .int x.c, x.s.v]
instance : DecidableEq Sta := fun a b => by
  cases a with
  | mk l f a =>
    cases b with
    | mk l2 f2 a2 =>
      exact decidable_of_iff (l = l2 ∧ f = f2 ∧ a = a2) ⟨fun h => by rw [h.1, h.2.1, h.2.2], fun h => by cases h; exact ⟨rfl, rfl, rfl⟩⟩
def rowsOf (g : List Ln) (k : FK) (l : Nat) (x : Mv) : List Row := (sprS g k l x.e x.r (decide (x.s = lastS g))).map fun z => ⟨x.e, x.fe, z.1, z.2.getD 0 + k.ri * x.s.a.length, x.s⟩
def pagesP (g : List Ln) (k : FK) (s : Sta) : List Row := (movesA g k s).flatMap (rowsOf g k s.l)
theorem eqv_ints : ∀ ps qs : List Int, PyData.eqvAll (toDs (ps.map W.int)) (toDs (qs.map W.int)) = decide (ps = qs)
  | [], [] => rfl
  | [], _ :: _ => rfl
  | _ :: _, [] => rfl
  | a :: ps, b :: qs => by
    have ih := eqv_ints ps qs
    show (a == b && PyData.eqvAll (toDs (ps.map W.int)) (toDs (qs.map W.int))) = _
    rw [ih]
    by_cases h : a = b
    · subst h; simp
    · simp [h]
theorem eqv_sta (s t : Sta) : PyData.eqv (toD s.v) (toD t.v) = decide (s = t) := by
  have h1 := eqv_ints s.a t.a
  have h2 : PyData.eqv (toD s.v) (toD t.v) = (((s.l : Int) == (t.l : Int)) && (((s.f : Int) == (t.f : Int)) && (PyData.eqvAll (toDs (s.a.map W.int)) (toDs (t.a.map W.int)) && true))) := by simp [Sta.v, toD, toDs, PyData.eqv, PyData.eqvAll]
  rw [h2, h1, Bool.eq_iff_iff]
  simp only [Bool.and_eq_true, beq_iff_eq, decide_eq_true_eq, Bool.and_true]
  constructor
  · rintro ⟨a, b, c⟩
    cases s; cases t
    simp only at a b c
    rw [Int.ofNat_inj.mp a, Int.ofNat_inj.mp b, c]
  · rintro rfl
    exact ⟨rfl, rfl, rfl⟩
theorem sh_sta (s : Sta) : shW s.v := shN_sh (n := 2) (shN_tup fun w hw => by
  rcases List.mem_cons.mp hw with h | hw
  · rw [h]; exact shN_up (shN_int _) (by decide)
  · rcases List.mem_cons.mp hw with h | hw
    · rw [h]; exact shN_up (shN_int _) (by decide)
    · rw [List.mem_singleton.mp hw]
      exact shN_tup fun w hw => by
        obtain ⟨n, _, rfl⟩ := List.mem_map.mp hw
        exact shN_int n) (by decide)
theorem rowsOf_len {g : List Ln} {k : FK} {l : Nat} {x : Mv} (h : x.e ≤ g.length) : (rowsOf g k l x).length ≤ g.length + 1 := by
  unfold rowsOf
  rw [List.length_map]
  unfold sprS
  have h1 := List.length_filter_le (fun x => x.2.isSome) (sprL g k l x.e x.r (decide (x.s = lastS g)))
  have h2 := splitsL_len (g := g) (k := k) (l := l) (e := x.e)
  unfold sprL at h1
  rw [List.length_map] at h1
  unfold sprL
  omega
theorem movesA_len {g : List Ln} {k : FK} {s : Sta} (h1 : g.length ≤ 100) (h2 : (fsG g).length ≤ 100) : (movesA g k s).length ≤ 10201 := by
  unfold movesA
  have h3 := flat_len (f := movesT g k s) (c := 101) (pageE g k s.l) (fun e _ => by
    have := movesT_len (g := g) (k := k) (s := s) (e := e)
    have := mkN_le g e
    omega)
  have h4 := pageE_len (g := g) (k := k) (l := s.l)
  have h5 : (pageE g k s.l).length ≤ 101 := by omega
  have h6 := Nat.mul_le_mul_right 101 h5
  omega
def spPo (CF : Addr) : SpW := fun ws S Q => ∃ (f : Addr) (g : List Ln) (k : FK) (s : Sta), ws = [galT g, .ref f, s.v] ∧ S f = some (fraC CF k) ∧ g.length ≤ 100 ∧ (fsG g).length ≤ 100 ∧ GOk g ∧ FkOk k ∧ StOk g s ∧ ∀ D S', S' D = some (.lst ((pagesP g k s).map Row.v)) → S D = none → KpL [] S S' → Q (.ref D) S'
theorem ok_page_options (T : Txt K mg ec) (c_Options___init__ : CalI P w K mg base 4 ec.Options (Hd (spOi ec.Options ec.Sums ec.Frame))) (c_Options_moves : CalM P w K mg base 4 ec.Options "moves" (Hd (spMv ec.Options ec.Sums ec.Frame))) (c_Options_late_price : CalM P w K mg base 1 ec.Options "late_price" (Hd (spLp ec.Options ec.Sums ec.Frame))) (c_Options_split_prices : CalM P w K mg base 4 ec.Options "split_prices" (Hd (spPs ec.Options ec.Sums ec.Frame))) (d : DefAt K mg "page_options" s_page_options ["galley", "frame", "state"]) : CalW P w K mg base 6 "page_options" (spPo ec.Frame) :=
  have c_Options_moves := c_Options_moves.mono (k := 5) (by decide)
  have c_Options_late_price := c_Options_late_price.mono (k := 5) (by decide)
  have c_Options_split_prices := c_Options_split_prices.mono (k := 5) (by decide)
  calDI d sc_page_options (fun ws S Q ⟨f, g, k, s, hE, _⟩ => by rw [hE]; rfl) fun f0 cdv A outer s0 H E hr => ⟨_, _,
    (pss_cons (ps_set (i := 3) sc_page_options.nd rfl (Or.inl rfl) (k_make K c_Options___init__ T.gm_Options hr (by decide) rfl (pa_cons (pv 0) (pa_cons (pv 1) pa_nil))))
      (pss_cons (ps_set (i := 4) sc_page_options.nd rfl (Or.inl rfl) (pe_lst pa_nil))
      (pss_cons (ps_for PassesOwn.never rfl (k_any K (k_meth K T.cl_Options c_Options_moves hr (by decide) (pv 3) (pa_cons (pv 2) pa_nil))) (k_gtup K (n := 4) rfl (pgs_cons (pg_name (i := 5) sc_page_options.nd rfl (Or.inl rfl)) (pgs_cons (pg_name (i := 6) sc_page_options.nd rfl (Or.inl rfl)) (pgs_cons (pg_name (i := 7) sc_page_options.nd rfl (Or.inl rfl)) (pgs_cons (pg_name (i := 8) sc_page_options.nd rfl (Or.inl rfl)) pgs_nil)))))
       (pss_cons (ps_set (i := 9) sc_page_options.nd rfl (Or.inl rfl) (k_meth K T.cl_Options c_Options_late_price hr (by decide) (pv 3) (pa_cons (pv 8) pa_nil)))
       (pss_one (ps_for PassesOwn.never rfl (k_any K (k_meth K T.cl_Options c_Options_split_prices hr (by decide) (pv 3) (pa_cons (pe_ix (k_ix K) (pv 2) pe_int (fun _ _ => rfl)) (pa_cons (pv 5) (pa_cons (pv 7) (pa_cons (pe_cmpR (k_eq K hr.units) (pv 8) (k_fld K (pv 3)) (nomark _)) pa_nil)))))) (k_gtup K (n := 2) rfl (pgs_cons (pg_name (i := 10) sc_page_options.nd rfl (Or.inl rfl)) (pgs_cons (pg_name (i := 11) sc_page_options.nd rfl (Or.inl rfl)) pgs_nil)))
        (pss_one (ps_expr (k_bm K PySem.F.plainAttrs_list PySem.F.slot_list_append PySem.F.type_list_append mt_append (pv 4) (pa_cons (pe_tup (pa_cons (pv 5) (pa_cons (pv 6) (pa_cons (pv 10) (pa_cons (pe_op (k_addB K) (pv 11) (pv 9)) (pa_cons (pv 8) pa_nil)))))) pa_nil))))))))
      (pss_one (ps_ret (pv 4)))))), inferInstance, by
    rintro ws S Q ⟨f, g, k, s, rfl, hf, hn, hF, hg, fk, hs, q⟩
    walk_at "w"
    intro x hx
    have hxf : x ≠ f := ne_free hf hx
    refine Hd.mk ⟨x, f, g, k, rfl, put_same, (put_ne hxf.symm).trans hf, hg.n, by omega, fun m b a S1 op k1 => ⟨rfl, ?_⟩⟩
    have kS : KpL [] S S1 := fun c d _ h => k1 c d (notin1 (ne_free h hx).symm) ((put_ne (ne_free h hx).symm).trans h)
    walk_at "w"
    intro D hD
    have hDS : S D = none := kS.free hD (fun h => by cases h)
    have op2 := op.keep (S' := put S1 D (.lst [])) (fun c d hc => (put_ne (ne_free hc hD).symm).trans hc)
    walk_at "w"
    refine ⟨⟨_, op2.hx, rfl⟩, ?_⟩
    walk_at "w"
    refine Hd.mk ⟨x, m, f, b, g, k, a, s, rfl, op2, hs, hg.n, hg.f, fk, fun E0 S3 hE0 hE0f k3 => ?_⟩
    have hD3 : S3 D = some (.lst []) := k3 D _ (fun h => by cases h) put_same
    have hED : E0 ≠ D := fun e => by rw [e, put_same] at hE0f; cases hE0f
    have op3 : ∀ S', KpL [D] S3 S' → OpAt ec.Options ec.Sums ec.Frame S' x g k m f b a := fun S' k4 => op.keep fun c d hc => k4 c d (notin1 (ne_free hc hD).symm) (k3 c d (fun h => by cases h) ((put_ne (ne_free hc hD).symm).trans hc))
    walk_at "w"
    refine ⟨_, hE0, ?_⟩
    refine for_q (fun i ρ' S' => i ≤ (movesA g k s).length ∧ ∃ (a5 a6 a7 a8 a9 a10 a11 : Option W), ρ' = [some (galT g), some (.ref f), some s.v, some (.ref x), some (.ref D), a5, a6, a7, a8, a9, a10, a11] ∧ S' D = some (.lst ((((movesA g k s).take i).flatMap (rowsOf g k s.l)).map Row.v)) ∧ KpL [D] S3 S')
      ⟨Nat.zero_le _, _, _, _, _, _, _, _, rfl, hD3, KpL.refl [D] S3⟩ (fun i ρ' S' h => by obtain ⟨_, _, _, _, _, _, _, _, _, _, k⟩ := h; exact k E0 _ (notin1 hED) hE0) ?_ ?_
    · rintro i w ρ' S4 e ⟨_, a5, a6, a7, a8, a9, a10, a11, rfl, hD4, k4⟩
      rw [List.getElem?_map] at e
      obtain ⟨mv, emv, rfl⟩ : ∃ mv : Mv, (movesA g k s)[i]? = some mv ∧ mv.v = w := by
        cases h : (movesA g k s)[i]? with
        | none => rw [h] at e; cases e
        | some mv => rw [h] at e; exact ⟨mv, rfl, Option.some.inj e⟩
      have hi := (List.getElem?_eq_some_iff.mp emv).1
      have mo := movesA_ok hg fk hs (List.mem_of_getElem? emv)
      have efl := flat_take (f := rowsOf g k s.l) emv
      have hal : mv.s.a.length ≤ 10000 := by
        have h1 := mo.st.a
        have h2 := mkN_le g mv.s.l
        omega
      have op4 := op3 S4 k4
      unfold Mv.v
      walk_at "w"
      refine ⟨rfl, ?_⟩
      walk_at "w"
      refine ⟨rfl, ?_⟩
      walk_at "w"
      refine ⟨⟨_, op4.hx, rfl⟩, ?_⟩
      walk_at "w"
      refine Hd.mk ⟨x, m, f, b, g, k, a, mv.s, rfl, op4, fk, hal, ?_⟩
      walk_at "w"
      refine ⟨⟨_, op4.hx, rfl⟩, ?_⟩
      walk_at "w"
      refine ⟨_, _, _, op4.hx, T.fl_Options_last_state, rfl, ?_⟩
      walk_at "w"
      refine ⟨sh_sta _, sh_sta _, ?_⟩
      rw [eqv_sta]
      walk_at "w"
      refine Hd.mk ⟨x, m, f, b, g, k, a, s.l, mv.e, mv.r, decide (mv.s = lastS g), rfl, op4, hg, fk, mo.e0, mo.e1, mo.r, fun E1 S5 hE1 hE1f k5 => ?_⟩
      have hD5 : S5 D = some (.lst ((((movesA g k s).take i).flatMap (rowsOf g k s.l)).map Row.v)) := k5 D _ (fun h => by cases h) hD4
      have hE1D : E1 ≠ D := fun e => by rw [e, hD4] at hE1f; cases hE1f
      have hrl : (rowsOf g k s.l mv).length = (sprS g k s.l mv.e mv.r (decide (mv.s = lastS g))).length := by unfold rowsOf; rw [List.length_map]
      walk_at "w"
      refine ⟨_, hE1, ?_⟩
      refine for_q (fun j ρ' S' => j ≤ (rowsOf g k s.l mv).length ∧ ∃ (a10 a11 : Option W), ρ' = [some (galT g), some (.ref f), some s.v, some (.ref x), some (.ref D), some (.int mv.e), some (.int mv.fe), some (.int mv.r), some mv.s.v, some (.int (k.ri * mv.s.a.length)), a10, a11] ∧ S' D = some (.lst ((((movesA g k s).take i).flatMap (rowsOf g k s.l) ++ (rowsOf g k s.l mv).take j).map Row.v)) ∧ KpL [D] S5 S')
        ⟨Nat.zero_le _, _, _, rfl, by rw [List.take_zero, List.append_nil]; exact hD5, KpL.refl [D] S5⟩ (fun i ρ' S' h => by obtain ⟨_, _, _, _, _, k⟩ := h; exact k E1 _ (notin1 hE1D) hE1) ?_ ?_
      · rintro j w ρ' S6 e2 ⟨_, a10, a11, rfl, hD6, k6⟩
        rw [List.getElem?_map] at e2
        obtain ⟨z, ez, rfl⟩ : ∃ z, (sprS g k s.l mv.e mv.r (decide (mv.s = lastS g)))[j]? = some z ∧ sprW z = w := by
          cases h : (sprS g k s.l mv.e mv.r (decide (mv.s = lastS g)))[j]? with
          | none => rw [h] at e2; cases e2
          | some z => rw [h] at e2; exact ⟨z, rfl, Option.some.inj e2⟩
        have hj := (List.getElem?_eq_some_iff.mp ez).1
        have hz : z.2.isSome = true := (List.mem_filter.mp (List.mem_of_getElem? ez)).2
        have er : (rowsOf g k s.l mv)[j]? = some ⟨mv.e, mv.fe, z.1, z.2.getD 0 + k.ri * mv.s.a.length, mv.s⟩ := by
          unfold rowsOf
          rw [List.getElem?_map, ez]
          rfl
        obtain ⟨z1, z2⟩ := z
        cases z2 with
        | none => cases hz
        | some pr =>
        unfold sprW
        walk_at "w"
        refine ⟨rfl, ?_⟩
        walk_at "w"
        refine ⟨rfl, ?_⟩
        walk_at "w"
        refine ⟨.inl ⟨rfl, _, hD6⟩, ?_⟩
        walk_at "w"
        refine ⟨_, hD6, ?_, by omega, _, _, rfl, ?_, k6.at (List.mem_singleton.mpr rfl)⟩
        · rw [List.length_map, List.length_append, List.length_take]
          have h3 := flat_len (f := rowsOf g k s.l) (c := 101) ((movesA g k s).take i) (fun y hy => by
            have h4 := rowsOf_len (k := k) (l := s.l) (movesA_ok hg fk hs (List.mem_of_mem_take hy)).e1
            omega)
          have h5 := movesA_len (g := g) (k := k) (s := s) hn hF
          have h6 : ((movesA g k s).take i).length ≤ 10201 := by rw [List.length_take]; omega
          have h7 := Nat.mul_le_mul_right 101 h6
          have h8 := rowsOf_len (k := k) (l := s.l) mo.e1
          exact Nat.lt_of_lt_of_le (show _ < 1100000 by omega) (by decide)
        · rw [List.take_add_one, er, ← List.append_assoc, List.map_append (l₂ := (some _).toList)]
          exact put_same
      · rintro ρ' S6 ⟨_, a10, a11, rfl, hD6, k6⟩
        rw [List.length_map, ← hrl, List.take_length, ← efl] at hD6
        refine ⟨hi, _, _, _, _, _, _, _, rfl, hD6, fun c d hc hd => ?_⟩
        exact k6 c d hc (k5 c d (fun h => by cases h) (k4 c d hc hd))
    · rintro ρ' S4 ⟨_, a5, a6, a7, a8, a9, a10, a11, rfl, hD4, k4⟩
      rw [List.length_map, List.take_length] at hD4
      walk_at "w"
      refine fg_here (q D S4 hD4 hDS fun c d _ h => ?_)
      have h1 := kS c d (fun h => by cases h) h
      exact k4 c d (notin1 (ne_free h1 hD).symm) (k3 c d (fun h => by cases h) ((put_ne (ne_free h1 hD).symm).trans h1))⟩
end
end K62
set_option Elab.async false
set_option linter.all false
set_option maxRecDepth 100000
set_option maxHeartbeats 4000000
set_option synthInstance.maxHeartbeats 4000000
set_option synthInstance.maxSize 100000
namespace K62
open PySem PySem.Spec PyProof.Rows L2 Wl
local macro_rules | `(tactic| walk_at "w") => `(tactic| (conv => whnf))
/-! what a store holds -/
local macro_rules | `(tactic| walk_at "ne") => `(tactic| first | assumption | (apply Ne.symm; assumption) | exact ne_free (by assumption) (by assumption) | exact (ne_free (by assumption) (by assumption)).symm | exact Pl.ne (by assumption) (by assumption) | exact (Pl.ne (by assumption) (by assumption)).symm)
local macro_rules | `(tactic| walk_at "s") => `(tactic| first
  | exact put_same
  | assumption
  | (refine (put_ne ?_).trans ?_; (· walk_at "ne"); (· walk_at "s")))
/-! a side condition -/
local macro_rules | `(tactic| walk_at "c") => `(tactic| first
  | exact Or.inl (Or.inl ⟨by omega, by omega⟩)
  | exact Or.inl (Or.inr ⟨by omega, by omega⟩)
  | exact Or.inl ⟨by omega, by omega⟩
  | exact Or.inl ⟨rfl, _, by walk_at "s"⟩
  | rfl
  | omega
  | decide
  | exact Nat.le_trans (by omega) sizeLine_ge)
/-! one question is answered, if the answer is plain -/
local macro_rules | `(tactic| walk_at "g1") => `(tactic| first
  | refine ⟨fun _ => ?_, fun h => absurd (show true = false from h) (by decide)⟩
  | refine ⟨fun h => absurd (show false = true from h) Bool.false_ne_true, fun _ => ?_⟩
  | refine ⟨_, by walk_at "s", ?_⟩
  | refine ⟨_, _, by walk_at "s", by walk_at "s", ?_⟩
  | refine ⟨_, by walk_at "s", by simpa using (by omega), ?_⟩
  | refine ⟨_, rfl, ?_⟩
  | refine ⟨_, _, rfl, (by first | exact isTy_tt | exact isTy_ii | exact isTy_ll | exact isTy_ss | exact isTy_ib | exact isTy_tb | exact isTy_ti | exact isTy_ts | exact isTy_tl | exact isTy_lb | exact isTy_li | exact isTy_ls | exact isTy_lt | exact isTy_sb | exact isTy_si | exact isTy_st | exact isTy_sl | exact isTy_is | exact isTy_it | exact isTy_il | exact isTy_bi | exact isTy_bs | exact isTy_bb | exact isTy_nb | exact isTy_ni | exact isTy_ns | exact isTy_nt | exact isTy_nl | exact isTy_bt | exact isTy_bl | exact isTy_nd | exact isTy_td | exact isTy_ld | exact isTy_sd | exact isTy_id | exact isTy_bd | exact isTy_dd | exact isTy_db | exact isTy_di | exact isTy_ds | exact isTy_dt | exact isTy_dl), ?_⟩
  | refine ⟨_, _, tyName_lst (by walk_at "s"), (by first | exact isTy_ll | exact isTy_lb | exact isTy_li | exact isTy_ls | exact isTy_lt), ?_⟩
  | refine if_q ?_
  | refine ⟨by walk_at "c", ?_⟩)
local macro_rules | `(tactic| walk_at "go") => `(tactic| (walk_at "w"; repeat (walk_at "g1"; walk_at "w")))
/-! a branch that cannot be -/
local macro_rules | `(tactic| walk_at "two") => `(tactic| refine ⟨fun h => ?_, fun h => ?_⟩)
section
variable {P : Program} {w : World} {K : PySem.W.Frag} {mg : Str → Option Value} {base : Heap} {ec : Cls}
/-! drawn galleys and frames -/
theorem lc_poolP {p : Addr} {N : Int} {j : Nat} {n : Nat} {te : TEW} {vs : List Nat} {ρ : StW} {Q : WK} {ws : List W} {ok : Sto → Prop} {S1 : Sto} (Pr : Int → Prop) (h : Pl S1 p N) (hN : N < 2 ^ 38) (hn : ws.length = n) (hl : n ≤ 1000) (hok : ∀ S', KpL [p] S1 S' → ok S')
    (he : ∀ (i : Nat) (w : W) (M : Int) S', ws[i]? = some w → KpL [p] S1 S' → Pl S' p M → M < 2 ^ 39 → ∀ Q' : WK, (∀ (r : Int) S2, Pr r → Pl S2 p (M + 1) → OffL [p] S' S2 → Q' (.int r) S2) → te ((wipeW ρ vs).set j (some w)) S' Q')
    (hd : ∀ (D : Addr) (hs : List Int) S', hs.length = n → (∀ x ∈ hs, Pr x) → S1 D = none → S' D = some (.lst (hs.map W.int)) → Pl S' p (N + n) → KpL [p] S1 S' → Q (.ref D) S') : LcQ (wName j) wYes te vs ρ Q ws ok S1 := by
  refine lc_q fun D hD => ⟨fun i acc S' => i ≤ n ∧ (∃ hs : List Int, hs.length = i ∧ (∀ x ∈ hs, Pr x) ∧ acc = hs.map W.int) ∧ S' D = some (.lst acc) ∧ Pl S' p (N + i) ∧ KpL [p] S1 S', ⟨Nat.zero_le _, ⟨[], rfl, (fun _ h => by cases h), rfl⟩, put_same, ?_, (KpL.refl [p] S1).own hD⟩, fun _ _ S' hh => hok S' hh.2.2.2.2, ?_, ?_⟩
  · exact (h.eq (put_ne (h.ne hD).symm)).mono (by omega)
  · rintro i w acc S' e ⟨hi, ⟨hs, hh, hP, rfl⟩, hD', hp, k⟩
    have hiw : i < ws.length := (List.getElem?_eq_some_iff.mp e).1
    refine ⟨fun _ => ?_, fun h => absurd h (by decide)⟩
    refine he i w _ S' e k hp (by omega) _ fun r S2 hr hp2 o2 => ?_
    have hDp : D ≠ p := h.ne hD
    have hD2 := (o2 D (notin1 hDp)).trans hD'
    refine ⟨hD2, ?_, by omega, ⟨hs ++ [r], by rw [List.length_append, hh]; rfl, ?_, by rw [List.map_append]; rfl⟩, put_same, ?_, (k.trans o2.kp).own hD⟩
    · rw [List.length_map]
      exact Nat.lt_of_lt_of_le (show hs.length < 2000 by omega) (by decide)
    · intro x hx
      rcases List.mem_append.mp hx with h' | h'
      · exact hP x h'
      · rw [List.mem_singleton.mp h']; exact hr
    · exact (hp2.eq (put_ne hDp.symm)).mono (by omega)
  · rintro acc S' ⟨_, ⟨hs, hh, hP, rfl⟩, hD', hp, k⟩
    exact hd D hs S' (hh.trans hn) hP hD hD' (by rw [← hn]; exact hp) k
/-- a scale -/
structure Sc where
  a0 : Int
  a1 : Int
  a2 : Int
  a3 : Int
  a4 : Int
  a5 : Int
  a6 : Int
  a7 : Int
  a8 : Int
def Sc.l (s : Sc) : List W := [.int s.a0, .int s.a1, .int s.a2, .int s.a3, .int s.a4, .int s.a5, .int s.a6, .int s.a7, .int s.a8]
structure ScOk (s : Sc) : Prop where
  a0 : 1 ≤ s.a0 ∧ s.a0 ≤ 10000
  a1 : 1 ≤ s.a1 ∧ s.a1 ≤ 10000
  a2 : 1 ≤ s.a2 ∧ s.a2 ≤ 10000
  a3 : 1 ≤ s.a3 ∧ s.a3 ≤ 10000
  a4 : 1 ≤ s.a4 ∧ s.a4 ≤ 10000
  a5 : 1 ≤ s.a5 ∧ s.a5 ≤ 10000
  a6 : 1 ≤ s.a6 ∧ s.a6 ≤ 10000
  a7 : 1 ≤ s.a7 ∧ s.a7 ≤ 10000
  a8 : 1 ≤ s.a8 ∧ s.a8 ≤ 10000
def spRg : SpW := fun ws S Q => ∃ (p : Addr) (N : Int), ws = [.ref p] ∧ Pl S p N ∧ N < 2 ^ 38 ∧ ∀ (L : Addr) (sc : Sc) S', S' L = some (.lst sc.l) → ScOk sc → L ≠ p → S L = none → Pl S' p (N + 1) → KpL [p] S S' → Q (.ref L) S'
theorem ok__law_ranges (T : Txt K mg ec) (c__law_take : CalW P w K mg base 1 "_law_take" (Hd spTk)) (d : DefAt K mg "_law_ranges" s__law_ranges ["_law_pool_here"]) : CalW P w K mg base 2 "_law_ranges" spRg :=
  calDI d sc__law_ranges (fun ws S Q ⟨p, N, e, _⟩ => by rw [e]; rfl) fun f cdv A outer s H E hr => ⟨_, _,
    (pss_cons (ps_set (i := 1) sc__law_ranges.nd rfl (Or.inl rfl) (pe_lst (pa_cons pe_int (pa_cons pe_int (pa_cons pe_int (pa_cons pe_int (pa_cons pe_int (pa_cons pe_int (pa_cons pe_int (pa_cons pe_int (pa_cons pe_int pa_nil)))))))))))
      (pss_cons (ps_set (i := 2) sc__law_ranges.nd rfl (Or.inl rfl) (pe_lst (pa_cons pe_int (pa_cons pe_int (pa_cons pe_int (pa_cons pe_int (pa_cons pe_int (pa_cons pe_int (pa_cons pe_int (pa_cons pe_int (pa_cons pe_int pa_nil)))))))))))
      (pss_cons (ps_set (i := 3) sc__law_ranges.nd rfl (Or.inl rfl) (pe_lst (pa_cons pe_int (pa_cons pe_int (pa_cons pe_int (pa_cons pe_int (pa_cons pe_int (pa_cons pe_int (pa_cons pe_int (pa_cons pe_int (pa_cons pe_int pa_nil)))))))))))
      (pss_one (ps_ret (pe_ix (k_ix K) (pe_lst (pa_cons (pv 1) (pa_cons (pv 1) (pa_cons (pv 3) (pa_cons (pv 1) (pa_cons (pv 2) (pa_cons (pv 2) (pa_cons (pv 1) (pa_cons (pv 2) pa_nil))))))))) (k_w K c__law_take hr (by decide) rfl (pa_cons (pv 0) (pa_cons pe_int pa_nil))) (fun _ _ => rfl))))))), inferInstance, by
    rintro ws S Q ⟨p, N, rfl, hp, hN, q⟩
    walk_at "w"
    intro A hA
    walk_at "w"
    intro U hU
    walk_at "w"
    intro V hV
    walk_at "w"
    intro M hM
    have hAp := hp.ne hA
    have eA : ∀ {c : Cell}, (put S A c) A = some c := put_same
    have hU0 : S U = none := (put_ne (ne_free put_same hU)).symm.trans hU
    have hUA : U ≠ A := ne_free put_same hU
    have hVU : V ≠ U := ne_free put_same hV
    have hV1 := (put_ne hVU).symm.trans hV
    have hVA : V ≠ A := ne_free put_same hV1
    have hV0 : S V = none := (put_ne hVA).symm.trans hV1
    have hMV : M ≠ V := ne_free put_same hM
    have hM2 := (put_ne hMV).symm.trans hM
    have hMU : M ≠ U := ne_free put_same hM2
    have hM1 := (put_ne hMU).symm.trans hM2
    have hMA : M ≠ A := ne_free put_same hM1
    have hM0 : S M = none := (put_ne hMA).symm.trans hM1
    have hUp := hp.ne hU0
    have hVp := hp.ne hV0
    have hMp := hp.ne hM0
    have p4 := (((hp.eq (put_ne hAp.symm (c := .lst [.int 15, .int 10, .int 20, .int 30, .int 10, .int 70, .int 6, .int 61, .int 4]))).eq (put_ne hUp.symm (c := .lst [.int 2, .int 2, .int 2, .int 3, .int 1, .int 9, .int 2, .int 3, .int 3]))).eq (put_ne hVp.symm (c := .lst [.int 99, .int 100, .int 2000, .int 2000, .int 1, .int 5000, .int 201, .int 10000, .int 100]))).eq (put_ne hMp.symm (c := .lst [.ref A, .ref A, .ref V, .ref A, .ref U, .ref U, .ref A, .ref U]))
    walk_at "w"
    refine tk_go p4 (by omega) (by decide) (by decide) fun r S5 r0 r1 p5 o5 => ?_
    have gM := (o5 M (notin1 hMp)).trans put_same
    have gV := (o5 V (notin1 hVp)).trans ((put_ne hMV.symm).trans put_same)
    have gU := (o5 U (notin1 hUp)).trans ((put_ne hMU.symm).trans ((put_ne hVU.symm).trans put_same))
    have gA := (o5 A (notin1 hAp)).trans ((put_ne hMA.symm).trans ((put_ne hVA.symm).trans ((put_ne hUA.symm).trans put_same)))
    have kk : KpL [p] S S5 := (((((KpL.refl [p] S).own hA).own hU0).own hV0).own hM0).trans o5.kp
    have okA : ScOk ⟨15, 10, 20, 30, 10, 70, 6, 61, 4⟩ := ⟨by decide, by decide, by decide, by decide, by decide, by decide, by decide, by decide, by decide⟩
    have okU : ScOk ⟨2, 2, 2, 3, 1, 9, 2, 3, 3⟩ := ⟨by decide, by decide, by decide, by decide, by decide, by decide, by decide, by decide, by decide⟩
    have okV : ScOk ⟨99, 100, 2000, 2000, 1, 5000, 201, 10000, 100⟩ := ⟨by decide, by decide, by decide, by decide, by decide, by decide, by decide, by decide, by decide⟩
    refine ⟨_, gM, ?_⟩
    obtain rfl | rfl | rfl | rfl | rfl | rfl | rfl | rfl : r = 0 ∨ r = 1 ∨ r = 2 ∨ r = 3 ∨ r = 4 ∨ r = 5 ∨ r = 6 ∨ r = 7 := by omega
    · exact rdAt_ok (w := .ref A) (by rfl) (fg_here (q A ⟨15, 10, 20, 30, 10, 70, 6, 61, 4⟩ S5 gA okA hAp hA p5 kk))
    · exact rdAt_ok (w := .ref A) (by rfl) (fg_here (q A ⟨15, 10, 20, 30, 10, 70, 6, 61, 4⟩ S5 gA okA hAp hA p5 kk))
    · exact rdAt_ok (w := .ref V) (by rfl) (fg_here (q V ⟨99, 100, 2000, 2000, 1, 5000, 201, 10000, 100⟩ S5 gV okV hVp hV0 p5 kk))
    · exact rdAt_ok (w := .ref A) (by rfl) (fg_here (q A ⟨15, 10, 20, 30, 10, 70, 6, 61, 4⟩ S5 gA okA hAp hA p5 kk))
    · exact rdAt_ok (w := .ref U) (by rfl) (fg_here (q U ⟨2, 2, 2, 3, 1, 9, 2, 3, 3⟩ S5 gU okU hUp hU0 p5 kk))
    · exact rdAt_ok (w := .ref U) (by rfl) (fg_here (q U ⟨2, 2, 2, 3, 1, 9, 2, 3, 3⟩ S5 gU okU hUp hU0 p5 kk))
    · exact rdAt_ok (w := .ref A) (by rfl) (fg_here (q A ⟨15, 10, 20, 30, 10, 70, 6, 61, 4⟩ S5 gA okA hAp hA p5 kk))
    · exact rdAt_ok (w := .ref U) (by rfl) (fg_here (q U ⟨2, 2, 2, 3, 1, 9, 2, 3, 3⟩ S5 gU okU hUp hU0 p5 kk))⟩
def spKy : SpW := fun ws S Q => ∃ (p L : Addr) (N : Int) (sc : Sc), ws = [.ref p, .ref L] ∧ Pl S p N ∧ N < 2 ^ 38 ∧ S L = some (.lst sc.l) ∧ ScOk sc ∧ L ≠ p ∧ ∀ (k : FK) S', FkOk k → Pl S' p (N + 7) → OffL [p] S S' → Q k.key S'
theorem ok__law_frame_key (T : Txt K mg ec) (c__law_take : CalW P w K mg base 1 "_law_take" (Hd spTk)) (d : DefAt K mg "_law_frame_key" s__law_frame_key ["_law_pool_here", "_law_scale"]) : CalW P w K mg base 2 "_law_frame_key" spKy :=
  calDI d sc__law_frame_key (fun ws S Q ⟨p, L, N, sc, e, _⟩ => by rw [e]; rfl) fun f cdv A outer s H E hr => ⟨_, _,
    (pss_cons (ps_set (i := 2) sc__law_frame_key.nd rfl (Or.inl rfl) (pe_op (k_addB K) (pe_ix (k_ix K) (pv 1) pe_int (fun _ _ => rfl)) (k_w K c__law_take hr (by decide) rfl (pa_cons (pv 0) (pa_cons (pe_ix (k_ix K) (pv 1) pe_int (fun _ _ => rfl)) pa_nil)))))
      (pss_cons (ps_set (i := 3) sc__law_frame_key.nd rfl (Or.inl rfl) (pe_op (k_addB K) pe_int (k_w K c__law_take hr (by decide) rfl (pa_cons (pv 0) (pa_cons pe_int pa_nil)))))
      (pss_cons (ps_set (i := 4) sc__law_frame_key.nd rfl (Or.inl rfl) (k_w K c__law_take hr (by decide) rfl (pa_cons (pv 0) (pa_cons (pe_ix (k_ix K) (pv 1) pe_int (fun _ _ => rfl)) pa_nil))))
      (pss_cons (ps_set (i := 5) sc__law_frame_key.nd rfl (Or.inl rfl) (k_w K c__law_take hr (by decide) rfl (pa_cons (pv 0) (pa_cons (pe_ix (k_ix K) (pv 1) pe_int (fun _ _ => rfl)) pa_nil))))
      (pss_cons (ps_set (i := 6) sc__law_frame_key.nd rfl (Or.inl rfl) (k_w K c__law_take hr (by decide) rfl (pa_cons (pv 0) (pa_cons pe_int pa_nil))))
      (pss_cons (ps_set (i := 7) sc__law_frame_key.nd rfl (Or.inl rfl) (k_w K c__law_take hr (by decide) rfl (pa_cons (pv 0) (pa_cons (pe_ix (k_ix K) (pv 1) pe_int (fun _ _ => rfl)) pa_nil))))
      (pss_one (ps_ret (pe_tup (pa_cons (pv 2) (pa_cons (pv 3) (pa_cons (pv 4) (pa_cons (pv 5) (pa_cons (pv 6) (pa_cons (pv 7) (pa_cons (k_w K c__law_take hr (by decide) rfl (pa_cons (pv 0) (pa_cons (pe_ix (k_ix K) (pv 1) pe_int (fun _ _ => rfl)) pa_nil))) pa_nil)))))))))))))))), inferInstance, by
    rintro ws S Q ⟨p, L, N, sc, rfl, hp, hN, hL, ok, hLp, q⟩
    obtain ⟨a0, a1, a2, a3, a4, a5, a6, a7, a8⟩ := ok
    walk_at "w"
    refine ⟨_, hL, ?_⟩
    walk_at "w"
    refine ⟨_, hL, ?_⟩
    refine tk_go hp (by omega) (by omega) (by omega) fun r1 S1 r10 r11 p1 o1 => ?_
    have hL1 := (o1 L (notin1 hLp)).trans hL
    walk_at "w"
    refine tk_go p1 (by omega) (by omega) (by omega) fun r2 S2 r20 r21 p2 o2 => ?_
    have hL2 := (o2 L (notin1 hLp)).trans hL1
    walk_at "w"
    refine ⟨_, hL2, ?_⟩
    refine tk_go p2 (by omega) (by omega) (by omega) fun r3 S3 r30 r31 p3 o3 => ?_
    have hL3 := (o3 L (notin1 hLp)).trans hL2
    walk_at "w"
    refine ⟨_, hL3, ?_⟩
    refine tk_go p3 (by omega) (by omega) (by omega) fun r4 S4 r40 r41 p4 o4 => ?_
    have hL4 := (o4 L (notin1 hLp)).trans hL3
    walk_at "w"
    refine tk_go p4 (by omega) (by omega) (by omega) fun r5 S5 r50 r51 p5 o5 => ?_
    have hL5 := (o5 L (notin1 hLp)).trans hL4
    walk_at "w"
    refine ⟨_, hL5, ?_⟩
    refine tk_go p5 (by omega) (by omega) (by omega) fun r6 S6 r60 r61 p6 o6 => ?_
    have hL6 := (o6 L (notin1 hLp)).trans hL5
    walk_at "w"
    refine ⟨_, hL6, ?_⟩
    refine tk_go p6 (by omega) (by omega) (by omega) fun r7 S7 r70 r71 p7 o7 => ?_
    walk_at "w"
    refine fg_here (q ⟨sc.a4 + r1, 1 + r2, r3, r4, r5, r6, r7⟩ S7 ⟨by show 0 ≤ sc.a4 + r1; omega, by show sc.a4 + r1 ≤ _; omega, by show 1 ≤ 1 + r2; omega, by show 1 + r2 ≤ 2; omega, r30, r40, r50, r60, by show r6 ≤ _; omega, r70, by show r7 ≤ _; omega⟩ (p7.mono (by omega)) ?_)
    exact OffL.trans1 (OffL.trans1 (OffL.trans1 (OffL.trans1 (OffL.trans1 (OffL.trans1 o1 o2) o3) o4) o5) o6) o7⟩
def spFr (C : Addr) : SpW := fun ws S Q => ∃ (k : FK) (way : Int), ws = [k.key, .int way] ∧ ∀ f, S f = none → Q (.ref f) (put S f (fraC C k))
theorem ok__law_frame (T : Txt K mg ec) (c_Frame_of : CalS P w K mg base 3 ec.Frame "of" (Hd (spOfF ec.Frame))) (c_Frame_k6 : CalK P w K mg base 1 ec.Frame 1 ["columns", "rule", "under", "wait", "late", "uneven"] [] (Hd (spFI ec.Frame))) (d : DefAt K mg "_law_frame" s__law_frame ["_law_key", "_law_way"]) : CalW P w K mg base 4 "_law_frame" (spFr ec.Frame) :=
  calDI d sc__law_frame (fun ws S Q ⟨k, way, e, _⟩ => by rw [e]; rfl) fun f cdv A outer s H E hr => ⟨_, _,
    (pss_cons (ps_if (pt_cmpR (k_eq K hr.units) (pv 1) pe_int (nomark _))
       (pss_one (ps_ret (k_stat K c_Frame_of hr (by decide) (k_gl K T.g_Frame rfl) (pa_cons (pv 0) pa_nil))))
       pss_nil)
      (pss_one (ps_ret (k_makeK K c_Frame_k6 T.gm_Frame hr (by decide) rfl (pa_cons (pe_ix (k_ix K) (pv 0) pe_int (fun _ _ => rfl)) pa_nil) (pk_cons (pe_ix (k_ix K) (pv 0) pe_int (fun _ _ => rfl)) (pk_cons (pe_ix (k_ix K) (pv 0) pe_int (fun _ _ => rfl)) (pk_cons (pe_ix (k_ix K) (pv 0) pe_int (fun _ _ => rfl)) (pk_cons (pe_ix (k_ix K) (pv 0) pe_int (fun _ _ => rfl)) (pk_cons (pe_ix (k_ix K) (pv 0) pe_int (fun _ _ => rfl)) (pk_cons (pe_ix (k_ix K) (pv 0) pe_int (fun _ _ => rfl)) pk_nil)))))))))), inferInstance, by
    rintro ws S Q ⟨k, way, rfl, q⟩
    walk_at "w"
    refine ⟨fun _ => ?_, fun _ => ?_⟩
    · walk_at "w"
      refine ⟨rfl, ?_⟩
      walk_at "w"
      refine Hd.mk ⟨k, rfl, fun z hz => ?_⟩
      exact fg_here (q z hz)
    · walk_at "w"
      refine ⟨rfl, rfl, ?_⟩
      intro z hz
      refine fi_go put_same ?_
      refine ⟨rfl, ?_⟩
      rw [put_put]
      exact fg_here (q z hz)⟩
def spHt : SpW := fun ws S Q => ∃ (p : Addr) (N t : Int) (m : Nat), ws = [.ref p, .int m, .int t] ∧ Pl S p N ∧ N < 2 ^ 38 ∧ m ≤ 100 ∧ 1 ≤ t ∧ t ≤ 10000 ∧ ∀ (hs : List Int) S', hs.length = m → (∀ x ∈ hs, 1 ≤ x ∧ x ≤ 10000) → Pl S' p (N + m) → OffL [p] S S' → Q (.tup (hs.map W.int)) S'
theorem ok__law_heights (T : Txt K mg ec) (c__law_take : CalW P w K mg base 1 "_law_take" (Hd spTk)) (d : DefAt K mg "_law_heights" s__law_heights ["_law_pool_here", "_law_many", "_law_tall"]) : CalW P w K mg base 2 "_law_heights" spHt :=
  calDI d sc__law_heights (fun ws S Q ⟨p, N, t, m, h, _⟩ => by rw [h]; rfl) fun f cdv A outer s H E hr => ⟨_, _,
    (pss_one (ps_ret (pe_callTy (k_tuple K) (by rfl) T.b_tuple (by decide +kernel) (pa_cons (pe_lc (own := [("_law_k", 3)]) rfl sc__law_heights.nd (pi_range1 rfl T.b_range (pa_cons (pv 1) pa_nil)) (blkOk_by (own := [("_law_k", 3)]) (N := ["_law_pool_here", "_law_many", "_law_tall", "_law_k"]) (sc := defScope s__law_heights) (by decide +kernel)) (fun _ _ _ _ _ => (pg_name (i := 3) sc__law_heights.nd rfl (Or.inl rfl))) (fun _ _ _ _ _ => pts_nil) (fun _ _ _ _ _ => (pe_op (k_addB K) pe_int (k_w K c__law_take hr (by decide) rfl (pa_cons (pv 0) (pa_cons (pv 2) pa_nil)))))) pa_nil)))), inferInstance, by
    rintro ws S Q ⟨p, N, t, m, rfl, hp, hN, hm, t0, t1, q⟩
    walk_at "w"
    refine ⟨by omega, by omega, ?_⟩
    refine lc_poolP (n := m) (fun x => 1 ≤ x ∧ x ≤ 10000) hp hN (by rw [intsW_len]; omega) (by omega) (fun _ _ => trivial) ?_ ?_
    · intro i w M S' e k hp' hM Q' q'
      walk_at "w"
      refine tk_go hp' (by omega) (by omega) (by omega) fun r S2 r0 r1 p2 o2 => ?_
      exact q' (1 + r) S2 ⟨by omega, by omega⟩ p2 o2
    intro D hs S' hl hP hD hDc p2 k2
    walk_at "w"
    refine ⟨_, hDc, ?_⟩
    exact fg_off (ps := [p]) k2 fun S6 f1 f2 => q hs S6 hl hP (p2.eq (f2 p (List.mem_singleton.mpr rfl))) f1⟩
end
end K62
set_option Elab.async false
set_option linter.all false
set_option maxRecDepth 100000
set_option maxHeartbeats 4000000
set_option synthInstance.maxHeartbeats 4000000
set_option synthInstance.maxSize 100000
namespace K62
open PySem PySem.Spec PyProof.Rows L2 Wl
local macro_rules | `(tactic| walk_at "w") => `(tactic| (conv => whnf))
/-! what a store holds -/
local macro_rules | `(tactic| walk_at "ne") => `(tactic| first | assumption | (apply Ne.symm; assumption) | exact ne_free (by assumption) (by assumption) | exact (ne_free (by assumption) (by assumption)).symm | exact Pl.ne (by assumption) (by assumption) | exact (Pl.ne (by assumption) (by assumption)).symm)
local macro_rules | `(tactic| walk_at "s") => `(tactic| first
  | exact put_same
  | assumption
  | (refine (put_ne ?_).trans ?_; (· walk_at "ne"); (· walk_at "s")))
/-! a side condition -/
local macro_rules | `(tactic| walk_at "c") => `(tactic| first
  | exact Or.inl (Or.inl ⟨by omega, by omega⟩)
  | exact Or.inl (Or.inr ⟨by omega, by omega⟩)
  | exact Or.inl ⟨by omega, by omega⟩
  | exact Or.inl ⟨rfl, _, by walk_at "s"⟩
  | rfl
  | omega
  | decide
  | exact Nat.le_trans (by omega) sizeLine_ge)
/-! one question is answered, if the answer is plain -/
local macro_rules | `(tactic| walk_at "g1") => `(tactic| first
  | refine ⟨fun _ => ?_, fun h => absurd (show true = false from h) (by decide)⟩
  | refine ⟨fun h => absurd (show false = true from h) Bool.false_ne_true, fun _ => ?_⟩
  | refine ⟨_, by walk_at "s", ?_⟩
  | refine ⟨_, _, by walk_at "s", by walk_at "s", ?_⟩
  | refine ⟨_, by walk_at "s", by simpa using (by omega), ?_⟩
  | refine ⟨_, rfl, ?_⟩
  | refine ⟨_, _, rfl, (by first | exact isTy_tt | exact isTy_ii | exact isTy_ll | exact isTy_ss | exact isTy_ib | exact isTy_tb | exact isTy_ti | exact isTy_ts | exact isTy_tl | exact isTy_lb | exact isTy_li | exact isTy_ls | exact isTy_lt | exact isTy_sb | exact isTy_si | exact isTy_st | exact isTy_sl | exact isTy_is | exact isTy_it | exact isTy_il | exact isTy_bi | exact isTy_bs | exact isTy_bb | exact isTy_nb | exact isTy_ni | exact isTy_ns | exact isTy_nt | exact isTy_nl | exact isTy_bt | exact isTy_bl | exact isTy_nd | exact isTy_td | exact isTy_ld | exact isTy_sd | exact isTy_id | exact isTy_bd | exact isTy_dd | exact isTy_db | exact isTy_di | exact isTy_ds | exact isTy_dt | exact isTy_dl), ?_⟩
  | refine ⟨_, _, tyName_lst (by walk_at "s"), (by first | exact isTy_ll | exact isTy_lb | exact isTy_li | exact isTy_ls | exact isTy_lt), ?_⟩
  | refine if_q ?_
  | refine ⟨by walk_at "c", ?_⟩)
local macro_rules | `(tactic| walk_at "go") => `(tactic| (walk_at "w"; repeat (walk_at "g1"; walk_at "w")))
/-! a branch that cannot be -/
local macro_rules | `(tactic| walk_at "two") => `(tactic| refine ⟨fun h => ?_, fun h => ?_⟩)
section
variable {P : Program} {w : World} {K : PySem.W.Frag} {mg : Str → Option Value} {base : Heap} {ec : Cls}
/-- one drawn line -/
structure LnOk (l : Ln) : Prop where
  h0 : 1 ≤ l.h
  o0 : 0 ≤ l.o
  n0 : ∀ x ∈ l.ns, 1 ≤ x
  f0 : ∀ x ∈ l.fs, 1 ≤ x
  nn : l.ns.length ≤ 100
theorem fsG_app (a b : List Ln) : fsG (a ++ b) = fsG a ++ fsG b := by unfold fsG; rw [List.flatMap_append]
theorem gok_of {g : List Ln} (h : ∀ l ∈ g, LnOk l) (h1 : g.length ≤ 1000) (h2 : (fsG g).length ≤ 1000) : GOk g :=
  ⟨h1, h2, fun l hl => by have := (h l hl).h0; omega, fun l hl => (h l hl).o0, fun l hl x hx => by have := (h l hl).n0 x hx; omega, fun l hl x hx => by have := (h l hl).f0 x hx; omega, fun l hl => (h l hl).nn⟩
def spGa : SpW := fun ws S Q => ∃ (p L : Addr) (N lo li : Int) (sc : Sc), ws = [.ref p, .int lo, .int li, .ref L] ∧ Pl S p N ∧ N < 2 ^ 30 ∧ 0 ≤ lo ∧ lo ≤ 60 ∧ 0 ≤ li ∧ li ≤ 60 ∧ S L = some (.lst sc.l) ∧ ScOk sc ∧ L ≠ p ∧
  ∀ (g : List Ln) S', (∀ l ∈ g, LnOk l) → (g.length : Int) ≤ max 6 lo → ((fsG g).length : Int) ≤ li → KpL [p] S S' → Q (galT g) S'
def three (r : Int) : Nat := if r = 5 then 3 else if r = 6 then 1 else if r = 7 then 2 else 0
theorem three_at {r : Int} (h0 : 0 ≤ r) (h1 : r < 8) : atI [W.int 0, .int 0, .int 0, .int 0, .int 0, .int 3, .int 1, .int 2] r = some (.int (three r : Nat)) := by
  obtain rfl | rfl | rfl | rfl | rfl | rfl | rfl | rfl : r = 0 ∨ r = 1 ∨ r = 2 ∨ r = 3 ∨ r = 4 ∨ r = 5 ∨ r = 6 ∨ r = 7 := by omega
  all_goals rfl
theorem three_le (r : Int) : three r ≤ 3 := by unfold three; split <;> (try split) <;> (try split) <;> omega
theorem ok__law_galley (T : Txt K mg ec) (c__law_take : CalW P w K mg base 1 "_law_take" (Hd spTk)) (c__law_heights : CalW P w K mg base 2 "_law_heights" (Hd spHt)) (d : DefAt K mg "_law_galley" s__law_galley ["_law_pool_here", "_law_longest", "_law_limit", "_law_scale"]) : CalW P w K mg base 3 "_law_galley" spGa :=
  have c__law_take := c__law_take.mono (k := 2) (by decide)
  calDI d sc__law_galley (fun ws S Q ⟨p, L, N, lo, li, sc, e, _⟩ => by rw [e]; rfl) fun f cdv A outer s H E hr => ⟨_, _,
    (pss_cons (ps_set (i := 4) sc__law_galley.nd rfl (Or.inl rfl) (pe_lst pa_nil))
      (pss_cons (ps_set (i := 5) sc__law_galley.nd rfl (Or.inl rfl) pe_int)
      (pss_cons (ps_for PassesOwn.never rfl (pi_range1 rfl T.b_range (pa_cons (k_w K c__law_take hr (by decide) rfl (pa_cons (pv 0) (pa_cons (pe_ix (k_ix K) (pe_lst (pa_cons pe_int (pa_cons pe_int (pa_cons pe_int (pa_cons (pe_op (k_addB K) (pv 1) pe_int) pa_nil))))) (k_w K c__law_take hr (by decide) rfl (pa_cons (pv 0) (pa_cons pe_int pa_nil))) (fun _ _ => rfl)) pa_nil))) pa_nil)) (pg_name (i := 6) sc__law_galley.nd rfl (Or.inl rfl))
       (pss_cons (ps_set (i := 7) sc__law_galley.nd rfl (Or.inl rfl) (k_w K c__law_heights hr (by decide) rfl (pa_cons (pv 0) (pa_cons (pe_ix (k_ix K) (pe_lst (pa_cons pe_int (pa_cons pe_int (pa_cons pe_int (pa_cons pe_int (pa_cons pe_int (pa_cons pe_int (pa_cons pe_int (pa_cons pe_int pa_nil))))))))) (k_w K c__law_take hr (by decide) rfl (pa_cons (pv 0) (pa_cons pe_int pa_nil))) (fun _ _ => rfl)) (pa_cons (pe_ix (k_ix K) (pv 3) pe_int (fun _ _ => rfl)) pa_nil)))))
       (pss_cons (ps_set (i := 8) sc__law_galley.nd rfl (Or.inl rfl) (pe_callB (call_min2 rfl) (by rfl) T.b_min (by decide +kernel) (pa_cons (pe_callTy call_int1 (by rfl) T.b_int (by decide +kernel) (pa_cons (pe_op op_sub (pv 2) (pv 5)) pa_nil)) (pa_cons (pe_ix (k_ix K) (pe_lst (pa_cons pe_int (pa_cons pe_int (pa_cons pe_int (pa_cons pe_int (pa_cons pe_int (pa_cons pe_int (pa_cons pe_int (pa_cons pe_int pa_nil))))))))) (k_w K c__law_take hr (by decide) rfl (pa_cons (pv 0) (pa_cons pe_int pa_nil))) (fun _ _ => rfl)) pa_nil))))
       (pss_cons (ps_set (i := 9) sc__law_galley.nd rfl (Or.inl rfl) (k_w K c__law_heights hr (by decide) rfl (pa_cons (pv 0) (pa_cons (pv 8) (pa_cons (pe_ix (k_ix K) (pv 3) pe_int (fun _ _ => rfl)) pa_nil)))))
       (pss_cons (ps_set (i := 5) sc__law_galley.nd rfl (Or.inl rfl) (pe_op (k_addB K) (pv 5) (pv 8)))
       (pss_cons (ps_set (i := 10) sc__law_galley.nd rfl (Or.inl rfl) (pe_op (k_addB K) pe_int (k_w K c__law_take hr (by decide) rfl (pa_cons (pv 0) (pa_cons (pe_ix (k_ix K) (pv 3) pe_int (fun _ _ => rfl)) pa_nil)))))
       (pss_cons (ps_set (i := 11) sc__law_galley.nd rfl (Or.inl rfl) (pe_op op_mulA (k_w K c__law_take hr (by decide) rfl (pa_cons (pv 0) (pa_cons pe_int pa_nil))) (k_w K c__law_take hr (by decide) rfl (pa_cons (pv 0) (pa_cons (pe_ix (k_ix K) (pv 3) pe_int (fun _ _ => rfl)) pa_nil)))))
       (pss_one (ps_expr (k_bm K PySem.F.plainAttrs_list PySem.F.slot_list_append PySem.F.type_list_append mt_append (pv 4) (pa_cons (pe_tup (pa_cons (pv 10) (pa_cons (pv 11) (pa_cons (pe_cmpR op_gtA (k_w K c__law_take hr (by decide) rfl (pa_cons (pv 0) (pa_cons pe_int pa_nil))) pe_int (nomark _)) (pa_cons (pv 7) (pa_cons (pv 9) pa_nil)))))) pa_nil)))))))))))
      (pss_one (ps_ret (pe_callTy (k_tuple K) (by rfl) T.b_tuple (by decide +kernel) (pa_cons (pv 4) pa_nil))))))), inferInstance, by
    rintro ws S Q ⟨p, L, N, lo, li, sc, rfl, hp, hN, lo0, lo1, li0, li1, hL, sok, hLp, q⟩
    obtain ⟨a0, a1, a2, a3, a4, a5, a6, a7, a8⟩ := sok
    walk_at "w"
    intro D hD
    have hDp := hp.ne hD
    have hDL := ne_free hL hD
    walk_at "w"
    intro R hR
    have hR0 : S R = none := (put_ne (ne_free put_same hR)).symm.trans hR
    have hRD : R ≠ D := ne_free put_same hR
    have hRp := hp.ne hR0
    have p1 := (hp.eq (put_ne hDp.symm (c := .lst []))).eq (put_ne hRp.symm (c := .lst [.int 3, .int 5, .int 7, .int (lo + 1)]))
    refine tk_go p1 (by omega) (by decide) (by decide) fun r S1 r0 r1 p2 o2 => ?_
    have gR := (o2 R (notin1 hRp)).trans put_same
    have gD := (o2 D (notin1 hDp)).trans ((put_ne hRD.symm).trans put_same)
    have gL := (o2 L (notin1 hLp)).trans ((put_ne (ne_free hL hR0).symm).trans ((put_ne hDL.symm).trans hL))
    have k1 : KpL [p] S S1 := (((KpL.refl [p] S).own hD).own hR0).trans o2.kp
    obtain ⟨b, eb, b0, b1⟩ : ∃ b : Int, atI [W.int 3, .int 5, .int 7, .int (lo + 1)] r = some (.int b) ∧ 1 ≤ b ∧ b ≤ max 6 lo + 1 := by
      obtain rfl | rfl | rfl | rfl : r = 0 ∨ r = 1 ∨ r = 2 ∨ r = 3 := by omega
      · exact ⟨_, rfl, by decide, by omega⟩
      · exact ⟨_, rfl, by decide, by omega⟩
      · exact ⟨_, rfl, by decide, by omega⟩
      · exact ⟨_, rfl, by omega, by omega⟩
    refine ⟨_, gR, ?_⟩
    refine rdAt_ok eb ?_
    walk_at "w"
    refine tk_go p2 (by omega) (by omega) (by omega) fun n S2 n0 n1 p3 o3 => ?_
    have gD3 := (o3 D (notin1 hDp)).trans gD
    have gL3 := (o3 L (notin1 hLp)).trans gL
    have k3 := k1.trans o3.kp
    walk_at "w"
    refine ⟨by omega, by omega, ?_⟩
    refine for_q (fun i ρ' S' => (i : Int) ≤ n ∧ ∃ (g : List Ln) (fl : Int) (a6 a7 a8 a9 a10 a11 : Option W), ρ' = [some (.ref p), some (.int lo), some (.int li), some (.ref L), some (.ref D), some (.int fl), a6, a7, a8, a9, a10, a11] ∧ fl = ((fsG g).length : Int) ∧ g.length = i ∧ (∀ l ∈ g, LnOk l) ∧ ((fsG g).length : Int) ≤ li ∧
        S' D = some (.lst (g.map Ln.v)) ∧ S' L = some (.lst sc.l) ∧ Pl S' p (N + 2 + 20 * i) ∧ KpL [p] S S')
      ⟨by omega, [], 0, _, _, _, _, _, _, rfl, rfl, rfl, (fun _ h => by cases h), li0, gD3, gL3, p3.mono (by omega), k3⟩ (fun _ _ _ _ => trivial) ?_ ?_
    · rintro i w ρ' S4 e ⟨_, g, fl0, a6', a7', a8', a9', a10', a11', rfl, rfl, gl, gok, gfl, hD4, hL4, p4, k4⟩
      obtain ⟨hi, rfl⟩ := intsW_at e
      have hi : (i : Int) < n := by omega
      walk_at "w"
      intro M1 hM1
      have hM1p := p4.ne hM1
      have hM1D := ne_free hD4 hM1
      have hM1L := ne_free hL4 hM1
      have hM1S : S M1 = none := k4.free hM1 (notin1 hM1p)
      refine tk_go (p4.eq (put_ne hM1p.symm)) (by omega) (by decide) (by decide) fun u1 S5 u10 u11 p5 o5 => ?_
      have gM5 := (o5 M1 (notin1 hM1p)).trans put_same
      have gD5 := (o5 D (notin1 hDp)).trans ((put_ne hM1D.symm).trans hD4)
      have gL5 := (o5 L (notin1 hLp)).trans ((put_ne hM1L.symm).trans hL4)
      have k5 : KpL [p] S S5 := (k4.own hM1S).trans o5.kp
      have t1 := three_le u1
      refine ⟨_, gM5, ?_⟩
      refine rdAt_ok (three_at u10 u11) ?_
      walk_at "w"
      refine ⟨_, gL5, ?_⟩
      refine Hd.mk ⟨p, _, sc.a2, three u1, rfl, p5, by omega, by omega, a2.1, a2.2, fun ns S6 nl nb p6 o6 => ?_⟩
      have gD6 := (o6 D (notin1 hDp)).trans gD5
      have gL6 := (o6 L (notin1 hLp)).trans gL5
      have k6 := k5.trans o6.kp
      walk_at "w"
      intro M2 hM2
      have hM2p := p6.ne hM2
      have hM2D := ne_free gD6 hM2
      have hM2L := ne_free gL6 hM2
      have hM2S : S M2 = none := k6.free hM2 (notin1 hM2p)
      refine tk_go (p6.eq (put_ne hM2p.symm)) (by omega) (by decide) (by decide) fun u2 S7 u20 u21 p7 o7 => ?_
      have gM7 := (o7 M2 (notin1 hM2p)).trans put_same
      have gD7 := (o7 D (notin1 hDp)).trans ((put_ne hM2D.symm).trans gD6)
      have gL7 := (o7 L (notin1 hLp)).trans ((put_ne hM2L.symm).trans gL6)
      have k7 : KpL [p] S S7 := (k6.own hM2S).trans o7.kp
      have t2 := three_le u2
      refine ⟨_, gM7, ?_⟩
      refine rdAt_ok (three_at u20 u21) ?_
      walk_at "w"
      obtain ⟨sm, esm, sm0, sm1⟩ : ∃ sm : Nat, (fun i j : Int => if j < i then j else i) (li - ((fsG g).length : Int)) (three u2 : Int) = (sm : Int) ∧ (sm : Int) ≤ li - ((fsG g).length : Int) ∧ sm ≤ 3 := by
        show ∃ sm : Nat, (if (three u2 : Int) < li - ((fsG g).length : Int) then (three u2 : Int) else li - ((fsG g).length : Int)) = (sm : Int) ∧ _
        refine ⟨min (three u2) (li - ((fsG g).length : Int)).toNat, ?_, ?_, ?_⟩
        · split <;> omega
        · omega
        · omega
      rw [esm]
      refine ⟨_, gL7, ?_⟩
      refine Hd.mk ⟨p, _, sc.a3, sm, rfl, p7, by omega, by omega, a3.1, a3.2, fun fs S8 fl fb p8 o8 => ?_⟩
      have gD8 := (o8 D (notin1 hDp)).trans gD7
      have gL8 := (o8 L (notin1 hLp)).trans gL7
      have k8 := k7.trans o8.kp
      walk_at "w"
      refine ⟨_, gL8, ?_⟩
      refine tk_go p8 (by omega) (by omega) (by omega) fun h1 S9 h10 h11 p9 o9 => ?_
      have gD9 := (o9 D (notin1 hDp)).trans gD8
      have gL9 := (o9 L (notin1 hLp)).trans gL8
      have k9 := k8.trans o9.kp
      walk_at "w"
      refine tk_go p9 (by omega) (by decide) (by decide) fun v1 S10 v10 v11 p10 o10 => ?_
      have gD10 := (o10 D (notin1 hDp)).trans gD9
      have gL10 := (o10 L (notin1 hLp)).trans gL9
      have k10 := k9.trans o10.kp
      walk_at "w"
      refine ⟨_, gL10, ?_⟩
      refine tk_go p10 (by omega) (by omega) (by omega) fun v2 S11 v20 v21 p11 o11 => ?_
      have gD11 := (o11 D (notin1 hDp)).trans gD10
      have gL11 := (o11 L (notin1 hLp)).trans gL10
      have k11 := k10.trans o11.kp
      walk_at "w"
      refine ⟨.inl (.inl ⟨by omega, by omega⟩), ?_⟩
      have hov : 0 ≤ v1 * v2 := Int.mul_nonneg v10 v20
      walk_at "w"
      refine ⟨.inl ⟨rfl, _, gD11⟩, ?_⟩
      walk_at "w"
      refine tk_go p11 (by omega) (by decide) (by decide) fun ct S12 ct0 ct1 p12 o12 => ?_
      have gD12 := (o12 D (notin1 hDp)).trans gD11
      have gL12 := (o12 L (notin1 hLp)).trans gL11
      have k12 := k11.trans o12.kp
      walk_at "w"
      have efs : fsG (g ++ [⟨1 + h1, v1 * v2, decide (ct > 0), ns, fs⟩]) = fsG g ++ fs := by
        rw [fsG_app]
        show _ ++ (fs ++ []) = _
        rw [List.append_nil]
      refine ⟨_, gD12, ?_, hi, g ++ [⟨1 + h1, v1 * v2, decide (ct > 0), ns, fs⟩], _, _, _, _, _, _, _, rfl, ?_, by rw [List.length_append, gl]; rfl, ?_, ?_, ?_, (put_ne hDL.symm).trans gL12, (p12.eq (put_ne hDp.symm)).mono (by omega), k12.own hD⟩
      · rw [List.length_map, gl]
        exact Nat.lt_of_lt_of_le (show i < 1000 by omega) sizeLine_ge
      · rw [efs, List.length_append, fl]
        omega
      · intro l hl
        rcases List.mem_append.mp hl with h' | h'
        · exact gok l h'
        · rw [List.mem_singleton.mp h']
          exact ⟨by show 1 ≤ 1 + h1; omega, hov, fun x hx => (nb x hx).1, fun x hx => (fb x hx).1, by show ns.length ≤ 100; omega⟩
      · rw [efs, List.length_append, fl]
        omega
      · rw [List.map_append]
        exact put_same
    · rintro ρ' S4 ⟨hin, g, fl0, a6', a7', a8', a9', a10', a11', rfl, rfl, gl, gok, gfl, hD4, hL4, p4, k4⟩
      walk_at "w"
      refine ⟨_, hD4, ?_⟩
      exact fg_here (q g S4 gok (by omega) gfl k4)⟩
end
end K62
set_option Elab.async false
set_option linter.all false
set_option maxRecDepth 100000
set_option maxHeartbeats 4000000
set_option synthInstance.maxHeartbeats 4000000
set_option synthInstance.maxSize 100000
namespace K62
open PySem PySem.Spec PyProof.Rows L2 Wl
local macro_rules | `(tactic| walk_at "w") => `(tactic| (conv => whnf))
/-! what a store holds -/
local macro_rules | `(tactic| walk_at "ne") => `(tactic| first | assumption | (apply Ne.symm; assumption) | exact ne_free (by assumption) (by assumption) | exact (ne_free (by assumption) (by assumption)).symm | exact Pl.ne (by assumption) (by assumption) | exact (Pl.ne (by assumption) (by assumption)).symm)
local macro_rules | `(tactic| walk_at "s") => `(tactic| first
  | exact put_same
  | assumption
  | (refine (put_ne ?_).trans ?_; (· walk_at "ne"); (· walk_at "s")))
/-! a side condition -/
local macro_rules | `(tactic| walk_at "c") => `(tactic| first
  | exact Or.inl (Or.inl ⟨by omega, by omega⟩)
  | exact Or.inl (Or.inr ⟨by omega, by omega⟩)
  | exact Or.inl ⟨by omega, by omega⟩
  | exact Or.inl ⟨rfl, _, by walk_at "s"⟩
  | rfl
  | omega
  | decide
  | exact Nat.le_trans (by omega) sizeLine_ge)
/-! one question is answered, if the answer is plain -/
local macro_rules | `(tactic| walk_at "g1") => `(tactic| first
  | refine ⟨fun _ => ?_, fun h => absurd (show true = false from h) (by decide)⟩
  | refine ⟨fun h => absurd (show false = true from h) Bool.false_ne_true, fun _ => ?_⟩
  | refine ⟨_, by walk_at "s", ?_⟩
  | refine ⟨_, _, by walk_at "s", by walk_at "s", ?_⟩
  | refine ⟨_, by walk_at "s", by simpa using (by omega), ?_⟩
  | refine ⟨_, rfl, ?_⟩
  | refine ⟨_, _, rfl, (by first | exact isTy_tt | exact isTy_ii | exact isTy_ll | exact isTy_ss | exact isTy_ib | exact isTy_tb | exact isTy_ti | exact isTy_ts | exact isTy_tl | exact isTy_lb | exact isTy_li | exact isTy_ls | exact isTy_lt | exact isTy_sb | exact isTy_si | exact isTy_st | exact isTy_sl | exact isTy_is | exact isTy_it | exact isTy_il | exact isTy_bi | exact isTy_bs | exact isTy_bb | exact isTy_nb | exact isTy_ni | exact isTy_ns | exact isTy_nt | exact isTy_nl | exact isTy_bt | exact isTy_bl | exact isTy_nd | exact isTy_td | exact isTy_ld | exact isTy_sd | exact isTy_id | exact isTy_bd | exact isTy_dd | exact isTy_db | exact isTy_di | exact isTy_ds | exact isTy_dt | exact isTy_dl), ?_⟩
  | refine ⟨_, _, tyName_lst (by walk_at "s"), (by first | exact isTy_ll | exact isTy_lb | exact isTy_li | exact isTy_ls | exact isTy_lt), ?_⟩
  | refine if_q ?_
  | refine ⟨by walk_at "c", ?_⟩)
local macro_rules | `(tactic| walk_at "go") => `(tactic| (walk_at "w"; repeat (walk_at "g1"; walk_at "w")))
/-! a branch that cannot be -/
local macro_rules | `(tactic| walk_at "two") => `(tactic| refine ⟨fun h => ?_, fun h => ?_⟩)
section
variable {P : Program} {w : World} {K : PySem.W.Frag} {mg : Str → Option Value} {base : Heap} {ec : Cls}
/-! the law's own rows of floats, and columns -/
def frI (g : List Ln) (i : Nat) : List (Nat × Int) := match g[i]? with
  | some l => l.fs.map fun x => (i, x)
  | none => []
def frT (g : List Ln) (n : Nat) : List (Nat × Int) := (List.range n).flatMap (frI g)
def frL (g : List Ln) : List (Nat × Int) := frT g g.length
theorem frT_succ (g : List Ln) (n : Nat) : frT g (n + 1) = frT g n ++ frI g n := by
  unfold frT
  rw [List.range_succ, List.flatMap_append]
  show _ ++ (frI g n ++ []) = _
  rw [List.append_nil]
theorem frI_len {g : List Ln} {i : Nat} {l : Ln} (h : g[i]? = some l) : (frI g i).length = l.fs.length := by unfold frI; rw [h]; exact List.length_map _
theorem mkN_succ {g : List Ln} {i : Nat} {l : Ln} (h : g[i]? = some l) : mkN g (i + 1) = mkN g i + l.fs.length := by
  unfold mkN fsG
  rw [List.take_add_one, h, List.flatMap_append, List.length_append]
  show _ + (l.fs ++ []).length = _
  rw [List.append_nil]
theorem frT_len (g : List Ln) : ∀ n, n ≤ g.length → (frT g n).length = mkN g n
  | 0, _ => rfl
  | n + 1, h => by
    have e : g[n]? = some g[n] := List.getElem?_eq_getElem (by omega)
    rw [frT_succ, List.length_append, frT_len g n (by omega), frI_len e, mkN_succ e]
theorem frT_lt {g : List Ln} {n : Nat} {x : Nat × Int} (h : x ∈ frT g n) : x.1 < n := by
  obtain ⟨i, hi, hx⟩ := List.mem_flatMap.mp h
  unfold frI at hx
  split at hx
  · obtain ⟨y, _, rfl⟩ := List.mem_map.mp hx
    exact List.mem_range.mp hi
  · cases hx
theorem frT_split {g : List Ln} {e n : Nat} (h : e ≤ n) : ∃ r, frT g n = frT g e ++ r ∧ ∀ x ∈ r, e ≤ x.1 := by
  induction n with
  | zero => exact ⟨[], by rw [show e = 0 by omega, List.append_nil], (fun _ h => by cases h)⟩
  | succ n ih =>
    by_cases he : e = n + 1
    · exact ⟨[], by rw [he, List.append_nil], (fun _ h => by cases h)⟩
    · obtain ⟨r, h1, h2⟩ := ih (by omega)
      refine ⟨r ++ frI g n, by rw [frT_succ, h1, List.append_assoc], fun x hx => ?_⟩
      rcases List.mem_append.mp hx with h' | h'
      · exact h2 x h'
      · unfold frI at h'
        split at h'
        · obtain ⟨y, _, rfl⟩ := List.mem_map.mp h'
          show e ≤ n
          omega
        · cases h'
/-- a float's line is ahead of e just when its number is -/
theorem frL_line {g : List Ln} {e k : Nat} {x : Nat × Int} (he : e ≤ g.length) (h : (frL g)[k]? = some x) : x.1 < e ↔ k < mkN g e := by
  obtain ⟨r, h1, h2⟩ := frT_split (g := g) he
  unfold frL at h
  rw [h1] at h
  have hl := frT_len g e he
  by_cases hk : k < mkN g e
  · rw [List.getElem?_append_left (by omega)] at h
    have := frT_lt (List.mem_of_getElem? h)
    exact ⟨fun _ => hk, fun _ => this⟩
  · rw [List.getElem?_append_right (by omega)] at h
    have := h2 x (List.mem_of_getElem? h)
    exact ⟨fun h => by omega, fun h => absurd h hk⟩
theorem frL_len (g : List Ln) : (frL g).length = (fsG g).length := by
  unfold frL
  rw [frT_len g _ (Nat.le_refl _)]
  unfold mkN
  rw [List.take_length]
theorem frT_snd (g : List Ln) : ∀ n, n ≤ g.length → (frT g n).map (fun x => x.2) = fsG (g.take n)
  | 0, _ => rfl
  | n + 1, h => by
    have e : g[n]? = some g[n] := List.getElem?_eq_getElem (by omega)
    rw [frT_succ, List.map_append, frT_snd g n (by omega)]
    unfold fsG frI
    rw [List.take_add_one, e, List.flatMap_append]
    show _ ++ (g[n].fs.map fun x => (n, x)).map (fun x => x.2) = _ ++ (g[n].fs ++ [])
    rw [List.map_map, List.append_nil]
    congr 1
    exact List.map_id' _
theorem frL_snd (g : List Ln) : (frL g).map (fun x => x.2) = fsG g := by
  unfold frL
  rw [frT_snd g _ (Nat.le_refl _), List.take_length]
def frW (x : Nat × Int) : W := .tup [.int (x.1 : Int), .int x.2]
def spFl : SpW := fun ws S Q => ∃ (g : List Ln), ws = [galT g] ∧ g.length ≤ 1000 ∧ (fsG g).length ≤ 1000 ∧ ∀ D S', S' D = some (.lst ((frL g).map frW)) → S D = none → KpL [] S S' → Q (.ref D) S'
theorem ok__law_float_rows (T : Txt K mg ec) (d : DefAt K mg "_law_float_rows" s__law_float_rows ["_law_galley_here"]) : CalW P w K mg base 1 "_law_float_rows" spFl :=
  calDI d sc__law_float_rows (fun ws S Q ⟨g, e, _⟩ => by rw [e]; rfl) fun f cdv A outer s H E hr => ⟨_, _,
    (pss_cons (ps_set (i := 1) sc__law_float_rows.nd rfl (Or.inl rfl) (pe_lst pa_nil))
      (pss_cons (ps_for PassesOwn.never rfl (pi_range1 rfl T.b_range (pa_cons (pe_callB (k_len K) (by rfl) T.b_len (by decide +kernel) (pa_cons (pv 0) pa_nil)) pa_nil)) (pg_name (i := 2) sc__law_float_rows.nd rfl (Or.inl rfl))
       (pss_one (ps_for PassesOwn.never rfl (k_any K (pe_ix (k_ix K) (pe_ix (k_ix K) (pv 0) (pv 2) (fun _ _ => rfl)) pe_int (fun _ _ => rfl))) (pg_name (i := 3) sc__law_float_rows.nd rfl (Or.inl rfl))
        (pss_one (ps_expr (k_bm K PySem.F.plainAttrs_list PySem.F.slot_list_append PySem.F.type_list_append mt_append (pv 1) (pa_cons (pe_tup (pa_cons (pv 2) (pa_cons (pv 3) pa_nil))) pa_nil)))))))
      (pss_one (ps_ret (pv 1))))), inferInstance, by
    rintro ws S Q ⟨g, rfl, hn, hF, q⟩
    walk_at "w"
    intro D hD
    walk_at "w"
    rw [List.length_map]
    refine ⟨by omega, by omega, ?_⟩
    refine for_q (fun i ρ' S' => i ≤ g.length ∧ ∃ (a2 a3 : Option W), ρ' = [some (galT g), some (.ref D), a2, a3] ∧ S' = put S D (.lst ((frT g i).map frW)))
      ⟨Nat.zero_le _, _, _, rfl, rfl⟩ (fun _ _ _ _ => trivial) ?_ ?_
    · rintro i w ρ' S' e ⟨_, a2, a3, rfl, rfl⟩
      obtain ⟨hi, rfl⟩ := intsW_at e
      have hi : i < g.length := by omega
      have el : g[i]? = some g[i] := List.getElem?_eq_getElem hi
      have hlen := frT_len g (i + 1) (by omega)
      have hmx := mkN_le g (i + 1)
      have hms := mkN_succ el
      have hl0 := frT_len g i (by omega)
      walk_at "w"
      rw [show atI (g.map Ln.v) (0 + (i : Int)) = some g[i].v by rw [Int.zero_add]; exact atI_nat (by rw [List.getElem?_map, el]; rfl)]
      walk_at "w"
      have eI : frI g i = g[i].fs.map fun x => (i, x) := by unfold frI; rw [el]
      refine for_q (fun j ρ' S' => j ≤ g[i].fs.length ∧ ∃ (a3 : Option W), ρ' = [some (galT g), some (.ref D), some (.int (0 + (i : Int))), a3] ∧ S' = put S D (.lst ((frT g i ++ (g[i].fs.map fun x => (i, x)).take j).map frW)))
        ⟨Nat.zero_le _, _, rfl, by rw [List.take_zero, List.append_nil]⟩ (fun _ _ _ _ => trivial) ?_ ?_
      · rintro j w ρ' S' e2 ⟨_, a3, rfl, rfl⟩
        rw [List.getElem?_map] at e2
        obtain ⟨x, ex, rfl⟩ : ∃ x : Int, g[i].fs[j]? = some x ∧ W.int x = w := by
          cases h : g[i].fs[j]? with
          | none => rw [h] at e2; cases e2
          | some x => rw [h] at e2; exact ⟨x, rfl, Option.some.inj e2⟩
        have hj := (List.getElem?_eq_some_iff.mp ex).1
        walk_at "w"
        refine ⟨.inl ⟨rfl, _, put_same⟩, ?_⟩
        walk_at "w"
        refine ⟨_, put_same, ?_, hj, _, rfl, ?_⟩
        · rw [List.length_map, List.length_append, List.length_take, List.length_map]
          exact Nat.lt_of_lt_of_le (show _ < 20000 by omega) (by decide)
        · rw [put_put, List.take_add_one, List.getElem?_map, ex, ← List.append_assoc, List.map_append (l₂ := (Option.map (fun x => (i, x)) (some x)).toList), Int.zero_add]
          rfl
      · rintro ρ' S' ⟨_, a3, rfl, rfl⟩
        rw [List.length_map, List.take_of_length_le (by rw [List.length_map]; exact Nat.le_refl _), ← eI, ← frT_succ]
        exact ⟨hi, _, _, rfl, rfl⟩
    · rintro ρ' S' ⟨_, a2, a3, rfl, rfl⟩
      rw [intsW_len, show ((g.length : Nat) : Int).toNat = g.length by omega]
      walk_at "w"
      exact fg_here (q D _ put_same hD ((KpL.refl [] S).new hD))⟩
end
end K62
set_option Elab.async false
set_option linter.all false
set_option maxRecDepth 100000
set_option maxHeartbeats 4000000
set_option synthInstance.maxHeartbeats 4000000
set_option synthInstance.maxSize 100000
namespace K62
open PySem PySem.Spec PyProof.Rows L2 Wl
local macro_rules | `(tactic| walk_at "w") => `(tactic| (conv => whnf))
/-! what a store holds -/
local macro_rules | `(tactic| walk_at "ne") => `(tactic| first | assumption | (apply Ne.symm; assumption) | exact ne_free (by assumption) (by assumption) | exact (ne_free (by assumption) (by assumption)).symm | exact Pl.ne (by assumption) (by assumption) | exact (Pl.ne (by assumption) (by assumption)).symm)
local macro_rules | `(tactic| walk_at "s") => `(tactic| first
  | exact put_same
  | assumption
  | (refine (put_ne ?_).trans ?_; (· walk_at "ne"); (· walk_at "s")))
/-! a side condition -/
local macro_rules | `(tactic| walk_at "c") => `(tactic| first
  | exact Or.inl (Or.inl ⟨by omega, by omega⟩)
  | exact Or.inl (Or.inr ⟨by omega, by omega⟩)
  | exact Or.inl ⟨by omega, by omega⟩
  | exact Or.inl ⟨rfl, _, by walk_at "s"⟩
  | rfl
  | omega
  | decide
  | exact Nat.le_trans (by omega) sizeLine_ge)
/-! one question is answered, if the answer is plain -/
local macro_rules | `(tactic| walk_at "g1") => `(tactic| first
  | refine ⟨fun _ => ?_, fun h => absurd (show true = false from h) (by decide)⟩
  | refine ⟨fun h => absurd (show false = true from h) Bool.false_ne_true, fun _ => ?_⟩
  | refine ⟨_, by walk_at "s", ?_⟩
  | refine ⟨_, _, by walk_at "s", by walk_at "s", ?_⟩
  | refine ⟨_, by walk_at "s", by simpa using (by omega), ?_⟩
  | refine ⟨_, rfl, ?_⟩
  | refine ⟨_, _, rfl, (by first | exact isTy_tt | exact isTy_ii | exact isTy_ll | exact isTy_ss | exact isTy_ib | exact isTy_tb | exact isTy_ti | exact isTy_ts | exact isTy_tl | exact isTy_lb | exact isTy_li | exact isTy_ls | exact isTy_lt | exact isTy_sb | exact isTy_si | exact isTy_st | exact isTy_sl | exact isTy_is | exact isTy_it | exact isTy_il | exact isTy_bi | exact isTy_bs | exact isTy_bb | exact isTy_nb | exact isTy_ni | exact isTy_ns | exact isTy_nt | exact isTy_nl | exact isTy_bt | exact isTy_bl | exact isTy_nd | exact isTy_td | exact isTy_ld | exact isTy_sd | exact isTy_id | exact isTy_bd | exact isTy_dd | exact isTy_db | exact isTy_di | exact isTy_ds | exact isTy_dt | exact isTy_dl), ?_⟩
  | refine ⟨_, _, tyName_lst (by walk_at "s"), (by first | exact isTy_ll | exact isTy_lb | exact isTy_li | exact isTy_ls | exact isTy_lt), ?_⟩
  | refine if_q ?_
  | refine ⟨by walk_at "c", ?_⟩)
local macro_rules | `(tactic| walk_at "go") => `(tactic| (walk_at "w"; repeat (walk_at "g1"; walk_at "w")))
/-! a branch that cannot be -/
local macro_rules | `(tactic| walk_at "two") => `(tactic| refine ⟨fun h => ?_, fun h => ?_⟩)
section
variable {P : Program} {w : World} {K : PySem.W.Frag} {mg : Str → Option Value} {base : Heap} {ec : Cls}
theorem gal_at {g : List Ln} {i : Nat} (h : i < g.length) : atI (g.map Ln.v) (i : Int) = some g[i].v := atI_nat (by rw [List.getElem?_map, List.getElem?_eq_getElem h]; rfl)
theorem hsG_at {g : List Ln} {i : Nat} (h : i < g.length) : (hsG g)[i]? = some g[i].h := by unfold hsG; rw [List.getElem?_map, List.getElem?_eq_getElem h]; rfl
theorem osG_at {g : List Ln} {i : Nat} (h : i < g.length) : (osG g)[i]? = some g[i].o := by unfold osG; rw [List.getElem?_map, List.getElem?_eq_getElem h]; rfl
theorem sumT_succ {xs : List Int} {i : Nat} {x : Int} (h : xs[i]? = some x) : sumT xs (i + 1) = sumT xs i + x := sum_take_succ h
theorem colH_succ {g : List Ln} {s i : Nat} (h : s + i < g.length) : colH g s (s + (i + 1)) = colH g s (s + i) + g[s + i].h + g[s + i].o * (if decide ((s : Int) < ((s + i : Nat) : Int)) = true then 1 else 0) := by
  have h1 := sumT_succ (hsG_at h)
  have h2 := sumT_succ (osG_at h)
  unfold colH
  rw [if_neg (by omega), show s + (i + 1) = s + i + 1 by omega, h1, h2]
  by_cases hi : i = 0
  · subst hi
    have h2' : sumT (osG g) (s + 1) = sumT (osG g) s + g[s + 0].o := h2
    have ef : decide ((s : Int) < ((s + 0 : Nat) : Int)) = false := decide_eq_false (by omega)
    rw [if_pos (Nat.add_zero s).symm, ef, if_neg (by decide)]
    show _ = _
    simp only [Nat.add_zero] at *
    rw [h2']
    omega
  · rw [if_neg (by omega), decide_eq_true (by omega), if_pos rfl]
    omega
def spCo : SpW := fun ws S Q => ∃ (g : List Ln) (s e : Nat), ws = [galT g, .int s, .int e] ∧ s ≤ e ∧ e ≤ g.length ∧ g.length ≤ 1000 ∧ Q (.int (colH g s e)) S
theorem ok__law_column (T : Txt K mg ec) (d : DefAt K mg "_law_column" s__law_column ["_law_galley_here", "_law_start", "_law_end"]) : CalW P w K mg base 1 "_law_column" spCo :=
  calDI d sc__law_column (fun ws S Q ⟨g, s, e, h, _⟩ => by rw [h]; rfl) fun f cdv A outer s0 H E hr => ⟨_, _,
    (pss_cons (ps_set (i := 3) sc__law_column.nd rfl (Or.inl rfl) pe_int)
      (pss_cons (ps_for PassesOwn.never rfl (pi_range2 rfl T.b_range (pa_cons (pv 1) (pa_cons (pv 2) pa_nil))) (pg_name (i := 4) sc__law_column.nd rfl (Or.inl rfl))
       (pss_one (ps_set (i := 3) sc__law_column.nd rfl (Or.inl rfl) (pe_op (k_addB K) (pe_op (k_addB K) (pv 3) (pe_ix (k_ix K) (pe_ix (k_ix K) (pv 0) (pv 4) (fun _ _ => rfl)) pe_int (fun _ _ => rfl))) (pe_op op_mulA (pe_ix (k_ix K) (pe_ix (k_ix K) (pv 0) (pv 4) (fun _ _ => rfl)) pe_int (fun _ _ => rfl)) (pe_callTy call_int1 (by rfl) T.b_int (by decide +kernel) (pa_cons (pe_cmpR op_gtA (pv 4) (pv 1) (nomark _)) pa_nil)))))))
      (pss_one (ps_ret (pv 3))))), inferInstance, by
    rintro ws S Q ⟨g, s, e, rfl, hse, hen, hn, q⟩
    walk_at "w"
    refine ⟨⟨by omega, by omega, by omega, by omega⟩, ?_⟩
    have elen : ((e : Int) - (s : Int)).toNat = e - s := by omega
    refine for_q (fun i ρ' S' => i ≤ e - s ∧ ∃ (a4 : Option W), ρ' = [some (galT g), some (.int s), some (.int e), some (.int (colH g s (s + i))), a4] ∧ S' = S)
      ⟨Nat.zero_le _, _, by rw [Nat.add_zero]; unfold colH; rw [if_pos rfl]; rfl, rfl⟩ (fun _ _ _ _ => trivial) ?_ ?_
    · rintro i w ρ' S' z ⟨_, a4, rfl, rfl⟩
      obtain ⟨hi, rfl⟩ := intsW_at z
      rw [elen] at hi
      have hsi : s + i < g.length := by omega
      have hc := colH_succ hsi
      have ex : (s : Int) + (i : Int) = ((s + i : Nat) : Int) := by omega
      walk_at "w"
      rw [ex, gal_at hsi]
      walk_at "w"
      rw [gal_at hsi]
      walk_at "w"
      refine ⟨.inl (.inr ⟨by split <;> decide, by split <;> decide⟩), ?_⟩
      exact ⟨hi, some (W.int ((s + i : Nat) : Int)), by rw [hc]; rfl, rfl⟩
    · rintro ρ' S' ⟨_, a4, rfl, rfl⟩
      rw [intsW_len, elen, show s + (e - s) = e by omega]
      walk_at "w"
      exact fg_here q⟩
def cutsL (g : List Ln) (k : FK) (l e p : Nat) : Bool :=
  if decide ((l : Int) < e) && decide ((e : Int) < g.length) && !mayC g e then false
  else if decide (k.i = 1) || decide ((e : Int) = l) then decide ((p : Int) = e)
  else decide ((l : Int) < p) && decide ((p : Int) ≤ e) && (decide ((p : Int) = e) || mayC g p)
def spCu : SpW := fun ws S Q => ∃ (g : List Ln) (k : FK) (l e fe p : Nat), ws = [galT g, .int l, .tup [.int e, .int fe, .int p], .int k.i] ∧ l ≤ e ∧ e ≤ g.length ∧ p ≤ g.length ∧ Q (.bl (cutsL g k l e p)) S
theorem ok__law_cuts (T : Txt K mg ec) (d : DefAt K mg "_law_cuts" s__law_cuts ["_law_galley_here", "_law_line", "_law_triple", "_law_cols"]) : CalW P w K mg base 1 "_law_cuts" spCu :=
  calDI d sc__law_cuts (fun ws S Q ⟨g, k, l, e, fe, p, h, _⟩ => by rw [h]; rfl) fun f cdv A outer s0 H E hr => ⟨_, _,
    (pss_cons (ps_set (i := 4) sc__law_cuts.nd rfl (Or.inl rfl) (pe_ix (k_ix K) (pv 2) pe_int (fun _ _ => rfl)))
      (pss_cons (ps_set (i := 5) sc__law_cuts.nd rfl (Or.inl rfl) (pe_ix (k_ix K) (pv 2) pe_int (fun _ _ => rfl)))
      (pss_cons (ps_if (PW.pt (pw_and (pt_chain op_ltA op_ltA (pv 1) (pv 4) (pe_callB (k_len K) (by rfl) T.b_len (by decide +kernel) (pa_cons (pv 0) pa_nil))) (pw_and1 (pt_not (pt_val (pe_ix (k_ix K) (pe_ix (k_ix K) (pv 0) (pv 4) (fun _ _ => rfl)) pe_int (fun _ _ => rfl)))))))
       (pss_one (ps_ret pe_bl))
       pss_nil)
      (pss_cons (ps_if (PW.pt (pw_or (pt_cmpR (k_eq K hr.units) (pv 3) pe_int (nomark _)) (pw_or1 (pt_cmpR (k_eq K hr.units) (pv 4) (pv 1) (nomark _)))))
       (pss_one (ps_ret (pe_cmpR (k_eq K hr.units) (pv 5) (pv 4) (nomark _))))
       pss_nil)
      (pss_one (ps_ret (pe_and (pe_chain op_ltA op_leA (pv 1) (pv 5) (pv 4)) (pe_one (pe_or (pe_cmpR (k_eq K hr.units) (pv 5) (pv 4) (nomark _)) (pe_one (pe_ix (k_ix K) (pe_ix (k_ix K) (pv 0) (pv 5) (fun _ _ => rfl)) pe_int (fun _ _ => rfl)))))))))))), inferInstance, by
    rintro ws S Q ⟨g, k, l, e, fe, p, rfl, hle, hen, hpn, q⟩
    unfold cutsL at q
    have mC : ∀ {i : Nat} (h : i < g.length), mayC g i = g[i].c := fun {i} h => by unfold mayC; rw [List.getElem?_eq_getElem h]
    walk_at "w"
    refine if_ev (decide ((l : Int) < e) && decide ((e : Int) < g.length) && !mayC g e) (evAnd (fun Q q => ?_) (fun hb Q q => ?_)) (fun hc => ?_) (fun hc => ?_)
    · walk_at "w"
      refine ⟨fun h => ?_, fun h => ?_⟩
      · have h : decide ((l : Int) < e) = true := h
        rw [h, Bool.true_and] at q
        walk_at "w"
        rw [List.length_map]
        exact q
      · have h : decide ((l : Int) < e) = false := h
        rw [h, Bool.false_and] at q
        exact q
    · rw [Bool.and_eq_true] at hb
      have he : e < g.length := by have := of_decide_eq_true hb.2; omega
      rw [mC he] at q
      walk_at "w"
      rw [gal_at he]
      walk_at "w"
      exact q
    · rw [if_pos hc] at q
      walk_at "w"
      exact fg_here q
    · rw [if_neg (by rw [hc]; decide)] at q
      walk_at "w"
      refine if_ev (decide (k.i = 1) || decide ((e : Int) = l)) (evOr (fun Q q => ?_) (fun _ Q q => ?_)) (fun hc2 => ?_) (fun hc2 => ?_)
      · walk_at "w"
        exact q
      · walk_at "w"
        exact q
      · rw [if_pos hc2] at q
        walk_at "w"
        exact fg_here q
      · rw [if_neg (by rw [hc2]; decide)] at q
        walk_at "w"
        refine ⟨fun h => ?_, fun h => ?_⟩
        · have h : decide ((l : Int) < p) = true := h
          rw [h, Bool.true_and] at q
          walk_at "w"
          refine ⟨fun h2 => ?_, fun h2 => ?_⟩
          · have h2 : decide ((p : Int) ≤ e) = true := h2
            rw [h2, Bool.true_and] at q
            walk_at "w"
            refine ⟨fun h3 => ?_, fun h3 => ?_⟩
            · have h3 : decide ((p : Int) = e) = true := h3
              rw [h3, Bool.true_or] at q
              walk_at "w"
              exact fg_here q
            · have h3 : decide ((p : Int) = e) = false := h3
              rw [h3, Bool.false_or] at q
              have hp2 : p < g.length := by
                have := of_decide_eq_true h2
                have := of_decide_eq_false h3
                omega
              rw [mC hp2] at q
              walk_at "w"
              rw [gal_at hp2]
              walk_at "w"
              exact fg_here q
          · have h2 : decide ((p : Int) ≤ e) = false := h2
            rw [h2, Bool.false_and] at q
            exact fg_here q
        · have h : decide ((l : Int) < p) = false := h
          rw [h, Bool.false_and, Bool.false_and] at q
          walk_at "w"
          refine ⟨fun h => absurd (show false = true from h) Bool.false_ne_true, fun _ => ?_⟩
          exact fg_here q⟩
end
end K62
set_option Elab.async false
set_option linter.all false
set_option maxRecDepth 100000
set_option maxHeartbeats 4000000
set_option synthInstance.maxHeartbeats 4000000
set_option synthInstance.maxSize 100000
namespace K62
open PySem PySem.Spec PyProof.Rows L2 Wl
local macro_rules | `(tactic| walk_at "w") => `(tactic| (conv => whnf))
/-! what a store holds -/
local macro_rules | `(tactic| walk_at "ne") => `(tactic| first | assumption | (apply Ne.symm; assumption) | exact ne_free (by assumption) (by assumption) | exact (ne_free (by assumption) (by assumption)).symm | exact Pl.ne (by assumption) (by assumption) | exact (Pl.ne (by assumption) (by assumption)).symm)
local macro_rules | `(tactic| walk_at "s") => `(tactic| first
  | exact put_same
  | assumption
  | (refine (put_ne ?_).trans ?_; (· walk_at "ne"); (· walk_at "s")))
/-! a side condition -/
local macro_rules | `(tactic| walk_at "c") => `(tactic| first
  | exact Or.inl (Or.inl ⟨by omega, by omega⟩)
  | exact Or.inl (Or.inr ⟨by omega, by omega⟩)
  | exact Or.inl ⟨by omega, by omega⟩
  | exact Or.inl ⟨rfl, _, by walk_at "s"⟩
  | rfl
  | omega
  | decide
  | exact Nat.le_trans (by omega) sizeLine_ge)
/-! one question is answered, if the answer is plain -/
local macro_rules | `(tactic| walk_at "g1") => `(tactic| first
  | refine ⟨fun _ => ?_, fun h => absurd (show true = false from h) (by decide)⟩
  | refine ⟨fun h => absurd (show false = true from h) Bool.false_ne_true, fun _ => ?_⟩
  | refine ⟨_, by walk_at "s", ?_⟩
  | refine ⟨_, _, by walk_at "s", by walk_at "s", ?_⟩
  | refine ⟨_, by walk_at "s", by simpa using (by omega), ?_⟩
  | refine ⟨_, rfl, ?_⟩
  | refine ⟨_, _, rfl, (by first | exact isTy_tt | exact isTy_ii | exact isTy_ll | exact isTy_ss | exact isTy_ib | exact isTy_tb | exact isTy_ti | exact isTy_ts | exact isTy_tl | exact isTy_lb | exact isTy_li | exact isTy_ls | exact isTy_lt | exact isTy_sb | exact isTy_si | exact isTy_st | exact isTy_sl | exact isTy_is | exact isTy_it | exact isTy_il | exact isTy_bi | exact isTy_bs | exact isTy_bb | exact isTy_nb | exact isTy_ni | exact isTy_ns | exact isTy_nt | exact isTy_nl | exact isTy_bt | exact isTy_bl | exact isTy_nd | exact isTy_td | exact isTy_ld | exact isTy_sd | exact isTy_id | exact isTy_bd | exact isTy_dd | exact isTy_db | exact isTy_di | exact isTy_ds | exact isTy_dt | exact isTy_dl), ?_⟩
  | refine ⟨_, _, tyName_lst (by walk_at "s"), (by first | exact isTy_ll | exact isTy_lb | exact isTy_li | exact isTy_ls | exact isTy_lt), ?_⟩
  | refine if_q ?_
  | refine ⟨by walk_at "c", ?_⟩)
local macro_rules | `(tactic| walk_at "go") => `(tactic| (walk_at "w"; repeat (walk_at "g1"; walk_at "w")))
/-! a branch that cannot be -/
local macro_rules | `(tactic| walk_at "two") => `(tactic| refine ⟨fun h => ?_, fun h => ?_⟩)
section
variable {P : Program} {w : World} {K : PySem.W.Frag} {mg : Str → Option Value} {base : Heap} {ec : Cls}
theorem ag_len {g : List Ln} {s : Sta} {e fe : Nat} (hs : StOk g s) (hle : s.l ≤ e) (h0 : s.f ≤ fe) (h1 : fe ≤ mkN g e) : (staM g s e fe).a.length = mkN g e - fe := by
  have h2 := hs.a
  have h3 := hs.f
  have h4 := mkN_mono g hle
  unfold staM
  show ((s.a.map fun a => a + 1).drop (fe - s.f) ++ List.replicate (mkN g e - max fe (mkN g s.l)) 1).length = _
  rw [List.length_append, List.length_drop, List.length_map, List.length_replicate]
  omega
theorem ag_old {g : List Ln} {s : Sta} {e fe i : Nat} (hs : StOk g s) (h0 : s.f ≤ fe) (h : fe + i < mkN g s.l) : ∃ a, s.a[fe + i - s.f]? = some a ∧ (staM g s e fe).a[i]? = some (a + 1) := by
  have h2 := hs.a
  have hl : fe + i - s.f < s.a.length := by omega
  refine ⟨_, List.getElem?_eq_getElem hl, ?_⟩
  show ((s.a.map fun a => a + 1).drop (fe - s.f) ++ _)[i]? = _
  rw [List.getElem?_append_left (by rw [List.length_drop, List.length_map]; omega), List.getElem?_drop, List.getElem?_map, show fe - s.f + i = fe + i - s.f by omega, List.getElem?_eq_getElem hl]
  rfl
theorem ag_new {g : List Ln} {s : Sta} {e fe i : Nat} (hs : StOk g s) (h0 : s.f ≤ fe) (h1 : mkN g s.l ≤ fe + i) (h2 : fe + i < mkN g e) : (staM g s e fe).a[i]? = some 1 := by
  have h3 := hs.a
  have h4 := hs.f
  show ((s.a.map fun a => a + 1).drop (fe - s.f) ++ List.replicate (mkN g e - max fe (mkN g s.l)) 1)[i]? = _
  rw [List.getElem?_append_right (by rw [List.length_drop, List.length_map]; omega), List.getElem?_replicate, if_pos (by rw [List.length_drop, List.length_map]; omega)]
def spOl : SpW := fun ws S Q => ∃ (g : List Ln) (s : Sta) (R : Addr) (e fe p : Nat), ws = [.ref R, s.v, .tup [.int e, .int fe, .int p]] ∧ S R = some (.lst ((frL g).map frW)) ∧ StOk g s ∧ s.l ≤ e ∧ e ≤ g.length ∧ s.f ≤ fe ∧ fe ≤ mkN g e ∧ (fsG g).length ≤ 1000 ∧ Q (.tup ((staM g s e fe).a.map W.int)) S
theorem ok__law_older (T : Txt K mg ec) (d : DefAt K mg "_law_older" s__law_older ["_law_rows", "_law_state", "_law_triple"]) : CalW P w K mg base 1 "_law_older" spOl :=
  calDI d sc__law_older (fun ws S Q ⟨g, s, R, e, fe, p, h, _⟩ => by rw [h]; rfl) fun f cdv A outer s0 H E hr => ⟨_, _,
    (pss_cons (ps_set (i := 3) sc__law_older.nd rfl (Or.inl rfl) (pe_lst pa_nil))
      (pss_cons (ps_for PassesOwn.never rfl (pi_range2 rfl T.b_range (pa_cons (pe_ix (k_ix K) (pv 2) pe_int (fun _ _ => rfl)) (pa_cons (pe_callB (k_len K) (by rfl) T.b_len (by decide +kernel) (pa_cons (pv 0) pa_nil)) pa_nil))) (pg_name (i := 4) sc__law_older.nd rfl (Or.inl rfl))
       (pss_one (ps_if (pt_cmpR op_ltA (pe_ix (k_ix K) (pe_ix (k_ix K) (pv 0) (pv 4) (fun _ _ => rfl)) pe_int (fun _ _ => rfl)) (pe_ix (k_ix K) (pv 1) pe_int (fun _ _ => rfl)) (nomark _))
        (pss_one (ps_expr (k_bm K PySem.F.plainAttrs_list PySem.F.slot_list_append PySem.F.type_list_append mt_append (pv 3) (pa_cons (pe_op (k_addB K) (pe_ix (k_ix K) (pe_ix (k_ix K) (pv 1) pe_int (fun _ _ => rfl)) (pe_op op_sub (pv 4) (pe_ix (k_ix K) (pv 1) pe_int (fun _ _ => rfl))) (fun _ _ => rfl)) pe_int) pa_nil))))
        (pss_one (ps_if (pt_cmpR op_ltA (pe_ix (k_ix K) (pe_ix (k_ix K) (pv 0) (pv 4) (fun _ _ => rfl)) pe_int (fun _ _ => rfl)) (pe_ix (k_ix K) (pv 2) pe_int (fun _ _ => rfl)) (nomark _))
         (pss_one (ps_expr (k_bm K PySem.F.plainAttrs_list PySem.F.slot_list_append PySem.F.type_list_append mt_append (pv 3) (pa_cons pe_int pa_nil))))
         pss_nil)))))
      (pss_one (ps_ret (pe_callTy (k_tuple K) (by rfl) T.b_tuple (by decide +kernel) (pa_cons (pv 3) pa_nil)))))), inferInstance, by
    rintro ws S Q ⟨g, s, R, e, fe, p, rfl, hR, hs, hle, hen, h0, h1, hF, q⟩
    have hag := ag_len hs hle h0 h1
    have hfl := frL_len g
    have hmF := mkN_le g e
    have hsl := hs.l
    walk_at "w"
    intro D hD
    have hDR : D ≠ R := ne_free hR hD
    walk_at "w"
    refine ⟨_, (put_ne hDR.symm).trans hR, ?_⟩
    walk_at "w"
    rw [List.length_map]
    refine ⟨⟨by omega, by omega, by omega, by omega⟩, ?_⟩
    have elen : (((frL g).length : Int) - (fe : Int)).toNat = (frL g).length - fe := by omega
    refine for_q (fun i ρ' S' => i ≤ (frL g).length - fe ∧ ∃ (a4 : Option W), ρ' = [some (.ref R), some s.v, some (.tup [.int e, .int fe, .int p]), some (.ref D), a4] ∧ S' = put S D (.lst (((staM g s e fe).a.take i).map W.int)))
      ⟨Nat.zero_le _, _, rfl, rfl⟩ (fun _ _ _ _ => trivial) ?_ ?_
    · rintro i w ρ' S' z ⟨_, a4, rfl, rfl⟩
      obtain ⟨hi, rfl⟩ := intsW_at z
      rw [elen] at hi
      have hk : fe + i < (frL g).length := by omega
      obtain ⟨x, hx⟩ : ∃ x, (frL g)[fe + i]? = some x := ⟨_, List.getElem?_eq_getElem hk⟩
      have ln1 := frL_line (e := s.l) hsl hx
      have ln2 := frL_line (e := e) hen hx
      have ex : (fe : Int) + (i : Int) = ((fe + i : Nat) : Int) := by omega
      have hR2 : ∀ c, (put S D c) R = some (.lst ((frL g).map frW)) := fun c => (put_ne hDR.symm).trans hR
      have rx : atI ((frL g).map frW) ((fe + i : Nat) : Int) = some (.tup [.int (x.1 : Int), .int x.2]) := atI_nat (by rw [List.getElem?_map, hx]; rfl)
      walk_at "w"
      rw [ex]
      refine ⟨_, hR2 _, ?_⟩
      refine rdAt_ok rx ?_
      walk_at "w"
      refine ⟨fun y => ?_, fun y => ?_⟩
      · have y : x.1 < s.l := by have := of_decide_eq_true y; omega
        have y2 := ln1.mp y
        obtain ⟨ag, ha1, ha2⟩ := ag_old (e := e) hs h0 y2
        walk_at "w"
        refine ⟨.inl ⟨rfl, _, put_same⟩, ?_⟩
        walk_at "w"
        rw [show atI (s.a.map W.int) (((fe + i : Nat) : Int) - (s.f : Int)) = some (.int ag) by
          rw [show ((fe + i : Nat) : Int) - (s.f : Int) = ((fe + i - s.f : Nat) : Int) by omega]
          exact atI_nat (by rw [List.getElem?_map, ha1]; rfl)]
        walk_at "w"
        refine ⟨_, put_same, ?_, hi, _, rfl, ?_⟩
        · rw [List.length_map, List.length_take]
          exact Nat.lt_of_lt_of_le (show _ < 20000 by omega) (by decide)
        · rw [put_put, List.take_add_one, ha2, List.map_append]
          rfl
      · have y : ¬ x.1 < s.l := by have := of_decide_eq_false y; omega
        have y2 : ¬ fe + i < mkN g s.l := fun h => y (ln1.mpr h)
        walk_at "w"
        refine ⟨_, hR2 _, ?_⟩
        refine rdAt_ok rx ?_
        walk_at "w"
        refine ⟨fun y3 => ?_, fun y3 => ?_⟩
        · have y4 : fe + i < mkN g e := ln2.mp (by have := of_decide_eq_true y3; omega)
          have ha := ag_new (e := e) hs h0 (by omega) y4
          walk_at "w"
          refine ⟨.inl ⟨rfl, _, put_same⟩, ?_⟩
          walk_at "w"
          refine ⟨_, put_same, ?_, hi, _, rfl, ?_⟩
          · rw [List.length_map, List.length_take]
            exact Nat.lt_of_lt_of_le (show _ < 20000 by omega) (by decide)
          · rw [put_put, List.take_add_one, ha, List.map_append]
            rfl
        · have y4 : ¬ fe + i < mkN g e := fun h => by
            have := ln2.mpr h
            have := of_decide_eq_false y3
            omega
          refine ⟨hi, _, rfl, ?_⟩
          rw [List.take_of_length_le (by omega), List.take_of_length_le (by omega)]
    · rintro ρ' S' ⟨_, a4, rfl, rfl⟩
      rw [intsW_len, elen, List.take_of_length_le (by omega)]
      walk_at "w"
      refine ⟨_, put_same, ?_⟩
      exact fg_sub (Sub.new hD) q⟩
end
end K62
set_option Elab.async false
set_option linter.all false
set_option maxRecDepth 100000
set_option maxHeartbeats 4000000
set_option synthInstance.maxHeartbeats 4000000
set_option synthInstance.maxSize 100000
namespace K62
open PySem PySem.Spec PyProof.Rows L2 Wl
local macro_rules | `(tactic| walk_at "w") => `(tactic| (conv => whnf))
/-! what a store holds -/
local macro_rules | `(tactic| walk_at "ne") => `(tactic| first | assumption | (apply Ne.symm; assumption) | exact ne_free (by assumption) (by assumption) | exact (ne_free (by assumption) (by assumption)).symm | exact Pl.ne (by assumption) (by assumption) | exact (Pl.ne (by assumption) (by assumption)).symm)
local macro_rules | `(tactic| walk_at "s") => `(tactic| first
  | exact put_same
  | assumption
  | (refine (put_ne ?_).trans ?_; (· walk_at "ne"); (· walk_at "s")))
/-! a side condition -/
local macro_rules | `(tactic| walk_at "c") => `(tactic| first
  | exact Or.inl (Or.inl ⟨by omega, by omega⟩)
  | exact Or.inl (Or.inr ⟨by omega, by omega⟩)
  | exact Or.inl ⟨by omega, by omega⟩
  | exact Or.inl ⟨rfl, _, by walk_at "s"⟩
  | rfl
  | omega
  | decide
  | exact Nat.le_trans (by omega) sizeLine_ge)
/-! one question is answered, if the answer is plain -/
local macro_rules | `(tactic| walk_at "g1") => `(tactic| first
  | refine ⟨fun _ => ?_, fun h => absurd (show true = false from h) (by decide)⟩
  | refine ⟨fun h => absurd (show false = true from h) Bool.false_ne_true, fun _ => ?_⟩
  | refine ⟨_, by walk_at "s", ?_⟩
  | refine ⟨_, _, by walk_at "s", by walk_at "s", ?_⟩
  | refine ⟨_, by walk_at "s", by simpa using (by omega), ?_⟩
  | refine ⟨_, rfl, ?_⟩
  | refine ⟨_, _, rfl, (by first | exact isTy_tt | exact isTy_ii | exact isTy_ll | exact isTy_ss | exact isTy_ib | exact isTy_tb | exact isTy_ti | exact isTy_ts | exact isTy_tl | exact isTy_lb | exact isTy_li | exact isTy_ls | exact isTy_lt | exact isTy_sb | exact isTy_si | exact isTy_st | exact isTy_sl | exact isTy_is | exact isTy_it | exact isTy_il | exact isTy_bi | exact isTy_bs | exact isTy_bb | exact isTy_nb | exact isTy_ni | exact isTy_ns | exact isTy_nt | exact isTy_nl | exact isTy_bt | exact isTy_bl | exact isTy_nd | exact isTy_td | exact isTy_ld | exact isTy_sd | exact isTy_id | exact isTy_bd | exact isTy_dd | exact isTy_db | exact isTy_di | exact isTy_ds | exact isTy_dt | exact isTy_dl), ?_⟩
  | refine ⟨_, _, tyName_lst (by walk_at "s"), (by first | exact isTy_ll | exact isTy_lb | exact isTy_li | exact isTy_ls | exact isTy_lt), ?_⟩
  | refine if_q ?_
  | refine ⟨by walk_at "c", ?_⟩)
local macro_rules | `(tactic| walk_at "go") => `(tactic| (walk_at "w"; repeat (walk_at "g1"; walk_at "w")))
/-! a branch that cannot be -/
local macro_rules | `(tactic| walk_at "two") => `(tactic| refine ⟨fun h => ?_, fun h => ?_⟩)
section
variable {P : Program} {w : World} {K : PySem.W.Frag} {mg : Str → Option Value} {base : Heap} {ec : Cls}
theorem cut_to {α : Type} (xs : List α) (k : Nat) (h : k ≤ xs.length) : cutL xs none (some (k : Int)) = xs.take k := by
  unfold cutL
  rw [HT.sIx_none, HT.sIx_nat]
  simp [Nat.min_eq_left h]
theorem cut_mid {α : Type} {is : List α} {u t : Nat} (h : u ≤ t) (ht : t ≤ is.length) : cutL is (some (u : Int)) (some (t : Int)) = (is.drop u).take (t - u) := by
  unfold cutL
  rw [HT.sIx_nat, HT.sIx_nat, Nat.min_eq_left ht, Nat.min_eq_left (Nat.le_trans h ht)]
/-- the floats of a page -/
def ownL (g : List Ln) (s : Sta) (fe : Nat) : List (Nat × Int) := ((frL g).drop s.f).take (fe - s.f)
theorem sumT_mid {xs : List Int} {u t : Nat} (h : u ≤ t) : ((xs.drop u).take (t - u)).sum = sumT xs t - sumT xs u := by
  have e : xs.take t = xs.take u ++ (xs.drop u).take (t - u) := by
    rw [← List.drop_take, show xs.take u = (xs.take t).take u by rw [List.take_take, Nat.min_eq_left h], List.take_append_drop]
  unfold sumT
  rw [e, List.sum_append]
  omega
theorem own_len {g : List Ln} {s : Sta} {fe : Nat} (h0 : s.f ≤ fe) (h1 : fe ≤ (fsG g).length) : (ownL g s fe).length = fe - s.f := by
  unfold ownL
  rw [List.length_take, List.length_drop, frL_len]
  omega
theorem own_sum {g : List Ln} {s : Sta} {fe : Nat} (h0 : s.f ≤ fe) : ((ownL g s fe).map fun x => x.2).sum = sumT (fsG g) fe - sumT (fsG g) s.f := by
  unfold ownL
  rw [List.map_take, List.map_drop, frL_snd, sumT_mid h0]
theorem own_late {g : List Ln} {s : Sta} {e fe : Nat} (h0 : s.f ≤ fe) (h1 : fe ≤ (fsG g).length) (he : e ≤ g.length) (hf : s.f ≤ mkN g e) : ((ownL g s fe).filter fun x => decide ((e : Int) ≤ (x.1 : Int))).length = fe - mkN g e := by
  have key : ∀ (n : Nat), s.f + n ≤ (fsG g).length → ((((frL g).drop s.f).take n).filter fun x => decide ((e : Int) ≤ (x.1 : Int))).length = s.f + n - mkN g e := by
    intro n
    induction n with
    | zero => intro _; rw [List.take_zero]; show 0 = _; omega
    | succ n ih =>
      intro hn
      have hk : s.f + n < (frL g).length := by rw [frL_len]; omega
      obtain ⟨x, hx⟩ : ∃ x, (frL g)[s.f + n]? = some x := ⟨_, List.getElem?_eq_getElem hk⟩
      have ln := frL_line he hx
      rw [List.take_add_one, List.getElem?_drop, hx, List.filter_append, List.length_append, ih (by omega)]
      show _ + (List.filter _ [x]).length = _
      rw [List.filter_cons]
      by_cases hx1 : x.1 < e
      · have := ln.mp hx1
        rw [if_neg (by rw [decide_eq_true_eq]; omega)]
        show _ + 0 = _
        omega
      · have : ¬ s.f + n < mkN g e := fun h => hx1 (ln.mpr h)
        rw [if_pos (by rw [decide_eq_true_eq]; omega)]
        show _ + 1 = _
        omega
  have := key (fe - s.f) (by omega)
  unfold ownL
  omega
theorem flat_sum {xs : List Ln} : (xs.flatMap fun l => l.ns).sum = (xs.map fun l => l.ns.sum).sum := by
  induction xs with
  | nil => rfl
  | cons x xs ih => rw [List.flatMap_cons, List.sum_append, ih, List.map_cons, List.sum_cons]
theorem flat_cnt {xs : List Ln} : ((xs.flatMap fun l => l.ns).length : Int) = (xs.map fun l => (l.ns.length : Int)).sum := by
  induction xs with
  | nil => rfl
  | cons x xs ih =>
    rw [List.flatMap_cons, List.length_append, List.map_cons, List.sum_cons, ← ih]
    omega
theorem room_eq {g : List Ln} {k : FK} {s : Sta} {e fe : Nat} {nt : List Int} (hle : s.l ≤ e) (h0 : s.f ≤ fe) (hnt : ((g.drop s.l).take (e - s.l)).flatMap (fun l => l.ns) = nt) :
    k.w - (sumT (fsG g) fe - sumT (fsG g) s.f) - k.hy * (if decide ((0 : Int) < ((fe - s.f : Nat) : Int)) = true then 1 else 0) - nt.sum - k.al * (if decide ((0 : Int) < (nt.length : Int)) = true then 1 else 0) = roomM g k s e fe := by
  have h1 : nt.sum = sumT (nsG g) e - sumT (nsG g) s.l := by
    rw [← hnt, flat_sum, List.map_take, List.map_drop]
    exact sumT_mid (xs := nsG g) hle
  have h2 : (nt.length : Int) = sumT (nnG g) e - sumT (nnG g) s.l := by
    rw [← hnt, flat_cnt, List.map_take, List.map_drop]
    exact sumT_mid (xs := nnG g) hle
  have h3 : (0 : Int) ≤ (nt.length : Int) := by omega
  unfold roomM notH floH
  rw [h1]
  generalize hlen : (nt.length : Int) = nl at h2 h3
  by_cases ha : s.f = fe
  · rw [if_pos ha, decide_eq_false (show ¬ (0 : Int) < ((fe - s.f : Nat) : Int) by omega), if_neg (by decide), ha]
    by_cases hb : sumT (nnG g) s.l = sumT (nnG g) e
    · rw [if_pos hb, decide_eq_false (show ¬ (0 : Int) < nl by omega), if_neg (by decide)]
      have hz : nt = [] := List.eq_nil_of_length_eq_zero (by omega)
      have : sumT (nsG g) e - sumT (nsG g) s.l = 0 := by rw [← h1, hz]; rfl
      omega
    · rw [if_neg hb, decide_eq_true (show (0 : Int) < nl by omega), if_pos rfl]
      omega
  · rw [if_neg ha, decide_eq_true (show (0 : Int) < ((fe - s.f : Nat) : Int) by omega), if_pos rfl]
    by_cases hb : sumT (nnG g) s.l = sumT (nnG g) e
    · rw [if_pos hb, decide_eq_false (show ¬ (0 : Int) < nl by omega), if_neg (by decide)]
      have hz : nt = [] := List.eq_nil_of_length_eq_zero (by omega)
      have : sumT (nsG g) e - sumT (nsG g) s.l = 0 := by rw [← h1, hz]; rfl
      omega
    · rw [if_neg hb, decide_eq_true (show (0 : Int) < nl by omega), if_pos rfl]
      omega
/-- the page that the law allows -/
def pageL (g : List Ln) (k : FK) (s : Sta) (e fe p : Nat) : Option (Int × Sta) :=
  if (e = s.l ∧ fe = s.f) ∨ mkN g e < fe then none
  else if cutsL g k s.l e p = false then none
  else if roomM g k s e fe < 0 ∨ roomM g k s e fe - mx2 (colH g s.l p) (colH g p e) < 0 ∨ ∃ a ∈ (staM g s e fe).a, a > k.tw then none
  else some (k.ri * (staM g s e fe).a.length + k.lo * absI (colH g s.l p - colH g p e) * (if k.i = 2 then 1 else 0) +
    (if staM g s e fe = lastS g then 0 else (roomM g k s e fe - mx2 (colH g s.l p) (colH g p e)) * (roomM g k s e fe - mx2 (colH g s.l p) (colH g p e))), staM g s e fe)
def pgW : Option (Int × Sta) → W
  | some x => .tup [.int x.1, x.2.v]
  | none => .non
def spPg : SpW := fun ws S Q => ∃ (g : List Ln) (k : FK) (s : Sta) (R : Addr) (e fe p : Nat), ws = [galT g, .ref R, k.key, s.v, .tup [.int e, .int fe, .int p]] ∧ S R = some (.lst ((frL g).map frW)) ∧ GOk g ∧ FkOk k ∧ StOk g s ∧ s.l ≤ e ∧ e ≤ g.length ∧ s.f ≤ fe ∧ fe ≤ (fsG g).length ∧ s.l ≤ p ∧ p ≤ e ∧ ∀ S', KpL [] S S' → Q (pgW (pageL g k s e fe p)) S'
theorem ok__law_page (T : Txt K mg ec) (c__law_cuts : CalW P w K mg base 1 "_law_cuts" (Hd spCu)) (c__law_column : CalW P w K mg base 1 "_law_column" (Hd spCo)) (c__law_older : CalW P w K mg base 1 "_law_older" (Hd spOl)) (d : DefAt K mg "_law_page" s__law_page ["_law_galley_here", "_law_rows", "_law_key", "_law_state", "_law_triple"]) : CalW P w K mg base 2 "_law_page" spPg :=
  calDI d sc__law_page (fun ws S Q ⟨g, k, s, R, e, fe, p, h, _⟩ => by rw [h]; rfl) fun f cdv A outer s0 H E hr => ⟨_, _,
    (pss_cons (ps_set (i := 5) sc__law_page.nd rfl (Or.inl rfl) (pe_slice (k_sl K) (pv 1) (po_some (pe_ix (k_ix K) (pv 3) pe_int (fun _ _ => rfl))) (po_some (pe_ix (k_ix K) (pv 4) pe_int (fun _ _ => rfl)))))
      (pss_cons (ps_if (PW.pt (pw_or (pt_cmpR (k_eq K hr.units) (pe_slice (k_sl K) (pv 4) po_none (po_some pe_int)) (pe_slice (k_sl K) (pv 3) po_none (po_some pe_int)) (nomark _)) (pw_or1 (pt_cmpR op_gtA (pe_callB (k_len K) (by rfl) T.b_len (by decide +kernel) (pa_cons (pe_lc (own := [("_law_row", 6)]) rfl sc__law_page.nd (k_any K (pv 5)) (blkOk_by (own := [("_law_row", 6)]) (N := ["_law_galley_here", "_law_rows", "_law_key", "_law_state", "_law_triple", "_law_own", "_law_row", "_law_notes", "_law_line", "_law_room", "_law_one", "_law_two", "_law_older_here", "_law_slack", "_law_age", "_law_after", "_law_price"]) (sc := defScope s__law_page) (by decide +kernel)) (fun _ _ _ _ _ => (pg_name (i := 6) sc__law_page.nd rfl (Or.inl rfl))) (fun _ _ _ _ _ => (pts_one (pt_cmpR op_geA (pe_ix (k_ix K) (pv 6) pe_int (fun _ _ => rfl)) (pe_ix (k_ix K) (pv 4) pe_int (fun _ _ => rfl)) (nomark _)))) (fun _ _ _ _ _ => (pv 6))) pa_nil)) pe_int (nomark _)))))
       (pss_one (ps_ret pe_non))
       pss_nil)
      (pss_cons (ps_if (pt_not (pt_val (k_w K c__law_cuts hr (by decide) rfl (pa_cons (pv 0) (pa_cons (pe_ix (k_ix K) (pv 3) pe_int (fun _ _ => rfl)) (pa_cons (pv 4) (pa_cons (pe_ix (k_ix K) (pv 2) pe_int (fun _ _ => rfl)) pa_nil)))))))
       (pss_one (ps_ret pe_non))
       pss_nil)
      (pss_cons (ps_set (i := 7) sc__law_page.nd rfl (Or.inl rfl) (pe_lst pa_nil))
      (pss_cons (ps_for PassesOwn.never rfl (k_any K (pe_slice (k_sl K) (pv 0) (po_some (pe_ix (k_ix K) (pv 3) pe_int (fun _ _ => rfl))) (po_some (pe_ix (k_ix K) (pv 4) pe_int (fun _ _ => rfl))))) (pg_name (i := 8) sc__law_page.nd rfl (Or.inl rfl))
       (pss_one (ps_expr (k_bm K PySem.F.plainAttrs_list PySem.F.slot_list_extend PySem.F.type_list_extend mt_extend (pv 7) (pa_cons (pe_callTy (k_list K) (by rfl) T.b_list (by decide +kernel) (pa_cons (pe_ix (k_ix K) (pv 8) pe_int (fun _ _ => rfl)) pa_nil)) pa_nil)))))
      (pss_cons (ps_set (i := 9) sc__law_page.nd rfl (Or.inl rfl) (pe_op op_sub (pe_op op_sub (pe_ix (k_ix K) (pv 2) pe_int (fun _ _ => rfl)) (pe_callB (k_sumA K rfl) (by rfl) T.b_sum (by decide +kernel) (pa_cons (pe_lc (own := [("_law_row", 6)]) rfl sc__law_page.nd (k_any K (pv 5)) (blkOk_by (own := [("_law_row", 6)]) (N := ["_law_galley_here", "_law_rows", "_law_key", "_law_state", "_law_triple", "_law_own", "_law_row", "_law_notes", "_law_line", "_law_room", "_law_one", "_law_two", "_law_older_here", "_law_slack", "_law_age", "_law_after", "_law_price"]) (sc := defScope s__law_page) (by decide +kernel)) (fun _ _ _ _ _ => (pg_name (i := 6) sc__law_page.nd rfl (Or.inl rfl))) (fun _ _ _ _ _ => pts_nil) (fun _ _ _ _ _ => (pe_ix (k_ix K) (pv 6) pe_int (fun _ _ => rfl)))) pa_nil))) (pe_op op_mulA (pe_ix (k_ix K) (pv 2) pe_int (fun _ _ => rfl)) (pe_callTy call_int1 (by rfl) T.b_int (by decide +kernel) (pa_cons (pe_cmpR op_gtA (pe_callB (k_len K) (by rfl) T.b_len (by decide +kernel) (pa_cons (pv 5) pa_nil)) pe_int (nomark _)) pa_nil)))))
      (pss_cons (ps_set (i := 9) sc__law_page.nd rfl (Or.inl rfl) (pe_op op_sub (pe_op op_sub (pv 9) (pe_callB (k_sumA K rfl) (by rfl) T.b_sum (by decide +kernel) (pa_cons (pv 7) pa_nil))) (pe_op op_mulA (pe_ix (k_ix K) (pv 2) pe_int (fun _ _ => rfl)) (pe_callTy call_int1 (by rfl) T.b_int (by decide +kernel) (pa_cons (pe_cmpR op_gtA (pe_callB (k_len K) (by rfl) T.b_len (by decide +kernel) (pa_cons (pv 7) pa_nil)) pe_int (nomark _)) pa_nil)))))
      (pss_cons (ps_set (i := 10) sc__law_page.nd rfl (Or.inl rfl) (k_w K c__law_column hr (by decide) rfl (pa_cons (pv 0) (pa_cons (pe_ix (k_ix K) (pv 3) pe_int (fun _ _ => rfl)) (pa_cons (pe_ix (k_ix K) (pv 4) pe_int (fun _ _ => rfl)) pa_nil)))))
      (pss_cons (ps_set (i := 11) sc__law_page.nd rfl (Or.inl rfl) (k_w K c__law_column hr (by decide) rfl (pa_cons (pv 0) (pa_cons (pe_ix (k_ix K) (pv 4) pe_int (fun _ _ => rfl)) (pa_cons (pe_ix (k_ix K) (pv 4) pe_int (fun _ _ => rfl)) pa_nil)))))
      (pss_cons (ps_set (i := 12) sc__law_page.nd rfl (Or.inl rfl) (k_w K c__law_older hr (by decide) rfl (pa_cons (pv 1) (pa_cons (pv 3) (pa_cons (pv 4) pa_nil)))))
      (pss_cons (ps_set (i := 13) sc__law_page.nd rfl (Or.inl rfl) (pe_op op_sub (pv 9) (pe_callB (call_max2 rfl) (by rfl) T.b_max (by decide +kernel) (pa_cons (pe_callTy call_int1 (by rfl) T.b_int (by decide +kernel) (pa_cons (pv 10) pa_nil)) (pa_cons (pe_callTy call_int1 (by rfl) T.b_int (by decide +kernel) (pa_cons (pv 11) pa_nil)) pa_nil)))))
      (pss_cons (ps_if (PW.pt (pw_or (pt_cmpR op_ltA (pv 9) pe_int (nomark _)) (pw_or (pt_cmpR op_ltA (pv 13) pe_int (nomark _)) (pw_or1 (pt_cmpR op_gtA (pe_callB (k_len K) (by rfl) T.b_len (by decide +kernel) (pa_cons (pe_lc (own := [("_law_age", 14)]) rfl sc__law_page.nd (k_any K (pv 12)) (blkOk_by (own := [("_law_age", 14)]) (N := ["_law_galley_here", "_law_rows", "_law_key", "_law_state", "_law_triple", "_law_own", "_law_row", "_law_notes", "_law_line", "_law_room", "_law_one", "_law_two", "_law_older_here", "_law_slack", "_law_age", "_law_after", "_law_price"]) (sc := defScope s__law_page) (by decide +kernel)) (fun _ _ _ _ _ => (pg_name (i := 14) sc__law_page.nd rfl (Or.inl rfl))) (fun _ _ _ _ _ => (pts_one (pt_cmpR op_gtA (pv 14) (pe_ix (k_ix K) (pv 2) pe_int (fun _ _ => rfl)) (nomark _)))) (fun _ _ _ _ _ => (pv 14))) pa_nil)) pe_int (nomark _))))))
       (pss_one (ps_ret pe_non))
       pss_nil)
      (pss_cons (ps_set (i := 15) sc__law_page.nd rfl (Or.inl rfl) (pe_tup (pa_cons (pe_ix (k_ix K) (pv 4) pe_int (fun _ _ => rfl)) (pa_cons (pe_ix (k_ix K) (pv 4) pe_int (fun _ _ => rfl)) (pa_cons (pv 12) pa_nil)))))
      (pss_cons (ps_set (i := 16) sc__law_page.nd rfl (Or.inl rfl) (pe_op (k_addB K) (pe_op op_mulA (pe_ix (k_ix K) (pv 2) pe_int (fun _ _ => rfl)) (pe_callB (k_len K) (by rfl) T.b_len (by decide +kernel) (pa_cons (pv 12) pa_nil))) (pe_op op_mulA (pe_op op_mulA (pe_ix (k_ix K) (pv 2) pe_int (fun _ _ => rfl)) (pe_callB call_abs (by rfl) T.b_abs (by decide +kernel) (pa_cons (pe_op op_sub (pv 10) (pv 11)) pa_nil))) (pe_callTy call_int1 (by rfl) T.b_int (by decide +kernel) (pa_cons (pe_cmpR (k_eq K hr.units) (pe_ix (k_ix K) (pv 2) pe_int (fun _ _ => rfl)) pe_int (nomark _)) pa_nil)))))
      (pss_mid (ps_if (pt_cmpR (k_ne K hr.units) (pv 15) (pe_tup (pa_cons (pe_callB (k_len K) (by rfl) T.b_len (by decide +kernel) (pa_cons (pv 0) pa_nil)) (pa_cons (pe_callB (k_len K) (by rfl) T.b_len (by decide +kernel) (pa_cons (pv 1) pa_nil)) (pa_cons (pe_tup pa_nil) pa_nil)))) (nomark _))
       (pss_one (ps_set (i := 16) sc__law_page.nd rfl (Or.inl rfl) (pe_op (k_addB K) (pv 16) (pe_op op_mulA (pv 13) (pv 13)))))
       pss_nil)
      (pss_one (ps_ret (pe_tup (pa_cons (pv 16) (pa_cons (pv 15) pa_nil)))))))))))))))))))), inferInstance, by
    rintro ws S Q ⟨g, k, s, R, e, fe, p, rfl, hR, hg, fk, hs, hle, hen, h0, h1, hlp, hpe, q⟩
    have hgn := hg.n
    have hgf := hg.f
    have hfl := frL_len g
    have hme := mkN_mono g hle
    have hsf := hs.f
    unfold pageL at q
    walk_at "w"
    refine ⟨_, hR, ?_⟩
    walk_at "w"
    intro O hO
    have hO2 : (put S O (.lst (cutL ((frL g).map frW) (some (s.f : Int)) (some (fe : Int))))) O = some (.lst ((ownL g s fe).map frW)) := by
      rw [put_same, cut_mid h0 (by rw [List.length_map, hfl]; exact h1)]
      unfold ownL
      rw [List.map_take, List.map_drop]
    have kO : KpL [] S (put S O (.lst (cutL ((frL g).map frW) (some (s.f : Int)) (some (fe : Int))))) := (KpL.refl [] S).new hO
    have rO := kO R _ (fun h => by cases h) hR
    generalize put S O (.lst (cutL ((frL g).map frW) (some (s.f : Int)) (some (fe : Int)))) = S1 at hO2 kO rO
    have ec1 : cutL [W.int (e : Int), .int (fe : Int), .int (p : Int)] none (some 2) = [.int (e : Int), .int (fe : Int)] := cut_to _ 2 (by show 2 ≤ 3; decide)
    have ec2 : cutL [W.int (s.l : Int), .int (s.f : Int), .tup (s.a.map W.int)] none (some 2) = [.int (s.l : Int), .int (s.f : Int)] := cut_to _ 2 (by show 2 ≤ 3; decide)
    have sh2 : ∀ a b : Int, shW (.tup [.int a, .int b]) := fun a b => shN_sh (n := 1) (shN_tup fun w hw => by
      rcases List.mem_cons.mp hw with h | hw
      · rw [h]; exact shN_int _
      · rw [List.mem_singleton.mp hw]; exact shN_int _) (by decide)
    have eq2 : PyData.eqv (toD (.tup [.int (e : Int), .int (fe : Int)])) (toD (.tup [.int (s.l : Int), .int (s.f : Int)])) = decide (e = s.l ∧ fe = s.f) := by
      have h2 : PyData.eqv (toD (.tup [.int (e : Int), .int (fe : Int)])) (toD (.tup [.int (s.l : Int), .int (s.f : Int)])) = (((e : Int) == (s.l : Int)) && (((fe : Int) == (s.f : Int)) && true)) := by simp [toD, toDs, PyData.eqv, PyData.eqvAll]
      rw [h2, Bool.eq_iff_iff]
      simp only [Bool.and_eq_true, beq_iff_eq, decide_eq_true_eq, Bool.and_true]
      omega
    have hown := own_len (s := s) h0 h1
    have hlate := own_late h0 h1 hen (by omega)
    have no : ∀ S', KpL [] S S' → (((e = s.l ∧ fe = s.f) ∨ mkN g e < fe) → FgI Q .non S') := fun S' k' hc => by
      rw [if_pos hc] at q
      exact fg_here (q S' k')
    have rest : ∀ S', KpL [] S S' → S' R = some (.lst ((frL g).map frW)) → S' O = some (.lst ((ownL g s fe).map frW)) → ¬ ((e = s.l ∧ fe = s.f) ∨ mkN g e < fe) → True := fun _ _ _ _ _ => trivial
    walk_at "w"
    refine if_q ?_
    walk_at "w"
    rw [ec1, ec2]
    refine ⟨sh2 _ _, sh2 _ _, ?_⟩
    rw [eq2]
    refine ⟨fun h => ?_, fun h => ?_⟩
    · walk_at "w"
      refine ⟨fun _ => ?_, fun h => absurd (show true = false from h) (by decide)⟩
      walk_at "w"
      exact no S1 kO (.inl (of_decide_eq_true h))
    have hne := of_decide_eq_false h
    walk_at "w"
    refine ⟨_, hO2, ?_⟩
    refine lc_filD frW (ownL g s fe) (fun x => [some (galT g), some (.ref R), some k.key, some s.v, some (.tup [.int e, .int fe, .int p]), some (.ref O), some (frW x), none, none, none, none, none, none, none, none, none, none]) (fun x => decide ((e : Int) ≤ (x.1 : Int))) frW (by omega) (fun D acc hD => (put_ne (ne_free hO2 hD).symm).trans hO2) ?_ ?_ ?_ ?_
    · intro x S8 R8 hx hR8
      exact hR8
    · intro x D acc hx hD Q' q'
      unfold frW
      walk_at "w"
      exact q'
    · intro x D acc hx hpx hD Q' q'
      walk_at "w"
      exact q'
    intro D hD
    have kD : KpL [] S (put S1 D (.lst (((ownL g s fe).filter fun x => decide ((e : Int) ≤ (x.1 : Int))).map frW))) := kO.new hD
    have rD := (put_ne (c := .lst (((ownL g s fe).filter fun x => decide ((e : Int) ≤ (x.1 : Int))).map frW)) (ne_free rO hD).symm).trans rO
    have oD := (put_ne (c := .lst (((ownL g s fe).filter fun x => decide ((e : Int) ≤ (x.1 : Int))).map frW)) (ne_free hO2 hD).symm).trans hO2
    walk_at "w"
    refine ⟨_, put_same, ?_⟩
    walk_at "w"
    rw [List.length_map, hlate]
    refine ⟨fun h => ?_, fun h => ?_⟩
    · have h : decide ((0 : Int) < ((fe - mkN g e : Nat) : Int)) = true := h
      have h := of_decide_eq_true h
      walk_at "w"
      exact no _ kD (.inr (by omega))
    have h : decide ((0 : Int) < ((fe - mkN g e : Nat) : Int)) = false := h
    have hfm : fe ≤ mkN g e := by have := of_decide_eq_false h; omega
    rw [if_neg (by omega)] at q
    clear no rest hne h
    generalize put S1 D (.lst (((ownL g s fe).filter fun x => decide ((e : Int) ≤ (x.1 : Int))).map frW)) = S2 at kD rD oD
    walk_at "w"
    refine Hd.mk ⟨g, k, s.l, e, fe, p, rfl, hle, hen, by omega, ?_⟩
    cases hcut : cutsL g k s.l e p with
    | false =>
      rw [if_pos hcut] at q
      refine ⟨fun _ => ?_, fun h => absurd (show true = false from h) (by decide)⟩
      walk_at "w"
      exact fg_here (q S2 kD)
    | true =>
    rw [if_neg (by rw [hcut]; decide)] at q
    refine ⟨fun h => absurd (show false = true from h) Bool.false_ne_true, fun _ => ?_⟩
    walk_at "w"
    intro Nn hNn
    have hNS : S Nn = none := kD.free hNn (fun h => by cases h)
    have hNO : Nn ≠ O := ne_free oD hNn
    have hNR : Nn ≠ R := ne_free rD hNn
    have ecg : cutL (g.map Ln.v) (some (s.l : Int)) (some (e : Int)) = ((g.drop s.l).take (e - s.l)).map Ln.v := by
      rw [cut_mid hle (by rw [List.length_map]; exact hen), List.map_take, List.map_drop]
    walk_at "w"
    rw [ecg]
    refine for_q (fun i ρ' S' => i ≤ e - s.l ∧ ∃ (a8 : Option W), ρ' = [some (galT g), some (.ref R), some k.key, some s.v, some (.tup [.int e, .int fe, .int p]), some (.ref O), none, some (.ref Nn), a8, none, none, none, none, none, none, none, none] ∧ S' Nn = some (.lst ((((g.drop s.l).take i).flatMap fun l => l.ns).map W.int)) ∧ S' O = some (.lst ((ownL g s fe).map frW)) ∧ S' R = some (.lst ((frL g).map frW)) ∧ KpL [] S S')
      ⟨Nat.zero_le _, _, rfl, put_same, (put_ne hNO.symm).trans oD, (put_ne hNR.symm).trans rD, kD.new hNn⟩ (fun _ _ _ _ => trivial) ?_ ?_
    · rintro i w ρ' S3 z ⟨_, a8, rfl, hN3, hO3, hR3, k3⟩
      rw [List.getElem?_map] at z
      obtain ⟨l, el, rfl⟩ : ∃ l : Ln, ((g.drop s.l).take (e - s.l))[i]? = some l ∧ l.v = w := by
        cases h : ((g.drop s.l).take (e - s.l))[i]? with
        | none => rw [h] at z; cases z
        | some l => rw [h] at z; exact ⟨l, rfl, Option.some.inj z⟩
      have hi := (List.getElem?_eq_some_iff.mp el).1
      rw [List.length_take] at hi
      have hlg : l ∈ g := List.mem_of_mem_drop (List.mem_of_mem_take (List.mem_of_getElem? el))
      have hln := hg.nn l hlg
      have efl := flat_take (f := fun l : Ln => l.ns) (xs := g.drop s.l) (i := i) (x := l) (by rw [List.getElem?_take, if_pos (by omega)] at el; exact el)
      have hcnt := flat_len (f := fun l : Ln => l.ns) (c := 100) ((g.drop s.l).take i) (fun y hy => hg.nn y (List.mem_of_mem_drop (List.mem_of_mem_take hy)))
      have hti : ((g.drop s.l).take i).length ≤ 1000 := by rw [List.length_take]; omega
      have hcn2 := Nat.mul_le_mul_right 100 hti
      walk_at "w"
      refine ⟨.inl ⟨rfl, _, hN3⟩, ?_⟩
      walk_at "w"
      intro Q1 hQ1
      have hQN : Q1 ≠ Nn := ne_free hN3 hQ1
      walk_at "w"
      refine ⟨_, _, (put_ne hQN.symm).trans hN3, put_same, ?_, ?_⟩
      · rw [List.length_map, List.length_map]
        exact Nat.le_trans (show _ ≤ 200000 by omega) (by decide)
      refine ⟨by omega, _, rfl, ?_, ?_, ?_, (k3.new hQ1).own hNS⟩
      · rw [put_same, efl, List.map_append]
      · rw [put_ne hNO.symm, put_ne (ne_free hO3 hQ1).symm]; exact hO3
      · rw [put_ne hNR.symm, put_ne (ne_free hR3 hQ1).symm]; exact hR3
    · rintro ρ' S3 ⟨_, a8, rfl, hN3, hO3, hR3, k3⟩
      have elen : (((g.drop s.l).take (e - s.l)).map Ln.v).length = e - s.l := by rw [List.length_map, List.length_take, List.length_drop]; omega
      rw [elen] at hN3
      clear elen
      generalize hnt : ((g.drop s.l).take (e - s.l)).flatMap (fun l => l.ns) = nt at hN3
      walk_at "w"
      refine ⟨_, hO3, ?_⟩
      refine lc_mapD frW (ownL g s fe) (fun x => .int x.2) (by omega) (fun D acc hD => (put_ne (ne_free hO3 hD).symm).trans hO3) ?_ ?_
      · intro x D acc hx hD Q' q'
        unfold frW
        walk_at "w"
        exact q'
      intro D2 hD2
      have hN4 := (put_ne (c := .lst ((ownL g s fe).map fun x => W.int x.2)) (ne_free hN3 hD2).symm).trans hN3
      have hO4 := (put_ne (c := .lst ((ownL g s fe).map fun x => W.int x.2)) (ne_free hO3 hD2).symm).trans hO3
      have hR4 := (put_ne (c := .lst ((ownL g s fe).map fun x => W.int x.2)) (ne_free hR3 hD2).symm).trans hR3
      have k4 : KpL [] S (put S3 D2 (.lst ((ownL g s fe).map fun x => W.int x.2))) := k3.new hD2
      have d4 : (put S3 D2 (.lst ((ownL g s fe).map fun x => W.int x.2))) D2 = some (.lst (((ownL g s fe).map fun x => x.2).map W.int)) := by rw [put_same, List.map_map]; rfl
      generalize put S3 D2 (.lst ((ownL g s fe).map fun x => W.int x.2)) = S4 at hN4 hO4 hR4 k4 d4
      walk_at "w"
      refine ⟨_, d4, _, rfl, ?_⟩
      rw [own_sum h0]
      walk_at "w"
      refine ⟨_, hO4, ?_⟩
      walk_at "w"
      rw [List.length_map, hown]
      refine ⟨.inl (.inr ⟨by split <;> decide, by split <;> decide⟩), ?_⟩
      walk_at "w"
      refine ⟨_, hN4, _, rfl, ?_⟩
      walk_at "w"
      refine ⟨_, hN4, ?_⟩
      walk_at "w"
      rw [List.length_map]
      refine ⟨.inl (.inr ⟨by split <;> decide, by split <;> decide⟩), ?_⟩
      walk_at "w"
      refine Hd.mk ⟨g, s.l, p, rfl, hlp, by omega, hgn, ?_⟩
      walk_at "w"
      refine Hd.mk ⟨g, p, e, rfl, hpe, hen, hgn, ?_⟩
      walk_at "w"
      refine Hd.mk ⟨g, s, R, e, fe, p, rfl, hR4, hs, hle, hen, h0, hfm, hgf, ?_⟩
      walk_at "w"
      have erm := room_eq (k := k) hle h0 hnt
      generalize hrm : k.w - _ - k.hy * _ - nt.sum - k.al * _ = rm
      have hrm : rm = roomM g k s e fe := hrm.symm.trans erm
      rw [← hrm] at q
      clear erm
      have hcp := colH_nonneg hg hlp
      have hcq := colH_nonneg hg hpe
      generalize colH g s.l p = A1 at q hcp
      generalize colH g p e = A2 at q hcq
      have hm1 : A1 ≤ mx2 A1 A2 ∧ A2 ≤ mx2 A1 A2 := by unfold mx2; split <;> omega
      have none_ : ∀ S', KpL [] S S' → (rm < 0 ∨ rm - mx2 A1 A2 < 0 ∨ ∃ a ∈ (staM g s e fe).a, a > k.tw) → FgI Q .non S' := fun S' k' hc => by
        rw [if_pos hc] at q
        exact fg_here (q S' k')
      have hag := ag_len hs hle h0 hfm
      have hmF := mkN_le g e
      refine if_q ?_
      walk_at "w"
      refine ⟨fun h => ?_, fun h => ?_⟩
      · have h : decide (rm < 0) = true := h
        walk_at "w"
        refine ⟨fun _ => ?_, fun h => absurd (show true = false from h) (by decide)⟩
        walk_at "w"
        exact none_ S4 k4 (.inl (of_decide_eq_true h))
      have h : decide (rm < 0) = false := h
      have hr0 := of_decide_eq_false h
      walk_at "w"
      refine ⟨fun h => ?_, fun h => ?_⟩
      · have h : decide (rm - mx2 A1 A2 < 0) = true := h
        walk_at "w"
        refine ⟨fun _ => ?_, fun h => absurd (show true = false from h) (by decide)⟩
        walk_at "w"
        exact none_ S4 k4 (.inr (.inl (of_decide_eq_true h)))
      have h : decide (rm - mx2 A1 A2 < 0) = false := h
      have hr1 := of_decide_eq_false h
      walk_at "w"
      refine lc_filD W.int (staM g s e fe).a (fun a => [some (galT g), some (.ref R), some k.key, some s.v, some (.tup [.int e, .int fe, .int p]), some (.ref O), none, some (.ref Nn), a8, some (.int rm), some (.int A1), some (.int A2), some (.tup ((staM g s e fe).a.map W.int)), some (.int (rm - mx2 A1 A2)), some (.int a), none, none]) (fun a => decide (a > k.tw)) W.int (by omega) (fun _ _ _ => trivial) ?_ ?_ ?_ ?_
      · intro a S8 R8 ha hR8
        exact hR8
      · intro a D acc ha hD Q' q'
        walk_at "w"
        exact q'
      · intro a D acc ha hpa hD Q' q'
        walk_at "w"
        exact q'
      intro D3 hD3
      have k5 : KpL [] S (put S4 D3 (.lst (((staM g s e fe).a.filter fun a => decide (a > k.tw)).map W.int))) := k4.new hD3
      have hR5 := (put_ne (c := .lst (((staM g s e fe).a.filter fun a => decide (a > k.tw)).map W.int)) (ne_free hR4 hD3).symm).trans hR4
      have d5 : (put S4 D3 (.lst (((staM g s e fe).a.filter fun a => decide (a > k.tw)).map W.int))) D3 = some (.lst (((staM g s e fe).a.filter fun a => decide (a > k.tw)).map W.int)) := put_same
      generalize put S4 D3 (.lst (((staM g s e fe).a.filter fun a => decide (a > k.tw)).map W.int)) = S5 at k5 hR5 d5
      walk_at "w"
      refine ⟨_, d5, ?_⟩
      walk_at "w"
      rw [List.length_map]
      refine ⟨fun h => ?_, fun h => ?_⟩
      · have h : decide ((0 : Int) < (((staM g s e fe).a.filter fun a => decide (a > k.tw)).length : Int)) = true := h
        have h := of_decide_eq_true h
        obtain ⟨a, ha⟩ := List.exists_mem_of_length_pos (l := (staM g s e fe).a.filter fun a => decide (a > k.tw)) (by omega)
        obtain ⟨ha1, ha2⟩ := List.mem_filter.mp ha
        walk_at "w"
        exact none_ S5 k5 (.inr (.inr ⟨a, ha1, of_decide_eq_true ha2⟩))
      have h : decide ((0 : Int) < (((staM g s e fe).a.filter fun a => decide (a > k.tw)).length : Int)) = false := h
      have hnl := of_decide_eq_false h
      have hno : ¬ (rm < 0 ∨ rm - mx2 A1 A2 < 0 ∨ ∃ a ∈ (staM g s e fe).a, a > k.tw) := by
        rintro (h | h | ⟨a, ha, hw⟩)
        · exact hr0 h
        · exact hr1 h
        · have := List.length_pos_of_mem (List.mem_filter.mpr ⟨ha, decide_eq_true hw⟩ : a ∈ (staM g s e fe).a.filter fun a => decide (a > k.tw))
          omega
      rw [if_neg hno] at q
      clear none_ hno hnl h
      have ri0 := fk.ri0
      have ri1 := fk.ri1
      have lo0 := fk.lo0
      have lo1 := fk.lo1
      have hw1 := fk.w1
      have hrw : rm ≤ 1000000 := by
        have h1 := notH_nonneg hg fk hle
        have h2 := floH_nonneg hg fk h0
        have h3 : roomM g k s e fe = k.w - notH g s.l e k.al - floH g s.f fe k.hy := rfl
        omega
      walk_at "w"
      rw [List.length_map]
      refine ⟨.inl (.inl ⟨by omega, by omega⟩), ?_⟩
      walk_at "w"
      refine ⟨.inl (.inl ⟨by omega, by omega⟩), ?_⟩
      walk_at "w"
      refine ⟨.inl (.inr ⟨by split <;> decide, by split <;> decide⟩), ?_⟩
      walk_at "w"
      refine mid_q (fun ρ' S' => S' = S5 ∧ ρ' = [some (galT g), some (.ref R), some k.key, some s.v, some (.tup [.int e, .int fe, .int p]), some (.ref O), none, some (.ref Nn), a8, some (.int rm), some (.int A1), some (.int A2), some (.tup ((staM g s e fe).a.map W.int)), some (.int (rm - mx2 A1 A2)), none, some (staM g s e fe).v, some (.int (k.ri * (staM g s e fe).a.length + k.lo * absI (A1 - A2) * (if k.i = 2 then 1 else 0) + (if staM g s e fe = lastS g then 0 else (rm - mx2 A1 A2) * (rm - mx2 A1 A2))))]) ?_ ?_
      · walk_at "w"
        rw [List.length_map]
        refine ⟨_, hR5, ?_⟩
        walk_at "w"
        have ev : PyData.eqv (toD (.tup [.int (e : Int), .int (fe : Int), .tup ((staM g s e fe).a.map W.int)])) (toD (.tup [.int (g.length : Int), .int ((fsG g).length : Int), .tup []])) = decide (staM g s e fe = lastS g) := eqv_sta (staM g s e fe) (lastS g)
        have ei : (if decide (k.i = 2) = true then (1 : Int) else 0) = if k.i = 2 then 1 else 0 := by simp only [decide_eq_true_eq]
        rw [List.length_map, hfl]
        refine ⟨sh_sta (staM g s e fe), sh_sta (lastS g), ?_⟩
        rw [ev]
        by_cases hl : staM g s e fe = lastS g
        · rw [decide_eq_true hl]
          refine ⟨fun h => absurd (show false = true from h) Bool.false_ne_true, fun _ => ?_⟩
          refine ⟨rfl, ?_⟩
          rw [if_pos hl, Int.add_zero, ← ei]
          rfl
        · rw [decide_eq_false hl]
          refine ⟨fun _ => ?_, fun h => absurd (show true = false from h) (by decide)⟩
          walk_at "w"
          refine ⟨.inl (.inl ⟨?_, ?_⟩), ?_⟩
          · show -2 ^ 64 < rm - mx2 A1 A2
            omega
          · show rm - mx2 A1 A2 < 2 ^ 64
            omega
          refine ⟨rfl, ?_⟩
          rw [if_neg hl, ← ei]
          rfl
      · rintro ρ' S' ⟨rfl, rfl⟩
        walk_at "w"
        exact fg_here (q S' k5)⟩
end
end K62
set_option Elab.async false
set_option linter.all false
set_option maxRecDepth 100000
set_option maxHeartbeats 4000000
set_option synthInstance.maxHeartbeats 4000000
set_option synthInstance.maxSize 100000
namespace K62
open PySem PySem.Spec PyProof.Rows L2 Wl
local macro_rules | `(tactic| walk_at "w") => `(tactic| (conv => whnf))
/-! what a store holds -/
local macro_rules | `(tactic| walk_at "ne") => `(tactic| first | assumption | (apply Ne.symm; assumption) | exact ne_free (by assumption) (by assumption) | exact (ne_free (by assumption) (by assumption)).symm | exact Pl.ne (by assumption) (by assumption) | exact (Pl.ne (by assumption) (by assumption)).symm)
local macro_rules | `(tactic| walk_at "s") => `(tactic| first
  | exact put_same
  | assumption
  | (refine (put_ne ?_).trans ?_; (· walk_at "ne"); (· walk_at "s")))
/-! a side condition -/
local macro_rules | `(tactic| walk_at "c") => `(tactic| first
  | exact Or.inl (Or.inl ⟨by omega, by omega⟩)
  | exact Or.inl (Or.inr ⟨by omega, by omega⟩)
  | exact Or.inl ⟨by omega, by omega⟩
  | exact Or.inl ⟨rfl, _, by walk_at "s"⟩
  | rfl
  | omega
  | decide
  | exact Nat.le_trans (by omega) sizeLine_ge)
/-! one question is answered, if the answer is plain -/
local macro_rules | `(tactic| walk_at "g1") => `(tactic| first
  | refine ⟨fun _ => ?_, fun h => absurd (show true = false from h) (by decide)⟩
  | refine ⟨fun h => absurd (show false = true from h) Bool.false_ne_true, fun _ => ?_⟩
  | refine ⟨_, by walk_at "s", ?_⟩
  | refine ⟨_, _, by walk_at "s", by walk_at "s", ?_⟩
  | refine ⟨_, by walk_at "s", by simpa using (by omega), ?_⟩
  | refine ⟨_, rfl, ?_⟩
  | refine ⟨_, _, rfl, (by first | exact isTy_tt | exact isTy_ii | exact isTy_ll | exact isTy_ss | exact isTy_ib | exact isTy_tb | exact isTy_ti | exact isTy_ts | exact isTy_tl | exact isTy_lb | exact isTy_li | exact isTy_ls | exact isTy_lt | exact isTy_sb | exact isTy_si | exact isTy_st | exact isTy_sl | exact isTy_is | exact isTy_it | exact isTy_il | exact isTy_bi | exact isTy_bs | exact isTy_bb | exact isTy_nb | exact isTy_ni | exact isTy_ns | exact isTy_nt | exact isTy_nl | exact isTy_bt | exact isTy_bl | exact isTy_nd | exact isTy_td | exact isTy_ld | exact isTy_sd | exact isTy_id | exact isTy_bd | exact isTy_dd | exact isTy_db | exact isTy_di | exact isTy_ds | exact isTy_dt | exact isTy_dl), ?_⟩
  | refine ⟨_, _, tyName_lst (by walk_at "s"), (by first | exact isTy_ll | exact isTy_lb | exact isTy_li | exact isTy_ls | exact isTy_lt), ?_⟩
  | refine if_q ?_
  | refine ⟨by walk_at "c", ?_⟩)
local macro_rules | `(tactic| walk_at "go") => `(tactic| (walk_at "w"; repeat (walk_at "g1"; walk_at "w")))
/-! a branch that cannot be -/
local macro_rules | `(tactic| walk_at "two") => `(tactic| refine ⟨fun h => ?_, fun h => ?_⟩)
section
variable {P : Program} {w : World} {K : PySem.W.Frag} {mg : Str → Option Value} {base : Heap} {ec : Cls}
theorem take_rng (s n : Nat) : (List.range' s n).take n = List.range' s n := List.take_of_length_le (by rw [List.length_range']; exact Nat.le_refl _)
def begN (k : FK) (s : Sta) (e : Nat) : Nat := if k.i = 2 ∧ s.l < e then s.l + 1 else e
def rowL (g : List Ln) (k : FK) (s : Sta) (e fe p : Nat) : List Row := match pageL g k s e fe p with
  | some x => [⟨e, fe, p, x.1, x.2⟩]
  | none => []
def law3 (g : List Ln) (k : FK) (s : Sta) (e fe : Nat) : List Row := (List.range' (begN k s e) (e + 1 - begN k s e)).flatMap (rowL g k s e fe)
def law2 (g : List Ln) (k : FK) (s : Sta) (e : Nat) : List Row := (List.range' s.f ((fsG g).length + 1 - s.f)).flatMap (law3 g k s e)
def law1 (g : List Ln) (k : FK) (s : Sta) : List Row := (List.range' s.l (g.length + 1 - s.l)).flatMap (law2 g k s)
theorem rowL_len {g : List Ln} {k : FK} {s : Sta} {e fe p : Nat} : (rowL g k s e fe p).length ≤ 1 := by unfold rowL; split <;> simp
theorem law3_len {g : List Ln} {k : FK} {s : Sta} {e fe : Nat} : (law3 g k s e fe).length ≤ e + 1 := by
  unfold law3
  have h := flat_len (f := rowL g k s e fe) (c := 1) (List.range' (begN k s e) (e + 1 - begN k s e)) (fun _ _ => rowL_len)
  rw [List.length_range'] at h
  omega
theorem law2_len {g : List Ln} {k : FK} {s : Sta} {e : Nat} (he : e ≤ 100) (hF : (fsG g).length ≤ 100) : (law2 g k s e).length ≤ 10201 := by
  unfold law2
  have h := flat_len (f := law3 g k s e) (c := 101) (List.range' s.f ((fsG g).length + 1 - s.f)) (fun fe _ => by have := law3_len (g := g) (k := k) (s := s) (e := e) (fe := fe); omega)
  rw [List.length_range'] at h
  have h2 : (fsG g).length + 1 - s.f ≤ 101 := by omega
  have h3 := Nat.mul_le_mul_right 101 h2
  omega
theorem beg_le {k : FK} {s : Sta} {e : Nat} (h : s.l ≤ e) : s.l ≤ begN k s e ∧ begN k s e ≤ e := by unfold begN; split <;> omega
def spPgs : SpW := fun ws S Q => ∃ (g : List Ln) (k : FK) (s : Sta) (R : Addr), ws = [galT g, .ref R, k.key, s.v] ∧ S R = some (.lst ((frL g).map frW)) ∧ GOk g ∧ FkOk k ∧ StOk g s ∧ g.length ≤ 100 ∧ (fsG g).length ≤ 100 ∧ ∀ D S', S' D = some (.lst ((law1 g k s).map Row.v)) → S D = none → KpL [] S S' → Q (.ref D) S'
theorem ok__law_pages (T : Txt K mg ec) (c__law_page : CalW P w K mg base 2 "_law_page" (Hd spPg)) (d : DefAt K mg "_law_pages" s__law_pages ["_law_galley_here", "_law_rows", "_law_key", "_law_state"]) : CalW P w K mg base 3 "_law_pages" spPgs :=
  calDI d sc__law_pages (fun ws S Q ⟨g, k, s, R, h, _⟩ => by rw [h]; rfl) fun f cdv A outer s0 H E hr => ⟨_, _,
    (pss_cons (ps_set (i := 4) sc__law_pages.nd rfl (Or.inl rfl) (pe_lst pa_nil))
      (pss_cons (ps_for PassesOwn.never rfl (pi_range2 rfl T.b_range (pa_cons (pe_ix (k_ix K) (pv 3) pe_int (fun _ _ => rfl)) (pa_cons (pe_op (k_addB K) (pe_callB (k_len K) (by rfl) T.b_len (by decide +kernel) (pa_cons (pv 0) pa_nil)) pe_int) pa_nil))) (pg_name (i := 5) sc__law_pages.nd rfl (Or.inl rfl))
       (pss_cons (ps_set (i := 6) sc__law_pages.nd rfl (Or.inl rfl) (pv 5))
       (pss_mid (ps_if (PW.pt (pw_and (pt_cmpR (k_eq K hr.units) (pe_ix (k_ix K) (pv 2) pe_int (fun _ _ => rfl)) pe_int (nomark _)) (pw_and1 (pt_cmpR op_gtA (pv 5) (pe_ix (k_ix K) (pv 3) pe_int (fun _ _ => rfl)) (nomark _)))))
        (pss_one (ps_set (i := 6) sc__law_pages.nd rfl (Or.inl rfl) (pe_op (k_addB K) (pe_ix (k_ix K) (pv 3) pe_int (fun _ _ => rfl)) pe_int)))
        pss_nil)
       (pss_one (ps_for PassesOwn.never rfl (pi_range2 rfl T.b_range (pa_cons (pe_ix (k_ix K) (pv 3) pe_int (fun _ _ => rfl)) (pa_cons (pe_op (k_addB K) (pe_callB (k_len K) (by rfl) T.b_len (by decide +kernel) (pa_cons (pv 1) pa_nil)) pe_int) pa_nil))) (pg_name (i := 7) sc__law_pages.nd rfl (Or.inl rfl))
        (pss_one (ps_for PassesOwn.never rfl (pi_range2 rfl T.b_range (pa_cons (pv 6) (pa_cons (pe_op (k_addB K) (pv 5) pe_int) pa_nil))) (pg_name (i := 8) sc__law_pages.nd rfl (Or.inl rfl))
         (pss_cons (ps_set (i := 9) sc__law_pages.nd rfl (Or.inl rfl) (k_w K c__law_page hr (by decide) rfl (pa_cons (pv 0) (pa_cons (pv 1) (pa_cons (pv 2) (pa_cons (pv 3) (pa_cons (pe_tup (pa_cons (pv 5) (pa_cons (pv 7) (pa_cons (pv 8) pa_nil)))) pa_nil)))))))
         (pss_one (ps_if (pt_cmpR op_notN (pv 9) pe_non (nomark _))
          (pss_one (ps_expr (k_bm K PySem.F.plainAttrs_list PySem.F.slot_list_append PySem.F.type_list_append mt_append (pv 4) (pa_cons (pe_tup (pa_cons (pv 5) (pa_cons (pv 7) (pa_cons (pv 8) (pa_cons (pe_ix (k_ix K) (pv 9) pe_int (fun _ _ => rfl)) (pa_cons (pe_ix (k_ix K) (pv 9) pe_int (fun _ _ => rfl)) pa_nil)))))) pa_nil))))
          pss_nil))))))))))
      (pss_one (ps_ret (pv 4))))), inferInstance, by
    rintro ws S Q ⟨g, k, s, R, rfl, hR, hg, fk, hs, hn, hF, q⟩
    have hsl := hs.l
    have hsf := hs.f
    have hml := mkN_le g s.l
    have hfl := frL_len g
    walk_at "w"
    intro D hD
    have hDR : D ≠ R := ne_free hR hD
    walk_at "w"
    rw [List.length_map]
    refine ⟨⟨by omega, by omega, by omega, by omega⟩, ?_⟩
    have elen : ((g.length : Int) + 1 - (s.l : Int)).toNat = g.length + 1 - s.l := by omega
    refine for_q (fun i ρ' S' => i ≤ g.length + 1 - s.l ∧ ∃ (a5 a6 a7 a8 a9 : Option W), ρ' = [some (galT g), some (.ref R), some k.key, some s.v, some (.ref D), a5, a6, a7, a8, a9] ∧ S' D = some (.lst ((((List.range' s.l (g.length + 1 - s.l)).take i).flatMap (law2 g k s)).map Row.v)) ∧ S' R = some (.lst ((frL g).map frW)) ∧ KpL [] S S')
      ⟨Nat.zero_le _, _, _, _, _, _, rfl, put_same, (put_ne hDR.symm).trans hR, (KpL.refl [] S).new hD⟩ (fun _ _ _ _ => trivial) ?_ ?_
    · rintro i w ρ' S1 z ⟨_, a5, a6, a7, a8, a9, rfl, hD1, hR1, k1⟩
      obtain ⟨hi, rfl⟩ := intsW_at z
      rw [elen] at hi
      have ee : (List.range' s.l (g.length + 1 - s.l))[i]? = some (s.l + i) := range'_at hi
      have efl := flat_take (f := law2 g k s) ee
      have ex : (s.l : Int) + (i : Int) = ((s.l + i : Nat) : Int) := by omega
      rw [ex]
      obtain ⟨b0, b1⟩ := beg_le (k := k) (s := s) (e := s.l + i) (by omega)
      walk_at "w"
      refine mid_q (fun ρ' S' => S' = S1 ∧ ρ' = [some (galT g), some (.ref R), some k.key, some s.v, some (.ref D), some (.int ((s.l + i : Nat) : Int)), some (.int (begN k s (s.l + i) : Int)), a7, a8, a9]) ?_ ?_
      · refine if_ev (decide (k.i = 2) && decide (((s.l + i : Nat) : Int) > (s.l : Int))) (evAnd (fun Q q => ?_) (fun _ Q q => ?_)) (fun hc => ?_) (fun hc => ?_)
        · walk_at "w"
          exact q
        · walk_at "w"
          exact q
        · rw [Bool.and_eq_true, decide_eq_true_eq, decide_eq_true_eq] at hc
          have hb : begN k s (s.l + i) = s.l + 1 := by unfold begN; rw [if_pos ⟨hc.1, by omega⟩]
          refine ⟨rfl, ?_⟩
          rw [hb, show ((s.l + 1 : Nat) : Int) = (s.l : Int) + 1 by omega]
          rfl
        · have hb : begN k s (s.l + i) = s.l + i := by
            unfold begN
            rw [if_neg]
            rintro ⟨h1, h2⟩
            rw [decide_eq_true h1, Bool.true_and] at hc
            have := of_decide_eq_false hc
            omega
          refine ⟨rfl, ?_⟩
          rw [hb]
          rfl
      rintro ρ' S' ⟨rfl, rfl⟩
      walk_at "w"
      refine ⟨_, hR1, ?_⟩
      walk_at "w"
      rw [List.length_map, hfl]
      refine ⟨⟨by omega, by omega, by omega, by omega⟩, ?_⟩
      have elen2 : (((fsG g).length : Int) + 1 - (s.f : Int)).toNat = (fsG g).length + 1 - s.f := by omega
      have hpre1 := flat_len (f := law2 g k s) (c := 10201) ((List.range' s.l (g.length + 1 - s.l)).take i) (fun e he => law2_len (by
        obtain ⟨j, hj, rfl⟩ := List.mem_range'.mp (List.mem_of_mem_take he)
        omega) hF)
      have hpt : ((List.range' s.l (g.length + 1 - s.l)).take i).length ≤ 101 := by rw [List.length_take]; omega
      have hpm := Nat.mul_le_mul_right 10201 hpt
      have hl2 := law2_len (g := g) (k := k) (s := s) (e := s.l + i) (by omega) hF
      refine for_q (fun j ρ' S' => j ≤ (fsG g).length + 1 - s.f ∧ ∃ (a7 a8 a9 : Option W), ρ' = [some (galT g), some (.ref R), some k.key, some s.v, some (.ref D), some (.int ((s.l + i : Nat) : Int)), some (.int (begN k s (s.l + i) : Int)), a7, a8, a9] ∧ S' D = some (.lst ((((List.range' s.l (g.length + 1 - s.l)).take i).flatMap (law2 g k s) ++ ((List.range' s.f ((fsG g).length + 1 - s.f)).take j).flatMap (law3 g k s (s.l + i))).map Row.v)) ∧ S' R = some (.lst ((frL g).map frW)) ∧ KpL [] S S')
        ⟨Nat.zero_le _, _, _, _, rfl, by rw [List.take_zero, List.flatMap_nil, List.append_nil]; exact hD1, hR1, k1⟩ (fun _ _ _ _ => trivial) ?_ ?_
      · rintro j w ρ' S2 z ⟨_, a7, a8, a9, rfl, hD2, hR2, k2⟩
        obtain ⟨hj, rfl⟩ := intsW_at z
        rw [elen2] at hj
        have ee2 : (List.range' s.f ((fsG g).length + 1 - s.f))[j]? = some (s.f + j) := range'_at hj
        have efl2 := flat_take (f := law3 g k s (s.l + i)) ee2
        have ex2 : (s.f : Int) + (j : Int) = ((s.f + j : Nat) : Int) := by omega
        rw [ex2]
        have hpre2 := flat_len (f := law3 g k s (s.l + i)) (c := 101) ((List.range' s.f ((fsG g).length + 1 - s.f)).take j) (fun fe _ => by have := law3_len (g := g) (k := k) (s := s) (e := s.l + i) (fe := fe); omega)
        have hpt2 : ((List.range' s.f ((fsG g).length + 1 - s.f)).take j).length ≤ 101 := by rw [List.length_take]; omega
        have hpm2 := Nat.mul_le_mul_right 101 hpt2
        have elen3 : (((s.l + i : Nat) : Int) + 1 - (begN k s (s.l + i) : Int)).toNat = s.l + i + 1 - begN k s (s.l + i) := by omega
        walk_at "w"
        refine ⟨⟨by omega, by omega, by omega, by omega⟩, ?_⟩
        refine for_q (fun u ρ' S' => u ≤ s.l + i + 1 - begN k s (s.l + i) ∧ ∃ (a8 a9 : Option W), ρ' = [some (galT g), some (.ref R), some k.key, some s.v, some (.ref D), some (.int ((s.l + i : Nat) : Int)), some (.int (begN k s (s.l + i) : Int)), some (.int ((s.f + j : Nat) : Int)), a8, a9] ∧ S' D = some (.lst ((((List.range' s.l (g.length + 1 - s.l)).take i).flatMap (law2 g k s) ++ ((List.range' s.f ((fsG g).length + 1 - s.f)).take j).flatMap (law3 g k s (s.l + i)) ++ ((List.range' (begN k s (s.l + i)) (s.l + i + 1 - begN k s (s.l + i))).take u).flatMap (rowL g k s (s.l + i) (s.f + j))).map Row.v)) ∧ S' R = some (.lst ((frL g).map frW)) ∧ KpL [] S S')
          ⟨Nat.zero_le _, _, _, rfl, by rw [List.take_zero, List.flatMap_nil, List.append_nil]; exact hD2, hR2, k2⟩ (fun _ _ _ _ => trivial) ?_ ?_
        · rintro u w ρ' S3 z ⟨_, a8, a9, rfl, hD3, hR3, k3⟩
          obtain ⟨hu, rfl⟩ := intsW_at z
          rw [elen3] at hu
          have ee3 : (List.range' (begN k s (s.l + i)) (s.l + i + 1 - begN k s (s.l + i)))[u]? = some (begN k s (s.l + i) + u) := range'_at hu
          have efl3 := flat_take (f := rowL g k s (s.l + i) (s.f + j)) ee3
          have ex3 : (begN k s (s.l + i) : Int) + (u : Int) = ((begN k s (s.l + i) + u : Nat) : Int) := by omega
          rw [ex3]
          have hpre3 := flat_len (f := rowL g k s (s.l + i) (s.f + j)) (c := 1) ((List.range' (begN k s (s.l + i)) (s.l + i + 1 - begN k s (s.l + i))).take u) (fun _ _ => rowL_len)
          have hpt3 : ((List.range' (begN k s (s.l + i)) (s.l + i + 1 - begN k s (s.l + i))).take u).length ≤ 101 := by rw [List.length_take]; omega
          walk_at "w"
          refine Hd.mk ⟨g, k, s, R, s.l + i, s.f + j, begN k s (s.l + i) + u, rfl, hR3, hg, fk, hs, by omega, by omega, by omega, by omega, by omega, by omega, fun S4 k4 => ?_⟩
          have hD4 := k4 D _ (fun h => by cases h) hD3
          have hR4 := k4 R _ (fun h => by cases h) hR3
          have k34 := k3.trans k4
          walk_at "w"
          refine ⟨rfl, ?_⟩
          cases hp : pageL g k s (s.l + i) (s.f + j) (begN k s (s.l + i) + u) with
          | none =>
            have er : rowL g k s (s.l + i) (s.f + j) (begN k s (s.l + i) + u) = [] := by unfold rowL; rw [hp]
            rw [er, List.append_nil] at efl3
            refine ⟨fun h => absurd (show false = true from h) Bool.false_ne_true, fun _ => ?_⟩
            exact ⟨hu, _, _, rfl, by rw [efl3]; exact hD4, hR4, k34⟩
          | some x =>
            have er : rowL g k s (s.l + i) (s.f + j) (begN k s (s.l + i) + u) = [⟨s.l + i, s.f + j, begN k s (s.l + i) + u, x.1, x.2⟩] := by unfold rowL; rw [hp]
            rw [er] at efl3
            refine ⟨fun _ => ?_, fun h => absurd (show true = false from h) (by decide)⟩
            walk_at "w"
            refine ⟨.inl ⟨rfl, _, hD4⟩, ?_⟩
            walk_at "w"
            refine ⟨_, hD4, ?_, hu, _, _, rfl, ?_, (put_ne hDR.symm).trans hR4, k34.own hD⟩
            · rw [List.length_map, List.length_append, List.length_append]
              exact Nat.lt_of_lt_of_le (show _ < 1200000 by omega) (by decide)
            · rw [efl3, ← List.append_assoc, List.map_append (l₂ := [_])]
              exact put_same
        · rintro ρ' S3 ⟨_, a8, a9, rfl, hD3, hR3, k3⟩
          rw [intsW_len, elen3, take_rng (begN k s (s.l + i)), List.append_assoc] at hD3
          refine ⟨hj, _, _, _, rfl, ?_, hR3, k3⟩
          rw [efl2]
          exact hD3
      · rintro ρ' S2 ⟨_, a7, a8, a9, rfl, hD2, hR2, k2⟩
        rw [intsW_len, elen2, take_rng s.f] at hD2
        refine ⟨hi, _, _, _, _, _, rfl, ?_, hR2, k2⟩
        rw [efl]
        exact hD2
    · rintro ρ' S1 ⟨_, a5, a6, a7, a8, a9, rfl, hD1, hR1, k1⟩
      rw [intsW_len, elen, List.take_of_length_le (by rw [List.length_range']; exact Nat.le_refl _)] at hD1
      walk_at "w"
      exact fg_here (q D S1 hD1 hD k1)⟩
end
end K62
set_option Elab.async false
set_option linter.all false
set_option maxRecDepth 100000
set_option maxHeartbeats 4000000
set_option synthInstance.maxHeartbeats 4000000
set_option synthInstance.maxSize 100000
namespace K62
open PySem PySem.Spec PyProof.Rows L2 Wl
local macro_rules | `(tactic| walk_at "w") => `(tactic| (conv => whnf))
/-! what a store holds -/
local macro_rules | `(tactic| walk_at "ne") => `(tactic| first | assumption | (apply Ne.symm; assumption) | exact ne_free (by assumption) (by assumption) | exact (ne_free (by assumption) (by assumption)).symm | exact Pl.ne (by assumption) (by assumption) | exact (Pl.ne (by assumption) (by assumption)).symm)
local macro_rules | `(tactic| walk_at "s") => `(tactic| first
  | exact put_same
  | assumption
  | (refine (put_ne ?_).trans ?_; (· walk_at "ne"); (· walk_at "s")))
/-! a side condition -/
local macro_rules | `(tactic| walk_at "c") => `(tactic| first
  | exact Or.inl (Or.inl ⟨by omega, by omega⟩)
  | exact Or.inl (Or.inr ⟨by omega, by omega⟩)
  | exact Or.inl ⟨by omega, by omega⟩
  | exact Or.inl ⟨rfl, _, by walk_at "s"⟩
  | rfl
  | omega
  | decide
  | exact Nat.le_trans (by omega) sizeLine_ge)
/-! one question is answered, if the answer is plain -/
local macro_rules | `(tactic| walk_at "g1") => `(tactic| first
  | refine ⟨fun _ => ?_, fun h => absurd (show true = false from h) (by decide)⟩
  | refine ⟨fun h => absurd (show false = true from h) Bool.false_ne_true, fun _ => ?_⟩
  | refine ⟨_, by walk_at "s", ?_⟩
  | refine ⟨_, _, by walk_at "s", by walk_at "s", ?_⟩
  | refine ⟨_, by walk_at "s", by simpa using (by omega), ?_⟩
  | refine ⟨_, rfl, ?_⟩
  | refine ⟨_, _, rfl, (by first | exact isTy_tt | exact isTy_ii | exact isTy_ll | exact isTy_ss | exact isTy_ib | exact isTy_tb | exact isTy_ti | exact isTy_ts | exact isTy_tl | exact isTy_lb | exact isTy_li | exact isTy_ls | exact isTy_lt | exact isTy_sb | exact isTy_si | exact isTy_st | exact isTy_sl | exact isTy_is | exact isTy_it | exact isTy_il | exact isTy_bi | exact isTy_bs | exact isTy_bb | exact isTy_nb | exact isTy_ni | exact isTy_ns | exact isTy_nt | exact isTy_nl | exact isTy_bt | exact isTy_bl | exact isTy_nd | exact isTy_td | exact isTy_ld | exact isTy_sd | exact isTy_id | exact isTy_bd | exact isTy_dd | exact isTy_db | exact isTy_di | exact isTy_ds | exact isTy_dt | exact isTy_dl), ?_⟩
  | refine ⟨_, _, tyName_lst (by walk_at "s"), (by first | exact isTy_ll | exact isTy_lb | exact isTy_li | exact isTy_ls | exact isTy_lt), ?_⟩
  | refine if_q ?_
  | refine ⟨by walk_at "c", ?_⟩)
local macro_rules | `(tactic| walk_at "go") => `(tactic| (walk_at "w"; repeat (walk_at "g1"; walk_at "w")))
/-! a branch that cannot be -/
local macro_rules | `(tactic| walk_at "two") => `(tactic| refine ⟨fun h => ?_, fun h => ?_⟩)
section
variable {P : Program} {w : World} {K : PySem.W.Frag} {mg : Str → Option Value} {base : Heap} {ec : Cls}
theorem flat_nil {α β : Type} {f : α → List β} {xs : List α} (h : ∀ x ∈ xs, f x = []) : xs.flatMap f = [] := by
  induction xs with
  | nil => rfl
  | cons x xs ih => rw [List.flatMap_cons, h x List.mem_cons_self, ih fun y hy => h y (List.mem_cons_of_mem _ hy)]; rfl
theorem flat_fil {α β : Type} {f : α → List β} {p : α → Bool} {xs : List α} (h : ∀ x ∈ xs, p x = false → f x = []) : (xs.filter p).flatMap f = xs.flatMap f := by
  induction xs with
  | nil => rfl
  | cons x xs ih =>
    have ih := ih fun y hy => h y (List.mem_cons_of_mem _ hy)
    rw [List.filter_cons, List.flatMap_cons]
    cases hx : p x with
    | true => rw [if_pos rfl, List.flatMap_cons, ih]
    | false => rw [if_neg (by decide), ih, h x List.mem_cons_self hx]; rfl
theorem flat_tw {β : Type} {f : Nat → List β} {p : Nat → Bool} : ∀ (n s : Nat), (∀ y x, s ≤ y → y ≤ x → x < s + n → p y = false → f x = []) → ((List.range' s n).takeWhile p).flatMap f = (List.range' s n).flatMap f
  | 0, s, _ => rfl
  | n + 1, s, h => by
    rw [List.range'_succ, List.takeWhile_cons, List.flatMap_cons]
    cases hs : p s with
    | true =>
      show (s :: (List.range' (s + 1) n).takeWhile p).flatMap f = _
      rw [List.flatMap_cons, flat_tw n (s + 1) fun y x h1 h2 h3 h4 => h y x (by omega) h2 (by omega) h4]
    | false =>
      show [].flatMap f = _
      have e1 : (List.range' (s + 1) n).flatMap f = [] := flat_nil fun x hx => by
        obtain ⟨i, hi, rfl⟩ := List.mem_range'.mp hx
        exact h s _ (Nat.le_refl _) (by omega) (by omega) hs
      rw [h s s (Nat.le_refl _) (Nat.le_refl _) (by omega) hs, e1]
      rfl
theorem flat_map {α β γ : Type} {f : β → List γ} {m : α → β} {xs : List α} : (xs.map m).flatMap f = xs.flatMap fun x => f (m x) := by
  induction xs with
  | nil => rfl
  | cons x xs ih => rw [List.map_cons, List.flatMap_cons, List.flatMap_cons, ih]
theorem flat_congr {α β : Type} {f f2 : α → List β} {xs : List α} (h : ∀ x ∈ xs, f x = f2 x) : xs.flatMap f = xs.flatMap f2 := by
  induction xs with
  | nil => rfl
  | cons x xs ih => rw [List.flatMap_cons, List.flatMap_cons, h x List.mem_cons_self, ih fun y hy => h y (List.mem_cons_of_mem _ hy)]
theorem floH_mono {g : List Ln} {k : FK} (h : GOk g) (fk : FkOk k) {s a b : Nat} (h0 : s ≤ a) (h1 : a ≤ b) : floH g s a k.hy ≤ floH g s b k.hy := by
  have m := sumT_mono (xs := fsG g) (fun x hx => by obtain ⟨l, hl, hx⟩ := List.mem_flatMap.mp hx; exact h.f0 l hl x hx) h1
  have m2 := sumT_mono (xs := fsG g) (fun x hx => by obtain ⟨l, hl, hx⟩ := List.mem_flatMap.mp hx; exact h.f0 l hl x hx) h0
  have := fk.hy0
  unfold floH
  split <;> split <;> omega
theorem rowL_none {g : List Ln} {k : FK} {s : Sta} {e fe p : Nat} (h : pageL g k s e fe p = none) : rowL g k s e fe p = [] := by unfold rowL; rw [h]
theorem law3_nil {g : List Ln} {k : FK} {s : Sta} {e fe : Nat} (h : ∀ p, begN k s e ≤ p → p ≤ e → pageL g k s e fe p = none) : law3 g k s e fe = [] := by
  unfold law3
  refine flat_nil fun p hp => ?_
  obtain ⟨i, hi, rfl⟩ := List.mem_range'.mp hp
  exact rowL_none (h _ (by omega) (by omega))
/-- too little room -/
theorem law3_room {g : List Ln} {k : FK} {s : Sta} {e fe : Nat} (h : roomM g k s e fe < 0) : law3 g k s e fe = [] := law3_nil fun p _ _ => by
  unfold pageL
  split
  · rfl
  · split
    · rfl
    · rw [if_pos (.inl h)]
theorem law3_same {g : List Ln} {k : FK} {s : Sta} : law3 g k s s.l s.f = [] := law3_nil fun p _ _ => by
  unfold pageL
  rw [if_pos (.inl ⟨rfl, rfl⟩)]
theorem law3_far {g : List Ln} {k : FK} {s : Sta} {e fe : Nat} (h : mkN g e < fe) : law3 g k s e fe = [] := law3_nil fun p _ _ => by
  unfold pageL
  rw [if_pos (.inr h)]
/-- a float that waits too long -/
theorem law3_age {g : List Ln} {k : FK} {s : Sta} {e fe : Nat} (h : ∃ a ∈ (staM g s e fe).a, a > k.tw) : law3 g k s e fe = [] := law3_nil fun p _ _ => by
  unfold pageL
  split
  · rfl
  · split
    · rfl
    · rw [if_pos (.inr (.inr h))]
/-- floats that are left behind wait too long just when their number is below the least -/
theorem age_low {g : List Ln} {k : FK} {s : Sta} {e fe : Nat} (fk : FkOk k) (hs : StOk g s) (hp : ∀ a ∈ s.a, 0 ≤ a) (hle : s.l ≤ e) (h0 : s.f ≤ fe) (h1 : fe ≤ mkN g e) (h : fe < lowM g k s e) : ∃ a ∈ (staM g s e fe).a, a > k.tw := by
  obtain ⟨l1, l2, l3⟩ := leastF_lo (k := k) hs hle
  have tw0 := fk.tw0
  have hal := hs.a
  have hfl := hs.f
  unfold leastF at l1
  by_cases ht : k.tw = 0
  · rw [if_pos ht, mkN_sum] at l1
    by_cases ho : fe < mkN g s.l
    · obtain ⟨a, ha1, ha2⟩ := ag_old (e := e) (i := 0) hs h0 (by omega)
      have := hp a (List.mem_of_getElem? ha1)
      exact ⟨_, List.mem_of_getElem? ha2, by omega⟩
    · exact ⟨1, List.mem_of_getElem? (ag_new (i := 0) hs h0 (by omega) (by omega)), by omega⟩
  · rw [if_neg ht] at l1
    have hlt := lateN_le k.tw s.a
    rcases lateN_at k.tw s.a with hz | ⟨a, ha, hw⟩
    · omega
    · obtain ⟨a2, hb1, hb2⟩ := ag_old (e := e) (i := s.f + lateN k.tw s.a - 1 - fe) hs h0 (by omega)
      rw [show fe + (s.f + lateN k.tw s.a - 1 - fe) - s.f = lateN k.tw s.a - 1 by omega, ha] at hb1
      cases hb1
      exact ⟨_, List.mem_of_getElem? hb2, by omega⟩
theorem age_ok {g : List Ln} {k : FK} {s : Sta} {e fe : Nat} (fk : FkOk k) (hs : StOk g s) (hle : s.l ≤ e) (h0 : s.f ≤ fe) (h1 : fe ≤ mkN g e) (h : lowM g k s e ≤ fe) : ¬ ∃ a ∈ (staM g s e fe).a, a > k.tw := by
  rintro ⟨a, ha, hw⟩
  obtain ⟨l1, l2, l3⟩ := leastF_lo (k := k) hs hle
  have tw0 := fk.tw0
  have hag := ag_len hs hle h0 h1
  obtain ⟨i, hi⟩ := List.mem_iff_getElem?.mp ha
  have hil := (List.getElem?_eq_some_iff.mp hi).1
  unfold leastF at l1
  by_cases ht : k.tw = 0
  · rw [if_pos ht, mkN_sum] at l1
    omega
  · rw [if_neg ht] at l1
    by_cases ho : fe + i < mkN g s.l
    · obtain ⟨b, hb1, hb2⟩ := ag_old (e := e) hs h0 ho
      rw [hb2] at hi
      cases hi
      have := lateN_ge k.tw s.a _ b hb1 (by omega)
      omega
    · have := ag_new (e := e) hs h0 (by omega) (show fe + i < mkN g e by omega)
      rw [this] at hi
      cases hi
      omega
end
end K62
set_option Elab.async false
set_option linter.all false
set_option maxRecDepth 100000
set_option maxHeartbeats 4000000
set_option synthInstance.maxHeartbeats 4000000
set_option synthInstance.maxSize 100000
namespace K62
open PySem PySem.Spec PyProof.Rows L2 Wl
local macro_rules | `(tactic| walk_at "w") => `(tactic| (conv => whnf))
/-! what a store holds -/
local macro_rules | `(tactic| walk_at "ne") => `(tactic| first | assumption | (apply Ne.symm; assumption) | exact ne_free (by assumption) (by assumption) | exact (ne_free (by assumption) (by assumption)).symm | exact Pl.ne (by assumption) (by assumption) | exact (Pl.ne (by assumption) (by assumption)).symm)
local macro_rules | `(tactic| walk_at "s") => `(tactic| first
  | exact put_same
  | assumption
  | (refine (put_ne ?_).trans ?_; (· walk_at "ne"); (· walk_at "s")))
/-! a side condition -/
local macro_rules | `(tactic| walk_at "c") => `(tactic| first
  | exact Or.inl (Or.inl ⟨by omega, by omega⟩)
  | exact Or.inl (Or.inr ⟨by omega, by omega⟩)
  | exact Or.inl ⟨by omega, by omega⟩
  | exact Or.inl ⟨rfl, _, by walk_at "s"⟩
  | rfl
  | omega
  | decide
  | exact Nat.le_trans (by omega) sizeLine_ge)
/-! one question is answered, if the answer is plain -/
local macro_rules | `(tactic| walk_at "g1") => `(tactic| first
  | refine ⟨fun _ => ?_, fun h => absurd (show true = false from h) (by decide)⟩
  | refine ⟨fun h => absurd (show false = true from h) Bool.false_ne_true, fun _ => ?_⟩
  | refine ⟨_, by walk_at "s", ?_⟩
  | refine ⟨_, _, by walk_at "s", by walk_at "s", ?_⟩
  | refine ⟨_, by walk_at "s", by simpa using (by omega), ?_⟩
  | refine ⟨_, rfl, ?_⟩
  | refine ⟨_, _, rfl, (by first | exact isTy_tt | exact isTy_ii | exact isTy_ll | exact isTy_ss | exact isTy_ib | exact isTy_tb | exact isTy_ti | exact isTy_ts | exact isTy_tl | exact isTy_lb | exact isTy_li | exact isTy_ls | exact isTy_lt | exact isTy_sb | exact isTy_si | exact isTy_st | exact isTy_sl | exact isTy_is | exact isTy_it | exact isTy_il | exact isTy_bi | exact isTy_bs | exact isTy_bb | exact isTy_nb | exact isTy_ni | exact isTy_ns | exact isTy_nt | exact isTy_nl | exact isTy_bt | exact isTy_bl | exact isTy_nd | exact isTy_td | exact isTy_ld | exact isTy_sd | exact isTy_id | exact isTy_bd | exact isTy_dd | exact isTy_db | exact isTy_di | exact isTy_ds | exact isTy_dt | exact isTy_dl), ?_⟩
  | refine ⟨_, _, tyName_lst (by walk_at "s"), (by first | exact isTy_ll | exact isTy_lb | exact isTy_li | exact isTy_ls | exact isTy_lt), ?_⟩
  | refine if_q ?_
  | refine ⟨by walk_at "c", ?_⟩)
local macro_rules | `(tactic| walk_at "go") => `(tactic| (walk_at "w"; repeat (walk_at "g1"; walk_at "w")))
/-! a branch that cannot be -/
local macro_rules | `(tactic| walk_at "two") => `(tactic| refine ⟨fun h => ?_, fun h => ?_⟩)
section
variable {P : Program} {w : World} {K : PySem.W.Frag} {mg : Str → Option Value} {base : Heap} {ec : Cls}
/-- the row of a page that has a price -/
def rowP (g : List Ln) (k : FK) (l : Nat) (x : Mv) (p : Nat) : List Row := match priceS g k l x.e p x.r (decide (x.s = lastS g)) with
  | some c => [⟨x.e, x.fe, p, c + k.ri * x.s.a.length, x.s⟩]
  | none => []
theorem rowsOf_flat {g : List Ln} {k : FK} {l : Nat} {x : Mv} : rowsOf g k l x = (splitsL g k l x.e).flatMap (rowP g k l x) := by
  unfold rowsOf sprS sprL
  induction splitsL g k l x.e with
  | nil => rfl
  | cons p ps ih =>
    rw [List.map_cons, List.filter_cons, List.flatMap_cons, ← ih]
    unfold rowP
    cases h : priceS g k l x.e p x.r (decide (x.s = lastS g)) with
    | none => rw [if_neg (by simp)]; rfl
    | some c => rw [if_pos (by simp)]; rfl
theorem may_last {g : List Ln} {i : Nat} (h : g.length ≤ i) : mayC g i = true := by unfold mayC; rw [List.getElem?_eq_none h]
theorem splits_fil {g : List Ln} {k : FK} {s : Sta} {e : Nat} (fk : FkOk k) (hle : s.l ≤ e) (hen : e ≤ g.length) (hok : e = s.l ∨ mayC g e = true) : splitsL g k s.l e = (List.range' (begN k s e) (e + 1 - begN k s e)).filter (cutsL g k s.l e) := by
  have hc : (decide ((s.l : Int) < e) && decide ((e : Int) < g.length) && !mayC g e) = false := by
    rcases hok with h | h
    · rw [decide_eq_false (show ¬ (s.l : Int) < e by omega)]; rfl
    · rw [h]; simp
  unfold splitsL begN
  by_cases h1 : k.i = 1 ∨ s.l = e
  · rw [if_pos h1, if_neg (by omega), show e + 1 - e = 1 by omega]
    show _ = List.filter _ [e]
    rw [List.filter_cons]
    have hcut : cutsL g k s.l e e = true := by
      unfold cutsL
      have h2 : (decide (k.i = 1) || decide ((e : Int) = s.l)) = true := by
        rcases h1 with h | h
        · rw [decide_eq_true h]; rfl
        · rw [decide_eq_true (show (e : Int) = s.l by omega), Bool.or_true]
      rw [hc, if_neg (by decide), if_pos h2]
      exact decide_eq_true rfl
    rw [if_pos hcut]
    rfl
  · have i0 := fk.i0
    have i1 := fk.i1
    rw [if_neg h1, if_pos (by omega), show e + 1 - (s.l + 1) = e - s.l by omega]
    refine List.filter_congr fun p hp => ?_
    obtain ⟨i, hi, rfl⟩ := List.mem_range'.mp hp
    unfold cutsL
    rw [hc, if_neg (by decide), if_neg (by rw [Bool.or_eq_true, decide_eq_true_eq, decide_eq_true_eq]; omega), decide_eq_true (show (s.l : Int) < ((s.l + 1 + 1 * i : Nat) : Int) by omega), decide_eq_true (show ((s.l + 1 + 1 * i : Nat) : Int) ≤ e by omega), Bool.true_and, Bool.true_and]
    by_cases he : s.l + 1 + 1 * i = e
    · rw [he, decide_eq_true rfl, Bool.true_or]
      rcases hok with h | h
      · omega
      · exact h
    · rw [decide_eq_false (show ¬ ((s.l + 1 + 1 * i : Nat) : Int) = e by omega), Bool.false_or]
theorem law3_eq {g : List Ln} {k : FK} {s : Sta} {e fe : Nat} (fk : FkOk k) (hle : s.l ≤ e) (hen : e ≤ g.length) (hok : e = s.l ∨ mayC g e = true) (h1 : fe ≤ mkN g e) (hne : ¬ (e = s.l ∧ fe = s.f)) (hr : 0 ≤ roomM g k s e fe) (ha : ¬ ∃ a ∈ (staM g s e fe).a, a > k.tw) : law3 g k s e fe = rowsOf g k s.l (mvM g k s e fe) := by
  rw [rowsOf_flat]
  show law3 g k s e fe = (splitsL g k s.l e).flatMap (rowP g k s.l (mvM g k s e fe))
  rw [splits_fil fk hle hen hok]
  unfold law3
  rw [← flat_fil (p := cutsL g k s.l e) (f := rowL g k s e fe) fun p _ hp => rowL_none (by
    unfold pageL
    rw [if_neg (by omega), if_pos hp])]
  refine flat_congr fun p hp => ?_
  have hp := (List.mem_filter.mp hp).2
  have i0 := fk.i0
  have i1 := fk.i1
  by_cases hm : mx2 (colH g s.l p) (colH g p e) > roomM g k s e fe
  · have e1 : pageL g k s e fe p = none := by
      unfold pageL
      rw [if_neg (by omega), if_neg (by rw [hp]; decide), if_pos (.inr (.inl (by omega)))]
    have e2 : priceS g k s.l e p (roomM g k s e fe) (decide (staM g s e fe = lastS g)) = none := by
      unfold priceS
      rw [if_pos hm]
    rw [rowL_none e1]
    unfold rowP
    show [] = match priceS g k s.l e p (roomM g k s e fe) (decide (staM g s e fe = lastS g)) with | some c => _ | none => _
    rw [e2]
  · obtain ⟨c, e2⟩ : ∃ c, priceS g k s.l e p (roomM g k s e fe) (decide (staM g s e fe = lastS g)) = some c := by
      unfold priceS
      rw [if_neg hm]
      exact ⟨_, rfl⟩
    have e1 : pageL g k s e fe p = some (c + k.ri * (staM g s e fe).a.length, staM g s e fe) := by
      unfold pageL
      unfold priceS at e2
      rw [if_neg hm] at e2
      have e2 := Option.some.inj e2
      unfold slackS at e2
      rw [if_neg (by omega), if_neg (by rw [hp]; decide), if_neg (by rintro (h | h | h); omega; omega; exact ha h), ← e2]
      by_cases hl : staM g s e fe = lastS g
      · rw [if_pos hl, decide_eq_true hl, if_pos rfl]
        by_cases hi : k.i = 1
        · rw [if_pos hi, if_neg (by omega), Int.mul_zero]; congr 2; omega
        · rw [if_neg hi, if_pos (by omega), Int.mul_one]; congr 2; omega
      · rw [if_neg hl, decide_eq_false hl, if_neg Bool.false_ne_true]
        by_cases hi : k.i = 1
        · rw [if_pos hi, if_neg (by omega), Int.mul_zero]; congr 2; omega
        · rw [if_neg hi, if_pos (by omega), Int.mul_one]; congr 2; omega
    unfold rowP rowL
    show _ = match priceS g k s.l e p (roomM g k s e fe) (decide (staM g s e fe = lastS g)) with | some c => [Row.mk e fe p (c + k.ri * (staM g s e fe).a.length) (staM g s e fe)] | none => []
    rw [e1, e2]
theorem flat_sub {β : Type} {f : Nat → List β} {s n lo m : Nat} (h : ∀ x, s ≤ x → x < s + n → ¬ (lo ≤ x ∧ x < lo + m) → f x = []) (h0 : s ≤ lo) (h1 : m = 0 ∨ lo + m ≤ s + n) : (List.range' lo m).flatMap f = (List.range' s n).flatMap f := by
  by_cases hm : m = 0
  · subst hm
    rw [flat_nil (xs := List.range' s n) fun x hx => by
      obtain ⟨i, hi, rfl⟩ := List.mem_range'.mp hx
      exact h _ (by omega) (by omega) (by omega)]
    rfl
  · have e1 : List.range' s n = List.range' s (lo - s) ++ (List.range' lo m ++ List.range' (lo + m) (s + n - (lo + m))) := by
      rw [show List.range' lo m ++ List.range' (lo + m) (s + n - (lo + m)) = List.range' lo (m + (s + n - (lo + m))) by
        have := List.range'_append (s := lo) (m := m) (n := s + n - (lo + m)) (step := 1)
        rw [Nat.one_mul] at this
        exact this]
      have := List.range'_append (s := s) (m := lo - s) (n := m + (s + n - (lo + m))) (step := 1)
      rw [Nat.one_mul, show s + (lo - s) = lo by omega, show lo - s + (m + (s + n - (lo + m))) = n by omega] at this
      exact this.symm
    rw [e1, List.flatMap_append, List.flatMap_append, flat_nil (xs := List.range' s (lo - s)) fun x hx => by
      obtain ⟨i, hi, rfl⟩ := List.mem_range'.mp hx
      exact h _ (by omega) (by omega) (by omega), flat_nil (xs := List.range' (lo + m) _) fun x hx => by
      obtain ⟨i, hi, rfl⟩ := List.mem_range'.mp hx
      exact h _ (by omega) (by omega) (by omega), List.append_nil]
    rfl
theorem room_mono {g : List Ln} {k : FK} {s : Sta} {e a b : Nat} (h : GOk g) (fk : FkOk k) (h0 : s.f ≤ a) (h1 : a ≤ b) : roomM g k s e b ≤ roomM g k s e a := by
  have := floH_mono h fk h0 h1
  unfold roomM
  omega
theorem tw_mem {α : Type} {p : α → Bool} {xs : List α} {x : α} (h : x ∈ xs.takeWhile p) : p x = true := by
  induction xs with
  | nil => cases h
  | cons y ys ih =>
    rw [List.takeWhile_cons] at h
    cases hy : p y with
    | true =>
      rw [hy] at h
      rcases List.mem_cons.mp h with rfl | h
      · exact hy
      · exact ih h
    | false => rw [hy] at h; cases h
theorem law2_eq {g : List Ln} {k : FK} {s : Sta} {e : Nat} (hg : GOk g) (fk : FkOk k) (hs : StOk g s) (hp : ∀ a ∈ s.a, 0 ≤ a) (hle : s.l ≤ e) (hen : e ≤ g.length) (hok : e = s.l ∨ mayC g e = true) : law2 g k s e = (movesT g k s e).flatMap (rowsOf g k s.l) := by
  obtain ⟨l1, l2, l3⟩ := leastF_lo (k := k) hs hle
  have hm := mkN_le g e
  unfold movesT law2
  have e1 : ∀ fe, fe ∈ (rngM g k s e).takeWhile (fun fe => decide (0 ≤ roomM g k s e fe)) → lowM g k s e ≤ fe ∧ fe ≤ mkN g e ∧ 0 ≤ roomM g k s e fe := by
    intro fe h
    have h1 := tw_mem h
    have h2 := List.takeWhile_subset _ h
    unfold rngM at h2
    obtain ⟨i, hi, rfl⟩ := List.mem_range'.mp h2
    exact ⟨by omega, by omega, of_decide_eq_true h1⟩
  have e2 : ∀ fe, okM s e fe = false → s.f ≤ fe → e = s.l ∧ fe = s.f := by
    intro fe h h0
    unfold okM at h
    rw [Bool.or_eq_false_iff, decide_eq_false_iff_not, decide_eq_false_iff_not] at h
    omega
  rw [flat_map, flat_congr (xs := ((rngM g k s e).takeWhile fun fe => decide (0 ≤ roomM g k s e fe)).filter (okM s e)) (f2 := law3 g k s e) fun fe h => by
    have h2 := (List.mem_filter.mp h).2
    obtain ⟨a1, a2, a3⟩ := e1 fe (List.mem_filter.mp h).1
    refine (law3_eq fk hle hen hok a2 ?_ a3 (age_ok fk hs hle (by omega) a2 a1)).symm
    rintro ⟨b1, b2⟩
    unfold okM at h2
    rw [b1, b2] at h2
    simp at h2]
  rw [flat_fil (f := law3 g k s e) (p := okM s e) fun fe h h2 => by
    obtain ⟨a1, a2, a3⟩ := e1 fe h
    obtain ⟨b1, b2⟩ := e2 fe h2 (by omega)
    rw [b1, b2]
    exact law3_same]
  unfold rngM
  rw [flat_tw (f := law3 g k s e) _ _ fun y x h1 h2 h3 h4 => law3_room (by
    have h4 := of_decide_eq_false h4
    have := room_mono (e := e) hg fk (show s.f ≤ y by omega) h2
    omega)]
  symm
  refine flat_sub (fun x h1 h2 h3 => ?_) l2 (by omega)
  by_cases hx : mkN g e < x
  · exact law3_far hx
  · exact law3_age (age_low fk hs hp hle h1 (by omega) (by omega))
end
end K62
set_option Elab.async false
set_option linter.all false
set_option maxRecDepth 100000
set_option maxHeartbeats 4000000
set_option synthInstance.maxHeartbeats 4000000
set_option synthInstance.maxSize 100000
namespace K62
open PySem PySem.Spec PyProof.Rows L2 Wl
local macro_rules | `(tactic| walk_at "w") => `(tactic| (conv => whnf))
/-! what a store holds -/
local macro_rules | `(tactic| walk_at "ne") => `(tactic| first | assumption | (apply Ne.symm; assumption) | exact ne_free (by assumption) (by assumption) | exact (ne_free (by assumption) (by assumption)).symm | exact Pl.ne (by assumption) (by assumption) | exact (Pl.ne (by assumption) (by assumption)).symm)
local macro_rules | `(tactic| walk_at "s") => `(tactic| first
  | exact put_same
  | assumption
  | (refine (put_ne ?_).trans ?_; (· walk_at "ne"); (· walk_at "s")))
/-! a side condition -/
local macro_rules | `(tactic| walk_at "c") => `(tactic| first
  | exact Or.inl (Or.inl ⟨by omega, by omega⟩)
  | exact Or.inl (Or.inr ⟨by omega, by omega⟩)
  | exact Or.inl ⟨by omega, by omega⟩
  | exact Or.inl ⟨rfl, _, by walk_at "s"⟩
  | rfl
  | omega
  | decide
  | exact Nat.le_trans (by omega) sizeLine_ge)
/-! one question is answered, if the answer is plain -/
local macro_rules | `(tactic| walk_at "g1") => `(tactic| first
  | refine ⟨fun _ => ?_, fun h => absurd (show true = false from h) (by decide)⟩
  | refine ⟨fun h => absurd (show false = true from h) Bool.false_ne_true, fun _ => ?_⟩
  | refine ⟨_, by walk_at "s", ?_⟩
  | refine ⟨_, _, by walk_at "s", by walk_at "s", ?_⟩
  | refine ⟨_, by walk_at "s", by simpa using (by omega), ?_⟩
  | refine ⟨_, rfl, ?_⟩
  | refine ⟨_, _, rfl, (by first | exact isTy_tt | exact isTy_ii | exact isTy_ll | exact isTy_ss | exact isTy_ib | exact isTy_tb | exact isTy_ti | exact isTy_ts | exact isTy_tl | exact isTy_lb | exact isTy_li | exact isTy_ls | exact isTy_lt | exact isTy_sb | exact isTy_si | exact isTy_st | exact isTy_sl | exact isTy_is | exact isTy_it | exact isTy_il | exact isTy_bi | exact isTy_bs | exact isTy_bb | exact isTy_nb | exact isTy_ni | exact isTy_ns | exact isTy_nt | exact isTy_nl | exact isTy_bt | exact isTy_bl | exact isTy_nd | exact isTy_td | exact isTy_ld | exact isTy_sd | exact isTy_id | exact isTy_bd | exact isTy_dd | exact isTy_db | exact isTy_di | exact isTy_ds | exact isTy_dt | exact isTy_dl), ?_⟩
  | refine ⟨_, _, tyName_lst (by walk_at "s"), (by first | exact isTy_ll | exact isTy_lb | exact isTy_li | exact isTy_ls | exact isTy_lt), ?_⟩
  | refine if_q ?_
  | refine ⟨by walk_at "c", ?_⟩)
local macro_rules | `(tactic| walk_at "go") => `(tactic| (walk_at "w"; repeat (walk_at "g1"; walk_at "w")))
/-! a branch that cannot be -/
local macro_rules | `(tactic| walk_at "two") => `(tactic| refine ⟨fun h => ?_, fun h => ?_⟩)
section
variable {P : Program} {w : World} {K : PySem.W.Frag} {mg : Str → Option Value} {base : Heap} {ec : Cls}
theorem hs_mono {g : List Ln} (h : GOk g) {j i : Nat} (hj : j ≤ i) : sumT (hsG g) j ≤ sumT (hsG g) i := sumT_mono (fun x hx => by obtain ⟨l, hl, rfl⟩ := List.mem_map.mp hx; exact h.h0 l hl) hj
theorem colH_ge {g : List Ln} (h : GOk g) {s e : Nat} (hs : s ≤ e) : sumT (hsG g) e - sumT (hsG g) s ≤ colH g s e := by
  unfold colH
  split
  · rename_i he; subst he; omega
  · have h2 := sumT_mono (xs := osG g) (fun x hx => by obtain ⟨l, hl, rfl⟩ := List.mem_map.mp hx; exact h.o0 l hl) (show s + 1 ≤ e by omega)
    omega
theorem room_le {g : List Ln} {k : FK} {s : Sta} {e fe : Nat} (hg : GOk g) (fk : FkOk k) (hle : s.l ≤ e) (h0 : s.f ≤ fe) : roomM g k s e fe ≤ k.w := by
  have := notH_nonneg hg fk hle
  have := floH_nonneg hg fk h0
  unfold roomM
  omega
/-- lines that do not fit into all the columns -/
theorem law2_fit {g : List Ln} {k : FK} {s : Sta} {e : Nat} (hg : GOk g) (fk : FkOk k) (hle : s.l < e) (hf : sumT (hsG g) e - sumT (hsG g) s.l > k.i * k.w) : law2 g k s e = [] := by
  unfold law2
  refine flat_nil fun fe hfe => law3_nil fun p h1 h2 => ?_
  obtain ⟨i, hi, rfl⟩ := List.mem_range'.mp hfe
  have hr := room_le (s := s) (e := e) (fe := s.f + 1 * i) hg fk (Nat.le_of_lt hle) (by omega)
  have i0 := fk.i0
  have i1 := fk.i1
  have hb := beg_le (k := k) (s := s) (e := e) (Nat.le_of_lt hle)
  have c1 := colH_ge hg (show s.l ≤ p by omega)
  have c2 := colH_ge hg h2
  have c3 := colH_nonneg hg (show s.l ≤ p by omega)
  have c4 := colH_nonneg hg h2
  have m1 : colH g s.l p ≤ mx2 (colH g s.l p) (colH g p e) := by unfold mx2; split <;> omega
  have m2 : colH g p e ≤ mx2 (colH g s.l p) (colH g p e) := by unfold mx2; split <;> omega
  have hx : roomM g k s e (s.f + 1 * i) - mx2 (colH g s.l p) (colH g p e) < 0 := by
    by_cases hi : k.i = 1
    · have : begN k s e = e := by unfold begN; rw [if_neg (by rw [hi]; omega)]
      have : p = e := by omega
      subst this
      rw [hi] at hf
      omega
    · have : k.i = 2 := by omega
      rw [this] at hf
      omega
  unfold pageL
  split
  · rfl
  · split
    · rfl
    · rw [if_pos (.inr (.inl hx))]
/-- lines between which no page may end -/
theorem law2_cut {g : List Ln} {k : FK} {s : Sta} {e : Nat} (hle : s.l < e) (hm : mayC g e = false) : law2 g k s e = [] := by
  unfold law2
  refine flat_nil fun fe hfe => law3_nil fun p h1 h2 => ?_
  have hlt : e < g.length := by
    rcases Nat.lt_or_ge e g.length with h | h
    · exact h
    · rw [may_last h] at hm; cases hm
  have hc : cutsL g k s.l e p = false := by
    unfold cutsL
    rw [decide_eq_true (show (s.l : Int) < e by omega), decide_eq_true (show (e : Int) < g.length by omega), hm]
    rfl
  unfold pageL
  rw [if_pos hc]
  split <;> rfl
theorem law1_eq {g : List Ln} {k : FK} {s : Sta} (hg : GOk g) (fk : FkOk k) (hs : StOk g s) (hp : ∀ a ∈ s.a, 0 ≤ a) : law1 g k s = pagesP g k s := by
  have hl := hs.l
  have key : ∀ e ∈ pageE g k s.l, (movesT g k s e).flatMap (rowsOf g k s.l) = law2 g k s e := by
    intro e he
    obtain ⟨a1, a2⟩ := pageE_mem hl he
    refine (law2_eq hg fk hs hp a1 a2 ?_).symm
    unfold pageE at he
    rcases List.mem_cons.mp he with h | h
    · exact .inl h
    · exact .inr (List.mem_filter.mp h).2
  unfold pagesP movesA
  rw [List.flatMap_assoc, flat_congr key]
  unfold law1 pageE
  rw [show g.length + 1 - s.l = (g.length - s.l) + 1 by omega, List.range'_succ, List.flatMap_cons, List.flatMap_cons]
  congr 1
  rw [flat_fil (f := law2 g k s) fun e he hm => by
    obtain ⟨i, hi, rfl⟩ := List.mem_range'.mp (List.takeWhile_subset _ he)
    exact law2_cut (by omega) hm]
  refine (flat_tw _ _ fun y x h1 h2 h3 h4 => ?_).symm
  refine law2_fit hg fk (by omega) ?_
  unfold fitE at h4
  rw [Bool.not_eq_false', decide_eq_true_eq] at h4
  have := hs_mono hg h2
  omega
end
end K62
set_option Elab.async false
set_option linter.all false
set_option maxRecDepth 100000
set_option maxHeartbeats 4000000
set_option synthInstance.maxHeartbeats 4000000
set_option synthInstance.maxSize 100000
namespace K62
open PySem PySem.Spec PyProof.Rows L2 Wl
local macro_rules | `(tactic| walk_at "w") => `(tactic| (conv => whnf))
/-! what a store holds -/
local macro_rules | `(tactic| walk_at "ne") => `(tactic| first | assumption | (apply Ne.symm; assumption) | exact ne_free (by assumption) (by assumption) | exact (ne_free (by assumption) (by assumption)).symm | exact Pl.ne (by assumption) (by assumption) | exact (Pl.ne (by assumption) (by assumption)).symm)
local macro_rules | `(tactic| walk_at "s") => `(tactic| first
  | exact put_same
  | assumption
  | (refine (put_ne ?_).trans ?_; (· walk_at "ne"); (· walk_at "s")))
/-! a side condition -/
local macro_rules | `(tactic| walk_at "c") => `(tactic| first
  | exact Or.inl (Or.inl ⟨by omega, by omega⟩)
  | exact Or.inl (Or.inr ⟨by omega, by omega⟩)
  | exact Or.inl ⟨by omega, by omega⟩
  | exact Or.inl ⟨rfl, _, by walk_at "s"⟩
  | rfl
  | omega
  | decide
  | exact Nat.le_trans (by omega) sizeLine_ge)
/-! one question is answered, if the answer is plain -/
local macro_rules | `(tactic| walk_at "g1") => `(tactic| first
  | refine ⟨fun _ => ?_, fun h => absurd (show true = false from h) (by decide)⟩
  | refine ⟨fun h => absurd (show false = true from h) Bool.false_ne_true, fun _ => ?_⟩
  | refine ⟨_, by walk_at "s", ?_⟩
  | refine ⟨_, _, by walk_at "s", by walk_at "s", ?_⟩
  | refine ⟨_, by walk_at "s", by simpa using (by omega), ?_⟩
  | refine ⟨_, rfl, ?_⟩
  | refine ⟨_, _, rfl, (by first | exact isTy_tt | exact isTy_ii | exact isTy_ll | exact isTy_ss | exact isTy_ib | exact isTy_tb | exact isTy_ti | exact isTy_ts | exact isTy_tl | exact isTy_lb | exact isTy_li | exact isTy_ls | exact isTy_lt | exact isTy_sb | exact isTy_si | exact isTy_st | exact isTy_sl | exact isTy_is | exact isTy_it | exact isTy_il | exact isTy_bi | exact isTy_bs | exact isTy_bb | exact isTy_nb | exact isTy_ni | exact isTy_ns | exact isTy_nt | exact isTy_nl | exact isTy_bt | exact isTy_bl | exact isTy_nd | exact isTy_td | exact isTy_ld | exact isTy_sd | exact isTy_id | exact isTy_bd | exact isTy_dd | exact isTy_db | exact isTy_di | exact isTy_ds | exact isTy_dt | exact isTy_dl), ?_⟩
  | refine ⟨_, _, tyName_lst (by walk_at "s"), (by first | exact isTy_ll | exact isTy_lb | exact isTy_li | exact isTy_ls | exact isTy_lt), ?_⟩
  | refine if_q ?_
  | refine ⟨by walk_at "c", ?_⟩)
local macro_rules | `(tactic| walk_at "go") => `(tactic| (walk_at "w"; repeat (walk_at "g1"; walk_at "w")))
/-! a branch that cannot be -/
local macro_rules | `(tactic| walk_at "two") => `(tactic| refine ⟨fun h => ?_, fun h => ?_⟩)
section
variable {P : Program} {w : World} {K : PySem.W.Frag} {mg : Str → Option Value} {base : Heap} {ec : Cls}
/-! two things that look the same -/
inductive Alike (S : Sto) : Nat → W → W → Prop where
  | int {n : Nat} {a : Int} : Alike S n (.int a) (.int a)
  | str {n : Nat} {a : Str} : Alike S n (.str a) (.str a)
  | bl {n : Nat} {a : Bool} : Alike S n (.bl a) (.bl a)
  | non {n : Nat} : Alike S n .non .non
  | tup {n : Nat} {xs ys : List W} : xs.length = ys.length → xs.length ≤ 1000000 → (∀ (i : Nat) (x y : W), xs[i]? = some x → ys[i]? = some y → Alike S n x y) → Alike S (n + 1) (.tup xs) (.tup ys)
  | lst {n : Nat} {a b : Addr} {xs ys : List W} : S a = some (.lst xs) → S b = some (.lst ys) → xs.length = ys.length → xs.length ≤ 1000000 → (∀ (i : Nat) (x y : W), xs[i]? = some x → ys[i]? = some y → Alike S n x y) → Alike S (n + 1) (.ref a) (.ref b)
def spSame (n : Nat) : SpW := fun ws S Q => ∃ v w, ws = [v, w] ∧ Alike S n v w ∧ Q (.bl true) S
theorem same_go {n : Nat} {v w : W} {S : Sto} {Q : WK} (h : Alike S n v w) (q : Q (.bl true) S) : Hd (spSame n) [v, w] S Q := Hd.mk ⟨v, w, rfl, h, q⟩
theorem at_zero {xs : List W} {i : Nat} {x : W} (h : xs[i]? = some x) : atI xs (0 + (i : Int)) = some x := by
  rw [Int.zero_add]
  exact atI_nat h
theorem same_step (T : Txt K mg ec) (k n : Nat) (sp' : SpW) (c__law_same : CalW P w K mg base k "_law_same" (Hd sp')) (hn : ∀ (m : Nat) (v w : W) (S : Sto) (Q : WK), n = m + 1 → Alike S m v w → Q (.bl true) S → sp' [v, w] S Q)
    (d : DefAt K mg "_law_same" s__law_same ["_law_one", "_law_two"]) : CalW P w K mg base (k + 1) "_law_same" (spSame n) :=
  calDI d sc__law_same (fun ws S Q ⟨v, w, e, _⟩ => by rw [e]; rfl) fun f cdv A outer s H E hr => ⟨_, _,
    (pss_cons (ps_if (PW.pt (pw_or (pt_val (pe_callB (k_isi K) (by rfl) T.b_isinstance (by decide +kernel) (pa_cons (pv 0) (pa_cons (pe_bltn (v := .ty "bool") (by rfl) T.b_bool (by decide +kernel) rfl) pa_nil)))) (pw_or1 (pt_val (pe_callB (k_isi K) (by rfl) T.b_isinstance (by decide +kernel) (pa_cons (pv 1) (pa_cons (pe_bltn (v := .ty "bool") (by rfl) T.b_bool (by decide +kernel) rfl) pa_nil)))))))
       (pss_one (ps_ret (pe_and (pe_callB (k_isi K) (by rfl) T.b_isinstance (by decide +kernel) (pa_cons (pv 0) (pa_cons (pe_bltn (v := .ty "bool") (by rfl) T.b_bool (by decide +kernel) rfl) pa_nil))) (pe_and (pe_callB (k_isi K) (by rfl) T.b_isinstance (by decide +kernel) (pa_cons (pv 1) (pa_cons (pe_bltn (v := .ty "bool") (by rfl) T.b_bool (by decide +kernel) rfl) pa_nil))) (pe_one (pe_cmpR (k_eq K hr.units) (pv 0) (pv 1) (nomark _)))))))
       pss_nil)
      (pss_cons (ps_if (PW.pt (pw_and (pt_val (pe_callB (k_isi K) (by rfl) T.b_isinstance (by decide +kernel) (pa_cons (pv 0) (pa_cons (pe_bltn (v := .ty "int") (by rfl) T.b_int (by decide +kernel) rfl) pa_nil)))) (pw_and1 (pt_val (pe_callB (k_isi K) (by rfl) T.b_isinstance (by decide +kernel) (pa_cons (pv 1) (pa_cons (pe_bltn (v := .ty "int") (by rfl) T.b_int (by decide +kernel) rfl) pa_nil)))))))
       (pss_one (ps_ret (pe_cmpR (k_eq K hr.units) (pv 0) (pv 1) (nomark _))))
       pss_nil)
      (pss_cons (ps_if (PW.pt (pw_and (pt_val (pe_callB (k_isi K) (by rfl) T.b_isinstance (by decide +kernel) (pa_cons (pv 0) (pa_cons (pe_bltn (v := .ty "str") (by rfl) T.b_str (by decide +kernel) rfl) pa_nil)))) (pw_and1 (pt_val (pe_callB (k_isi K) (by rfl) T.b_isinstance (by decide +kernel) (pa_cons (pv 1) (pa_cons (pe_bltn (v := .ty "str") (by rfl) T.b_str (by decide +kernel) rfl) pa_nil)))))))
       (pss_one (ps_ret (pe_cmpR (k_eq K hr.units) (pv 0) (pv 1) (nomark _))))
       pss_nil)
      (pss_cons (ps_set (i := 2) sc__law_same.nd rfl (Or.inl rfl) (pe_and (pe_callB (k_isi K) (by rfl) T.b_isinstance (by decide +kernel) (pa_cons (pv 0) (pa_cons (pe_bltn (v := .ty "tuple") (by rfl) T.b_tuple (by decide +kernel) rfl) pa_nil))) (pe_one (pe_callB (k_isi K) (by rfl) T.b_isinstance (by decide +kernel) (pa_cons (pv 1) (pa_cons (pe_bltn (v := .ty "tuple") (by rfl) T.b_tuple (by decide +kernel) rfl) pa_nil))))))
      (pss_cons (ps_if (PW.pt (pw_or (k_truth K (pv 2)) (pw_or1 (PW.pt (pw_and (pt_val (pe_callB (k_isi K) (by rfl) T.b_isinstance (by decide +kernel) (pa_cons (pv 0) (pa_cons (pe_bltn (v := .ty "list") (by rfl) T.b_list (by decide +kernel) rfl) pa_nil)))) (pw_and1 (pt_val (pe_callB (k_isi K) (by rfl) T.b_isinstance (by decide +kernel) (pa_cons (pv 1) (pa_cons (pe_bltn (v := .ty "list") (by rfl) T.b_list (by decide +kernel) rfl) pa_nil))))))))))
       (pss_cons (ps_if (pt_cmpR (k_ne K hr.units) (pe_callB (k_len K) (by rfl) T.b_len (by decide +kernel) (pa_cons (pv 0) pa_nil)) (pe_callB (k_len K) (by rfl) T.b_len (by decide +kernel) (pa_cons (pv 1) pa_nil)) (nomark _))
        (pss_one (ps_ret pe_bl))
        pss_nil)
       (pss_cons (ps_for PassesOwn.never rfl (pi_range1 rfl T.b_range (pa_cons (pe_callB (k_len K) (by rfl) T.b_len (by decide +kernel) (pa_cons (pv 0) pa_nil)) pa_nil)) (pg_name (i := 3) sc__law_same.nd rfl (Or.inl rfl))
        (pss_one (ps_if (pt_not (pt_val (k_w K c__law_same hr (Nat.le_refl _) rfl (pa_cons (pe_ix (k_ix K) (pv 0) (pv 3) (fun _ _ => rfl)) (pa_cons (pe_ix (k_ix K) (pv 1) (pv 3) (fun _ _ => rfl)) pa_nil)))))
         (pss_one (ps_ret pe_bl))
         pss_nil)))
       (pss_one (ps_ret pe_bl))))
       pss_nil)
      (pss_one (ps_ret (pe_and (pe_cmpR op_isN (pv 0) pe_non (nomark _)) (pe_one (pe_cmpR op_isN (pv 1) pe_non (nomark _))))))))))), inferInstance, by
    rintro ws S Q ⟨v, w, rfl, h, q⟩
    cases h with
    | @int _ a =>
      walk_at "go"
      rw [decide_eq_true rfl]
      exact fg_here q
    | @str _ a =>
      walk_at "go"
      rw [decide_eq_true rfl]
      exact fg_here q
    | @bl _ a =>
      walk_at "go"
      rw [decide_eq_true rfl]
      exact fg_here q
    | non =>
      walk_at "go"
      exact fg_here q
    | @tup m xs ys hl hz hx =>
      walk_at "go"
      refine ⟨fun h => absurd (show (!decide ((xs.length : Int) = (ys.length : Int))) = true from h) (by rw [hl]; simp), fun _ => ?_⟩
      walk_at "w"
      refine ⟨by omega, by omega, ?_⟩
      refine for_q (fun i ρ' S' => S' = S ∧ ∃ a2 a3, ρ' = [some (.tup xs), some (.tup ys), a2, a3]) ⟨rfl, _, _, rfl⟩ (fun _ _ _ _ => trivial) ?_ ?_
      · rintro i w ρ' S' e ⟨rfl, a2, a3, rfl⟩
        obtain ⟨hi, rfl⟩ := intsW_at e
        have hi : i < xs.length := by
          have : i < ((xs.length : Nat) : Int).toNat := hi
          omega
        have ex : xs[i]? = some xs[i] := List.getElem?_eq_getElem hi
        have ey : ys[i]? = some (ys[i]'(by omega)) := List.getElem?_eq_getElem (by omega)
        walk_at "w"
        rw [at_zero ex]
        walk_at "w"
        rw [at_zero ey]
        walk_at "w"
        refine Hd.mk (hn m _ _ _ _ rfl (hx i _ _ ex ey) ?_)
        refine ⟨fun h => absurd (show false = true from h) Bool.false_ne_true, fun _ => ?_⟩
        exact ⟨rfl, _, _, rfl⟩
      · rintro ρ' S' ⟨rfl, a2, a3, rfl⟩
        exact fg_here q
    | @lst m a b xs ys ha hb hl hz hx =>
      walk_at "go"
      refine ⟨fun h => absurd (show (!decide ((xs.length : Int) = (ys.length : Int))) = true from h) (by rw [hl]; simp), fun _ => ?_⟩
      walk_at "w"
      refine ⟨_, ha, ?_⟩
      walk_at "w"
      refine ⟨by omega, by omega, ?_⟩
      refine for_q (fun i ρ' S' => S' = S ∧ ∃ a2 a3, ρ' = [some (.ref a), some (.ref b), a2, a3]) ⟨rfl, _, _, rfl⟩ (fun _ _ _ _ => trivial) ?_ ?_
      · rintro i w ρ' S' e ⟨rfl, a2, a3, rfl⟩
        obtain ⟨hi, rfl⟩ := intsW_at e
        have hi : i < xs.length := by
          have : i < ((xs.length : Nat) : Int).toNat := hi
          omega
        have ex : xs[i]? = some xs[i] := List.getElem?_eq_getElem hi
        have ey : ys[i]? = some (ys[i]'(by omega)) := List.getElem?_eq_getElem (by omega)
        walk_at "w"
        refine ⟨_, ha, ?_⟩
        refine rdAt_ok (at_zero ex) ?_
        walk_at "w"
        refine ⟨_, hb, ?_⟩
        refine rdAt_ok (at_zero ey) ?_
        walk_at "w"
        refine Hd.mk (hn m _ _ _ _ rfl (hx i _ _ ex ey) ?_)
        refine ⟨fun h => absurd (show false = true from h) Bool.false_ne_true, fun _ => ?_⟩
        exact ⟨rfl, _, _, rfl⟩
      · rintro ρ' S' ⟨rfl, a2, a3, rfl⟩
        exact fg_here q⟩
theorem ok_same (T : Txt K mg ec) (d : DefAt K mg "_law_same" s__law_same ["_law_one", "_law_two"]) : ∀ n : Nat, CalW P w K mg base (n + 2) "_law_same" (spSame n)
  | 0 => same_step T 1 0 spNever ((calNever d sc__law_same).hd) (fun m v w S Q e => by cases e) d
  | n + 1 => same_step T (n + 2) (n + 1) (spSame n) (ok_same T d n).hd (fun m v w S Q e h q => ⟨v, w, rfl, by rw [Nat.succ.inj e]; exact h, q⟩) d
theorem Alike.up {S : Sto} {n m : Nat} {v w : W} (h : Alike S n v w) (l : n ≤ m) : Alike S m v w := by
  induction h generalizing m with
  | int => exact .int
  | str => exact .str
  | bl => exact .bl
  | non => exact .non
  | tup h1 h2 h3 ih =>
    obtain ⟨m, rfl⟩ : ∃ m', m = m' + 1 := ⟨m - 1, by omega⟩
    exact .tup h1 h2 fun i x y e1 e2 => ih i x y e1 e2 (by omega)
  | lst h0 h00 h1 h2 h3 ih =>
    obtain ⟨m, rfl⟩ : ∃ m', m = m' + 1 := ⟨m - 1, by omega⟩
    exact .lst h0 h00 h1 h2 fun i x y e1 e2 => ih i x y e1 e2 (by omega)
theorem ints_alike (S : Sto) (as : List Int) (h : as.length ≤ 1000000) : Alike S 1 (.tup (as.map W.int)) (.tup (as.map W.int)) := by
  refine .tup rfl (by rw [List.length_map]; exact h) fun i x y e1 e2 => ?_
  rw [e1] at e2
  cases e2
  obtain ⟨a, _, rfl⟩ := List.mem_map.mp (List.mem_of_getElem? e1)
  exact .int
theorem sta_alike (S : Sto) (s : Sta) (h : s.a.length ≤ 1000000) : Alike S 2 s.v s.v := by
  unfold Sta.v
  refine .tup rfl (show _ ≤ _ by simp) fun i x y e1 e2 => ?_
  rw [e1] at e2
  cases e2
  match i, e1 with
  | 0, e => cases e; exact .int
  | 1, e => cases e; exact .int
  | 2, e => cases e; exact ints_alike S s.a h
theorem row_alike (S : Sto) (r : Row) (h : r.s.a.length ≤ 1000000) : Alike S 3 r.v r.v := by
  unfold Row.v
  refine .tup rfl (show _ ≤ _ by simp) fun i x y e1 e2 => ?_
  rw [e1] at e2
  cases e2
  match i, e1 with
  | 0, e => cases e; exact .int
  | 1, e => cases e; exact .int
  | 2, e => cases e; exact .int
  | 3, e => cases e; exact .int
  | 4, e => cases e; exact sta_alike S r.s h
theorem rows_alike {S : Sto} {a b : Addr} {rs : List Row} (ha : S a = some (.lst (rs.map Row.v))) (hb : S b = some (.lst (rs.map Row.v))) (hl : rs.length ≤ 1000000) (h : ∀ r ∈ rs, r.s.a.length ≤ 1000000) : Alike S 4 (.ref a) (.ref b) := by
  refine .lst ha hb rfl (by rw [List.length_map]; exact hl) fun i x y e1 e2 => ?_
  rw [e1] at e2
  cases e2
  obtain ⟨r, hr, rfl⟩ := List.mem_map.mp (List.mem_of_getElem? e1)
  exact row_alike S r (h r hr)
/-- a state in the walk -/
structure StG (g : List Ln) (s : Sta) : Prop where
  ok : StOk g s
  pos : ∀ a ∈ s.a, 0 ≤ a
theorem row_st {g : List Ln} {k : FK} {s : Sta} {r : Row} (hg : GOk g) (fk : FkOk k) (h : StG g s) (hr : r ∈ pagesP g k s) : StG g r.s := by
  unfold pagesP at hr
  obtain ⟨x, hx, hr⟩ := List.mem_flatMap.mp hr
  have mo := movesA_ok hg fk h.ok hx
  unfold rowsOf at hr
  obtain ⟨z, hz, rfl⟩ := List.mem_map.mp hr
  refine ⟨mo.st, ?_⟩
  show ∀ a ∈ x.s.a, 0 ≤ a
  rw [mo.mv]
  show ∀ a ∈ (s.a.map fun a => a + 1).drop (x.fe - s.f) ++ List.replicate (mkN g x.e - max x.fe (mkN g s.l)) 1, 0 ≤ a
  intro a ha
  rcases List.mem_append.mp ha with ha | ha
  · obtain ⟨b, hb, rfl⟩ := List.mem_map.mp (List.mem_of_mem_drop ha)
    have := h.pos b hb
    omega
  · rw [(List.mem_replicate.mp ha).2]
    decide
theorem sta_len {g : List Ln} {s : Sta} (hg : GOk g) (h : StOk g s) : s.a.length ≤ 1000 := by
  have h1 := h.a
  have h2 := mkN_le g s.l
  have h3 := hg.f
  omega
theorem law1_len {g : List Ln} {k : FK} {s : Sta} (h1 : g.length ≤ 60) (h2 : (fsG g).length ≤ 100) : (law1 g k s).length ≤ 622261 := by
  unfold law1
  have h := flat_len (f := law2 g k s) (c := 10201) (List.range' s.l (g.length + 1 - s.l)) fun e he => law2_len (by
    obtain ⟨j, hj, rfl⟩ := List.mem_range'.mp he
    omega) h2
  rw [List.length_range'] at h
  have := Nat.mul_le_mul_right 10201 (show g.length + 1 - s.l ≤ 61 by omega)
  omega
theorem ok_law (T : Txt K mg ec) {f : Addr} {fd : FuncData} (F : Fun K "law" "law" s_law f fd) (c__law_pool : CalW P w K mg base 1 "_law_pool" (Hd spPl)) (c__law_take : CalW P w K mg base 1 "_law_take" (Hd spTk)) (c__law_ranges : CalW P w K mg base 2 "_law_ranges" (Hd spRg)) (c__law_frame_key : CalW P w K mg base 2 "_law_frame_key" (Hd spKy))
    (c__law_frame : CalW P w K mg base 4 "_law_frame" (Hd (spFr ec.Frame))) (c__law_galley : CalW P w K mg base 3 "_law_galley" (Hd spGa)) (c__law_float_rows : CalW P w K mg base 1 "_law_float_rows" (Hd spFl)) (c__law_pages : CalW P w K mg base 3 "_law_pages" (Hd spPgs)) (c_page_options : CalW P w K mg base 6 "page_options" (Hd (spPo ec.Frame))) (c__law_same : CalW P w K mg base 6 "_law_same" (Hd (spSame 4))) : FnOk P w K mg base CX0 7 f fd ["_law_script"] (liftSp K spLaw) :=
  have c__law_pool := c__law_pool.mono (k := 6) (by decide)
  have c__law_take := c__law_take.mono (k := 6) (by decide)
  have c__law_ranges := c__law_ranges.mono (k := 6) (by decide)
  have c__law_frame_key := c__law_frame_key.mono (k := 6) (by decide)
  have c__law_frame := c__law_frame.mono (k := 6) (by decide)
  have c__law_galley := c__law_galley.mono (k := 6) (by decide)
  have c__law_float_rows := c__law_float_rows.mono (k := 6) (by decide)
  have c__law_pages := c__law_pages.mono (k := 6) (by decide)
  fnDI F sc_law (fun ws S Q ⟨ns, e, _⟩ => by rw [e]; rfl) fun f cdv A outer s H E hr => ⟨_, _,
    (pss_cons (ps_set (i := 1) sc_law.nd rfl (Or.inl rfl) (k_w K c__law_pool hr (by decide) rfl (pa_cons (pv 0) (pa_cons pe_int pa_nil))))
      (pss_cons (ps_set (i := 2) sc_law.nd rfl (Or.inl rfl) (k_w K c__law_ranges hr (by decide) rfl (pa_cons (pv 1) pa_nil)))
      (pss_cons (ps_set (i := 3) sc_law.nd rfl (Or.inl rfl) (k_w K c__law_frame_key hr (by decide) rfl (pa_cons (pv 1) (pa_cons (pv 2) pa_nil))))
      (pss_cons (ps_set (i := 4) sc_law.nd rfl (Or.inl rfl) (k_w K c__law_frame hr (by decide) rfl (pa_cons (pv 3) (pa_cons (k_w K c__law_take hr (by decide) rfl (pa_cons (pv 1) (pa_cons pe_int pa_nil))) pa_nil))))
      (pss_cons (ps_set (i := 5) sc_law.nd rfl (Or.inl rfl) (pe_lst (pa_cons (pe_op op_sub pe_int (pe_op op_mulA pe_int (pe_ix (k_ix K) (pv 3) pe_int (fun _ _ => rfl)))) (pa_cons (pe_op op_sub pe_int (pe_op op_mulA pe_int (pe_ix (k_ix K) (pv 3) pe_int (fun _ _ => rfl)))) pa_nil))))
      (pss_mid (ps_if (pt_cmpR (k_eq K hr.units) (k_w K c__law_take hr (by decide) rfl (pa_cons (pv 1) (pa_cons pe_int pa_nil))) pe_int (nomark _))
       (pss_one (ps_set (i := 5) sc_law.nd rfl (Or.inl rfl) (pe_ix (k_ix K) (pe_lst (pa_cons (pe_lst (pa_cons pe_int (pa_cons pe_int pa_nil))) (pa_cons (pe_lst (pa_cons pe_int (pa_cons pe_int pa_nil))) pa_nil))) (pe_op op_sub (pe_ix (k_ix K) (pv 3) pe_int (fun _ _ => rfl)) pe_int) (fun _ _ => rfl))))
       pss_nil)
      (pss_cons (ps_set (i := 6) sc_law.nd rfl (Or.inl rfl) (k_w K c__law_galley hr (by decide) rfl (pa_cons (k_w K c__law_pool hr (by decide) rfl (pa_cons (pv 0) (pa_cons pe_int pa_nil))) (pa_cons (pe_ix (k_ix K) (pv 5) pe_int (fun _ _ => rfl)) (pa_cons (pe_ix (k_ix K) (pv 5) pe_int (fun _ _ => rfl)) (pa_cons (pv 2) pa_nil))))))
      (pss_cons (ps_set (i := 7) sc_law.nd rfl (Or.inl rfl) (k_w K c__law_float_rows hr (by decide) rfl (pa_cons (pv 6) pa_nil)))
      (pss_cons (ps_set (i := 8) sc_law.nd rfl (Or.inl rfl) (k_w K c__law_pool hr (by decide) rfl (pa_cons (pv 0) (pa_cons pe_int pa_nil))))
      (pss_cons (ps_set (i := 9) sc_law.nd rfl (Or.inl rfl) (pe_tup (pa_cons pe_int (pa_cons pe_int (pa_cons (pe_tup pa_nil) pa_nil)))))
      (pss_cons (ps_for PassesOwn.never rfl (pi_range1 rfl T.b_range (pa_cons (pe_op (k_addB K) (pe_op (k_addB K) (pe_callB (k_len K) (by rfl) T.b_len (by decide +kernel) (pa_cons (pv 6) pa_nil)) (pe_callB (k_len K) (by rfl) T.b_len (by decide +kernel) (pa_cons (pv 7) pa_nil))) pe_int) pa_nil)) (pg_name (i := 10) sc_law.nd rfl (Or.inl rfl))
       (pss_cons (ps_set (i := 11) sc_law.nd rfl (Or.inl rfl) (k_w K c__law_pages hr (by decide) rfl (pa_cons (pv 6) (pa_cons (pv 7) (pa_cons (pv 3) (pa_cons (pv 9) pa_nil))))))
       (pss_cons (ps_set (i := 12) sc_law.nd rfl (Or.inl rfl) (k_w K c_page_options hr (by decide) rfl (pa_cons (pv 6) (pa_cons (pv 4) (pa_cons (pv 9) pa_nil)))))
       (pss_cons (ps_if (pt_not (pt_val (k_w K c__law_same hr (by decide) rfl (pa_cons (pv 12) (pa_cons (pv 11) pa_nil)))))
        (pss_one (ps_ret pe_bl))
        pss_nil)
       (pss_cons (ps_expr (k_bm0 K PySem.F.plainAttrs_list PySem.F.slot_list_clear PySem.F.type_list_clear mt_clear (pv 12)))
       (pss_cons (ps_if (pt_not (pt_val (k_w K c__law_same hr (by decide) rfl (pa_cons (k_w K c_page_options hr (by decide) rfl (pa_cons (pv 6) (pa_cons (pv 4) (pa_cons (pv 9) pa_nil)))) (pa_cons (pv 11) pa_nil)))))
        (pss_one (ps_ret pe_bl))
        pss_nil)
       (pss_cons (ps_if (pt_cmpR (k_eq K hr.units) (pe_callB (k_len K) (by rfl) T.b_len (by decide +kernel) (pa_cons (pv 11) pa_nil)) pe_int (nomark _))
        (pss_one ps_break)
        pss_nil)
       (pss_one (ps_set (i := 9) sc_law.nd rfl (Or.inl rfl) (pe_ix (k_ix K) (pe_ix (k_ix K) (pv 11) (k_w K c__law_take hr (by decide) rfl (pa_cons (pv 8) (pa_cons (pe_callB (k_len K) (by rfl) T.b_len (by decide +kernel) (pa_cons (pv 11) pa_nil)) pa_nil))) (fun _ _ => rfl)) pe_int (fun _ _ => rfl)))))))))))
      (pss_one (ps_ret pe_bl))))))))))))), inferInstance, by
    rintro ws S Q ⟨ns, rfl, hl, q⟩
    walk_at "w"
    refine pl_go (by decide) (by decide) hl fun p S1 hpf p1 o1 => ?_
    walk_at "w"
    refine Hd.mk ⟨p, 0, rfl, p1, by decide, fun L sc S2 hL2 sok hLp hLf p2 k2 => ?_⟩
    walk_at "w"
    refine Hd.mk ⟨p, L, 0 + 1, sc, rfl, p2, by decide, hL2, sok, hLp, fun k S3 fk p3 o3 => ?_⟩
    have hL3 := (o3 L (notin1 hLp)).trans hL2
    walk_at "w"
    refine tk_go p3 (by decide) (by decide) (by decide) fun way S4 w0 w1 p4 o4 => ?_
    have hL4 := (o4 L (notin1 hLp)).trans hL3
    walk_at "w"
    refine Hd.mk ⟨k, way, rfl, fun fr hfr => ?_⟩
    walk_at "w"
    have i0 := fk.i0
    have i1 := fk.i1
    have hfrL : fr ≠ L := ne_free hL4 hfr
    have hfrp : fr ≠ p := p4.ne hfr
    have p5 : Pl (put S4 fr (fraC ec.Frame k)) p (0 + 1 + 7 + 1) := p4.eq (put_ne hfrp.symm)
    have hL5 : put S4 fr (fraC ec.Frame k) L = some (.lst sc.l) := (put_ne hfrL.symm).trans hL4
    refine ⟨by walk_at "c", ?_⟩
    walk_at "w"
    refine ⟨by walk_at "c", ?_⟩
    walk_at "w"
    intro B hB
    have hBp : B ≠ p := p5.ne hB
    have hBL : B ≠ L := ne_free hL5 hB
    have hBf : B ≠ fr := ne_free (put_same (S := S4)) hB
    walk_at "w"
    refine mid_q (fun ρ' S' => ∃ (B : Addr) (lo li : Int), ρ' = [some (.rl (ns.map W.int)), some (.ref p), some (.ref L), some k.key, some (.ref fr), some (.ref B), none, none, none, none, none, none, none] ∧ 0 ≤ lo ∧ lo ≤ 40 ∧ 0 ≤ li ∧ li ≤ 60 ∧ S' B = some (.lst [.int lo, .int li]) ∧ S' L = some (.lst sc.l) ∧ S' fr = some (fraC ec.Frame k)) ?_ ?_
    · walk_at "w"
      refine tk_go (N := 9) (p5.eq (put_ne hBp.symm)) (by decide) (by decide) (by decide) fun r S5 r0 r1 p6 o6 => ?_
      have hB5 : S5 B = some (.lst [.int (16 - 4 * k.i), .int (9 - 3 * k.i)]) := (o6 B (notin1 hBp)).trans put_same
      have hL6 := (o6 L (notin1 hLp)).trans ((put_ne hBL.symm).trans hL5)
      have hf6 : S5 fr = some (fraC ec.Frame k) := (o6 fr (notin1 hfrp)).trans ((put_ne hBf.symm).trans put_same)
      walk_at "two"
      · walk_at "w"
        intro D1 hD1
        have n1 := ne_free hL6 hD1
        have n2 := ne_free hf6 hD1
        walk_at "w"
        intro D2 hD2
        have n3 := ne_free ((put_ne n1.symm).trans hL6) hD2
        have n4 := ne_free ((put_ne n2.symm).trans hf6) hD2
        have n5 : D2 ≠ D1 := ne_free put_same hD2
        walk_at "w"
        intro D3 hD3
        have n6 := ne_free ((put_ne n3.symm).trans ((put_ne n1.symm).trans hL6)) hD3
        have n7 := ne_free ((put_ne n4.symm).trans ((put_ne n2.symm).trans hf6)) hD3
        have n8 : D3 ≠ D2 := ne_free put_same hD3
        have n9 : D3 ≠ D1 := ne_free ((put_ne n5.symm).trans put_same) hD3
        walk_at "w"
        refine ⟨_, put_same, ?_⟩
        by_cases hi : k.i = 1
        · rw [hi]
          walk_at "w"
          exact ⟨D1, 40, 2, rfl, by decide, by decide, by decide, by decide, (put_ne n9.symm).trans ((put_ne n5.symm).trans put_same), (put_ne n6.symm).trans ((put_ne n3.symm).trans ((put_ne n1.symm).trans hL6)), (put_ne n7.symm).trans ((put_ne n4.symm).trans ((put_ne n2.symm).trans hf6))⟩
        · have hi : k.i = 2 := by omega
          rw [hi]
          walk_at "w"
          exact ⟨D2, 16, 1, rfl, by decide, by decide, by decide, by decide, (put_ne n8.symm).trans put_same, (put_ne n6.symm).trans ((put_ne n3.symm).trans ((put_ne n1.symm).trans hL6)), (put_ne n7.symm).trans ((put_ne n4.symm).trans ((put_ne n2.symm).trans hf6))⟩
      · walk_at "w"
        exact ⟨B, _, _, rfl, by omega, by omega, by omega, by omega, hB5, hL6, hf6⟩
    · rintro ρ' S5 ⟨B, lo, li, rfl, lo0, lo1, li0, li1, hB5, hL6, hf6⟩
      walk_at "w"
      refine pl_go (by decide) (by decide) hl fun p2 S6 hp2 q1 o7 => ?_
      have hLp2 : L ≠ p2 := (ne_free hL6 hp2).symm
      have hBp2 : B ≠ p2 := (ne_free hB5 hp2).symm
      have hfp2 : fr ≠ p2 := (ne_free hf6 hp2).symm
      have hB6 := (o7 B (notin1 hBp2)).trans hB5
      have hL7 := (o7 L (notin1 hLp2)).trans hL6
      have hf7 := (o7 fr (notin1 hfp2)).trans hf6
      walk_at "w"
      refine ⟨_, hB6, ?_⟩
      walk_at "w"
      refine ⟨_, hB6, ?_⟩
      walk_at "w"
      refine Hd.mk ⟨p2, L, 0, lo, li, sc, rfl, q1, by decide, lo0, by omega, li0, by omega, hL7, sok, hLp2, fun g S7 gl gn gf k7 => ?_⟩
      have hf8 := k7 fr _ (notin1 hfp2) hf7
      have gn : g.length ≤ 40 := by omega
      have gf : (fsG g).length ≤ 60 := by omega
      have hg := gok_of gl (by omega) (by omega)
      walk_at "w"
      refine Hd.mk ⟨g, rfl, by omega, by omega, fun R S8 hR hRf k8 => ?_⟩
      have hf9 := k8 fr _ (fun h => by cases h) hf8
      walk_at "w"
      refine pl_go (by decide) (by decide) hl fun pw S9 hpw q2 o9 => ?_
      have hRw : R ≠ pw := (ne_free hR hpw).symm
      have hfw : fr ≠ pw := (ne_free hf9 hpw).symm
      have hR9 := (o9 R (notin1 hRw)).trans hR
      have hf9 := (o9 fr (notin1 hfw)).trans hf9
      walk_at "w"
      refine ⟨_, hR9, ?_⟩
      walk_at "w"
      rw [List.length_map, List.length_map, frL_len]
      refine ⟨by omega, by omega, ?_⟩
      refine for_q (fun i ρ' S' => i ≤ 101 ∧ ∃ (s : Sta) (a10 a11 a12 : Option W), ρ' = [some (.rl (ns.map W.int)), some (.ref p), some (.ref L), some k.key, some (.ref fr), some (.ref B), some (galT g), some (.ref R), some (.ref pw), some s.v, a10, a11, a12] ∧ StG g s ∧ S' R = some (.lst ((frL g).map frW)) ∧ S' fr = some (fraC ec.Frame k) ∧ Pl S' pw i)
        ⟨Nat.zero_le _, ⟨0, 0, []⟩, none, none, none, rfl, ⟨⟨Nat.zero_le _, Nat.zero_le _, rfl⟩, fun _ h => by cases h⟩, hR9, hf9, q2⟩ (fun _ _ _ _ => trivial) ?_ ?_
      · rintro i w ρ' S1 z ⟨_, s, a10, a11, a12, rfl, st, hR1, hf1, pl1⟩
        obtain ⟨hi, rfl⟩ := intsW_at z
        have hi : i < 101 := by
          have : i < ((g.length : Int) + ((fsG g).length : Int) + 1).toNat := hi
          omega
        walk_at "w"
        refine Hd.mk ⟨g, k, s, R, rfl, hR1, hg, fk, st.ok, by omega, by omega, fun D S2 hD hDf k2 => ?_⟩
        walk_at "w"
        rw [law1_eq hg fk st.ok st.pos] at hD
        have hl1 := law1_len (k := k) (s := s) (show g.length ≤ 60 by omega) (show (fsG g).length ≤ 100 by omega)
        rw [law1_eq hg fk st.ok st.pos] at hl1
        refine Hd.mk ⟨fr, g, k, s, rfl, k2 fr _ (fun h => by cases h) hf1, by omega, by omega, hg, fk, st.ok, fun E S3 hE hEf k3 => ?_⟩
        have hD3 := k3 D _ (fun h => by cases h) hD
        have hED : E ≠ D := ne_free hD hEf
        have hal : ∀ r ∈ pagesP g k s, r.s.a.length ≤ 1000000 := fun r hr => by
          have := sta_len hg (row_st hg fk st hr).ok
          omega
        walk_at "w"
        refine same_go (rows_alike hE hD3 (by omega) hal) ?_
        refine ⟨fun h => absurd (show false = true from h) Bool.false_ne_true, fun _ => ?_⟩
        walk_at "w"
        refine ⟨.inl ⟨rfl, _, hE⟩, _, hE, ?_⟩
        walk_at "w"
        have kE : ∀ (b : Addr) (c : Cell), S1 b = some c → put S3 E (.lst []) b = some c := fun b c h => by
          have h3 := k3 b c (fun h => by cases h) (k2 b c (fun h => by cases h) h)
          have hne : b ≠ E := by
            rintro rfl
            exact ne_free (k2 b c (fun h => by cases h) h) hEf rfl
          exact (put_ne hne).trans h3
        have hD4 : put S3 E (.lst []) D = some (.lst ((pagesP g k s).map Row.v)) := (put_ne hED.symm).trans hD3
        refine Hd.mk ⟨fr, g, k, s, rfl, kE fr _ hf1, by omega, by omega, hg, fk, st.ok, fun E2 S5 hE2 hE2f k5 => ?_⟩
        have hD5 := k5 D _ (fun h => by cases h) hD4
        have hR5 := k5 R _ (fun h => by cases h) (kE R _ hR1)
        have hf5 := k5 fr _ (fun h => by cases h) (kE fr _ hf1)
        have pl5 : Pl S5 pw i := by
          obtain ⟨c, hc⟩ := pl1.some
          exact pl1.eq ((k5 pw c (fun h => by cases h) (kE pw c hc)).trans hc.symm)
        walk_at "w"
        refine same_go (rows_alike hE2 hD5 (by omega) hal) ?_
        refine ⟨fun h => absurd (show false = true from h) Bool.false_ne_true, fun _ => ?_⟩
        walk_at "w"
        refine ⟨_, hD5, ?_⟩
        walk_at "w"
        rw [List.length_map]
        refine ⟨fun h => ?_, fun h => ?_⟩
        · walk_at "w"
          exact fg_here (q _)
        · have h0 : (pagesP g k s).length ≠ 0 := fun e => by rw [e] at h; exact absurd h (by decide)
          walk_at "w"
          refine ⟨_, hD5, ?_⟩
          walk_at "w"
          rw [List.length_map]
          refine tk_go pl5 (by omega) (by omega) (by omega) fun r S6 r0 r1 p6 o6 => ?_
          walk_at "w"
          have hpD : D ≠ pw := by
            rintro rfl
            obtain ⟨c, hc⟩ := pl1.some
            exact ne_free hc hDf rfl
          refine ⟨_, (o6 D (notin1 hpD)).trans hD5, ?_⟩
          obtain ⟨ri, rfl⟩ : ∃ n : Nat, r = (n : Int) := ⟨r.toNat, by omega⟩
          have hri : ri < (pagesP g k s).length := by omega
          refine rdAt_ok (w := ((pagesP g k s)[ri]).v) (atI_nat (by rw [List.getElem?_map, List.getElem?_eq_getElem hri]; rfl)) ?_
          walk_at "w"
          exact ⟨by omega, (pagesP g k s)[ri].s, _, _, _, rfl, row_st hg fk st (List.getElem_mem hri), (o6 R (notin1 hRw)).trans hR5, (o6 fr (notin1 hfw)).trans hf5, p6⟩
      · rintro ρ' S' ⟨_, s, a10, a11, a12, rfl, _⟩
        walk_at "w"
        exact fg_here (q _)⟩
end
theorem all_mk {l : PySem.W.OpenLaw} {w : World} {K : PySem.W.Frag} {h : Heap} {mg : Str → Option Value} {fa : Addr} (X : K.In h) (G : h.Ns mainGlobals mg) (hfa : mg "law" = some (.ref fa))
    {C_Frame : Addr} (ca_Frame : PySem.W.nsIn K mainGlobals "Frame" = some (some (.ref C_Frame)))
     (pg_Frame : PySem.W.plainGet K C_Frame Str.empty = true)
     (hd_Frame : PySem.W.hasDictIn K C_Frame = true)
     (po_Frame : PySem.W.plainOver K C_Frame = true)
     (sa_Frame : PySem.W.findIn K (.ref C_Frame) "__setattr__" = some (some (.builtin "object.__setattr__")))
     (mk_Frame : PySem.W.makesIn K C_Frame = true)
     (kc_Frame : PySem.W.keepIn K (.ref C_Frame) = true)
     (nf_height_Frame : PySem.W.findIn K (.ref C_Frame) "height" = some none)
     (nf_columns_Frame : PySem.W.findIn K (.ref C_Frame) "columns" = some none)
     (nf_rule_Frame : PySem.W.findIn K (.ref C_Frame) "rule" = some none)
     (nf_under_Frame : PySem.W.findIn K (.ref C_Frame) "under" = some none)
     (nf_wait_Frame : PySem.W.findIn K (.ref C_Frame) "wait" = some none)
     (nf_late_Frame : PySem.W.findIn K (.ref C_Frame) "late" = some none)
     (nf_uneven_Frame : PySem.W.findIn K (.ref C_Frame) "uneven" = some none)
     (ha_Frame : PySem.W.findIn K (.ref C_Frame) "__class__" = some (some (.builtin "object.__class__")))
     (hn_Frame : PySem.W.specialIn K (.builtin "object.__class__") "__get__" = some (some (.builtin "getset_descriptor.__get__")))
     (ht_Frame : PySem.W.takesIn K (.builtin "object.__class__") = some true)
     (hm_Frame : PySem.W.mroIn K C_Frame (.type "object") = some true)
     (sf_Frame : PySem.W.selfFirst K C_Frame = true)
     (kk_Frame : PySem.W.kitOne K (.ref C_Frame) (.ref C_Frame) = some true)
    {C_Options : Addr} (ca_Options : PySem.W.nsIn K mainGlobals "Options" = some (some (.ref C_Options)))
     (pg_Options : PySem.W.plainGet K C_Options Str.empty = true)
     (hd_Options : PySem.W.hasDictIn K C_Options = true)
     (po_Options : PySem.W.plainOver K C_Options = true)
     (sa_Options : PySem.W.findIn K (.ref C_Options) "__setattr__" = some (some (.builtin "object.__setattr__")))
     (mk_Options : PySem.W.makesIn K C_Options = true)
     (kc_Options : PySem.W.keepIn K (.ref C_Options) = true)
     (nf__sums_Options : PySem.W.findIn K (.ref C_Options) "_sums" = some none)
     (nf__frame_Options : PySem.W.findIn K (.ref C_Options) "_frame" = some none)
     (nf__best_Options : PySem.W.findIn K (.ref C_Options) "_best" = some none)
     (nf_last_state_Options : PySem.W.findIn K (.ref C_Options) "last_state" = some none)
     (ha_Options : PySem.W.findIn K (.ref C_Options) "__class__" = some (some (.builtin "object.__class__")))
     (hn_Options : PySem.W.specialIn K (.builtin "object.__class__") "__get__" = some (some (.builtin "getset_descriptor.__get__")))
     (ht_Options : PySem.W.takesIn K (.builtin "object.__class__") = some true)
     (hm_Options : PySem.W.mroIn K C_Options (.type "object") = some true)
     (sf_Options : PySem.W.selfFirst K C_Options = true)
     (kk_Options : PySem.W.kitOne K (.ref C_Options) (.ref C_Options) = some true)
    {C_Sums : Addr} (ca_Sums : PySem.W.nsIn K mainGlobals "Sums" = some (some (.ref C_Sums)))
     (pg_Sums : PySem.W.plainGet K C_Sums Str.empty = true)
     (hd_Sums : PySem.W.hasDictIn K C_Sums = true)
     (po_Sums : PySem.W.plainOver K C_Sums = true)
     (sa_Sums : PySem.W.findIn K (.ref C_Sums) "__setattr__" = some (some (.builtin "object.__setattr__")))
     (mk_Sums : PySem.W.makesIn K C_Sums = true)
     (kc_Sums : PySem.W.keepIn K (.ref C_Sums) = true)
     (nf__cuts_Sums : PySem.W.findIn K (.ref C_Sums) "_cuts" = some none)
     (nf__heights_Sums : PySem.W.findIn K (.ref C_Sums) "_heights" = some none)
     (nf__spaces_Sums : PySem.W.findIn K (.ref C_Sums) "_spaces" = some none)
     (nf__notes_Sums : PySem.W.findIn K (.ref C_Sums) "_notes" = some none)
     (nf__many_notes_Sums : PySem.W.findIn K (.ref C_Sums) "_many_notes" = some none)
     (nf__many_floats_Sums : PySem.W.findIn K (.ref C_Sums) "_many_floats" = some none)
     (nf__floats_Sums : PySem.W.findIn K (.ref C_Sums) "_floats" = some none)
     (ha_Sums : PySem.W.findIn K (.ref C_Sums) "__class__" = some (some (.builtin "object.__class__")))
     (hn_Sums : PySem.W.specialIn K (.builtin "object.__class__") "__get__" = some (some (.builtin "getset_descriptor.__get__")))
     (ht_Sums : PySem.W.takesIn K (.builtin "object.__class__") = some true)
     (hm_Sums : PySem.W.mroIn K C_Sums (.type "object") = some true)
     (sf_Sums : PySem.W.selfFirst K C_Sums = true)
     (kk_Sums : PySem.W.kitOne K (.ref C_Sums) (.ref C_Sums) = some true)
    {f0 : Addr} {od0 an0 : Option Addr} {sl0 : Array (Option Value)} {oc0 kV0 dc0 pm0 cd0 ct0 : Value} (a0 : PySem.W.nsIn K mainGlobals "_wall" = some (some (.ref f0)))
     (l0 : K.lookup f0 = some ⟨oc0, od0, .func (PySem.W.fnOf "_wall" "_wall" (defArgs s__wall) (defBody s__wall) (defScope s__wall) .none kV0 dc0 pm0 an0 cd0 ct0), sl0⟩)
     (c0 : PySem.W.codeIn K cd0 "_wall" = true)
     (k0 : PySem.W.keepIn K (.ref f0) = true)
    {f1 : Addr} {od1 an1 : Option Addr} {sl1 : Array (Option Value)} {oc1 kV1 dc1 pm1 cd1 ct1 : Value} (a1 : PySem.W.nsIn K mainGlobals "_running" = some (some (.ref f1)))
     (l1 : K.lookup f1 = some ⟨oc1, od1, .func (PySem.W.fnOf "_running" "_running" (defArgs s__running) (defBody s__running) (defScope s__running) .none kV1 dc1 pm1 an1 cd1 ct1), sl1⟩)
     (c1 : PySem.W.codeIn K cd1 "_running" = true)
     (k1 : PySem.W.keepIn K (.ref f1) = true)
    {f2 : Addr} {od2 an2 : Option Addr} {sl2 : Array (Option Value)} {oc2 kV2 dc2 pm2 cd2 ct2 : Value} (a2 : PySem.W.findIn K (.ref C_Sums) "__init__" = some (some (.ref f2)))
     (i2 : PySem.W.isFn K (.ref f2) = true)
     (l2 : K.lookup f2 = some ⟨oc2, od2, .func (PySem.W.fnOf "__init__" "Sums.__init__" (defArgs s_Sums___init__) (defBody s_Sums___init__) (defScope s_Sums___init__) .none kV2 dc2 pm2 an2 cd2 ct2), sl2⟩)
     (c2 : PySem.W.codeIn K cd2 "Sums.__init__" = true)
     (k2 : PySem.W.keepIn K (.ref f2) = true)
    {f3 : Addr} {od3 an3 : Option Addr} {sl3 : Array (Option Value)} {oc3 kV3 dc3 pm3 cd3 ct3 : Value} (a3 : PySem.W.findIn K (.ref C_Sums) "last_line" = some (some (.ref f3)))
     (i3 : PySem.W.isFn K (.ref f3) = true)
     (l3 : K.lookup f3 = some ⟨oc3, od3, .func (PySem.W.fnOf "last_line" "Sums.last_line" (defArgs s_Sums_last_line) (defBody s_Sums_last_line) (defScope s_Sums_last_line) .none kV3 dc3 pm3 an3 cd3 ct3), sl3⟩)
     (c3 : PySem.W.codeIn K cd3 "Sums.last_line" = true)
     (k3 : PySem.W.keepIn K (.ref f3) = true)
    {f4 : Addr} {od4 an4 : Option Addr} {sl4 : Array (Option Value)} {oc4 kV4 dc4 pm4 cd4 ct4 : Value} (a4 : PySem.W.findIn K (.ref C_Sums) "last_float" = some (some (.ref f4)))
     (i4 : PySem.W.isFn K (.ref f4) = true)
     (l4 : K.lookup f4 = some ⟨oc4, od4, .func (PySem.W.fnOf "last_float" "Sums.last_float" (defArgs s_Sums_last_float) (defBody s_Sums_last_float) (defScope s_Sums_last_float) .none kV4 dc4 pm4 an4 cd4 ct4), sl4⟩)
     (c4 : PySem.W.codeIn K cd4 "Sums.last_float" = true)
     (k4 : PySem.W.keepIn K (.ref f4) = true)
    {f5 : Addr} {od5 an5 : Option Addr} {sl5 : Array (Option Value)} {oc5 kV5 dc5 pm5 cd5 ct5 : Value} (a5 : PySem.W.findIn K (.ref C_Sums) "may_cut" = some (some (.ref f5)))
     (i5 : PySem.W.isFn K (.ref f5) = true)
     (l5 : K.lookup f5 = some ⟨oc5, od5, .func (PySem.W.fnOf "may_cut" "Sums.may_cut" (defArgs s_Sums_may_cut) (defBody s_Sums_may_cut) (defScope s_Sums_may_cut) .none kV5 dc5 pm5 an5 cd5 ct5), sl5⟩)
     (c5 : PySem.W.codeIn K cd5 "Sums.may_cut" = true)
     (k5 : PySem.W.keepIn K (.ref f5) = true)
    {f6 : Addr} {od6 an6 : Option Addr} {sl6 : Array (Option Value)} {oc6 kV6 dc6 pm6 cd6 ct6 : Value} (a6 : PySem.W.findIn K (.ref C_Sums) "marked_before" = some (some (.ref f6)))
     (i6 : PySem.W.isFn K (.ref f6) = true)
     (l6 : K.lookup f6 = some ⟨oc6, od6, .func (PySem.W.fnOf "marked_before" "Sums.marked_before" (defArgs s_Sums_marked_before) (defBody s_Sums_marked_before) (defScope s_Sums_marked_before) .none kV6 dc6 pm6 an6 cd6 ct6), sl6⟩)
     (c6 : PySem.W.codeIn K cd6 "Sums.marked_before" = true)
     (k6 : PySem.W.keepIn K (.ref f6) = true)
    {f7 : Addr} {od7 an7 : Option Addr} {sl7 : Array (Option Value)} {oc7 kV7 dc7 pm7 cd7 ct7 : Value} (a7 : PySem.W.findIn K (.ref C_Sums) "lines_height" = some (some (.ref f7)))
     (i7 : PySem.W.isFn K (.ref f7) = true)
     (l7 : K.lookup f7 = some ⟨oc7, od7, .func (PySem.W.fnOf "lines_height" "Sums.lines_height" (defArgs s_Sums_lines_height) (defBody s_Sums_lines_height) (defScope s_Sums_lines_height) .none kV7 dc7 pm7 an7 cd7 ct7), sl7⟩)
     (c7 : PySem.W.codeIn K cd7 "Sums.lines_height" = true)
     (k7 : PySem.W.keepIn K (.ref f7) = true)
    {f8 : Addr} {od8 an8 : Option Addr} {sl8 : Array (Option Value)} {oc8 kV8 dc8 pm8 cd8 ct8 : Value} (a8 : PySem.W.findIn K (.ref C_Sums) "column_height" = some (some (.ref f8)))
     (i8 : PySem.W.isFn K (.ref f8) = true)
     (l8 : K.lookup f8 = some ⟨oc8, od8, .func (PySem.W.fnOf "column_height" "Sums.column_height" (defArgs s_Sums_column_height) (defBody s_Sums_column_height) (defScope s_Sums_column_height) .none kV8 dc8 pm8 an8 cd8 ct8), sl8⟩)
     (c8 : PySem.W.codeIn K cd8 "Sums.column_height" = true)
     (k8 : PySem.W.keepIn K (.ref f8) = true)
    {f9 : Addr} {od9 an9 : Option Addr} {sl9 : Array (Option Value)} {oc9 kV9 dc9 pm9 cd9 ct9 : Value} (a9 : PySem.W.findIn K (.ref C_Sums) "notes_height" = some (some (.ref f9)))
     (i9 : PySem.W.isFn K (.ref f9) = true)
     (l9 : K.lookup f9 = some ⟨oc9, od9, .func (PySem.W.fnOf "notes_height" "Sums.notes_height" (defArgs s_Sums_notes_height) (defBody s_Sums_notes_height) (defScope s_Sums_notes_height) .none kV9 dc9 pm9 an9 cd9 ct9), sl9⟩)
     (c9 : PySem.W.codeIn K cd9 "Sums.notes_height" = true)
     (k9 : PySem.W.keepIn K (.ref f9) = true)
    {f10 : Addr} {od10 an10 : Option Addr} {sl10 : Array (Option Value)} {oc10 kV10 dc10 pm10 cd10 ct10 : Value} (a10 : PySem.W.findIn K (.ref C_Sums) "floats_height" = some (some (.ref f10)))
     (i10 : PySem.W.isFn K (.ref f10) = true)
     (l10 : K.lookup f10 = some ⟨oc10, od10, .func (PySem.W.fnOf "floats_height" "Sums.floats_height" (defArgs s_Sums_floats_height) (defBody s_Sums_floats_height) (defScope s_Sums_floats_height) .none kV10 dc10 pm10 an10 cd10 ct10), sl10⟩)
     (c10 : PySem.W.codeIn K cd10 "Sums.floats_height" = true)
     (k10 : PySem.W.keepIn K (.ref f10) = true)
    {f11 : Addr} {od11 an11 : Option Addr} {sl11 : Array (Option Value)} {oc11 kV11 dc11 pm11 cd11 ct11 : Value} (a11 : PySem.W.findIn K (.ref C_Options) "__init__" = some (some (.ref f11)))
     (i11 : PySem.W.isFn K (.ref f11) = true)
     (l11 : K.lookup f11 = some ⟨oc11, od11, .func (PySem.W.fnOf "__init__" "Options.__init__" (defArgs s_Options___init__) (defBody s_Options___init__) (defScope s_Options___init__) .none kV11 dc11 pm11 an11 cd11 ct11), sl11⟩)
     (c11 : PySem.W.codeIn K cd11 "Options.__init__" = true)
     (k11 : PySem.W.keepIn K (.ref f11) = true)
    {f12 : Addr} {od12 an12 : Option Addr} {sl12 : Array (Option Value)} {oc12 kV12 dc12 pm12 cd12 ct12 : Value} (a12 : PySem.W.findIn K (.ref C_Options) "_least_floats_end" = some (some (.ref f12)))
     (i12 : PySem.W.isFn K (.ref f12) = true)
     (l12 : K.lookup f12 = some ⟨oc12, od12, .func (PySem.W.fnOf "_least_floats_end" "Options._least_floats_end" (defArgs s_Options__least_floats_end) (defBody s_Options__least_floats_end) (defScope s_Options__least_floats_end) .none kV12 dc12 pm12 an12 cd12 ct12), sl12⟩)
     (c12 : PySem.W.codeIn K cd12 "Options._least_floats_end" = true)
     (k12 : PySem.W.keepIn K (.ref f12) = true)
    {f13 : Addr} {od13 an13 : Option Addr} {sl13 : Array (Option Value)} {oc13 kV13 dc13 pm13 cd13 ct13 : Value} (a13 : PySem.W.findIn K (.ref C_Options) "_page_ends" = some (some (.ref f13)))
     (i13 : PySem.W.isFn K (.ref f13) = true)
     (l13 : K.lookup f13 = some ⟨oc13, od13, .func (PySem.W.fnOf "_page_ends" "Options._page_ends" (defArgs s_Options__page_ends) (defBody s_Options__page_ends) (defScope s_Options__page_ends) .none kV13 dc13 pm13 an13 cd13 ct13), sl13⟩)
     (c13 : PySem.W.codeIn K cd13 "Options._page_ends" = true)
     (k13 : PySem.W.keepIn K (.ref f13) = true)
    {f14 : Addr} {od14 an14 : Option Addr} {sl14 : Array (Option Value)} {oc14 kV14 dc14 pm14 cd14 ct14 : Value} (a14 : PySem.W.findIn K (.ref C_Options) "_moves_to" = some (some (.ref f14)))
     (i14 : PySem.W.isFn K (.ref f14) = true)
     (l14 : K.lookup f14 = some ⟨oc14, od14, .func (PySem.W.fnOf "_moves_to" "Options._moves_to" (defArgs s_Options__moves_to) (defBody s_Options__moves_to) (defScope s_Options__moves_to) .none kV14 dc14 pm14 an14 cd14 ct14), sl14⟩)
     (c14 : PySem.W.codeIn K cd14 "Options._moves_to" = true)
     (k14 : PySem.W.keepIn K (.ref f14) = true)
    {f15 : Addr} {od15 an15 : Option Addr} {sl15 : Array (Option Value)} {oc15 kV15 dc15 pm15 cd15 ct15 : Value} (a15 : PySem.W.findIn K (.ref C_Options) "moves" = some (some (.ref f15)))
     (i15 : PySem.W.isFn K (.ref f15) = true)
     (l15 : K.lookup f15 = some ⟨oc15, od15, .func (PySem.W.fnOf "moves" "Options.moves" (defArgs s_Options_moves) (defBody s_Options_moves) (defScope s_Options_moves) .none kV15 dc15 pm15 an15 cd15 ct15), sl15⟩)
     (c15 : PySem.W.codeIn K cd15 "Options.moves" = true)
     (k15 : PySem.W.keepIn K (.ref f15) = true)
    {f16 : Addr} {od16 an16 : Option Addr} {sl16 : Array (Option Value)} {oc16 kV16 dc16 pm16 cd16 ct16 : Value} (a16 : PySem.W.findIn K (.ref C_Options) "_splits" = some (some (.ref f16)))
     (i16 : PySem.W.isFn K (.ref f16) = true)
     (l16 : K.lookup f16 = some ⟨oc16, od16, .func (PySem.W.fnOf "_splits" "Options._splits" (defArgs s_Options__splits) (defBody s_Options__splits) (defScope s_Options__splits) .none kV16 dc16 pm16 an16 cd16 ct16), sl16⟩)
     (c16 : PySem.W.codeIn K cd16 "Options._splits" = true)
     (k16 : PySem.W.keepIn K (.ref f16) = true)
    {f17 : Addr} {od17 an17 : Option Addr} {sl17 : Array (Option Value)} {oc17 kV17 dc17 pm17 cd17 ct17 : Value} (a17 : PySem.W.findIn K (.ref C_Options) "_split_price" = some (some (.ref f17)))
     (i17 : PySem.W.isFn K (.ref f17) = true)
     (l17 : K.lookup f17 = some ⟨oc17, od17, .func (PySem.W.fnOf "_split_price" "Options._split_price" (defArgs s_Options__split_price) (defBody s_Options__split_price) (defScope s_Options__split_price) .none kV17 dc17 pm17 an17 cd17 ct17), sl17⟩)
     (c17 : PySem.W.codeIn K cd17 "Options._split_price" = true)
     (k17 : PySem.W.keepIn K (.ref f17) = true)
    {f18 : Addr} {od18 an18 : Option Addr} {sl18 : Array (Option Value)} {oc18 kV18 dc18 pm18 cd18 ct18 : Value} (a18 : PySem.W.findIn K (.ref C_Options) "split_prices" = some (some (.ref f18)))
     (i18 : PySem.W.isFn K (.ref f18) = true)
     (l18 : K.lookup f18 = some ⟨oc18, od18, .func (PySem.W.fnOf "split_prices" "Options.split_prices" (defArgs s_Options_split_prices) (defBody s_Options_split_prices) (defScope s_Options_split_prices) .none kV18 dc18 pm18 an18 cd18 ct18), sl18⟩)
     (c18 : PySem.W.codeIn K cd18 "Options.split_prices" = true)
     (k18 : PySem.W.keepIn K (.ref f18) = true)
    {f19 : Addr} {od19 an19 : Option Addr} {sl19 : Array (Option Value)} {oc19 kV19 dc19 pm19 cd19 ct19 : Value} (a19 : PySem.W.findIn K (.ref C_Options) "late_price" = some (some (.ref f19)))
     (i19 : PySem.W.isFn K (.ref f19) = true)
     (l19 : K.lookup f19 = some ⟨oc19, od19, .func (PySem.W.fnOf "late_price" "Options.late_price" (defArgs s_Options_late_price) (defBody s_Options_late_price) (defScope s_Options_late_price) .none kV19 dc19 pm19 an19 cd19 ct19), sl19⟩)
     (c19 : PySem.W.codeIn K cd19 "Options.late_price" = true)
     (k19 : PySem.W.keepIn K (.ref f19) = true)
    {f20 : Addr} {od20 an20 : Option Addr} {sl20 : Array (Option Value)} {oc20 kV20 dc20 pm20 cd20 ct20 : Value} (a20 : PySem.W.findIn K (.ref C_Options) "_best_split" = some (some (.ref f20)))
     (i20 : PySem.W.isFn K (.ref f20) = true)
     (l20 : K.lookup f20 = some ⟨oc20, od20, .func (PySem.W.fnOf "_best_split" "Options._best_split" (defArgs s_Options__best_split) (defBody s_Options__best_split) (defScope s_Options__best_split) .none kV20 dc20 pm20 an20 cd20 ct20), sl20⟩)
     (c20 : PySem.W.codeIn K cd20 "Options._best_split" = true)
     (k20 : PySem.W.keepIn K (.ref f20) = true)
    {f21 : Addr} {od21 an21 : Option Addr} {sl21 : Array (Option Value)} {oc21 kV21 dc21 pm21 cd21 ct21 : Value} (a21 : PySem.W.findIn K (.ref C_Options) "cheapest" = some (some (.ref f21)))
     (i21 : PySem.W.isFn K (.ref f21) = true)
     (l21 : K.lookup f21 = some ⟨oc21, od21, .func (PySem.W.fnOf "cheapest" "Options.cheapest" (defArgs s_Options_cheapest) (defBody s_Options_cheapest) (defScope s_Options_cheapest) .none kV21 dc21 pm21 an21 cd21 ct21), sl21⟩)
     (c21 : PySem.W.codeIn K cd21 "Options.cheapest" = true)
     (k21 : PySem.W.keepIn K (.ref f21) = true)
    {f22 : Addr} {od22 an22 : Option Addr} {sl22 : Array (Option Value)} {oc22 kV22 dc22 pm22 cd22 ct22 : Value} (a22 : PySem.W.nsIn K mainGlobals "page_options" = some (some (.ref f22)))
     (l22 : K.lookup f22 = some ⟨oc22, od22, .func (PySem.W.fnOf "page_options" "page_options" (defArgs s_page_options) (defBody s_page_options) (defScope s_page_options) .none kV22 dc22 pm22 an22 cd22 ct22), sl22⟩)
     (c22 : PySem.W.codeIn K cd22 "page_options" = true)
     (k22 : PySem.W.keepIn K (.ref f22) = true)
    {f23 kD23 : Addr} {od23 an23 : Option Addr} {sl23 : Array (Option Value)} {oc23 dc23 pm23 cd23 ct23 : Value} (a23 : PySem.W.findIn K (.ref C_Frame) "__init__" = some (some (.ref f23)))
     (i23 : PySem.W.isFn K (.ref f23) = true)
     (l23 : K.lookup f23 = some ⟨oc23, od23, .func (PySem.W.fnOf "__init__" "Frame.__init__" (defArgs s_Frame___init__) (defBody s_Frame___init__) (defScope s_Frame___init__) .none (.ref kD23) dc23 pm23 an23 cd23 ct23), sl23⟩)
    {kt23_0 : Tok} (kw23_0 : PySem.W.nsIn K kD23 "columns" = some (some (.int (1) kt23_0)))
    {kt23_1 : Tok} (kw23_1 : PySem.W.nsIn K kD23 "rule" = some (some (.int (4) kt23_1)))
    {kt23_2 : Tok} (kw23_2 : PySem.W.nsIn K kD23 "under" = some (some (.int (4) kt23_2)))
    {kt23_3 : Tok} (kw23_3 : PySem.W.nsIn K kD23 "wait" = some (some (.int (1) kt23_3)))
    {kt23_4 : Tok} (kw23_4 : PySem.W.nsIn K kD23 "late" = some (some (.int (50) kt23_4)))
    {kt23_5 : Tok} (kw23_5 : PySem.W.nsIn K kD23 "uneven" = some (some (.int (1) kt23_5)))
     (c23 : PySem.W.codeIn K cd23 "Frame.__init__" = true)
     (k23 : PySem.W.keepIn K (.ref f23) = true)
     (rd24 : PySem.W.readsIn K C_Frame (.type "type") = true)
     (ga24 : PySem.W.specialIn K (.ref C_Frame) "__getattribute__" = some (some (.builtin "type.__getattribute__")))
    {p24 : Addr} (fc24 : PySem.W.findCls K (.ref C_Frame) (.type "type") "of" = some (.get (.builtin "staticmethod.__get__") (.ref p24) .none (.ref C_Frame)))
    {f24 : Addr} {rest24 : List Value} {od24 an24 : Option Addr} {sl24 : Array (Option Value)} {oc24 kV24 dc24 pm24 cd24 ct24 : Value} (rc24 : PySem.W.recIn K p24 "staticmethod" = some (.ref f24 :: rest24))
     (l24 : K.lookup f24 = some ⟨oc24, od24, .func (PySem.W.fnOf "of" "Frame.of" (defArgs s_Frame_of) (defBody s_Frame_of) (defScope s_Frame_of) .none kV24 dc24 pm24 an24 cd24 ct24), sl24⟩)
     (c24 : PySem.W.codeIn K cd24 "Frame.of" = true)
     (k24 : PySem.W.keepIn K (.ref f24) = true)
    {f25 : Addr} {od25 an25 : Option Addr} {sl25 : Array (Option Value)} {oc25 kV25 dc25 pm25 cd25 ct25 : Value} (a25 : PySem.W.findIn K (.ref C_Frame) "key" = some (some (.ref f25)))
     (i25 : PySem.W.isFn K (.ref f25) = true)
     (l25 : K.lookup f25 = some ⟨oc25, od25, .func (PySem.W.fnOf "key" "Frame.key" (defArgs s_Frame_key) (defBody s_Frame_key) (defScope s_Frame_key) .none kV25 dc25 pm25 an25 cd25 ct25), sl25⟩)
     (c25 : PySem.W.codeIn K cd25 "Frame.key" = true)
     (k25 : PySem.W.keepIn K (.ref f25) = true)
    {f26 : Addr} {od26 an26 : Option Addr} {sl26 : Array (Option Value)} {oc26 kV26 dc26 pm26 cd26 ct26 : Value} (a26 : PySem.W.nsIn K mainGlobals "_law_pool" = some (some (.ref f26)))
     (l26 : K.lookup f26 = some ⟨oc26, od26, .func (PySem.W.fnOf "_law_pool" "_law_pool" (defArgs s__law_pool) (defBody s__law_pool) (defScope s__law_pool) .none kV26 dc26 pm26 an26 cd26 ct26), sl26⟩)
     (c26 : PySem.W.codeIn K cd26 "_law_pool" = true)
     (k26 : PySem.W.keepIn K (.ref f26) = true)
    {f27 : Addr} {od27 an27 : Option Addr} {sl27 : Array (Option Value)} {oc27 kV27 dc27 pm27 cd27 ct27 : Value} (a27 : PySem.W.nsIn K mainGlobals "_law_take" = some (some (.ref f27)))
     (l27 : K.lookup f27 = some ⟨oc27, od27, .func (PySem.W.fnOf "_law_take" "_law_take" (defArgs s__law_take) (defBody s__law_take) (defScope s__law_take) .none kV27 dc27 pm27 an27 cd27 ct27), sl27⟩)
     (c27 : PySem.W.codeIn K cd27 "_law_take" = true)
     (k27 : PySem.W.keepIn K (.ref f27) = true)
    {f28 : Addr} {od28 an28 : Option Addr} {sl28 : Array (Option Value)} {oc28 kV28 dc28 pm28 cd28 ct28 : Value} (a28 : PySem.W.nsIn K mainGlobals "_law_same" = some (some (.ref f28)))
     (l28 : K.lookup f28 = some ⟨oc28, od28, .func (PySem.W.fnOf "_law_same" "_law_same" (defArgs s__law_same) (defBody s__law_same) (defScope s__law_same) .none kV28 dc28 pm28 an28 cd28 ct28), sl28⟩)
     (c28 : PySem.W.codeIn K cd28 "_law_same" = true)
     (k28 : PySem.W.keepIn K (.ref f28) = true)
    {f29 : Addr} {od29 an29 : Option Addr} {sl29 : Array (Option Value)} {oc29 kV29 dc29 pm29 cd29 ct29 : Value} (a29 : PySem.W.nsIn K mainGlobals "_law_ranges" = some (some (.ref f29)))
     (l29 : K.lookup f29 = some ⟨oc29, od29, .func (PySem.W.fnOf "_law_ranges" "_law_ranges" (defArgs s__law_ranges) (defBody s__law_ranges) (defScope s__law_ranges) .none kV29 dc29 pm29 an29 cd29 ct29), sl29⟩)
     (c29 : PySem.W.codeIn K cd29 "_law_ranges" = true)
     (k29 : PySem.W.keepIn K (.ref f29) = true)
    {f30 : Addr} {od30 an30 : Option Addr} {sl30 : Array (Option Value)} {oc30 kV30 dc30 pm30 cd30 ct30 : Value} (a30 : PySem.W.nsIn K mainGlobals "_law_frame_key" = some (some (.ref f30)))
     (l30 : K.lookup f30 = some ⟨oc30, od30, .func (PySem.W.fnOf "_law_frame_key" "_law_frame_key" (defArgs s__law_frame_key) (defBody s__law_frame_key) (defScope s__law_frame_key) .none kV30 dc30 pm30 an30 cd30 ct30), sl30⟩)
     (c30 : PySem.W.codeIn K cd30 "_law_frame_key" = true)
     (k30 : PySem.W.keepIn K (.ref f30) = true)
    {f31 : Addr} {od31 an31 : Option Addr} {sl31 : Array (Option Value)} {oc31 kV31 dc31 pm31 cd31 ct31 : Value} (a31 : PySem.W.nsIn K mainGlobals "_law_frame" = some (some (.ref f31)))
     (l31 : K.lookup f31 = some ⟨oc31, od31, .func (PySem.W.fnOf "_law_frame" "_law_frame" (defArgs s__law_frame) (defBody s__law_frame) (defScope s__law_frame) .none kV31 dc31 pm31 an31 cd31 ct31), sl31⟩)
     (c31 : PySem.W.codeIn K cd31 "_law_frame" = true)
     (k31 : PySem.W.keepIn K (.ref f31) = true)
    {f32 : Addr} {od32 an32 : Option Addr} {sl32 : Array (Option Value)} {oc32 kV32 dc32 pm32 cd32 ct32 : Value} (a32 : PySem.W.nsIn K mainGlobals "_law_heights" = some (some (.ref f32)))
     (l32 : K.lookup f32 = some ⟨oc32, od32, .func (PySem.W.fnOf "_law_heights" "_law_heights" (defArgs s__law_heights) (defBody s__law_heights) (defScope s__law_heights) .none kV32 dc32 pm32 an32 cd32 ct32), sl32⟩)
     (c32 : PySem.W.codeIn K cd32 "_law_heights" = true)
     (k32 : PySem.W.keepIn K (.ref f32) = true)
    {f33 : Addr} {od33 an33 : Option Addr} {sl33 : Array (Option Value)} {oc33 kV33 dc33 pm33 cd33 ct33 : Value} (a33 : PySem.W.nsIn K mainGlobals "_law_galley" = some (some (.ref f33)))
     (l33 : K.lookup f33 = some ⟨oc33, od33, .func (PySem.W.fnOf "_law_galley" "_law_galley" (defArgs s__law_galley) (defBody s__law_galley) (defScope s__law_galley) .none kV33 dc33 pm33 an33 cd33 ct33), sl33⟩)
     (c33 : PySem.W.codeIn K cd33 "_law_galley" = true)
     (k33 : PySem.W.keepIn K (.ref f33) = true)
    {f34 : Addr} {od34 an34 : Option Addr} {sl34 : Array (Option Value)} {oc34 kV34 dc34 pm34 cd34 ct34 : Value} (a34 : PySem.W.nsIn K mainGlobals "_law_float_rows" = some (some (.ref f34)))
     (l34 : K.lookup f34 = some ⟨oc34, od34, .func (PySem.W.fnOf "_law_float_rows" "_law_float_rows" (defArgs s__law_float_rows) (defBody s__law_float_rows) (defScope s__law_float_rows) .none kV34 dc34 pm34 an34 cd34 ct34), sl34⟩)
     (c34 : PySem.W.codeIn K cd34 "_law_float_rows" = true)
     (k34 : PySem.W.keepIn K (.ref f34) = true)
    {f35 : Addr} {od35 an35 : Option Addr} {sl35 : Array (Option Value)} {oc35 kV35 dc35 pm35 cd35 ct35 : Value} (a35 : PySem.W.nsIn K mainGlobals "_law_column" = some (some (.ref f35)))
     (l35 : K.lookup f35 = some ⟨oc35, od35, .func (PySem.W.fnOf "_law_column" "_law_column" (defArgs s__law_column) (defBody s__law_column) (defScope s__law_column) .none kV35 dc35 pm35 an35 cd35 ct35), sl35⟩)
     (c35 : PySem.W.codeIn K cd35 "_law_column" = true)
     (k35 : PySem.W.keepIn K (.ref f35) = true)
    {f36 : Addr} {od36 an36 : Option Addr} {sl36 : Array (Option Value)} {oc36 kV36 dc36 pm36 cd36 ct36 : Value} (a36 : PySem.W.nsIn K mainGlobals "_law_cuts" = some (some (.ref f36)))
     (l36 : K.lookup f36 = some ⟨oc36, od36, .func (PySem.W.fnOf "_law_cuts" "_law_cuts" (defArgs s__law_cuts) (defBody s__law_cuts) (defScope s__law_cuts) .none kV36 dc36 pm36 an36 cd36 ct36), sl36⟩)
     (c36 : PySem.W.codeIn K cd36 "_law_cuts" = true)
     (k36 : PySem.W.keepIn K (.ref f36) = true)
    {f37 : Addr} {od37 an37 : Option Addr} {sl37 : Array (Option Value)} {oc37 kV37 dc37 pm37 cd37 ct37 : Value} (a37 : PySem.W.nsIn K mainGlobals "_law_older" = some (some (.ref f37)))
     (l37 : K.lookup f37 = some ⟨oc37, od37, .func (PySem.W.fnOf "_law_older" "_law_older" (defArgs s__law_older) (defBody s__law_older) (defScope s__law_older) .none kV37 dc37 pm37 an37 cd37 ct37), sl37⟩)
     (c37 : PySem.W.codeIn K cd37 "_law_older" = true)
     (k37 : PySem.W.keepIn K (.ref f37) = true)
    {f38 : Addr} {od38 an38 : Option Addr} {sl38 : Array (Option Value)} {oc38 kV38 dc38 pm38 cd38 ct38 : Value} (a38 : PySem.W.nsIn K mainGlobals "_law_page" = some (some (.ref f38)))
     (l38 : K.lookup f38 = some ⟨oc38, od38, .func (PySem.W.fnOf "_law_page" "_law_page" (defArgs s__law_page) (defBody s__law_page) (defScope s__law_page) .none kV38 dc38 pm38 an38 cd38 ct38), sl38⟩)
     (c38 : PySem.W.codeIn K cd38 "_law_page" = true)
     (k38 : PySem.W.keepIn K (.ref f38) = true)
    {f39 : Addr} {od39 an39 : Option Addr} {sl39 : Array (Option Value)} {oc39 kV39 dc39 pm39 cd39 ct39 : Value} (a39 : PySem.W.nsIn K mainGlobals "_law_pages" = some (some (.ref f39)))
     (l39 : K.lookup f39 = some ⟨oc39, od39, .func (PySem.W.fnOf "_law_pages" "_law_pages" (defArgs s__law_pages) (defBody s__law_pages) (defScope s__law_pages) .none kV39 dc39 pm39 an39 cd39 ct39), sl39⟩)
     (c39 : PySem.W.codeIn K cd39 "_law_pages" = true)
     (k39 : PySem.W.keepIn K (.ref f39) = true)
    {f40 : Addr} {od40 an40 : Option Addr} {sl40 : Array (Option Value)} {oc40 kV40 dc40 pm40 cd40 ct40 : Value} (a40 : PySem.W.nsIn K mainGlobals "law" = some (some (.ref f40)))
     (l40 : K.lookup f40 = some ⟨oc40, od40, .func (PySem.W.fnOf "law" "law" (defArgs s_law) (defBody s_law) (defScope s_law) .none kV40 dc40 pm40 an40 cd40 ct40), sl40⟩)
     (c40 : PySem.W.codeIn K cd40 "law" = true)
     (k40 : PySem.W.keepIn K (.ref f40) = true)
     (z_abs : PySem.W.nsIn K mainGlobals "abs" = some none)
     (z_bool : PySem.W.nsIn K mainGlobals "bool" = some none)
     (z_enumerate : PySem.W.nsIn K mainGlobals "enumerate" = some none)
     (z_int : PySem.W.nsIn K mainGlobals "int" = some none)
     (z_isinstance : PySem.W.nsIn K mainGlobals "isinstance" = some none)
     (z_len : PySem.W.nsIn K mainGlobals "len" = some none)
     (z_list : PySem.W.nsIn K mainGlobals "list" = some none)
     (z_max : PySem.W.nsIn K mainGlobals "max" = some none)
     (z_min : PySem.W.nsIn K mainGlobals "min" = some none)
     (z_range : PySem.W.nsIn K mainGlobals "range" = some none)
     (z_str : PySem.W.nsIn K mainGlobals "str" = some none)
     (z_sum : PySem.W.nsIn K mainGlobals "sum" = some none)
     (z_tuple : PySem.W.nsIn K mainGlobals "tuple" = some none)
    : ∃ fd : FuncData, (∀ (s : Shared) (v : Value), BindsTo s fd ⟨[v], []⟩ [("_law_script", v)]) ∧ ∀ base : Heap, K.In base → base.Ns mainGlobals mg → FnOk l.prog w K mg base CX0 7 fa fd ["_law_script"] (liftSp K spLaw) := by
  have e := hfa.symm.trans (PySem.W.mg_of X G a40)
  cases e
  have T : Txt K mg ⟨C_Frame, C_Options, C_Sums⟩ := ⟨PySem.W.mg_none_of X G z_abs, PySem.W.mg_none_of X G z_bool, PySem.W.mg_none_of X G z_enumerate, PySem.W.mg_none_of X G z_int, PySem.W.mg_none_of X G z_isinstance, PySem.W.mg_none_of X G z_len, PySem.W.mg_none_of X G z_list, PySem.W.mg_none_of X G z_max, PySem.W.mg_none_of X G z_min, PySem.W.mg_none_of X G z_range, PySem.W.mg_none_of X G z_str, PySem.W.mg_none_of X G z_sum, PySem.W.mg_none_of X G z_tuple, ⟨⟨_, .ref C_Frame, PySem.W.mg_of X G ca_Frame, rfl, fun _ => rfl⟩⟩, PySem.W.mg_of X G ca_Frame, ⟨pg_Frame, hd_Frame, po_Frame, sa_Frame⟩, ⟨⟨pg_Frame, hd_Frame, po_Frame, sa_Frame⟩, nf_height_Frame⟩, ⟨⟨pg_Frame, hd_Frame, po_Frame, sa_Frame⟩, nf_columns_Frame⟩, ⟨⟨pg_Frame, hd_Frame, po_Frame, sa_Frame⟩, nf_rule_Frame⟩, ⟨⟨pg_Frame, hd_Frame, po_Frame, sa_Frame⟩, nf_under_Frame⟩, ⟨⟨pg_Frame, hd_Frame, po_Frame, sa_Frame⟩, nf_wait_Frame⟩, ⟨⟨pg_Frame, hd_Frame, po_Frame, sa_Frame⟩, nf_late_Frame⟩, ⟨⟨pg_Frame, hd_Frame, po_Frame, sa_Frame⟩, nf_uneven_Frame⟩, ⟨⟨pg_Frame, hd_Frame, po_Frame, sa_Frame⟩, ha_Frame, hn_Frame, ht_Frame, hm_Frame⟩, kk_Frame, ⟨sf_Frame⟩, ⟨⟨_, .ref C_Options, PySem.W.mg_of X G ca_Options, rfl, fun _ => rfl⟩⟩, PySem.W.mg_of X G ca_Options, ⟨pg_Options, hd_Options, po_Options, sa_Options⟩, ⟨⟨pg_Options, hd_Options, po_Options, sa_Options⟩, nf__sums_Options⟩, ⟨⟨pg_Options, hd_Options, po_Options, sa_Options⟩, nf__frame_Options⟩, ⟨⟨pg_Options, hd_Options, po_Options, sa_Options⟩, nf__best_Options⟩, ⟨⟨pg_Options, hd_Options, po_Options, sa_Options⟩, nf_last_state_Options⟩, ⟨⟨pg_Options, hd_Options, po_Options, sa_Options⟩, ha_Options, hn_Options, ht_Options, hm_Options⟩, kk_Options, ⟨sf_Options⟩, ⟨⟨_, .ref C_Sums, PySem.W.mg_of X G ca_Sums, rfl, fun _ => rfl⟩⟩, PySem.W.mg_of X G ca_Sums, ⟨pg_Sums, hd_Sums, po_Sums, sa_Sums⟩, ⟨⟨pg_Sums, hd_Sums, po_Sums, sa_Sums⟩, nf__cuts_Sums⟩, ⟨⟨pg_Sums, hd_Sums, po_Sums, sa_Sums⟩, nf__heights_Sums⟩, ⟨⟨pg_Sums, hd_Sums, po_Sums, sa_Sums⟩, nf__spaces_Sums⟩, ⟨⟨pg_Sums, hd_Sums, po_Sums, sa_Sums⟩, nf__notes_Sums⟩, ⟨⟨pg_Sums, hd_Sums, po_Sums, sa_Sums⟩, nf__many_notes_Sums⟩, ⟨⟨pg_Sums, hd_Sums, po_Sums, sa_Sums⟩, nf__many_floats_Sums⟩, ⟨⟨pg_Sums, hd_Sums, po_Sums, sa_Sums⟩, nf__floats_Sums⟩, ⟨⟨pg_Sums, hd_Sums, po_Sums, sa_Sums⟩, ha_Sums, hn_Sums, ht_Sums, hm_Sums⟩, kk_Sums, ⟨sf_Sums⟩⟩
  have d__wall : DefAt K mg "_wall" s__wall ["k"] := ⟨_, _, fun_mk (st := s__wall) l0 c0 k0, PySem.W.mg_of X G a0, (fun_mk (st := s__wall) l0 c0 k0).binds (ps := ["k"]) fun _ _ _ _ _ _ us hl => match us, hl with | [_], _ => rfl⟩
  have d__running : DefAt K mg "_running" s__running ["numbers"] := ⟨_, _, fun_mk (st := s__running) l1 c1 k1, PySem.W.mg_of X G a1, (fun_mk (st := s__running) l1 c1 k1).binds (ps := ["numbers"]) fun _ _ _ _ _ _ us hl => match us, hl with | [_], _ => rfl⟩
  have d_Sums___init__ : InitAt K C_Sums "Sums.__init__" s_Sums___init__ ["self", "galley"] := ⟨_, _, fun_mk (st := s_Sums___init__) l2 c2 k2, ⟨mk_Sums, a2, i2, kc_Sums⟩, (fun_mk (st := s_Sums___init__) l2 c2 k2).binds (ps := ["self", "galley"]) fun _ _ _ _ _ _ us hl => match us, hl with | [_, _], _ => rfl⟩
  have d_Sums_last_line : MethAt K C_Sums "last_line" "Sums.last_line" s_Sums_last_line ["self"] := ⟨_, _, fun_mk (st := s_Sums_last_line) l3 c3 k3, ⟨a3, i3, k3⟩, (fun_mk (st := s_Sums_last_line) l3 c3 k3).binds (ps := ["self"]) fun _ _ _ _ _ _ us hl => match us, hl with | [_], _ => rfl⟩
  have d_Sums_last_float : MethAt K C_Sums "last_float" "Sums.last_float" s_Sums_last_float ["self"] := ⟨_, _, fun_mk (st := s_Sums_last_float) l4 c4 k4, ⟨a4, i4, k4⟩, (fun_mk (st := s_Sums_last_float) l4 c4 k4).binds (ps := ["self"]) fun _ _ _ _ _ _ us hl => match us, hl with | [_], _ => rfl⟩
  have d_Sums_may_cut : MethAt K C_Sums "may_cut" "Sums.may_cut" s_Sums_may_cut ["self", "line"] := ⟨_, _, fun_mk (st := s_Sums_may_cut) l5 c5 k5, ⟨a5, i5, k5⟩, (fun_mk (st := s_Sums_may_cut) l5 c5 k5).binds (ps := ["self", "line"]) fun _ _ _ _ _ _ us hl => match us, hl with | [_, _], _ => rfl⟩
  have d_Sums_marked_before : MethAt K C_Sums "marked_before" "Sums.marked_before" s_Sums_marked_before ["self", "line"] := ⟨_, _, fun_mk (st := s_Sums_marked_before) l6 c6 k6, ⟨a6, i6, k6⟩, (fun_mk (st := s_Sums_marked_before) l6 c6 k6).binds (ps := ["self", "line"]) fun _ _ _ _ _ _ us hl => match us, hl with | [_, _], _ => rfl⟩
  have d_Sums_lines_height : MethAt K C_Sums "lines_height" "Sums.lines_height" s_Sums_lines_height ["self", "start", "end"] := ⟨_, _, fun_mk (st := s_Sums_lines_height) l7 c7 k7, ⟨a7, i7, k7⟩, (fun_mk (st := s_Sums_lines_height) l7 c7 k7).binds (ps := ["self", "start", "end"]) fun _ _ _ _ _ _ us hl => match us, hl with | [_, _, _], _ => rfl⟩
  have d_Sums_column_height : MethAt K C_Sums "column_height" "Sums.column_height" s_Sums_column_height ["self", "start", "end"] := ⟨_, _, fun_mk (st := s_Sums_column_height) l8 c8 k8, ⟨a8, i8, k8⟩, (fun_mk (st := s_Sums_column_height) l8 c8 k8).binds (ps := ["self", "start", "end"]) fun _ _ _ _ _ _ us hl => match us, hl with | [_, _, _], _ => rfl⟩
  have d_Sums_notes_height : MethAt K C_Sums "notes_height" "Sums.notes_height" s_Sums_notes_height ["self", "start", "end", "rule"] := ⟨_, _, fun_mk (st := s_Sums_notes_height) l9 c9 k9, ⟨a9, i9, k9⟩, (fun_mk (st := s_Sums_notes_height) l9 c9 k9).binds (ps := ["self", "start", "end", "rule"]) fun _ _ _ _ _ _ us hl => match us, hl with | [_, _, _, _], _ => rfl⟩
  have d_Sums_floats_height : MethAt K C_Sums "floats_height" "Sums.floats_height" s_Sums_floats_height ["self", "start", "end", "under"] := ⟨_, _, fun_mk (st := s_Sums_floats_height) l10 c10 k10, ⟨a10, i10, k10⟩, (fun_mk (st := s_Sums_floats_height) l10 c10 k10).binds (ps := ["self", "start", "end", "under"]) fun _ _ _ _ _ _ us hl => match us, hl with | [_, _, _, _], _ => rfl⟩
  have d_Options___init__ : InitAt K C_Options "Options.__init__" s_Options___init__ ["self", "galley", "frame"] := ⟨_, _, fun_mk (st := s_Options___init__) l11 c11 k11, ⟨mk_Options, a11, i11, kc_Options⟩, (fun_mk (st := s_Options___init__) l11 c11 k11).binds (ps := ["self", "galley", "frame"]) fun _ _ _ _ _ _ us hl => match us, hl with | [_, _, _], _ => rfl⟩
  have d_Options__least_floats_end : MethAt K C_Options "_least_floats_end" "Options._least_floats_end" s_Options__least_floats_end ["self", "state", "end"] := ⟨_, _, fun_mk (st := s_Options__least_floats_end) l12 c12 k12, ⟨a12, i12, k12⟩, (fun_mk (st := s_Options__least_floats_end) l12 c12 k12).binds (ps := ["self", "state", "end"]) fun _ _ _ _ _ _ us hl => match us, hl with | [_, _, _], _ => rfl⟩
  have d_Options__page_ends : MethAt K C_Options "_page_ends" "Options._page_ends" s_Options__page_ends ["self", "line"] := ⟨_, _, fun_mk (st := s_Options__page_ends) l13 c13 k13, ⟨a13, i13, k13⟩, (fun_mk (st := s_Options__page_ends) l13 c13 k13).binds (ps := ["self", "line"]) fun _ _ _ _ _ _ us hl => match us, hl with | [_, _], _ => rfl⟩
  have d_Options__moves_to : MethAt K C_Options "_moves_to" "Options._moves_to" s_Options__moves_to ["self", "state", "end"] := ⟨_, _, fun_mk (st := s_Options__moves_to) l14 c14 k14, ⟨a14, i14, k14⟩, (fun_mk (st := s_Options__moves_to) l14 c14 k14).binds (ps := ["self", "state", "end"]) fun _ _ _ _ _ _ us hl => match us, hl with | [_, _, _], _ => rfl⟩
  have d_Options_moves : MethAt K C_Options "moves" "Options.moves" s_Options_moves ["self", "state"] := ⟨_, _, fun_mk (st := s_Options_moves) l15 c15 k15, ⟨a15, i15, k15⟩, (fun_mk (st := s_Options_moves) l15 c15 k15).binds (ps := ["self", "state"]) fun _ _ _ _ _ _ us hl => match us, hl with | [_, _], _ => rfl⟩
  have d_Options__splits : MethAt K C_Options "_splits" "Options._splits" s_Options__splits ["self", "line", "end"] := ⟨_, _, fun_mk (st := s_Options__splits) l16 c16 k16, ⟨a16, i16, k16⟩, (fun_mk (st := s_Options__splits) l16 c16 k16).binds (ps := ["self", "line", "end"]) fun _ _ _ _ _ _ us hl => match us, hl with | [_, _, _], _ => rfl⟩
  have d_Options__split_price : MethAt K C_Options "_split_price" "Options._split_price" s_Options__split_price ["self", "line", "end", "split", "room", "is_last"] := ⟨_, _, fun_mk (st := s_Options__split_price) l17 c17 k17, ⟨a17, i17, k17⟩, (fun_mk (st := s_Options__split_price) l17 c17 k17).binds (ps := ["self", "line", "end", "split", "room", "is_last"]) fun _ _ _ _ _ _ us hl => match us, hl with | [_, _, _, _, _, _], _ => rfl⟩
  have d_Options_split_prices : MethAt K C_Options "split_prices" "Options.split_prices" s_Options_split_prices ["self", "line", "end", "room", "is_last"] := ⟨_, _, fun_mk (st := s_Options_split_prices) l18 c18 k18, ⟨a18, i18, k18⟩, (fun_mk (st := s_Options_split_prices) l18 c18 k18).binds (ps := ["self", "line", "end", "room", "is_last"]) fun _ _ _ _ _ _ us hl => match us, hl with | [_, _, _, _, _], _ => rfl⟩
  have d_Options_late_price : MethAt K C_Options "late_price" "Options.late_price" s_Options_late_price ["self", "state"] := ⟨_, _, fun_mk (st := s_Options_late_price) l19 c19 k19, ⟨a19, i19, k19⟩, (fun_mk (st := s_Options_late_price) l19 c19 k19).binds (ps := ["self", "state"]) fun _ _ _ _ _ _ us hl => match us, hl with | [_, _], _ => rfl⟩
  have d_Options__best_split : MethAt K C_Options "_best_split" "Options._best_split" s_Options__best_split ["self", "line", "end", "room", "is_last"] := ⟨_, _, fun_mk (st := s_Options__best_split) l20 c20 k20, ⟨a20, i20, k20⟩, (fun_mk (st := s_Options__best_split) l20 c20 k20).binds (ps := ["self", "line", "end", "room", "is_last"]) fun _ _ _ _ _ _ us hl => match us, hl with | [_, _, _, _, _], _ => rfl⟩
  have d_Options_cheapest : MethAt K C_Options "cheapest" "Options.cheapest" s_Options_cheapest ["self", "state"] := ⟨_, _, fun_mk (st := s_Options_cheapest) l21 c21 k21, ⟨a21, i21, k21⟩, (fun_mk (st := s_Options_cheapest) l21 c21 k21).binds (ps := ["self", "state"]) fun _ _ _ _ _ _ us hl => match us, hl with | [_, _], _ => rfl⟩
  have d_page_options : DefAt K mg "page_options" s_page_options ["galley", "frame", "state"] := ⟨_, _, fun_mk (st := s_page_options) l22 c22 k22, PySem.W.mg_of X G a22, (fun_mk (st := s_page_options) l22 c22 k22).binds (ps := ["galley", "frame", "state"]) fun _ _ _ _ _ _ us hl => match us, hl with | [_, _, _], _ => rfl⟩
  have d_Frame___init__ : InitK K C_Frame "Frame.__init__" s_Frame___init__ [("columns", (.i (1))), ("rule", (.i (4))), ("under", (.i (4))), ("wait", (.i (1))), ("late", (.i (50))), ("uneven", (.i (1)))] := ⟨_, _, ⟨⟨_, _, .none, .ref kD23, _, _, _, _, _, _, rfl, l23, c23, .inl ⟨rfl, rfl⟩, .inr ⟨kD23, rfl, kwAll_mem (.cons kw23_0 ⟨_, rfl⟩ (.cons kw23_1 ⟨_, rfl⟩ (.cons kw23_2 ⟨_, rfl⟩ (.cons kw23_3 ⟨_, rfl⟩ (.cons kw23_4 ⟨_, rfl⟩ (.cons kw23_5 ⟨_, rfl⟩ .nil))))))⟩⟩, k23⟩, ⟨mk_Frame, a23, i23, kc_Frame⟩⟩
  have d_Frame_of : StatAt K C_Frame "of" "Frame.of" s_Frame_of ["key"] := ⟨_, _, fun_mk (st := s_Frame_of) l24 c24 k24, ⟨rd24, ga24, ⟨_, _, fc24, rc24⟩, k24⟩, (fun_mk (st := s_Frame_of) l24 c24 k24).binds (ps := ["key"]) fun _ _ _ _ _ _ us hl => match us, hl with | [_], _ => rfl⟩
  have d_Frame_key : MethAt K C_Frame "key" "Frame.key" s_Frame_key ["self"] := ⟨_, _, fun_mk (st := s_Frame_key) l25 c25 k25, ⟨a25, i25, k25⟩, (fun_mk (st := s_Frame_key) l25 c25 k25).binds (ps := ["self"]) fun _ _ _ _ _ _ us hl => match us, hl with | [_], _ => rfl⟩
  have d__law_pool : DefAt K mg "_law_pool" s__law_pool ["_law_script", "_law_at"] := ⟨_, _, fun_mk (st := s__law_pool) l26 c26 k26, PySem.W.mg_of X G a26, (fun_mk (st := s__law_pool) l26 c26 k26).binds (ps := ["_law_script", "_law_at"]) fun _ _ _ _ _ _ us hl => match us, hl with | [_, _], _ => rfl⟩
  have d__law_take : DefAt K mg "_law_take" s__law_take ["_law_pool_here", "_law_many"] := ⟨_, _, fun_mk (st := s__law_take) l27 c27 k27, PySem.W.mg_of X G a27, (fun_mk (st := s__law_take) l27 c27 k27).binds (ps := ["_law_pool_here", "_law_many"]) fun _ _ _ _ _ _ us hl => match us, hl with | [_, _], _ => rfl⟩
  have d__law_same : DefAt K mg "_law_same" s__law_same ["_law_one", "_law_two"] := ⟨_, _, fun_mk (st := s__law_same) l28 c28 k28, PySem.W.mg_of X G a28, (fun_mk (st := s__law_same) l28 c28 k28).binds (ps := ["_law_one", "_law_two"]) fun _ _ _ _ _ _ us hl => match us, hl with | [_, _], _ => rfl⟩
  have d__law_ranges : DefAt K mg "_law_ranges" s__law_ranges ["_law_pool_here"] := ⟨_, _, fun_mk (st := s__law_ranges) l29 c29 k29, PySem.W.mg_of X G a29, (fun_mk (st := s__law_ranges) l29 c29 k29).binds (ps := ["_law_pool_here"]) fun _ _ _ _ _ _ us hl => match us, hl with | [_], _ => rfl⟩
  have d__law_frame_key : DefAt K mg "_law_frame_key" s__law_frame_key ["_law_pool_here", "_law_scale"] := ⟨_, _, fun_mk (st := s__law_frame_key) l30 c30 k30, PySem.W.mg_of X G a30, (fun_mk (st := s__law_frame_key) l30 c30 k30).binds (ps := ["_law_pool_here", "_law_scale"]) fun _ _ _ _ _ _ us hl => match us, hl with | [_, _], _ => rfl⟩
  have d__law_frame : DefAt K mg "_law_frame" s__law_frame ["_law_key", "_law_way"] := ⟨_, _, fun_mk (st := s__law_frame) l31 c31 k31, PySem.W.mg_of X G a31, (fun_mk (st := s__law_frame) l31 c31 k31).binds (ps := ["_law_key", "_law_way"]) fun _ _ _ _ _ _ us hl => match us, hl with | [_, _], _ => rfl⟩
  have d__law_heights : DefAt K mg "_law_heights" s__law_heights ["_law_pool_here", "_law_many", "_law_tall"] := ⟨_, _, fun_mk (st := s__law_heights) l32 c32 k32, PySem.W.mg_of X G a32, (fun_mk (st := s__law_heights) l32 c32 k32).binds (ps := ["_law_pool_here", "_law_many", "_law_tall"]) fun _ _ _ _ _ _ us hl => match us, hl with | [_, _, _], _ => rfl⟩
  have d__law_galley : DefAt K mg "_law_galley" s__law_galley ["_law_pool_here", "_law_longest", "_law_limit", "_law_scale"] := ⟨_, _, fun_mk (st := s__law_galley) l33 c33 k33, PySem.W.mg_of X G a33, (fun_mk (st := s__law_galley) l33 c33 k33).binds (ps := ["_law_pool_here", "_law_longest", "_law_limit", "_law_scale"]) fun _ _ _ _ _ _ us hl => match us, hl with | [_, _, _, _], _ => rfl⟩
  have d__law_float_rows : DefAt K mg "_law_float_rows" s__law_float_rows ["_law_galley_here"] := ⟨_, _, fun_mk (st := s__law_float_rows) l34 c34 k34, PySem.W.mg_of X G a34, (fun_mk (st := s__law_float_rows) l34 c34 k34).binds (ps := ["_law_galley_here"]) fun _ _ _ _ _ _ us hl => match us, hl with | [_], _ => rfl⟩
  have d__law_column : DefAt K mg "_law_column" s__law_column ["_law_galley_here", "_law_start", "_law_end"] := ⟨_, _, fun_mk (st := s__law_column) l35 c35 k35, PySem.W.mg_of X G a35, (fun_mk (st := s__law_column) l35 c35 k35).binds (ps := ["_law_galley_here", "_law_start", "_law_end"]) fun _ _ _ _ _ _ us hl => match us, hl with | [_, _, _], _ => rfl⟩
  have d__law_cuts : DefAt K mg "_law_cuts" s__law_cuts ["_law_galley_here", "_law_line", "_law_triple", "_law_cols"] := ⟨_, _, fun_mk (st := s__law_cuts) l36 c36 k36, PySem.W.mg_of X G a36, (fun_mk (st := s__law_cuts) l36 c36 k36).binds (ps := ["_law_galley_here", "_law_line", "_law_triple", "_law_cols"]) fun _ _ _ _ _ _ us hl => match us, hl with | [_, _, _, _], _ => rfl⟩
  have d__law_older : DefAt K mg "_law_older" s__law_older ["_law_rows", "_law_state", "_law_triple"] := ⟨_, _, fun_mk (st := s__law_older) l37 c37 k37, PySem.W.mg_of X G a37, (fun_mk (st := s__law_older) l37 c37 k37).binds (ps := ["_law_rows", "_law_state", "_law_triple"]) fun _ _ _ _ _ _ us hl => match us, hl with | [_, _, _], _ => rfl⟩
  have d__law_page : DefAt K mg "_law_page" s__law_page ["_law_galley_here", "_law_rows", "_law_key", "_law_state", "_law_triple"] := ⟨_, _, fun_mk (st := s__law_page) l38 c38 k38, PySem.W.mg_of X G a38, (fun_mk (st := s__law_page) l38 c38 k38).binds (ps := ["_law_galley_here", "_law_rows", "_law_key", "_law_state", "_law_triple"]) fun _ _ _ _ _ _ us hl => match us, hl with | [_, _, _, _, _], _ => rfl⟩
  have d__law_pages : DefAt K mg "_law_pages" s__law_pages ["_law_galley_here", "_law_rows", "_law_key", "_law_state"] := ⟨_, _, fun_mk (st := s__law_pages) l39 c39 k39, PySem.W.mg_of X G a39, (fun_mk (st := s__law_pages) l39 c39 k39).binds (ps := ["_law_galley_here", "_law_rows", "_law_key", "_law_state"]) fun _ _ _ _ _ _ us hl => match us, hl with | [_, _, _, _], _ => rfl⟩
  have F40 := fun_mk (st := s_law) l40 c40 k40
  refine ⟨PySem.W.fnOf "law" "law" (defArgs s_law) (defBody s_law) (defScope s_law) .none kV40 dc40 pm40 an40 cd40 ct40, fun s v => .of_eq rfl, fun base _ _ => ?_⟩
  have c_take := (ok__law_take (P := l.prog) (w := w) (base := base) T d__law_take).hd
  have c_pool := (ok__law_pool (P := l.prog) (w := w) (base := base) T d__law_pool).hd
  have c_rg := (ok__law_ranges T c_take d__law_ranges).hd
  have c_ky := (ok__law_frame_key T c_take d__law_frame_key).hd
  have c_k6 := (ok_Frame_k6 (P := l.prog) (w := w) (mg := mg) (base := base) T d_Frame___init__).hd
  have c_of := (ok_Frame_of T c_k6 d_Frame_of).hd
  have c_fr := (ok__law_frame T c_of c_k6 d__law_frame).hd
  have c_ht := (ok__law_heights T c_take d__law_heights).hd
  have c_ga := (ok__law_galley T c_take c_ht d__law_galley).hd
  have c_fl := (ok__law_float_rows (P := l.prog) (w := w) (base := base) T d__law_float_rows).hd
  have c_lco := (ok__law_column (P := l.prog) (w := w) (base := base) T d__law_column).hd
  have c_lcu := (ok__law_cuts (P := l.prog) (w := w) (base := base) T d__law_cuts).hd
  have c_old := (ok__law_older (P := l.prog) (w := w) (base := base) T d__law_older).hd
  have c_lpg := (ok__law_page T c_lcu c_lco c_old d__law_page).hd
  have c_lps := (ok__law_pages T c_lpg d__law_pages).hd
  have c_rn := (ok__running (P := l.prog) (w := w) (base := base) T d__running).hd
  have c_si := (ok_Sums_init T c_rn d_Sums___init__).hd
  have c_ll := (ok_Sums_last_line (P := l.prog) (w := w) (base := base) T d_Sums_last_line).hd
  have c_lf := (ok_Sums_last_float (P := l.prog) (w := w) (base := base) T d_Sums_last_float).hd
  have c_mc := (ok_Sums_may_cut (P := l.prog) (w := w) (base := base) T d_Sums_may_cut).hd
  have c_mb := (ok_Sums_marked_before (P := l.prog) (w := w) (base := base) T d_Sums_marked_before).hd
  have c_lh := (ok_Sums_lines_height (P := l.prog) (w := w) (base := base) T d_Sums_lines_height).hd
  have c_ch := (ok_Sums_column_height T c_lh d_Sums_column_height).hd
  have c_nh := (ok_Sums_notes_height (P := l.prog) (w := w) (base := base) T d_Sums_notes_height).hd
  have c_fh := (ok_Sums_floats_height (P := l.prog) (w := w) (base := base) T d_Sums_floats_height).hd
  have c_oi := (ok_Options_init T c_si c_ll c_lf d_Options___init__).hd
  have c_le := (ok_least T c_mb d_Options__least_floats_end).hd
  have c_pe := (ok_page_ends T c_ll c_lh c_mc d_Options__page_ends).hd
  have c_mt := (ok_moves_to T c_mb c_nh c_fh c_le d_Options__moves_to).hd
  have c_mv := (ok_moves T c_pe c_mt d_Options_moves).hd
  have c_sp := (ok_splits T c_mc d_Options__splits).hd
  have c_pr := (ok_split_price T c_ch d_Options__split_price).hd
  have c_ps := (ok_split_prices T c_sp c_pr d_Options_split_prices).hd
  have c_lp := (ok_late_price (P := l.prog) (w := w) (base := base) T d_Options_late_price).hd
  have c_po := (ok_page_options T c_oi c_mv c_lp c_ps d_page_options).hd
  have c_same := (ok_same (P := l.prog) (w := w) (base := base) T d__law_same 4).hd
  exact ok_law T F40 c_pool c_take c_rg c_ky c_fr c_ga c_fl c_lps c_po c_same
end K62
open PySem PySem.W PyProof.Rows
set_option maxRecDepth 100000 in
set_option maxHeartbeats 0 in
theorem PySem.Challenge.cw_stylepages_k62_whole_options_are_just_th_holds : PySem.Challenge.rw_stylepages_k62_whole_options_are_just_th.Holds := by
  w_on; o_law; k_head; (case hw => w_witness2)
  k_fill
  refine L2.walk_of (l := PySem.Challenge.rw_stylepages_k62_whole_options_are_just_th) (n := 63) (k := 7) (x := "_law_script") (CX := fun _ => L2.CX0) (sp := fun w => Wl.liftSp _ Wl.spLaw) rfl (by decide) rfl ⟨rfl, by decide, by decide⟩ (fun w h Y => PySem.W.kIn_of Y) ?F (fun _ _ a ns hl hO hS => Wl.law_end hl hO hS) (fun _ _ _ _ _ h => h)
  case F =>
    intro w mg fa h KX G hmg
    refine' K62.all_mk KX G hmg ?ca_Frame ?pg_Frame ?hd_Frame ?po_Frame ?sa_Frame ?mk_Frame ?kc_Frame ?nf_height_Frame ?nf_columns_Frame ?nf_rule_Frame ?nf_under_Frame ?nf_wait_Frame ?nf_late_Frame ?nf_uneven_Frame ?ha_Frame ?hn_Frame ?ht_Frame ?hm_Frame ?sf_Frame ?kk_Frame ?ca_Options ?pg_Options ?hd_Options ?po_Options ?sa_Options ?mk_Options ?kc_Options ?nf__sums_Options ?nf__frame_Options ?nf__best_Options ?nf_last_state_Options ?ha_Options ?hn_Options ?ht_Options ?hm_Options ?sf_Options ?kk_Options ?ca_Sums ?pg_Sums ?hd_Sums ?po_Sums ?sa_Sums ?mk_Sums ?kc_Sums ?nf__cuts_Sums ?nf__heights_Sums ?nf__spaces_Sums ?nf__notes_Sums ?nf__many_notes_Sums ?nf__many_floats_Sums ?nf__floats_Sums ?ha_Sums ?hn_Sums ?ht_Sums ?hm_Sums ?sf_Sums ?kk_Sums ?a0 ?l0 ?c0 ?k0 ?a1 ?l1 ?c1 ?k1 ?a2 ?i2 ?l2 ?c2 ?k2 ?a3 ?i3 ?l3 ?c3 ?k3 ?a4 ?i4 ?l4 ?c4 ?k4 ?a5 ?i5 ?l5 ?c5 ?k5 ?a6 ?i6 ?l6 ?c6 ?k6 ?a7 ?i7 ?l7 ?c7 ?k7 ?a8 ?i8 ?l8 ?c8 ?k8 ?a9 ?i9 ?l9 ?c9 ?k9 ?a10 ?i10 ?l10 ?c10 ?k10 ?a11 ?i11 ?l11 ?c11 ?k11 ?a12 ?i12 ?l12 ?c12 ?k12 ?a13 ?i13 ?l13 ?c13 ?k13 ?a14 ?i14 ?l14 ?c14 ?k14 ?a15 ?i15 ?l15 ?c15 ?k15 ?a16 ?i16 ?l16 ?c16 ?k16 ?a17 ?i17 ?l17 ?c17 ?k17 ?a18 ?i18 ?l18 ?c18 ?k18 ?a19 ?i19 ?l19 ?c19 ?k19 ?a20 ?i20 ?l20 ?c20 ?k20 ?a21 ?i21 ?l21 ?c21 ?k21 ?a22 ?l22 ?c22 ?k22 ?a23 ?i23 ?l23 ?kw23_0 ?kw23_1 ?kw23_2 ?kw23_3 ?kw23_4 ?kw23_5 ?c23 ?k23 ?rd24 ?ga24 ?fc24 ?rc24 ?l24 ?c24 ?k24 ?a25 ?i25 ?l25 ?c25 ?k25 ?a26 ?l26 ?c26 ?k26 ?a27 ?l27 ?c27 ?k27 ?a28 ?l28 ?c28 ?k28 ?a29 ?l29 ?c29 ?k29 ?a30 ?l30 ?c30 ?k30 ?a31 ?l31 ?c31 ?k31 ?a32 ?l32 ?c32 ?k32 ?a33 ?l33 ?c33 ?k33 ?a34 ?l34 ?c34 ?k34 ?a35 ?l35 ?c35 ?k35 ?a36 ?l36 ?c36 ?k36 ?a37 ?l37 ?c37 ?k37 ?a38 ?l38 ?c38 ?k38 ?a39 ?l39 ?c39 ?k39 ?a40 ?l40 ?c40 ?k40 ?z_abs ?z_bool ?z_enumerate ?z_int ?z_isinstance ?z_len ?z_list ?z_max ?z_min ?z_range ?z_str ?z_sum ?z_tuple
    (case ca_Frame => k_is)
    (case pg_Frame => k_is)
    (case hd_Frame => k_is)
    (case po_Frame => k_is)
    (case sa_Frame => k_is)
    (case mk_Frame => k_is)
    (case kc_Frame => k_is)
    (case nf_height_Frame => k_is)
    (case nf_columns_Frame => k_is)
    (case nf_rule_Frame => k_is)
    (case nf_under_Frame => k_is)
    (case nf_wait_Frame => k_is)
    (case nf_late_Frame => k_is)
    (case nf_uneven_Frame => k_is)
    (case ha_Frame => k_is)
    (case hn_Frame => k_is)
    (case ht_Frame => k_is)
    (case hm_Frame => k_is)
    (case sf_Frame => k_is)
    (case kk_Frame => first | rfl | k_is)
    (case ca_Options => k_is)
    (case pg_Options => k_is)
    (case hd_Options => k_is)
    (case po_Options => k_is)
    (case sa_Options => k_is)
    (case mk_Options => k_is)
    (case kc_Options => k_is)
    (case nf__sums_Options => k_is)
    (case nf__frame_Options => k_is)
    (case nf__best_Options => k_is)
    (case nf_last_state_Options => k_is)
    (case ha_Options => k_is)
    (case hn_Options => k_is)
    (case ht_Options => k_is)
    (case hm_Options => k_is)
    (case sf_Options => k_is)
    (case kk_Options => first | rfl | k_is)
    (case ca_Sums => k_is)
    (case pg_Sums => k_is)
    (case hd_Sums => k_is)
    (case po_Sums => k_is)
    (case sa_Sums => k_is)
    (case mk_Sums => k_is)
    (case kc_Sums => k_is)
    (case nf__cuts_Sums => k_is)
    (case nf__heights_Sums => k_is)
    (case nf__spaces_Sums => k_is)
    (case nf__notes_Sums => k_is)
    (case nf__many_notes_Sums => k_is)
    (case nf__many_floats_Sums => k_is)
    (case nf__floats_Sums => k_is)
    (case ha_Sums => k_is)
    (case hn_Sums => k_is)
    (case ht_Sums => k_is)
    (case hm_Sums => k_is)
    (case sf_Sums => k_is)
    (case kk_Sums => first | rfl | k_is)
    (case a0 => k_is)
    (case l0 => k_is)
    (case c0 => k_is)
    (case k0 => k_is)
    (case a1 => k_is)
    (case l1 => k_is)
    (case c1 => k_is)
    (case k1 => k_is)
    (case a2 => k_is)
    (case i2 => k_is)
    (case l2 => k_is)
    (case c2 => k_is)
    (case k2 => k_is)
    (case a3 => k_is)
    (case i3 => k_is)
    (case l3 => k_is)
    (case c3 => k_is)
    (case k3 => k_is)
    (case a4 => k_is)
    (case i4 => k_is)
    (case l4 => k_is)
    (case c4 => k_is)
    (case k4 => k_is)
    (case a5 => k_is)
    (case i5 => k_is)
    (case l5 => k_is)
    (case c5 => k_is)
    (case k5 => k_is)
    (case a6 => k_is)
    (case i6 => k_is)
    (case l6 => k_is)
    (case c6 => k_is)
    (case k6 => k_is)
    (case a7 => k_is)
    (case i7 => k_is)
    (case l7 => k_is)
    (case c7 => k_is)
    (case k7 => k_is)
    (case a8 => k_is)
    (case i8 => k_is)
    (case l8 => k_is)
    (case c8 => k_is)
    (case k8 => k_is)
    (case a9 => k_is)
    (case i9 => k_is)
    (case l9 => k_is)
    (case c9 => k_is)
    (case k9 => k_is)
    (case a10 => k_is)
    (case i10 => k_is)
    (case l10 => k_is)
    (case c10 => k_is)
    (case k10 => k_is)
    (case a11 => k_is)
    (case i11 => k_is)
    (case l11 => k_is)
    (case c11 => k_is)
    (case k11 => k_is)
    (case a12 => k_is)
    (case i12 => k_is)
    (case l12 => k_is)
    (case c12 => k_is)
    (case k12 => k_is)
    (case a13 => k_is)
    (case i13 => k_is)
    (case l13 => k_is)
    (case c13 => k_is)
    (case k13 => k_is)
    (case a14 => k_is)
    (case i14 => k_is)
    (case l14 => k_is)
    (case c14 => k_is)
    (case k14 => k_is)
    (case a15 => k_is)
    (case i15 => k_is)
    (case l15 => k_is)
    (case c15 => k_is)
    (case k15 => k_is)
    (case a16 => k_is)
    (case i16 => k_is)
    (case l16 => k_is)
    (case c16 => k_is)
    (case k16 => k_is)
    (case a17 => k_is)
    (case i17 => k_is)
    (case l17 => k_is)
    (case c17 => k_is)
    (case k17 => k_is)
    (case a18 => k_is)
    (case i18 => k_is)
    (case l18 => k_is)
    (case c18 => k_is)
    (case k18 => k_is)
    (case a19 => k_is)
    (case i19 => k_is)
    (case l19 => k_is)
    (case c19 => k_is)
    (case k19 => k_is)
    (case a20 => k_is)
    (case i20 => k_is)
    (case l20 => k_is)
    (case c20 => k_is)
    (case k20 => k_is)
    (case a21 => k_is)
    (case i21 => k_is)
    (case l21 => k_is)
    (case c21 => k_is)
    (case k21 => k_is)
    (case a22 => k_is)
    (case l22 => k_is)
    (case c22 => k_is)
    (case k22 => k_is)
    (case a23 => k_is)
    (case i23 => k_is)
    (case l23 => k_is)
    (case kw23_0 => k_is)
    (case kw23_1 => k_is)
    (case kw23_2 => k_is)
    (case kw23_3 => k_is)
    (case kw23_4 => k_is)
    (case kw23_5 => k_is)
    (case c23 => k_is)
    (case k23 => k_is)
    (case rd24 => k_is)
    (case ga24 => k_is)
    (case fc24 => k_is)
    (case rc24 => k_is)
    (case l24 => k_is)
    (case c24 => k_is)
    (case k24 => k_is)
    (case a25 => k_is)
    (case i25 => k_is)
    (case l25 => k_is)
    (case c25 => k_is)
    (case k25 => k_is)
    (case a26 => k_is)
    (case l26 => k_is)
    (case c26 => k_is)
    (case k26 => k_is)
    (case a27 => k_is)
    (case l27 => k_is)
    (case c27 => k_is)
    (case k27 => k_is)
    (case a28 => k_is)
    (case l28 => k_is)
    (case c28 => k_is)
    (case k28 => k_is)
    (case a29 => k_is)
    (case l29 => k_is)
    (case c29 => k_is)
    (case k29 => k_is)
    (case a30 => k_is)
    (case l30 => k_is)
    (case c30 => k_is)
    (case k30 => k_is)
    (case a31 => k_is)
    (case l31 => k_is)
    (case c31 => k_is)
    (case k31 => k_is)
    (case a32 => k_is)
    (case l32 => k_is)
    (case c32 => k_is)
    (case k32 => k_is)
    (case a33 => k_is)
    (case l33 => k_is)
    (case c33 => k_is)
    (case k33 => k_is)
    (case a34 => k_is)
    (case l34 => k_is)
    (case c34 => k_is)
    (case k34 => k_is)
    (case a35 => k_is)
    (case l35 => k_is)
    (case c35 => k_is)
    (case k35 => k_is)
    (case a36 => k_is)
    (case l36 => k_is)
    (case c36 => k_is)
    (case k36 => k_is)
    (case a37 => k_is)
    (case l37 => k_is)
    (case c37 => k_is)
    (case k37 => k_is)
    (case a38 => k_is)
    (case l38 => k_is)
    (case c38 => k_is)
    (case k38 => k_is)
    (case a39 => k_is)
    (case l39 => k_is)
    (case c39 => k_is)
    (case k39 => k_is)
    (case a40 => k_is)
    (case l40 => k_is)
    (case c40 => k_is)
    (case k40 => k_is)
    (case z_abs => k_is)
    (case z_bool => k_is)
    (case z_enumerate => k_is)
    (case z_int => k_is)
    (case z_isinstance => k_is)
    (case z_len => k_is)
    (case z_list => k_is)
    (case z_max => k_is)
    (case z_min => k_is)
    (case z_range => k_is)
    (case z_str => k_is)
    (case z_sum => k_is)
    (case z_tuple => k_is)
#print axioms PySem.Challenge.cw_stylepages_k62_whole_options_are_just_th_holds
