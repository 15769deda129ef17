import PyProof.Rows.All
import Wide.All
import OpenK.AllK
import Wide.FinOn
import HandS.Base
import HandS.Call
import HandS.List
import HandS.Comp
import HandS.Ends
import HandS.Dict
import HandS.Iter
import HandS.Text
import HandS.Words
import HandS.Wide
import HandS.IsInst
import HandS.Exc
import HandS.ExcOwn
import HandS.WordsExc
import HandS.TryOnly
import HandS.Small
import HandS.TupAny
import HandS.GenList
import PySem.Challenge.RW_stylepages_k10_whole_written_form_there
import HandS.More
import HandS.RaiseMore
import PyProof.Rows.StrMul
import HandS.Conv
import HandS.StrMore
import HandS.SlotsOwn
import KE.KTupSum
import HandS.MakeKwOnly
import HandS.ClsMeth
import KE.GoesMore
import HandS.IterNext
import HandS.GenYield
import HandS.ExcIs
import HandS.TryMany
import HandS.CallLocal
import HandS.SortKw
import KE.DatumOrd
import HandS.TupMul
import HandS.Strs
import HandS.SetFor
import HandS.SetKeys
import PyProof.StrLawsIn
import PyProof.StrLawsFrom
set_option Elab.async false
set_option linter.all false
set_option maxRecDepth 100000
set_option maxHeartbeats 2000000
/-! Data-level readings: tuples as values, lists as cells of a store. -/
namespace Wl
open PySem L2

inductive W where
  | non | bl (b : Bool) | int (i : Int) | str (x : Str) | ty (n : String) | ref (a : Addr) | tup (ws : List W) | rl (ws : List W)

/-- a list that nobody writes -/
def RdL (K : PySem.W.Frag) (H : Hp) (a : Addr) (xs : List V) : Prop :=
  (∃ o, H a = some (.frz o (.lst xs))) ∨
    ∃ (o : Obj) (its : Array Value) (n : Nat), K.lookup a = some o ∧ o.cls = .type "list" ∧ o.dict = none ∧ o.data = .seq its n ∧ its.size ≤ sizeLine ∧ Vals xs its.toList
theorem RdL.sq {K : PySem.W.Frag} {H : Hp} {a : Addr} {xs : List V} (h : RdL K H a xs) : SqL K H a xs := by
  rcases h with h | h
  · exact .inl (.inr h)
  · exact .inr h

mutual
def Rep (K : PySem.W.Frag) (H : Hp) : W → V → Prop
  | .non, v => v = .non
  | .bl b, v => v = .bl b
  | .int i, v => v = .int i
  | .str x, v => v = .str x
  | .ty n, v => v = .ty n
  | .ref a, v => v = .ref a
  | .tup ws, v => ∃ a xs, v = .ref a ∧ SqT K H a xs ∧ RepL K H ws xs
  | .rl ws, v => ∃ a xs, v = .ref a ∧ RdL K H a xs ∧ RepL K H ws xs
def RepL (K : PySem.W.Frag) (H : Hp) : List W → List V → Prop
  | [], xs => xs = []
  | w :: ws, xs => ∃ x r, xs = x :: r ∧ Rep K H w x ∧ RepL K H ws r
end

/-- tuples, frozen things stay -/
structure Tk (H H' : Hp) : Prop where
  tup : ∀ a xs, H a = some (.tup xs) → H' a = some (.tup xs)
  frz : ∀ a o u, H a = some (.frz o u) → H' a = some (.frz o u)
theorem Tk.refl (H : Hp) : Tk H H := ⟨fun _ _ h => h, fun _ _ _ h => h⟩
theorem Tk.trans {H H1 H2 : Hp} (a : Tk H H1) (b : Tk H1 H2) : Tk H H2 := ⟨fun x xs h => b.tup x xs (a.tup x xs h), fun x o u h => b.frz x o u (a.frz x o u h)⟩
theorem Tk.new {H : Hp} {p : Addr} {o : HO} (h : H p = none) : Tk H (upd H p o) := ⟨fun a xs e => by rw [upd_ne (ne_of_none e h)]; exact e, fun a ob u e => by rw [upd_ne (ne_of_none e h)]; exact e⟩
theorem Tk.mut {H : Hp} {p : Addr} {o o' : HO} (h : H p = some o) (h1 : ∀ xs, o ≠ .tup xs) (h2 : ∀ ob u, o ≠ .frz ob u) : Tk H (upd H p o') :=
  ⟨fun a xs e => by rw [upd_ne (ne_of e h (fun z => h1 xs z.symm))]; exact e, fun a ob u e => by rw [upd_ne (ne_of e h (fun z => h2 ob u z.symm))]; exact e⟩
theorem Tk.rd {H H' : Hp} (t : Tk H H') {a : Addr} {xs : List V} (h : Rd H a (.tup xs)) : Rd H' a (.tup xs) := by
  rcases h with h | ⟨o, h⟩
  · exact .inl (t.tup a xs h)
  · exact .inr ⟨o, t.frz a o _ h⟩
theorem Tk.sqt {K : PySem.W.Frag} {H H' : Hp} (t : Tk H H') {a : Addr} {xs : List V} (h : SqT K H a xs) : SqT K H' a xs := by
  rcases h with h | h
  · exact .inl (t.rd h)
  · exact .inr h
theorem Tk.rdl {K : PySem.W.Frag} {H H' : Hp} (t : Tk H H') {a : Addr} {xs : List V} (h : RdL K H a xs) : RdL K H' a xs := by
  rcases h with ⟨o, h⟩ | h
  · exact .inl ⟨o, t.frz a o _ h⟩
  · exact .inr h
mutual
theorem Rep.tk {K : PySem.W.Frag} {H H' : Hp} (t : Tk H H') : ∀ (w : W) (v : V), Rep K H w v → Rep K H' w v
  | .non, _, h => h
  | .bl _, _, h => h
  | .int _, _, h => h
  | .str _, _, h => h
  | .ty _, _, h => h
  | .ref _, _, h => h
  | .tup ws, v, h => by
    obtain ⟨a, xs, e, h1, h2⟩ := h
    exact ⟨a, xs, e, t.sqt h1, RepL.tk t ws xs h2⟩
  | .rl ws, v, h => by
    obtain ⟨a, xs, e, h1, h2⟩ := h
    exact ⟨a, xs, e, t.rdl h1, RepL.tk t ws xs h2⟩
theorem RepL.tk {K : PySem.W.Frag} {H H' : Hp} (t : Tk H H') : ∀ (ws : List W) (xs : List V), RepL K H ws xs → RepL K H' ws xs
  | [], _, h => h
  | w :: ws, _, h => by
    obtain ⟨x, r, e, h1, h2⟩ := h
    exact ⟨x, r, e, Rep.tk t w x h1, RepL.tk t ws r h2⟩
end
section
variable {K : PySem.W.Frag} {H : Hp}
theorem RepL.nil : RepL K H [] [] := rfl
theorem RepL.cons {w : W} {ws : List W} {x : V} {xs : List V} (h : Rep K H w x) (t : RepL K H ws xs) : RepL K H (w :: ws) (x :: xs) := ⟨x, xs, rfl, h, t⟩
theorem RepL.length : ∀ {ws : List W} {xs : List V}, RepL K H ws xs → xs.length = ws.length
  | [], _, h => by cases (show _ = [] from h); rfl
  | w :: ws, _, h => by
    obtain ⟨x, r, rfl, _, h2⟩ := h
    rw [List.length_cons, List.length_cons, RepL.length h2]
theorem RepL.get : ∀ {ws : List W} {xs : List V} {i : Nat} {w : W}, RepL K H ws xs → ws[i]? = some w → ∃ x, xs[i]? = some x ∧ Rep K H w x
  | [], _, _, _, _, e => by simp at e
  | _ :: _, _, 0, _, h, e => by
    obtain ⟨x, r, rfl, h1, _⟩ := h
    simp at e; subst e
    exact ⟨x, rfl, h1⟩
  | _ :: _, _, i + 1, _, h, e => by
    obtain ⟨x, r, rfl, _, h2⟩ := h
    obtain ⟨y, e1, e2⟩ := RepL.get (i := i) h2 (by simpa using e)
    exact ⟨y, by simpa using e1, e2⟩
theorem RepL.get' : ∀ {ws : List W} {xs : List V} {i : Nat} {x : V}, RepL K H ws xs → xs[i]? = some x → ∃ w, ws[i]? = some w ∧ Rep K H w x
  | [], _, _, _, h, e => by cases (show _ = [] from h); simp at e
  | _ :: _, _, 0, _, h, e => by
    obtain ⟨x, r, rfl, h1, _⟩ := h
    simp at e; subst e
    exact ⟨_, rfl, h1⟩
  | _ :: _, _, i + 1, _, h, e => by
    obtain ⟨x, r, rfl, _, h2⟩ := h
    obtain ⟨y, e1, e2⟩ := RepL.get' (i := i) h2 (by simpa using e)
    exact ⟨y, by simpa using e1, e2⟩
theorem RepL.append : ∀ {ws zs : List W} {xs ys : List V}, RepL K H ws xs → RepL K H zs ys → RepL K H (ws ++ zs) (xs ++ ys)
  | [], _, _, _, h, t => by cases (show _ = [] from h); exact t
  | _ :: _, _, _, _, h, t => by
    obtain ⟨x, r, rfl, h1, h2⟩ := h
    exact ⟨x, r ++ _, rfl, h1, RepL.append h2 t⟩
theorem RepL.one {w : W} {x : V} (h : Rep K H w x) : RepL K H [w] [x] := .cons h .nil
theorem RepL.take : ∀ {ws : List W} {xs : List V} (n : Nat), RepL K H ws xs → RepL K H (ws.take n) (xs.take n)
  | _, _, 0, _ => by simp; rfl
  | [], _, n + 1, h => by cases (show _ = [] from h); rfl
  | _ :: _, _, n + 1, h => by
    obtain ⟨x, r, rfl, h1, h2⟩ := h
    exact ⟨x, r.take n, rfl, h1, RepL.take n h2⟩
theorem RepL.drop : ∀ {ws : List W} {xs : List V} (n : Nat), RepL K H ws xs → RepL K H (ws.drop n) (xs.drop n)
  | _, _, 0, h => by simpa using h
  | [], _, n + 1, h => by cases (show _ = [] from h); rfl
  | _ :: _, _, n + 1, h => by
    obtain ⟨x, r, rfl, h1, h2⟩ := h
    simpa using RepL.drop n h2
theorem RepL.set {w : W} {x : V} (q : Rep K H w x) : ∀ {ws : List W} {xs : List V} (i : Nat), RepL K H ws xs → RepL K H (ws.set i w) (xs.set i x)
  | [], _, _, h => by cases (show _ = [] from h); rfl
  | _ :: _, _, 0, h => by
    obtain ⟨y, r, rfl, h1, h2⟩ := h
    exact ⟨x, r, rfl, q, h2⟩
  | _ :: _, _, i + 1, h => by
    obtain ⟨y, r, rfl, h1, h2⟩ := h
    exact ⟨y, r.set i x, rfl, h1, RepL.set q i h2⟩
theorem RepL.reverse : ∀ {ws : List W} {xs : List V}, RepL K H ws xs → RepL K H ws.reverse xs.reverse
  | [], _, h => by cases (show _ = [] from h); rfl
  | _ :: _, _, h => by
    obtain ⟨y, r, rfl, h1, h2⟩ := h
    rw [List.reverse_cons, List.reverse_cons]
    exact RepL.append (RepL.reverse h2) (.one h1)
theorem RepL.dropLast : ∀ {ws : List W} {xs : List V}, RepL K H ws xs → RepL K H ws.dropLast xs.dropLast := fun {ws xs} h => by
  rw [List.dropLast_eq_take, List.dropLast_eq_take, h.length]
  exact h.take _
theorem RepL.eraseIdx : ∀ {ws : List W} {xs : List V} (i : Nat), RepL K H ws xs → RepL K H (ws.eraseIdx i) (xs.eraseIdx i) := fun {ws xs} i h => by
  rw [List.eraseIdx_eq_take_drop_succ, List.eraseIdx_eq_take_drop_succ]
  exact (h.take i).append (h.drop (i + 1))
theorem RepL.ints {ns : List Int} : ∀ {xs : List V}, RepL K H (ns.map W.int) xs → xs = ns.map V.int := by
  induction ns with
  | nil => intro xs h; exact h
  | cons n ns ih =>
    intro xs h
    obtain ⟨x, r, rfl, h1, h2⟩ := h
    rw [show x = V.int n from h1, ih h2]
    rfl
theorem RepL.ofInts {ns : List Int} : RepL K H (ns.map W.int) (ns.map V.int) := by
  induction ns with
  | nil => rfl
  | cons n ns ih => exact ⟨_, _, rfl, rfl, ih⟩
theorem RepL.bls {ns : List Bool} : ∀ {xs : List V}, RepL K H (ns.map W.bl) xs → xs = ns.map V.bl := by
  induction ns with
  | nil => intro xs h; exact h
  | cons n ns ih =>
    intro xs h
    obtain ⟨x, r, rfl, h1, h2⟩ := h
    rw [show x = V.bl n from h1, ih h2]
    rfl
theorem RepL.strs {ns : List Str} : ∀ {xs : List V}, RepL K H (ns.map W.str) xs → xs = ns.map V.str := by
  induction ns with
  | nil => intro xs h; exact h
  | cons n ns ih =>
    intro xs h
    obtain ⟨x, r, rfl, h1, h2⟩ := h
    rw [show x = V.str n from h1, ih h2]
    rfl
theorem RepL.ofStrs {ns : List Str} : RepL K H (ns.map W.str) (ns.map V.str) := by
  induction ns with
  | nil => rfl
  | cons n ns ih => exact ⟨_, _, rfl, rfl, ih⟩
end

/-! ### the store -/
inductive Cell where
  | lst (ws : List W)
  | dk (kvs : List (Key × W))
  | ins (C : Addr) (fs : List (Str × W))
def RepKV {κ : Type} (K : PySem.W.Frag) (H : Hp) : List (κ × W) → List (κ × V) → Prop
  | [], ys => ys = []
  | p :: ps, ys => ∃ v r, ys = (p.1, v) :: r ∧ Rep K H p.2 v ∧ RepKV K H ps r
theorem RepKV.tk {κ : Type} {K : PySem.W.Frag} {H H' : Hp} (t : Tk H H') : ∀ (ps : List (κ × W)) (ys : List (κ × V)), RepKV K H ps ys → RepKV K H' ps ys
  | [], _, h => h
  | p :: ps, _, h => by
    obtain ⟨v, r, e, h1, h2⟩ := h
    exact ⟨v, r, e, Rep.tk t _ v h1, RepKV.tk t ps r h2⟩
def CRep (K : PySem.W.Frag) (H : Hp) (a : Addr) : Cell → Prop
  | .lst ws => ∃ xs, H a = some (.lst xs) ∧ RepL K H ws xs
  | .dk kvs => ∃ ys, H a = some (.dK ys) ∧ RepKV K H kvs ys
  | .ins C fs => ∃ dx gs, H a = some (.ins C dx gs) ∧ RepKV K H fs gs
abbrev Sto := Addr → Option Cell
def put (S : Sto) (a : Addr) (c : Cell) : Sto := fun b => if b = a then some c else S b
theorem put_same {S : Sto} {a : Addr} {c : Cell} : put S a c a = some c := by unfold put; rw [if_pos rfl]
theorem put_ne {S : Sto} {a b : Addr} {c : Cell} (h : b ≠ a) : put S a c b = S b := by unfold put; rw [if_neg h]
theorem put_put {S : Sto} {a : Addr} {c d : Cell} : put (put S a c) a d = put S a d := by
  funext b; unfold put; split <;> rfl
theorem put_comm {S : Sto} {a b : Addr} {c d : Cell} (h : a ≠ b) : put (put S a c) b d = put (put S b d) a c := by
  funext z; unfold put
  by_cases h1 : z = b
  · rw [if_pos h1]
    by_cases h2 : z = a
    · exact absurd (h2.symm.trans h1) h
    · rw [if_neg h2, if_pos h1]
  · rw [if_neg h1]
    by_cases h2 : z = a
    · rw [if_pos h2, if_pos h2]
    · rw [if_neg h2, if_neg h2, if_neg h1]
theorem put_self {S : Sto} {a : Addr} {c : Cell} (h : S a = some c) : put S a c = S := by
  funext z; unfold put
  by_cases h2 : z = a
  · rw [if_pos h2, h2, h]
  · rw [if_neg h2]
/-- a smaller store -/
def Sub (S S' : Sto) : Prop := ∀ a c, S a = some c → S' a = some c
theorem Sub.refl (S : Sto) : Sub S S := fun _ _ h => h
theorem Sub.trans {S S1 S2 : Sto} (a : Sub S S1) (b : Sub S1 S2) : Sub S S2 := fun x c h => b x c (a x c h)
theorem Sub.new {S : Sto} {p : Addr} {c : Cell} (h : S p = none) : Sub S (put S p c) := fun a d e => by
  by_cases q : a = p
  · rw [q, h] at e; cases e
  · rw [put_ne q]; exact e
theorem Sub.put {S S' : Sto} {p : Addr} {c : Cell} (h : Sub S S') : Sub (put S p c) (put S' p c) := fun a d e => by
  by_cases q : a = p
  · rw [q, put_same] at e ⊢; exact e
  · rw [put_ne q] at e ⊢; exact h a d e
/-- new in the greater, not spoken of in the smaller -/
theorem Sub.put_new {S S' : Sto} {p : Addr} {c : Cell} (h : Sub S S') (n : S p = none) : Sub S (Wl.put S' p c) := fun a d e => by
  by_cases q : a = p
  · rw [q, n] at e; cases e
  · rw [put_ne q]; exact h a d e
theorem Sub.free {S S' : Sto} {p : Addr} (h : Sub S S') (n : S' p = none) : S p = none := by
  cases q : S p with
  | none => rfl
  | some c => rw [h p c q] at n; cases n
def HRep (K : PySem.W.Frag) (H : Hp) (S : Sto) : Prop := ∀ a c, S a = some c → CRep K H a c
theorem CRep.some {K : PySem.W.Frag} {H : Hp} {a : Addr} {c : Cell} (h : CRep K H a c) : ∃ o, H a = some o ∧ (∀ xs, o ≠ .tup xs) ∧ (∀ ob u, o ≠ .frz ob u) := by
  cases c with
  | lst ws => obtain ⟨xs, e, _⟩ := h; exact ⟨_, e, fun _ z => (by cases z), fun _ _ z => (by cases z)⟩
  | dk ws => obtain ⟨xs, e, _⟩ := h; exact ⟨_, e, fun _ z => (by cases z), fun _ _ z => (by cases z)⟩
  | ins C ws => obtain ⟨dx, xs, e, _⟩ := h; exact ⟨_, e, fun _ z => (by cases z), fun _ _ z => (by cases z)⟩
theorem CRep.tk {K : PySem.W.Frag} {H H' : Hp} {a : Addr} {c : Cell} (t : Tk H H') (e : H' a = H a) (h : CRep K H a c) : CRep K H' a c := by
  cases c with
  | lst ws => obtain ⟨xs, q, r⟩ := h; exact ⟨xs, by rw [e]; exact q, RepL.tk t _ _ r⟩
  | dk ws => obtain ⟨xs, q, r⟩ := h; exact ⟨xs, by rw [e]; exact q, RepKV.tk t _ _ r⟩
  | ins C ws => obtain ⟨dx, xs, q, r⟩ := h; exact ⟨dx, xs, by rw [e]; exact q, RepKV.tk t _ _ r⟩
section
variable {K : PySem.W.Frag} {H H' : Hp} {S S' : Sto} {p : Addr} {o : HO} {c : Cell}
theorem HRep.fresh (h : HRep K H S) (n : H p = none) : S p = none := by
  cases q : S p with
  | none => rfl
  | some c =>
    obtain ⟨o, e, _⟩ := (h p c q).some
    rw [n] at e; cases e
theorem HRep.sub (h : HRep K H S') (s : Sub S S') : HRep K H S := fun a c e => h a c (s a c e)
theorem HRep.laid (h : HRep K H S) (n : H p = none) : HRep K (upd H p o) S := fun a c e => by
  obtain ⟨u, q, _⟩ := (h a c e).some
  exact (h a c e).tk (Tk.new n) (upd_ne (ne_of_none q n))
theorem HRep.new (h : HRep K H S) (n : H p = none) (hc : CRep K (upd H p o) p c) : HRep K (upd H p o) (put S p c) := fun a d e => by
  by_cases q : a = p
  · subst q; rw [put_same] at e; cases e; exact hc
  · rw [put_ne q] at e; exact h.laid n a d e
theorem HRep.mut {c' : Cell} (h : HRep K H S) (e : S p = some c) (hc : CRep K (upd H p o) p c') : Tk H (upd H p o) ∧ HRep K (upd H p o) (put S p c') := by
  obtain ⟨u, q, h1, h2⟩ := (h p c e).some
  have t : Tk H (upd H p o) := Tk.mut q h1 h2
  refine ⟨t, fun a d z => ?_⟩
  by_cases y : a = p
  · subst y; rw [put_same] at z; cases z; exact hc
  · rw [put_ne y] at z
    exact (h a d z).tk t (upd_ne y)
end

/-! ### the frame -/
abbrev StW := List (Option W)
structure SRep (K : PySem.W.Frag) (B H : Hp) (σ : L2.St) (ρ : StW) : Prop where
  bs : Tk B H
  len : σ.length = ρ.length
  at_ : ∀ (i : Nat) (w : W), ρ[i]? = some (some w) → ∃ v, σ[i]? = some (some v) ∧ Rep K H w v
section
variable {K : PySem.W.Frag} {B H H' : Hp} {σ : L2.St} {ρ : StW}
theorem SRep.tk (h : SRep K B H σ ρ) (t : Tk H H') : SRep K B H' σ ρ := ⟨h.bs.trans t, h.len, fun i w e => by
  obtain ⟨v, e1, e2⟩ := h.at_ i w e
  exact ⟨v, e1, Rep.tk t w v e2⟩⟩
theorem SRep.set {w : W} {v : V} (h : SRep K B H σ ρ) (i : Nat) (r : Rep K H w v) : SRep K B H (σ.set i (some v)) (ρ.set i (some w)) := ⟨h.bs, by rw [List.length_set, List.length_set, h.len], fun j z e => by
  by_cases q : i = j
  · subst q
    by_cases hl : i < ρ.length
    · rw [List.getElem?_set_self hl] at e
      cases e
      exact ⟨v, List.getElem?_set_self (by rw [h.len]; exact hl), r⟩
    · rw [List.getElem?_eq_none (by rw [List.length_set]; omega)] at e
      cases e
  · rw [List.getElem?_set_ne q] at e ⊢
    exact h.at_ j z e⟩
theorem SRep.init {N : List Str} {ws : List W} {vs : List V} (r : RepL K H ws vs) : SRep K H H (L2.start N vs) (ws.map some ++ List.replicate (N.length - ws.length) none) := by
  have hl := r.length
  refine ⟨Tk.refl H, by unfold L2.start; simp [hl], fun i w e => ?_⟩
  unfold L2.start
  by_cases h : i < ws.length
  · rw [List.getElem?_append_left (by simpa using h), List.getElem?_map] at e
    cases q : ws[i]? with
    | none => rw [q] at e; cases e
    | some z =>
      rw [q] at e
      have e' : z = w := by injection e with e; injection e
      subst e'
      obtain ⟨x, hx, rx⟩ := r.get q
      refine ⟨x, ?_, rx⟩
      rw [List.getElem?_append_left (by simp [hl]; exact h), List.getElem?_map, hx]
      rfl
  · rw [List.getElem?_append_right (by simpa using h), List.getElem?_replicate] at e
    split at e <;> cases e
end
/-- the frame at a def's entry -/
def startW (N : List Str) (ws : List W) : StW := ws.map some ++ List.replicate (N.length - ws.length) none

/-! ### readings over data -/
abbrev WK := W → Sto → Prop
abbrev TEW := StW → Sto → WK → Prop
abbrev TTW := StW → Sto → (Bool → Sto → Prop) → Prop
abbrev TAW := StW → Sto → (List W → Sto → Prop) → Prop
abbrev TOW := StW → Sto → (Option Int → Sto → Prop) → Prop
abbrev RW2 := W → W → Sto → WK → Prop
abbrev RW1 := W → Sto → WK → Prop
abbrev RWC := List W → Sto → WK → Prop
structure EndsW where
  nx : StW → Sto → Prop
  rt : WK
  bk : StW → Sto → Prop := fun _ _ => False
  ct : StW → Sto → Prop := fun _ _ => False
abbrev TSW := EndsW → StW → Sto → Prop

def PoE (K : PySem.W.Frag) (H : Hp) (Q : VK) (Qw : WK) : Prop := ∀ v H' w S', Tk H H' → HRep K H' S' → Rep K H' w v → Qw w S' → Q v H'
def PoT (K : PySem.W.Frag) (H : Hp) (Q : Bool → Hp → Prop) (Qw : Bool → Sto → Prop) : Prop := ∀ b H' S', Tk H H' → HRep K H' S' → Qw b S' → Q b H'
def PoA (K : PySem.W.Frag) (H : Hp) (Q : List V → Hp → Prop) (Qw : List W → Sto → Prop) : Prop := ∀ vs H' ws S', Tk H H' → HRep K H' S' → RepL K H' ws vs → Qw ws S' → Q vs H'
def PoO (K : PySem.W.Frag) (H : Hp) (Q : Option Int → Hp → Prop) (Qw : Option Int → Sto → Prop) : Prop := ∀ b H' S', Tk H H' → HRep K H' S' → Qw b S' → Q b H'
def PoS (K : PySem.W.Frag) (B H : Hp) (Q : L2.St → Hp → Prop) (Qw : StW → Sto → Prop) : Prop := ∀ σ' H' ρ' S', Tk H H' → SRep K B H' σ' ρ' → HRep K H' S' → Qw ρ' S' → Q σ' H'
theorem PoE.tk {K : PySem.W.Frag} {H H1 : Hp} {Q : VK} {Qw : WK} (h : PoE K H Q Qw) (t : Tk H H1) : PoE K H1 Q Qw := fun v H' w S' t' => h v H' w S' (t.trans t')
theorem PoT.tk {K : PySem.W.Frag} {H H1 : Hp} {Q : Bool → Hp → Prop} {Qw : Bool → Sto → Prop} (h : PoT K H Q Qw) (t : Tk H H1) : PoT K H1 Q Qw := fun v H' S' t' => h v H' S' (t.trans t')
theorem PoA.tk {K : PySem.W.Frag} {H H1 : Hp} {Q : List V → Hp → Prop} {Qw : List W → Sto → Prop} (h : PoA K H Q Qw) (t : Tk H H1) : PoA K H1 Q Qw := fun v H' w S' t' => h v H' w S' (t.trans t')
theorem PoO.tk {K : PySem.W.Frag} {H H1 : Hp} {Q : Option Int → Hp → Prop} {Qw : Option Int → Sto → Prop} (h : PoO K H Q Qw) (t : Tk H H1) : PoO K H1 Q Qw := fun v H' S' t' => h v H' S' (t.trans t')
theorem PoS.tk {K : PySem.W.Frag} {B H H1 : Hp} {Q : L2.St → Hp → Prop} {Qw : StW → Sto → Prop} (h : PoS K B H Q Qw) (t : Tk H H1) : PoS K B H1 Q Qw := fun v H' w S' t' => h v H' w S' (t.trans t')
section
variable {K : PySem.W.Frag} {H H1 : Hp} {S : Sto} {Q : VK} {Qw : WK}
theorem PoE.int {i : Int} (po : PoE K H Q Qw) (t : Tk H H1) (hh : HRep K H1 S) (q : Qw (.int i) S) : Q (.int i) H1 := po _ H1 (.int i) S t hh rfl q
theorem PoE.str {i : Str} (po : PoE K H Q Qw) (t : Tk H H1) (hh : HRep K H1 S) (q : Qw (.str i) S) : Q (.str i) H1 := po _ H1 (.str i) S t hh rfl q
theorem PoE.bl {i : Bool} (po : PoE K H Q Qw) (t : Tk H H1) (hh : HRep K H1 S) (q : Qw (.bl i) S) : Q (.bl i) H1 := po _ H1 (.bl i) S t hh rfl q
theorem PoE.non (po : PoE K H Q Qw) (t : Tk H H1) (hh : HRep K H1 S) (q : Qw .non S) : Q .non H1 := po _ H1 .non S t hh rfl q
theorem PoE.ref {a : Addr} (po : PoE K H Q Qw) (t : Tk H H1) (hh : HRep K H1 S) (q : Qw (.ref a) S) : Q (.ref a) H1 := po _ H1 (.ref a) S t hh rfl q
theorem PoE.tup {a : Addr} {xs : List V} {ws : List W} (po : PoE K H Q Qw) (t : Tk H H1) (hh : HRep K H1 S) (h : SqT K H1 a xs) (r : RepL K H1 ws xs) (q : Qw (.tup ws) S) : Q (.ref a) H1 := po _ H1 (.tup ws) S t hh ⟨a, xs, rfl, h, r⟩ q
/-- a new list -/
theorem PoE.nlst {p : Addr} {xs : List V} {ws : List W} (po : PoE K H Q Qw) (hp : H p = none) (hh : HRep K H S) (r : RepL K H ws xs) (q : ∀ p, S p = none → Qw (.ref p) (Wl.put S p (.lst ws))) : Q (.ref p) (upd H p (.lst xs)) :=
  po.ref (Tk.new hp) (hh.new (c := .lst ws) hp ⟨xs, upd_same, RepL.tk (Tk.new hp) _ _ r⟩) (q p (hh.fresh hp))
theorem PoE.ntup {p : Addr} {xs : List V} {ws : List W} (po : PoE K H Q Qw) (hp : H p = none) (hh : HRep K H S) (r : RepL K H ws xs) (q : Qw (.tup ws) S) : Q (.ref p) (upd H p (.tup xs)) :=
  po.tup (Tk.new hp) (hh.laid hp) (SqT.of upd_same) (RepL.tk (Tk.new hp) _ _ r) q
end
structure PoD (K : PySem.W.Frag) (B H : Hp) (D : Ends) (Dw : EndsW) : Prop where
  nx : PoS K B H D.nx Dw.nx
  bk : PoS K B H D.bk Dw.bk
  ct : PoS K B H D.ct Dw.ct
  rt : PoE K H D.rt Dw.rt
theorem PoD.tk {K : PySem.W.Frag} {B H H1 : Hp} {D : Ends} {Dw : EndsW} (h : PoD K B H D Dw) (t : Tk H H1) : PoD K B H1 D Dw := ⟨h.nx.tk t, h.bk.tk t, h.ct.tk t, h.rt.tk t⟩

class LE (K : PySem.W.Frag) (B : Hp) (t : TE) (tw : outParam TEW) : Prop where
  l : ∀ σ H ρ S Q Qw, SRep K B H σ ρ → HRep K H S → tw ρ S Qw → PoE K H Q Qw → t σ H Q
class LT (K : PySem.W.Frag) (B : Hp) (t : TT) (tw : outParam TTW) : Prop where
  l : ∀ σ H ρ S Q Qw, SRep K B H σ ρ → HRep K H S → tw ρ S Qw → PoT K H Q Qw → t σ H Q
class LA (K : PySem.W.Frag) (B : Hp) (t : TA) (tw : outParam TAW) : Prop where
  l : ∀ σ H ρ S Q Qw, SRep K B H σ ρ → HRep K H S → tw ρ S Qw → PoA K H Q Qw → t σ H Q
class LO (K : PySem.W.Frag) (B : Hp) (t : TO) (tw : outParam TOW) : Prop where
  l : ∀ σ H ρ S Q Qw, SRep K B H σ ρ → HRep K H S → tw ρ S Qw → PoO K H Q Qw → t σ H Q
class LS (K : PySem.W.Frag) (B : Hp) (t : TS) (tw : outParam TSW) : Prop where
  l : ∀ σ H ρ S D Dw, SRep K B H σ ρ → HRep K H S → tw Dw ρ S → PoD K B H D Dw → t D σ H
class L2R (K : PySem.W.Frag) (r : R2) (rw : outParam RW2) : Prop where
  l : ∀ H S x y wx wy Q Qw, HRep K H S → Rep K H wx x → Rep K H wy y → rw wx wy S Qw → PoE K H Q Qw → r x y H Q
class L1R (K : PySem.W.Frag) (r : V → Hp → VK → Prop) (rw : outParam RW1) : Prop where
  l : ∀ H S x wx Q Qw, HRep K H S → Rep K H wx x → rw wx S Qw → PoE K H Q Qw → r x H Q
class LCR (K : PySem.W.Frag) (r : List V → Hp → VK → Prop) (rw : outParam RWC) : Prop where
  l : ∀ H S xs ws Q Qw, HRep K H S → RepL K H ws xs → rw ws S Qw → PoE K H Q Qw → r xs H Q
class LMR (K : PySem.W.Frag) (r : V → List V → Hp → VK → Prop) (rw : outParam (W → List W → Sto → WK → Prop)) : Prop where
  l : ∀ H S x wx xs ws Q Qw, HRep K H S → Rep K H wx x → RepL K H ws xs → rw wx ws S Qw → PoE K H Q Qw → r x xs H Q
abbrev TGW := W → StW → Sto → (StW → Sto → Prop) → Prop
abbrev TGWs := List W → StW → Sto → (StW → Sto → Prop) → Prop
class LG (K : PySem.W.Frag) (B : Hp) (g : TG) (gw : outParam TGW) : Prop where
  l : ∀ v w σ H ρ S Q Qw, Rep K H w v → SRep K B H σ ρ → HRep K H S → gw w ρ S Qw → PoS K B H Q Qw → g v σ H Q
class LGs (K : PySem.W.Frag) (B : Hp) (g : TGs) (gw : outParam TGWs) : Prop where
  l : ∀ v w σ H ρ S Q Qw, RepL K H w v → SRep K B H σ ρ → HRep K H S → gw w ρ S Qw → PoS K B H Q Qw → g v σ H Q
end Wl
set_option Elab.async false
set_option linter.all false
set_option maxRecDepth 100000
set_option maxHeartbeats 2000000
namespace Wl
open PySem L2
variable {K : PySem.W.Frag} {B : Hp}

/-! ### names, constants -/
class KR (K : PySem.W.Frag) (v : V) (w : outParam W) : Prop where
  r : ∀ H, Rep K H w v
instance kr_non : KR K .non .non := ⟨fun _ => rfl⟩
instance kr_bl {b : Bool} : KR K (.bl b) (.bl b) := ⟨fun _ => rfl⟩
instance kr_int {i : Int} : KR K (.int i) (.int i) := ⟨fun _ => rfl⟩
instance kr_str {x : Str} : KR K (.str x) (.str x) := ⟨fun _ => rfl⟩
instance kr_ty {n : String} : KR K (.ty n) (.ty n) := ⟨fun _ => rfl⟩

def rdVar (o : Option (Option W)) (S : Sto) (Q : WK) : Prop := match o with
  | some (some w) => Q w S
  | _ => False
def wVar (i : Nat) : TEW := fun ρ S Q => rdVar ρ[i]? S Q
def wC (w : W) : TEW := fun _ S Q => Q w S
instance le_var {i : Nat} : LE K B (tVar i) (wVar i) := ⟨fun σ H ρ S Q Qw hs hh q po => by
  obtain ⟨w, e, q⟩ : ∃ w, ρ[i]? = some (some w) ∧ Qw w S := by
    unfold wVar rdVar at q
    split at q
    · rename_i w e
      exact ⟨w, e, q⟩
    · exact q.elim
  obtain ⟨v, e1, r⟩ := hs.at_ i w e
  exact ⟨v, e1, po v H w S (Tk.refl H) hh r q⟩⟩
instance le_c {v : V} {w : W} [k : KR K v w] : LE K B (tC v) (wC w) := ⟨fun σ H ρ S Q Qw _ hh q po => po v H w S (Tk.refl H) hh (k.r H) q⟩

/-! ### operators -/
def wOp (r : RW2) (ta tb : TEW) : TEW := fun ρ S Q => ta ρ S fun x S1 => tb ρ S1 fun y S2 => r x y S2 Q
def wUn (r : RW1) (ta : TEW) : TEW := fun ρ S Q => ta ρ S fun x S1 => r x S1 Q
instance le_op {r : R2} {ta tb : TE} {rw : RW2} {wa wb : TEW} [h : L2R K r rw] [a : LE K B ta wa] [b : LE K B tb wb] : LE K B (tOp r ta tb) (wOp rw wa wb) := ⟨fun σ H ρ S Q Qw hs hh q po =>
  a.l σ H ρ S _ _ hs hh q fun x H1 wx S1 t1 hh1 r1 q1 => b.l σ H1 ρ S1 _ _ (hs.tk t1) hh1 q1 fun y H2 wy S2 t2 hh2 r2 q2 =>
    h.l H2 S2 x y wx wy Q Qw hh2 (Rep.tk t2 _ _ r1) r2 q2 (po.tk (t1.trans t2))⟩
instance le_un {r : V → Hp → VK → Prop} {ta : TE} {rw : RW1} {wa : TEW} [h : L1R K r rw] [a : LE K B ta wa] : LE K B (tUn r ta) (wUn rw wa) := ⟨fun σ H ρ S Q Qw hs hh q po =>
  a.l σ H ρ S _ _ hs hh q fun x H1 wx S1 t1 hh1 r1 q1 => h.l H1 S1 x wx Q Qw hh1 r1 q1 (po.tk t1)⟩

/-! a + b -/
def rAddA (K : PySem.W.Frag) : R2 := fun x y H Q => rI0 (fun i j => .int (i + j)) x y H Q ∨ (∃ i j, x = .str i ∧ y = .str j ∧ i.length + j.length ≤ sizeLine ∧ Q (.str (i ++ j)) H) ∨ rCatT K x y H Q ∨ rCat x y H Q
theorem op_addA {X : Cx} : OpR X (binaryOp .Add) (rAddA X.K) := by
  intro pins s σ H x y v u Q I rx ry h
  rcases h with h | h | h | h
  · exact op_add pins s σ H x y v u Q I rx ry h
  · exact op_add_str pins s σ H x y v u Q I rx ry h
  · exact op_catT pins s σ H x y v u Q I rx ry h
  · exact op_cat pins s σ H x y v u Q I rx ry h
def wAdd : RW2 := fun x y S Q => match x, y with
  | .int i, .int j => Q (.int (i + j)) S
  | .str i, .str j => i.length + j.length ≤ sizeLine ∧ Q (.str (i ++ j)) S
  | .tup a, .tup b => a ≠ [] ∧ a.length + b.length ≤ sizeLine ∧ Q (.tup (a ++ b)) S
  | .ref a, .ref b => ∃ xs ys, S a = some (.lst xs) ∧ S b = some (.lst ys) ∧ xs.length + ys.length ≤ sizeLine ∧ ∀ p, S p = none → Q (.ref p) (put S p (.lst (xs ++ ys)))
  | _, _ => False
instance l2_add : L2R K (rAddA K) wAdd := ⟨fun H S x y wx wy Q Qw hh rx ry q po => by
  cases wx <;> cases wy <;> try exact q.elim
  · cases (show x = _ from rx); cases (show y = _ from ry)
    exact .inl ⟨_, _, rfl, rfl, po.int (Tk.refl H) hh q⟩
  · cases (show x = _ from rx); cases (show y = _ from ry)
    exact .inr (.inl ⟨_, _, rfl, rfl, q.1, po.str (Tk.refl H) hh q.2⟩)
  · cases (show x = _ from rx); cases (show y = _ from ry)
    obtain ⟨xs, ys, e1, e2, hl, q⟩ := q
    obtain ⟨as, h1, r1⟩ := hh _ _ e1
    obtain ⟨bs, h2, r2⟩ := hh _ _ e2
    refine .inr (.inr (.inr ⟨_, _, as, bs, rfl, rfl, h1, h2, by rw [r1.length, r2.length]; exact hl, fun p hp => ?_⟩))
    exact po.nlst hp hh (r1.append r2) q
  · obtain ⟨a, as, rfl, h1, r1⟩ := (show ∃ a xs, x = .ref a ∧ _ from rx)
    obtain ⟨b, bs, rfl, h2, r2⟩ := (show ∃ a xs, y = .ref a ∧ _ from ry)
    obtain ⟨hn, hl, q⟩ := q
    refine .inr (.inr (.inl ⟨a, b, as, bs, rfl, rfl, h1, h2, fun z => ?_, by rw [r1.length, r2.length]; exact hl, fun z => ?_, fun z p hp => ?_⟩))
    · subst z
      have := r1.length
      exact hn (List.length_eq_zero_iff.mp (by simpa using this.symm))
    · subst z
      have e : _ = [] := List.length_eq_zero_iff.mp (by simpa using (r2.length).symm)
      rw [e, List.append_nil] at q
      exact po.tup (Tk.refl H) hh h1 r1 q
    · exact po.ntup hp hh (r1.append r2) q⟩

/-! ints -/
def wII (f : Int → Int → Int) : RW2 := fun x y S Q => match x, y with
  | .int i, .int j => Q (.int (f i j)) S
  | _, _ => False
def wIC (C : Int → Int → Prop) (f : Int → Int → Int) : RW2 := fun x y S Q => match x, y with
  | .int i, .int j => C i j ∧ Q (.int (f i j)) S
  | _, _ => False
instance l2_ii {f : Int → Int → Int} : L2R K (rI0 fun i j => .int (f i j)) (wII f) := ⟨fun H S x y wx wy Q Qw hh rx ry q po => by
  cases wx <;> cases wy <;> try exact q.elim
  cases (show x = _ from rx); cases (show y = _ from ry)
  exact ⟨_, _, rfl, rfl, po.int (Tk.refl H) hh q⟩⟩
instance l2_ic {C : Int → Int → Prop} {f : Int → Int → Int} : L2R K (rI C fun i j => .int (f i j)) (wIC C f) := ⟨fun H S x y wx wy Q Qw hh rx ry q po => by
  cases wx <;> cases wy <;> try exact q.elim
  cases (show x = _ from rx); cases (show y = _ from ry)
  exact ⟨_, _, rfl, rfl, q.1, po.int (Tk.refl H) hh q.2⟩⟩
def CMulA (i j : Int) : Prop := CMul i j ∨ CMulW i j
def CDivA (i j : Int) : Prop := CDiv i j ∨ CDivW i j
theorem op_mulA {X : Cx} : OpR X (binaryOp .Mult) (rI CMulA fun i j => .int (i * j)) := by
  rintro pins s σ H x y v u Q I rx ry ⟨i, j, e1, e2, h | h, q⟩
  · exact op_mul pins s σ H x y v u Q I rx ry ⟨i, j, e1, e2, h, q⟩
  · exact op_mulW pins s σ H x y v u Q I rx ry ⟨i, j, e1, e2, h, q⟩
theorem op_fdivA {X : Cx} : OpR X (binaryOp .FloorDiv) (rI CDivA fun i j => .int (i / j)) := by
  rintro pins s σ H x y v u Q I rx ry ⟨i, j, e1, e2, h | h, q⟩
  · exact op_fdiv pins s σ H x y v u Q I rx ry ⟨i, j, e1, e2, h, q⟩
  · exact op_fdivW pins s σ H x y v u Q I rx ry ⟨i, j, e1, e2, h, q⟩
def wNeg : RW1 := fun x S Q => match x with
  | .int i => Q (.int (-i)) S
  | _ => False
instance l1_neg : L1R K (rU fun i => .int (-i)) wNeg := ⟨fun H S x wx Q Qw hh rx q po => by
  cases wx <;> try exact q.elim
  cases (show x = _ from rx)
  exact ⟨_, rfl, po.int (Tk.refl H) hh q⟩⟩

/-! ### comparisons -/
mutual
def datW : W → Bool
  | .non => true | .bl _ => true | .int _ => true | .str _ => true
  | .tup ws => datWs ws | .rl ws => datWs ws
  | .ref _ => false | .ty _ => false
def datWs : List W → Bool
  | [] => true
  | w :: ws => datW w && datWs ws
end
mutual
def toD : W → PyData
  | .non => .none | .bl b => .bool b | .int i => .int i | .str x => .str x
  | .tup ws => .tuple (toDs ws) | .rl ws => .list (toDs ws)
  | .ref _ => .none | .ty _ => .none
def toDs : List W → List PyData
  | [] => []
  | w :: ws => toD w :: toDs ws
end
mutual
theorem dp_of {H : Hp} : ∀ (w : W) (v : V), datW w = true → Rep K H w v → Dp K H v (toD w)
  | .non, _, _, h => by cases (show _ = _ from h); exact .non
  | .bl b, _, _, h => by cases (show _ = _ from h); exact .bl b
  | .int i, _, _, h => by cases (show _ = _ from h); exact .int i
  | .str x, _, _, h => by cases (show _ = _ from h); exact .str x
  | .tup ws, _, d, h => by
    obtain ⟨a, xs, rfl, h1, h2⟩ := h
    exact .tup h1 (dps_of ws xs (by unfold datW at d; exact d) h2)
  | .rl ws, _, d, h => by
    obtain ⟨a, xs, rfl, h1, h2⟩ := h
    exact .lst h1.sq (dps_of ws xs (by unfold datW at d; exact d) h2)
  | .ref _, _, d, _ => by unfold datW at d; cases d
  | .ty _, _, d, _ => by unfold datW at d; cases d
theorem dps_of {H : Hp} : ∀ (ws : List W) (xs : List V), datWs ws = true → RepL K H ws xs → DpAll K H xs (toDs ws)
  | [], _, _, h => by cases (show _ = [] from h); exact .nil
  | w :: ws, _, d, h => by
    obtain ⟨x, r, rfl, h1, h2⟩ := h
    unfold datWs at d
    rw [Bool.and_eq_true] at d
    exact .cons (dp_of w x d.1 h1) (dps_of ws r d.2 h2)
end
def rEqA (K : PySem.W.Frag) : R2 := fun x y H Q => rEq x y H Q ∨ rEqD K x y H Q
def rNeA (K : PySem.W.Frag) : R2 := fun x y H Q => rNe x y H Q ∨ rNeD K x y H Q
theorem op_eqA {X : Cx} (hu : X.A.units + 64 < cLine) : OpR X (compareOp .Eq) (rEqA X.K) := by
  intro pins s σ H x y v u Q I rx ry h
  rcases h with h | h
  · exact op_eq pins s σ H x y v u Q I rx ry h
  · exact op_eqD hu pins s σ H x y v u Q I rx ry h
theorem op_neA {X : Cx} (hu : X.A.units + 64 < cLine) : OpR X (compareOp .NotEq) (rNeA X.K) := by
  intro pins s σ H x y v u Q I rx ry h
  rcases h with h | h
  · exact op_ne pins s σ H x y v u Q I rx ry h
  · exact op_neD hu pins s σ H x y v u Q I rx ry h
def shW (x : W) : Prop := datW x = true ∧ SeqAt.shaped (toD x) = true
/-- a == b: the answer goes to k -/
def wEqK (x y : W) (S : Sto) (k : Bool → Prop) : Prop := match x, y with
  | .int i, .int j => k (decide (i = j))
  | .str i, .str j => k (decide (i = j))
  | .bl i, .bl j => k (decide (i = j))
  | .non, .non => k true
  | .non, .int _ => k false
  | .int _, .non => k false
  | .non, .str _ => k false
  | .str _, .non => k false
  | .non, .bl _ => k false
  | .bl _, .non => k false
  | .int _, .str _ => k false
  | .str _, .int _ => k false
  | .ref a, .ref b => ∃ xs ys, S a = some (.lst xs) ∧ S b = some (.lst ys) ∧ shW (.rl xs) ∧ shW (.rl ys) ∧ k (PyData.eqvAll (toDs xs) (toDs ys))
  | x, y => shW x ∧ shW y ∧ k (PyData.eqv (toD x) (toD y))
def wEq : RW2 := fun x y S Q => wEqK x y S fun b => Q (.bl b) S
def wNe : RW2 := fun x y S Q => wEqK x y S fun b => Q (.bl (!b)) S
theorem eqK_of {H : Hp} {S : Sto} {x y : V} {wx wy : W} {k : Bool → Prop} (hh : HRep K H S) (rx : Rep K H wx x) (ry : Rep K H wy y) (q : wEqK wx wy S k) :
    (∃ b, scal x y = true ∧ decide (x = y) = b ∧ k b) ∨ ∃ d e, Dp K H x d ∧ Dp K H y e ∧ SeqAt.shaped d = true ∧ SeqAt.shaped e = true ∧ k (PyData.eqv d e) := by
  have gen : shW wx ∧ shW wy ∧ k (PyData.eqv (toD wx) (toD wy)) → ∃ d e, Dp K H x d ∧ Dp K H y e ∧ SeqAt.shaped d = true ∧ SeqAt.shaped e = true ∧ k (PyData.eqv d e) :=
    fun ⟨h1, h2, h3⟩ => ⟨_, _, dp_of _ _ h1.1 rx, dp_of _ _ h2.1 ry, h1.2, h2.2, h3⟩
  cases wx <;> cases wy <;> first
    | exact .inr (gen q)
    | (cases (show x = _ from rx); cases (show y = _ from ry); refine .inl ⟨_, rfl, ?_, q⟩; first | rfl | (rw [dec_int]; rw [Bool.eq_iff_iff]; simp) | (rw [dec_str]; rw [Bool.eq_iff_iff]; simp) | (rw [dec_bl]; rw [Bool.eq_iff_iff]; simp))
    | skip
  · obtain ⟨xs, ys, e1, e2, h1, h2, q⟩ := q
    cases (show x = _ from rx); cases (show y = _ from ry)
    obtain ⟨as, g1, r1⟩ := hh _ _ e1
    obtain ⟨bs, g2, r2⟩ := hh _ _ e2
    refine .inr ⟨.list (toDs xs), .list (toDs ys), .lst (SqL.of g1) (dps_of _ _ ?_ r1), .lst (SqL.of g2) (dps_of _ _ ?_ r2), h1.2, h2.2, ?_⟩
    · have := h1.1; unfold datW at this; exact this
    · have := h2.1; unfold datW at this; exact this
    · rw [show PyData.eqv (.list (toDs xs)) (.list (toDs ys)) = PyData.eqvAll (toDs xs) (toDs ys) by first | rfl | simp [PyData.eqv]]
      exact q
instance l2_eq : L2R K (rEqA K) wEq := ⟨fun H S x y wx wy Q Qw hh rx ry q po => by
  rcases eqK_of hh rx ry q with ⟨b, e, e2, q⟩ | ⟨d, e, h1, h2, h3, h4, q⟩
  · exact .inl ⟨e, by rw [e2]; exact po.bl (Tk.refl H) hh q⟩
  · exact .inr ⟨d, e, h1, h2, h3, h4, po.bl (Tk.refl H) hh q⟩⟩
instance l2_ne : L2R K (rNeA K) wNe := ⟨fun H S x y wx wy Q Qw hh rx ry q po => by
  rcases eqK_of hh rx ry q with ⟨b, e, e2, q⟩ | ⟨d, e, h1, h2, h3, h4, q⟩
  · exact .inl ⟨e, by rw [e2]; exact po.bl (Tk.refl H) hh q⟩
  · exact .inr ⟨d, e, h1, h2, h3, h4, po.bl (Tk.refl H) hh q⟩⟩
/-- orders: ints, texts -/
def rOrd (p : Int → Int → Bool) (s : Str → Str → Bool) : R2 := fun x y H Q => (∃ i j, x = .int i ∧ y = .int j ∧ Q (.bl (p i j)) H) ∨ ∃ i j, x = .str i ∧ y = .str j ∧ Q (.bl (s i j)) H
def wOrd (p : Int → Int → Bool) (s : Str → Str → Bool) : RW2 := fun x y S Q => match x, y with
  | .int i, .int j => Q (.bl (p i j)) S
  | .str i, .str j => Q (.bl (s i j)) S
  | _, _ => False
instance l2_ord {p : Int → Int → Bool} {s : Str → Str → Bool} : L2R K (rOrd p s) (wOrd p s) := ⟨fun H S x y wx wy Q Qw hh rx ry q po => by
  cases wx <;> cases wy <;> try exact q.elim
  · cases (show x = _ from rx); cases (show y = _ from ry)
    exact .inl ⟨_, _, rfl, rfl, po.bl (Tk.refl H) hh q⟩
  · cases (show x = _ from rx); cases (show y = _ from ry)
    exact .inr ⟨_, _, rfl, rfl, po.bl (Tk.refl H) hh q⟩⟩
abbrev sLt (i j : Str) : Bool := decide (i.cps.toList < j.cps.toList)
theorem op_ltA {X : Cx} : OpR X (compareOp .Lt) (rOrd (fun i j => decide (i < j)) fun i j => sLt i j) := by
  intro pins s σ H x y v u Q I rx ry h
  rcases h with h | h
  · exact op_lt pins s σ H x y v u Q I rx ry h
  · exact op_lt_str pins s σ H x y v u Q I rx ry h
theorem op_leA {X : Cx} : OpR X (compareOp .LtE) (rOrd (fun i j => decide (i ≤ j)) fun i j => !sLt j i) := by
  intro pins s σ H x y v u Q I rx ry h
  rcases h with h | h
  · exact op_le pins s σ H x y v u Q I rx ry h
  · exact op_le_str pins s σ H x y v u Q I rx ry h
theorem op_gtA {X : Cx} : OpR X (compareOp .Gt) (rOrd (fun i j => decide (j < i)) fun i j => sLt j i) := by
  intro pins s σ H x y v u Q I rx ry h
  rcases h with h | h
  · exact op_gt pins s σ H x y v u Q I rx ry h
  · exact op_gt_str pins s σ H x y v u Q I rx ry h
theorem op_geA {X : Cx} : OpR X (compareOp .GtE) (rOrd (fun i j => decide (j ≤ i)) fun i j => !sLt i j) := by
  intro pins s σ H x y v u Q I rx ry h
  rcases h with h | h
  · exact op_ge pins s σ H x y v u Q I rx ry h
  · exact op_ge_str pins s σ H x y v u Q I rx ry h

/-! in -/
def flatW : W → Bool
  | .non => true | .bl _ => true | .int _ => true | .str _ => true
  | _ => false
def eqF : W → W → Bool
  | .non, .non => true
  | .bl a, .bl b => a == b
  | .bl a, .int b => (if a then 1 else 0) == b
  | .int a, .bl b => a == (if b then 1 else 0)
  | .int a, .int b => a == b
  | .str a, .str b => a == b
  | _, _ => false
def isInW (x : W) (ws : List W) : Bool := ws.any fun y => eqF y x
theorem flat_of {H : Hp} {w : W} {v : V} (r : Rep K H w v) (f : flatW w = true) : flatV v = true := by
  cases w <;> try (cases f)
  all_goals (cases (show v = _ from r); rfl)
theorem flats_of {H : Hp} : ∀ {ws : List W} {xs : List V}, RepL K H ws xs → ws.all flatW = true → xs.all flatV = true
  | [], _, h, _ => by cases (show _ = [] from h); rfl
  | w :: ws, _, h, f => by
    obtain ⟨x, r, rfl, h1, h2⟩ := h
    rw [List.all_cons, Bool.and_eq_true] at f ⊢
    exact ⟨flat_of h1 f.1, flats_of h2 f.2⟩
theorem eqF_of {H : Hp} {w z : W} {v x : V} (r : Rep K H w v) (f : flatW w = true) (r2 : Rep K H z x) (g : flatW z = true) : eqV v x = eqF w z := by
  cases w <;> cases z <;> first
    | (cases f; done)
    | (cases g; done)
    | (cases (show v = _ from r); cases (show x = _ from r2); rfl)
theorem isIn_of {H : Hp} {z : W} {x : V} (r2 : Rep K H z x) (g : flatW z = true) : ∀ {ws : List W} {xs : List V}, RepL K H ws xs → ws.all flatW = true → inV x xs = isInW z ws
  | [], _, h, _ => by cases (show _ = [] from h); rfl
  | w :: ws, _, h, f => by
    obtain ⟨y, r, rfl, h1, h2⟩ := h
    rw [List.all_cons, Bool.and_eq_true] at f
    have ih := isIn_of r2 g h2 f.2
    unfold inV isInW at ih ⊢
    rw [List.any_cons, List.any_cons, eqF_of h1 f.1 r2 g, ih]
def rInA (K : PySem.W.Frag) (neg : Bool) : R2 := fun x y H Q => rIn K neg x y H Q ∨ ∃ i j, x = .str i ∧ y = .str j ∧ Q (.bl (if neg then !(!(Builtin.Str.occurrences j i 0 j.length 1).isEmpty) else !(Builtin.Str.occurrences j i 0 j.length 1).isEmpty)) H
theorem op_inA {X : Cx} : OpR X (compareOp .In) (rInA X.K false) := by
  intro pins s σ H x y v u Q I rx ry h
  rcases h with h | h
  · exact op_in_seq pins s σ H x y v u Q I rx ry h
  · exact op_in_str pins s σ H x y v u Q I rx ry h
theorem op_notInA {X : Cx} : OpR X (compareOp .NotIn) (rInA X.K true) := by
  intro pins s σ H x y v u Q I rx ry h
  rcases h with h | h
  · exact op_notIn_seq pins s σ H x y v u Q I rx ry h
  · exact op_notin_str pins s σ H x y v u Q I rx ry h
def wInK (x y : W) (S : Sto) (k : Bool → Prop) : Prop := match x, y with
  | .str i, .str j => k (!(Builtin.Str.occurrences j i 0 j.length 1).isEmpty)
  | x, .tup ws => flatW x = true ∧ ws.all flatW = true ∧ k (isInW x ws)
  | x, .rl ws => flatW x = true ∧ ws.all flatW = true ∧ k (isInW x ws)
  | x, .ref a => flatW x = true ∧ ∃ ws, S a = some (.lst ws) ∧ ws.all flatW = true ∧ k (isInW x ws)
  | _, _ => False
def wIn (neg : Bool) : RW2 := fun x y S Q => wInK x y S fun b => Q (.bl (if neg then !b else b)) S
instance l2_in {neg : Bool} : L2R K (rInA K neg) (wIn neg) := ⟨fun H S x y wx wy Q Qw hh rx ry q po => by
  have go : ∀ {p : Addr} {xs : List V} {ws : List W}, y = .ref p → (SqL K H p xs ∨ SqT K H p xs) → RepL K H ws xs → flatW wx = true → ws.all flatW = true → Qw (.bl (if neg then !isInW wx ws else isInW wx ws)) S → rInA K neg x y H Q :=
    fun {p xs ws} e h r f g q => .inl ⟨p, xs, e, h, flat_of rx f, flats_of r g, by rw [isIn_of rx f r g]; exact po.bl (Tk.refl H) hh q⟩
  have tup : ∀ {ws : List W}, Rep K H (.tup ws) y → (flatW wx = true ∧ ws.all flatW = true ∧ Qw (.bl (if neg then !isInW wx ws else isInW wx ws)) S) → rInA K neg x y H Q := fun {ws} r q => by
    obtain ⟨a, xs, e, h1, h2⟩ := r
    exact go e (.inr h1) h2 q.1 q.2.1 q.2.2
  have rl : ∀ {ws : List W}, Rep K H (.rl ws) y → (flatW wx = true ∧ ws.all flatW = true ∧ Qw (.bl (if neg then !isInW wx ws else isInW wx ws)) S) → rInA K neg x y H Q := fun {ws} r q => by
    obtain ⟨a, xs, e, h1, h2⟩ := r
    exact go e (.inl h1.sq) h2 q.1 q.2.1 q.2.2
  have ref : ∀ {a : Addr}, Rep K H (.ref a) y → (flatW wx = true ∧ ∃ ws, S a = some (.lst ws) ∧ ws.all flatW = true ∧ Qw (.bl (if neg then !isInW wx ws else isInW wx ws)) S) → rInA K neg x y H Q := fun {a} r q => by
    obtain ⟨f, ws, e, g, q⟩ := q
    obtain ⟨xs, h1, h2⟩ := hh _ _ e
    exact go r (.inl (SqL.of h1)) h2 f g q
  cases wx <;> cases wy <;> first
    | exact q.elim
    | exact tup ry q
    | exact rl ry q
    | exact ref ry q
    | (cases (show x = _ from rx); cases (show y = _ from ry)
       refine .inr ⟨_, _, rfl, rfl, ?_⟩
       cases neg <;> exact po.bl (Tk.refl H) hh q)⟩

/-! chains -/
def wChain (r r' : RW2) (ta tb tc : TEW) : TEW := fun ρ S Q => ta ρ S fun x S1 => tb ρ S1 fun y S2 => r x y S2 fun z S3 => match z with
  | .bl k => (k = true → tc ρ S3 fun w S4 => r' y w S4 Q) ∧ (k = false → Q (.bl false) S3)
  | _ => False
instance le_chain {r r' : R2} {ta tb tc : TE} {rw rw' : RW2} {wa wb wc : TEW} [h : L2R K r rw] [h' : L2R K r' rw'] [a : LE K B ta wa] [b : LE K B tb wb] [c : LE K B tc wc] : LE K B (tChain r r' ta tb tc) (wChain rw rw' wa wb wc) := ⟨fun σ H ρ S Q Qw hs hh q po =>
  a.l σ H ρ S _ _ hs hh q fun x H1 wx S1 t1 hh1 r1 q1 => b.l σ H1 ρ S1 _ _ (hs.tk t1) hh1 q1 fun y H2 wy S2 t2 hh2 r2 q2 =>
    h.l H2 S2 x y wx wy _ _ hh2 (Rep.tk t2 _ _ r1) r2 q2 fun z H3 wz S3 t3 hh3 r3 q3 => by
      cases wz <;> try exact q3.elim
      rename_i k
      cases (show z = _ from r3)
      refine ⟨k, rfl, ?_⟩
      cases k with
      | true =>
        rw [if_pos rfl]
        exact c.l σ H3 ρ S3 _ _ (hs.tk ((t1.trans t2).trans t3)) hh3 (q3.1 rfl) fun w H4 ww S4 t4 hh4 r4 q4 => h'.l H4 S4 y w wy ww Q Qw hh4 (Rep.tk (t3.trans t4) _ _ r2) r4 q4 (po.tk (((t1.trans t2).trans t3).trans t4))
      | false =>
        rw [if_neg Bool.false_ne_true]
        exact po.bl ((t1.trans t2).trans t3) hh3 (q3.2 rfl)⟩

/-! ### tests -/
def wT (t : TEW) : TTW := fun ρ S Q => t ρ S fun x S1 => match x with
  | .bl k => Q k S1
  | _ => False
instance lt_test {t : TE} {tw : TEW} [a : LE K B t tw] : LT K B (tTest t) (wT tw) := ⟨fun σ H ρ S Q Qw hs hh q po =>
  a.l σ H ρ S _ _ hs hh q fun x H1 wx S1 t1 hh1 r1 q1 => by
    cases wx <;> try exact q1.elim
    rename_i k
    cases (show x = _ from r1)
    exact ⟨k, rfl, po _ H1 S1 t1 hh1 q1⟩⟩
instance lt_B {t : TE} {tw : TEW} [a : LE K B t tw] : LT K B (tB t) (wT tw) := ⟨fun σ H ρ S Q Qw hs hh q po =>
  a.l σ H ρ S _ _ hs hh q fun x H1 wx S1 t1 hh1 r1 q1 => by
    cases wx <;> try exact q1.elim
    rename_i k
    cases (show x = _ from r1)
    exact ⟨k, rfl, po _ H1 S1 t1 hh1 q1⟩⟩
def wAnd (t u : TTW) : TTW := fun ρ S Q => t ρ S fun c S1 => (c = true → u ρ S1 Q) ∧ (c = false → Q false S1)
def wOr (t u : TTW) : TTW := fun ρ S Q => t ρ S fun c S1 => (c = true → Q true S1) ∧ (c = false → u ρ S1 Q)
def wNot (t : TTW) : TTW := fun ρ S Q => t ρ S fun c S1 => Q (!c) S1
instance lt_and {t u : TT} {tw uw : TTW} [a : LT K B t tw] [b : LT K B u uw] : LT K B (tAnd t u) (wAnd tw uw) := ⟨fun σ H ρ S Q Qw hs hh q po =>
  a.l σ H ρ S _ _ hs hh q fun c H1 S1 t1 hh1 q1 => by
    cases c with
    | true => rw [if_pos rfl]; exact b.l σ H1 ρ S1 _ _ (hs.tk t1) hh1 (q1.1 rfl) (po.tk t1)
    | false => rw [if_neg Bool.false_ne_true]; exact po _ H1 S1 t1 hh1 (q1.2 rfl)⟩
instance lt_or {t u : TT} {tw uw : TTW} [a : LT K B t tw] [b : LT K B u uw] : LT K B (tOr t u) (wOr tw uw) := ⟨fun σ H ρ S Q Qw hs hh q po =>
  a.l σ H ρ S _ _ hs hh q fun c H1 S1 t1 hh1 q1 => by
    cases c with
    | true => rw [if_pos rfl]; exact po _ H1 S1 t1 hh1 (q1.1 rfl)
    | false => rw [if_neg Bool.false_ne_true]; exact b.l σ H1 ρ S1 _ _ (hs.tk t1) hh1 (q1.2 rfl) (po.tk t1)⟩
instance lt_not {t : TT} {tw : TTW} [a : LT K B t tw] : LT K B (tNot t) (wNot tw) := ⟨fun σ H ρ S Q Qw hs hh q po =>
  a.l σ H ρ S _ _ hs hh q fun c H1 S1 t1 hh1 q1 => po _ H1 S1 t1 hh1 q1⟩
def wYes : TTW := fun _ S Q => Q true S
instance lt_yes : LT K B tYes wYes := ⟨fun σ H ρ S Q Qw hs hh q po => po _ H S (Tk.refl H) hh q⟩
def wAndV (t u : TEW) : TEW := fun ρ S Q => t ρ S fun x S1 => match x with
  | .bl c => (c = true → u ρ S1 Q) ∧ (c = false → Q (.bl false) S1)
  | _ => False
def wOrV (t u : TEW) : TEW := fun ρ S Q => t ρ S fun x S1 => match x with
  | .bl c => (c = true → Q (.bl true) S1) ∧ (c = false → u ρ S1 Q)
  | _ => False
def wNotV (t : TEW) : TEW := fun ρ S Q => t ρ S fun x S1 => match x with
  | .bl c => Q (.bl (!c)) S1
  | _ => False
instance le_andV {t u : TE} {tw uw : TEW} [a : LE K B t tw] [b : LE K B u uw] : LE K B (tAndV t u) (wAndV tw uw) := ⟨fun σ H ρ S Q Qw hs hh q po =>
  a.l σ H ρ S _ _ hs hh q fun x H1 wx S1 t1 hh1 r1 q1 => by
    cases wx <;> try exact q1.elim
    rename_i c
    cases (show x = _ from r1)
    refine ⟨c, rfl, ?_⟩
    cases c with
    | true => rw [if_pos rfl]; exact b.l σ H1 ρ S1 _ _ (hs.tk t1) hh1 (q1.1 rfl) (po.tk t1)
    | false => rw [if_neg Bool.false_ne_true]; exact po.bl t1 hh1 (q1.2 rfl)⟩
instance le_orV {t u : TE} {tw uw : TEW} [a : LE K B t tw] [b : LE K B u uw] : LE K B (tOrV t u) (wOrV tw uw) := ⟨fun σ H ρ S Q Qw hs hh q po =>
  a.l σ H ρ S _ _ hs hh q fun x H1 wx S1 t1 hh1 r1 q1 => by
    cases wx <;> try exact q1.elim
    rename_i c
    cases (show x = _ from r1)
    refine ⟨c, rfl, ?_⟩
    cases c with
    | true => rw [if_pos rfl]; exact po.bl t1 hh1 (q1.1 rfl)
    | false => rw [if_neg Bool.false_ne_true]; exact b.l σ H1 ρ S1 _ _ (hs.tk t1) hh1 (q1.2 rfl) (po.tk t1)⟩
instance le_notV {t : TE} {tw : TEW} [a : LE K B t tw] : LE K B (tNotV t) (wNotV tw) := ⟨fun σ H ρ S Q Qw hs hh q po =>
  a.l σ H ρ S _ _ hs hh q fun x H1 wx S1 t1 hh1 r1 q1 => by
    cases wx <;> try exact q1.elim
    rename_i c
    cases (show x = _ from r1)
    exact ⟨c, rfl, po.bl t1 hh1 q1⟩⟩
def wIfE (t : TTW) (a b : TEW) : TEW := fun ρ S Q => t ρ S fun c S1 => (c = true → a ρ S1 Q) ∧ (c = false → b ρ S1 Q)
instance le_if {t : TT} {a b : TE} {tw : TTW} {aw bw : TEW} [h : LT K B t tw] [h1 : LE K B a aw] [h2 : LE K B b bw] : LE K B (tIf t a b) (wIfE tw aw bw) := ⟨fun σ H ρ S Q Qw hs hh q po =>
  h.l σ H ρ S _ _ hs hh q fun c H1 S1 t1 hh1 q1 => by
    cases c with
    | true => rw [if_pos rfl]; exact h1.l σ H1 ρ S1 _ _ (hs.tk t1) hh1 (q1.1 rfl) (po.tk t1)
    | false => rw [if_neg Bool.false_ne_true]; exact h2.l σ H1 ρ S1 _ _ (hs.tk t1) hh1 (q1.2 rfl) (po.tk t1)⟩

/-! ### displays, arguments -/
def wNil : TAW := fun _ S Q => Q [] S
def wCons (ta : TEW) (tr : TAW) : TAW := fun ρ S Q => ta ρ S fun x S1 => tr ρ S1 fun xs S2 => Q (x :: xs) S2
instance la_nil : LA K B tNil wNil := ⟨fun σ H ρ S Q Qw hs hh q po => po [] H [] S (Tk.refl H) hh (show RepL K H [] [] from rfl) q⟩
instance la_cons {ta : TE} {tr : TA} {wa : TEW} {wr : TAW} [a : LE K B ta wa] [b : LA K B tr wr] : LA K B (tCons ta tr) (wCons wa wr) := ⟨fun σ H ρ S Q Qw hs hh q po =>
  a.l σ H ρ S _ _ hs hh q fun x H1 wx S1 t1 hh1 r1 q1 => b.l σ H1 ρ S1 _ _ (hs.tk t1) hh1 q1 fun xs H2 ws S2 t2 hh2 r2 q2 =>
    po _ H2 _ S2 (t1.trans t2) hh2 (.cons (Rep.tk t2 _ _ r1) r2) q2⟩
/-- a size that is small at sight asks nothing -/
def fits (n : Nat) (A : Prop) : Prop := match Nat.ble n 1000 with
  | true => A
  | false => n ≤ sizeLine ∧ A
theorem fits_of {n : Nat} {A : Prop} (h : fits n A) : n ≤ sizeLine ∧ A := by
  unfold fits at h
  split at h
  · rename_i e
    exact ⟨Nat.le_trans (Nat.le_of_ble_eq_true e) (by decide), h⟩
  · exact h
theorem fits_mk {n : Nat} {A : Prop} (h : n ≤ sizeLine) (a : A) : fits n A := by
  unfold fits
  split
  · exact a
  · exact ⟨h, a⟩
def wTup (t : TAW) : TEW := fun ρ S Q => t ρ S fun ws S1 => fits ws.length (Q (.tup ws) S1)
def wLst (t : TAW) : TEW := fun ρ S Q => t ρ S fun ws S1 => fits ws.length (∀ p, S1 p = none → Q (.ref p) (put S1 p (.lst ws)))
instance le_tup {t : TA} {tw : TAW} [a : LA K B t tw] : LE K B (tTup t) (wTup tw) := ⟨fun σ H ρ S Q Qw hs hh q po =>
  a.l σ H ρ S _ _ hs hh q fun xs H1 ws S1 t1 hh1 r1 q1 => ⟨by rw [r1.length]; exact (fits_of q1).1, fun p hp =>
    (po.tk t1).ntup hp hh1 r1 (fits_of q1).2⟩⟩
instance le_lst {t : TA} {tw : TAW} [a : LA K B t tw] : LE K B (tLst t) (wLst tw) := ⟨fun σ H ρ S Q Qw hs hh q po =>
  a.l σ H ρ S _ _ hs hh q fun xs H1 ws S1 t1 hh1 r1 q1 => ⟨by rw [r1.length]; exact (fits_of q1).1, fun p hp =>
    (po.tk t1).nlst hp hh1 r1 (fits_of q1).2⟩⟩

/-! ### items, slices -/
theorem atI_of {H : Hp} {ws : List W} {xs : List V} {i : Int} {w : W} (r : RepL K H ws xs) (e : atI ws i = some w) : ∃ x, atI xs i = some x ∧ Rep K H w x := by
  unfold atI at e ⊢
  rw [r.length]
  cases q : ixN ws.length i with
  | none => rw [q] at e; cases e
  | some j =>
    rw [q] at e
    exact r.get e
def rdAt (o : Option W) (S : Sto) (Q : WK) : Prop := match o with
  | some w => Q w S
  | none => False
theorem rdAt_of {o : Option W} {S : Sto} {Q : WK} (h : rdAt o S Q) : ∃ w, o = some w ∧ Q w S := by
  cases o with
  | none => exact h.elim
  | some w => exact ⟨w, rfl, h⟩
def wIx : RW2 := fun x y S Q => match x, y with
  | .tup ws, .int i => rdAt (atI ws i) S Q
  | .rl ws, .int i => rdAt (atI ws i) S Q
  | .ref a, .int i => ∃ ws, S a = some (.lst ws) ∧ rdAt (atI ws i) S Q
  | .str z, .int i => z.length ≤ sizeLine ∧ ∃ c, atI z.cps.toList i = some c ∧ Q (.str ⟨#[c]⟩) S
  | _, _ => False
instance l2_ix : L2R K (rIx K) wIx := ⟨fun H S x y wx wy Q Qw hh rx ry q po => by
  cases wx <;> cases wy <;> try exact q.elim
  · cases (show x = _ from rx); cases (show y = _ from ry)
    obtain ⟨hl, c, e, q⟩ := q
    exact .inr (.inr ⟨_, _, c, rfl, rfl, hl, e, po.str (Tk.refl H) hh q⟩)
  · cases (show x = _ from rx); cases (show y = _ from ry)
    obtain ⟨ws, e, q⟩ := q
    obtain ⟨w, e2, q⟩ := rdAt_of q
    obtain ⟨xs, h1, h2⟩ := hh _ _ e
    obtain ⟨v, e3, r⟩ := atI_of h2 e2
    exact .inl ⟨_, xs, _, v, rfl, rfl, SqL.of h1, e3, po v H w S (Tk.refl H) hh r q⟩
  · cases (show y = _ from ry)
    obtain ⟨a, xs, rfl, h1, h2⟩ := rx
    obtain ⟨w, e2, q⟩ := rdAt_of q
    obtain ⟨v, e3, r⟩ := atI_of h2 e2
    exact .inr (.inl ⟨_, xs, _, v, rfl, rfl, h1, e3, po v H w S (Tk.refl H) hh r q⟩)
  · cases (show y = _ from ry)
    obtain ⟨a, xs, rfl, h1, h2⟩ := rx
    obtain ⟨w, e2, q⟩ := rdAt_of q
    obtain ⟨v, e3, r⟩ := atI_of h2 e2
    exact .inl ⟨_, xs, _, v, rfl, rfl, h1.sq, e3, po v H w S (Tk.refl H) hh r q⟩⟩

end Wl
set_option Elab.async false
set_option linter.all false
set_option maxRecDepth 100000
set_option maxHeartbeats 2000000
namespace HT
open PySem PySem.Spec PyProof.Rows L2
variable {prog : Program} {w : World} {A : Around} {E : Value → Shared → Prop} {s : Shared}
theorem getItem_tuple_whole {t sl : Addr} {items : Array Value} {vl vu : Value} {lo hi : Option Int} {Q : Value → Shared → Prop} (ht : IsTup s.heap t items) (hs : s.heap.IsSliceOf sl vl vu .none) (pl : IsPart vl lo) (pu : IsPart vu hi)
    (hw : sIx items.size 0 lo = 0 ∧ sIx items.size items.size hi = items.size)
    (h : Q (.ref t) s) : wpAny (model prog w) A (getItem (.ref t) (.ref sl)) Q E s := by
  obtain ⟨os, hos, hcs, hds⟩ := id hs
  have hTs : s.TypeIs (.ref sl) "slice" := ⟨os, hos, hcs⟩
  unfold getItem
  try with_reducible refine wpAny_holding ?_
  first | refine wpAny_bind (wpAny_pure ?_) | skip
  refine wpAny_bind (wpAny_sequenceKey ht.typeIs (by decide) ?_)
  refine wpAny_bind (wpAny_callSpecial?_slot (name := Str.ofString "__getitem__") ht.typeIs PyProof.Rows.slot_tuple_getitem
    (wpAny_call_entry PyProof.Rows.slot_tuple_getitem ht.typeIs entry_tuple_getitem ?_ (args_tuple_getitem _ _)))
  show wpAny _ _ (Builtin.Tuple.tupleItemsOf (.ref t) >>= _) _ _ s
  refine wpAny_bind (tupleItemsOf_ ht ?_)
  refine wpAny_bind (wpAny_typeOf hTs ?_)
  rw [if_pos (by decide)]
  refine wpAny_bind (sliceApplied_gen hs pl pu ?_)
  have hyes : ((((sIx items.size 0 lo : Nat) : Int) == 0 && (1 : Int) == 1 && (sIx items.size items.size hi - sIx items.size 0 lo) == items.size) = true) := by
    rw [hw.1, hw.2]
    simp
  show wpAny _ _ (if (((sIx items.size 0 lo : Nat) : Int) == 0 && (1 : Int) == 1 && (sIx items.size items.size hi - sIx items.size 0 lo) == items.size) = true then _ else _) _ _ s
  rw [if_pos hyes]
  have hT : s.TypeIs (.ref t) "tuple" := ht.typeIs
  first
    | exact wpAny_pure ⟨_, rfl, wpAny_pure h⟩
    | exact wpAny_bind (wpAny_pure ⟨_, rfl, wpAny_pure h⟩)
    | (refine wpAny_bind (wpAny_typeOf hT ?_); rw [if_pos (by decide)]; exact wpAny_pure ⟨_, rfl, wpAny_pure h⟩)
    | (refine wpAny_bind (wpAny_bind (wpAny_typeOf hT ?_))
       refine wpAny_pure ?_
       rw [if_pos (by decide)]
       exact wpAny_bind (wpAny_rule (wpAny_pure ⟨_, rfl, wpAny_pure h⟩)))
end HT
namespace Wl
open PySem PySem.Spec PyProof.Rows L2
variable {K : PySem.W.Frag} {B : Hp}

/-! ### slices -/
def rSlTw (K : PySem.W.Frag) : V → Option Int → Option Int → Hp → VK → Prop := fun x lo hi H Q => ∃ a xs, x = .ref a ∧ SqT K H a xs ∧ (HT.sIx xs.length 0 lo = 0 ∧ HT.sIx xs.length xs.length hi = xs.length) ∧ Q (.ref a) H
theorem sl_tupw {X : Cx} : SlR X (rSlTw X.K) := by
  intro pins s σ H x v vl vu lo hi sl Q I rx hs pl pu h
  obtain ⟨a, xs, rfl, hx, hw, q⟩ := h
  cases rx
  obtain ⟨its, r, ht, hz⟩ := I.tuple hx
  have hlen : its.toArray.size = xs.length := by rw [List.size_toArray]; exact r.length.symm
  refine ⟨"tuple", _, PyProof.Rows.slot_tuple_getitem.lookup, ht.typeIs, ?_⟩
  exact HT.getItem_tuple_whole ht hs pl pu (by rw [hlen]; exact hw) ⟨.ref a, H, I, rfl, q⟩
def rSlA (K : PySem.W.Frag) : V → Option Int → Option Int → Hp → VK → Prop := fun x lo hi H Q => rSlS x lo hi H Q ∨ rSlL K x lo hi H Q ∨ rSlT K x lo hi H Q ∨ rSlTw K x lo hi H Q
theorem sl_A {X : Cx} : SlR X (rSlA X.K) := by
  intro pins s σ H x v vl vu lo hi sl Q I rx hs pl pu h
  rcases h with h | h | h | h
  · exact sl_str pins s σ H x v vl vu lo hi sl Q I rx hs pl pu h
  · exact sl_list pins s σ H x v vl vu lo hi sl Q I rx hs pl pu h
  · exact sl_tup pins s σ H x v vl vu lo hi sl Q I rx hs pl pu h
  · exact sl_tupw pins s σ H x v vl vu lo hi sl Q I rx hs pl pu h
def cutL {α : Type} (xs : List α) (lo hi : Option Int) : List α := (xs.drop (HT.sIx xs.length 0 lo)).take (HT.sIx xs.length xs.length hi - HT.sIx xs.length 0 lo)
theorem cutL_rep {H : Hp} {ws : List W} {xs : List V} (r : RepL K H ws xs) (lo hi : Option Int) : RepL K H (cutL ws lo hi) (cutV xs lo hi) := by
  unfold cutL cutV
  rw [r.length]
  exact (r.drop _).take _
theorem cutL_whole {ws : List W} {lo hi : Option Int} (h : HT.sIx ws.length 0 lo = 0 ∧ HT.sIx ws.length ws.length hi = ws.length) : cutL ws lo hi = ws := by
  unfold cutL
  rw [h.1, h.2]
  simp
def wSlR (x : W) (lo hi : Option Int) (S : Sto) (Q : WK) : Prop := match x with
  | .str z => z.length ≤ sizeLine ∧ Q (.str (cutS z lo hi)) S
  | .tup ws => Q (.tup (cutL ws lo hi)) S
  | .rl ws => ∀ p, S p = none → Q (.ref p) (put S p (.lst (cutL ws lo hi)))
  | .ref a => ∃ ws, S a = some (.lst ws) ∧ ∀ p, S p = none → Q (.ref p) (put S p (.lst (cutL ws lo hi)))
  | _ => False
def wSl (te : TEW) (tl th : TOW) : TEW := fun ρ S Q => te ρ S fun x S1 => tl ρ S1 fun l S2 => th ρ S2 fun u S3 => wSlR x l u S3 Q
def wNoPart : TOW := fun _ S Q => Q none S
def wPart (t : TEW) : TOW := fun ρ S Q => t ρ S fun x S1 => match x with
  | .int i => Q (some i) S1
  | _ => False
instance lo_none : LO K B tNoPart wNoPart := ⟨fun σ H ρ S Q Qw hs hh q po => po _ H S (Tk.refl H) hh q⟩
instance lo_some {t : TE} {tw : TEW} [a : LE K B t tw] : LO K B (tPart t) (wPart tw) := ⟨fun σ H ρ S Q Qw hs hh q po => a.l σ H ρ S _ _ hs hh q fun x H1 wx S1 t1 hh1 r1 q1 => by
  cases wx <;> try exact q1.elim
  cases (show x = _ from r1)
  exact ⟨_, rfl, po _ H1 S1 t1 hh1 q1⟩⟩
instance le_sl {te : TE} {tl th : TO} {we : TEW} {wl wh : TOW} [a : LE K B te we] [b : LO K B tl wl] [c : LO K B th wh] : LE K B (tSl (rSlA K) te tl th) (wSl we wl wh) := ⟨fun σ H ρ S Q Qw hs hh q po =>
  a.l σ H ρ S _ _ hs hh q fun x H1 wx S1 t1 hh1 r1 q1 => b.l σ H1 ρ S1 _ _ (hs.tk t1) hh1 q1 fun lo H2 S2 t2 hh2 q2 => c.l σ H2 ρ S2 _ _ (hs.tk (t1.trans t2)) hh2 q2 fun hi H3 S3 t3 hh3 q3 => by
    have rx := Rep.tk (t2.trans t3) _ _ r1
    have t := (t1.trans t2).trans t3
    cases wx <;> try exact q3.elim
    · cases (show x = _ from rx)
      exact .inl ⟨_, rfl, q3.1, po.str t hh3 q3.2⟩
    · cases (show x = _ from rx)
      obtain ⟨ws, e, q⟩ := q3
      obtain ⟨xs, h1, h2⟩ := hh3 _ _ e
      exact .inr (.inl ⟨_, xs, rfl, SqL.of h1, fun p hp => (po.tk t).nlst hp hh3 (cutL_rep h2 lo hi) q⟩)
    · obtain ⟨a, xs, rfl, h1, h2⟩ := rx
      rename_i ws
      by_cases hw : HT.sIx xs.length 0 lo = 0 ∧ HT.sIx xs.length xs.length hi = xs.length
      · refine .inr (.inr (.inr ⟨a, xs, rfl, h1, hw, ?_⟩))
        have q4 : Qw (.tup (cutL ws lo hi)) S3 := q3
        rw [cutL_whole (by rw [← h2.length]; exact hw)] at q4
        exact po.tup t hh3 h1 h2 q4
      · exact .inr (.inr (.inl ⟨a, xs, rfl, h1, hw, fun p hp => (po.tk t).ntup hp hh3 (cutL_rep h2 lo hi) q3⟩))
    · obtain ⟨a, xs, rfl, h1, h2⟩ := rx
      exact .inr (.inl ⟨a, xs, rfl, h1.sq, fun p hp => (po.tk t).nlst hp hh3 (cutL_rep h2 lo hi) q3⟩)⟩

/-! ### built-in calls -/
def wCB (r : RWC) (t : TAW) : TEW := fun ρ S Q => t ρ S fun ws S1 => r ws S1 Q
instance le_cb {r : List V → Hp → VK → Prop} {t : TA} {rw : RWC} {tw : TAW} [h : LCR K r rw] [a : LA K B t tw] : LE K B (tCB r t) (wCB rw tw) := ⟨fun σ H ρ S Q Qw hs hh q po =>
  a.l σ H ρ S _ _ hs hh q fun xs H1 ws S1 t1 hh1 r1 q1 => h.l H1 S1 xs ws Q Qw hh1 r1 q1 (po.tk t1)⟩
theorem rep1 {H : Hp} {w : W} {xs : List V} (r : RepL K H [w] xs) : ∃ x, xs = [x] ∧ Rep K H w x := by
  obtain ⟨x, r, rfl, h1, h2⟩ := r
  cases (show r = [] from h2)
  exact ⟨x, rfl, h1⟩
theorem rep2 {H : Hp} {w z : W} {xs : List V} (r : RepL K H [w, z] xs) : ∃ x y, xs = [x, y] ∧ Rep K H w x ∧ Rep K H z y := by
  obtain ⟨x, r, rfl, h1, h2⟩ := r
  obtain ⟨y, rfl, h3⟩ := rep1 h2
  exact ⟨x, y, rfl, h1, h3⟩
/-- len -/
def wLen : RWC := fun ws S Q => match ws with
  | [.str z] => z.length ≤ sizeLine ∧ Q (.int z.length) S
  | [.tup ws] => Q (.int ws.length) S
  | [.rl ws] => Q (.int ws.length) S
  | [.ref a] => ∃ ws, S a = some (.lst ws) ∧ Q (.int ws.length) S
  | _ => False
abbrev rLenA (K : PySem.W.Frag) : List V → Hp → VK → Prop := fun xs H Q => ∃ x n, xs = [x] ∧ LenV K x H n ∧ Q (.int n) H
instance lc_len : LCR K (rLenA K) wLen := ⟨fun H S xs ws Q Qw hh r q po => by
  unfold wLen at q
  split at q
  · obtain ⟨x, rfl, h1⟩ := rep1 r
    cases (show x = _ from h1)
    exact ⟨_, _, rfl, ⟨q.1, rfl⟩, po.int (Tk.refl H) hh q.2⟩
  · obtain ⟨x, rfl, a, xs, rfl, h1, h2⟩ := rep1 r
    exact ⟨_, _, rfl, .inr ⟨xs, h1, h2.length.symm⟩, po.int (Tk.refl H) hh q⟩
  · obtain ⟨x, rfl, a, xs, rfl, h1, h2⟩ := rep1 r
    exact ⟨_, _, rfl, .inl ⟨xs, h1.sq, h2.length.symm⟩, po.int (Tk.refl H) hh q⟩
  · obtain ⟨x, rfl, h1⟩ := rep1 r
    cases (show x = _ from h1)
    obtain ⟨ws, e, q⟩ := q
    obtain ⟨xs, h1, h2⟩ := hh _ _ e
    exact ⟨_, _, rfl, .inl ⟨xs, SqL.of h1, h2.length.symm⟩, po.int (Tk.refl H) hh q⟩
  · exact q.elim⟩
/-- one int in, one out -/
def w1I (f : Int → Int) : RWC := fun ws S Q => match ws with
  | [.int i] => Q (.int (f i)) S
  | _ => False
instance lc_abs : LCR K (fun xs H Q => ∃ i, xs = [.int i] ∧ Q (.int (if i < 0 then -i else i)) H) (w1I fun i => if i < 0 then -i else i) := ⟨fun H S xs ws Q Qw hh r q po => by
  unfold w1I at q
  split at q
  · obtain ⟨x, rfl, h1⟩ := rep1 r
    cases (show x = _ from h1)
    exact ⟨_, rfl, po.int (Tk.refl H) hh q⟩
  · exact q.elim⟩
def w2I (f : Int → Int → Int) : RWC := fun ws S Q => match ws with
  | [.int i, .int j] => Q (.int (f i j)) S
  | _ => False
instance lc_2i {f : Int → Int → Int} : LCR K (fun xs H Q => ∃ i j, xs = [.int i, .int j] ∧ Q (.int (f i j)) H) (w2I f) := ⟨fun H S xs ws Q Qw hh r q po => by
  unfold w2I at q
  split at q
  · obtain ⟨x, y, rfl, h1, h2⟩ := rep2 r
    cases (show x = _ from h1)
    cases (show y = _ from h2)
    exact ⟨_, _, rfl, po.int (Tk.refl H) hh q⟩
  · exact q.elim⟩
/-- int(n), int(flag) -/
def wInt1 : RWC := fun ws S Q => match ws with
  | [.int i] => Q (.int i) S
  | [.bl k] => Q (.int (if k then 1 else 0)) S
  | _ => False
instance lc_int : LCR K (fun xs H Q => (∃ i, xs = [.int i] ∧ Q (.int i) H) ∨ ∃ k, xs = [.bl k] ∧ Q (.int (if k then 1 else 0)) H) wInt1 := ⟨fun H S xs ws Q Qw hh r q po => by
  unfold wInt1 at q
  split at q
  · obtain ⟨x, rfl, h1⟩ := rep1 r
    cases (show x = _ from h1)
    exact .inl ⟨_, rfl, po.int (Tk.refl H) hh q⟩
  · obtain ⟨x, rfl, h1⟩ := rep1 r
    cases (show x = _ from h1)
    exact .inr ⟨_, rfl, po.int (Tk.refl H) hh q⟩
  · exact q.elim⟩
/-- str(n) -/
def wStr1 : RWC := fun ws S Q => match ws with
  | [.int i] => i.natAbs.log2 < 1920 ∧ Q (.str (toString i)) S
  | _ => False
instance lc_str : LCR K (fun xs H Q => ∃ i, xs = [.int i] ∧ i.natAbs.log2 < 1920 ∧ Q (.str (toString i)) H) wStr1 := ⟨fun H S xs ws Q Qw hh r q po => by
  unfold wStr1 at q
  split at q
  · obtain ⟨x, rfl, h1⟩ := rep1 r
    cases (show x = _ from h1)
    exact ⟨_, rfl, q.1, po.str (Tk.refl H) hh q.2⟩
  · exact q.elim⟩
/-- list(xs) -/
abbrev rListA (K : PySem.W.Frag) : List V → Hp → VK → Prop := fun xs H Q => ∃ p ys, xs = [.ref p] ∧ (SqL K H p ys ∨ SqT K H p ys) ∧ ∀ l, H l = none → Q (.ref l) (upd H l (.lst ys))
def wList : RWC := fun ws S Q => match ws with
  | [.tup ws] => ∀ p, S p = none → Q (.ref p) (put S p (.lst ws))
  | [.rl ws] => ∀ p, S p = none → Q (.ref p) (put S p (.lst ws))
  | [.ref a] => ∃ ws, S a = some (.lst ws) ∧ ∀ p, S p = none → Q (.ref p) (put S p (.lst ws))
  | _ => False
instance lc_list : LCR K (rListA K) wList := ⟨fun H S xs ws Q Qw hh r q po => by
  unfold wList at q
  split at q
  · obtain ⟨x, rfl, a, xs, rfl, h1, h2⟩ := rep1 r
    exact ⟨a, xs, rfl, .inr h1, fun p hp => po.nlst hp hh h2 q⟩
  · obtain ⟨x, rfl, a, xs, rfl, h1, h2⟩ := rep1 r
    exact ⟨a, xs, rfl, .inl h1.sq, fun p hp => po.nlst hp hh h2 q⟩
  · obtain ⟨x, rfl, h1⟩ := rep1 r
    cases (show x = _ from h1)
    obtain ⟨ws, e, q⟩ := q
    obtain ⟨xs, h1, h2⟩ := hh _ _ e
    exact ⟨_, xs, rfl, .inl (SqL.of h1), fun p hp => po.nlst hp hh h2 q⟩
  · exact q.elim⟩
/-- tuple(xs) -/
abbrev rTupA (K : PySem.W.Frag) : List V → Hp → VK → Prop := fun xs H Q => ∃ p ys, xs = [.ref p] ∧ ((SqL K H p ys ∧ ∀ l, H l = none → Q (.ref l) (upd H l (.tup ys))) ∨ (SqT K H p ys ∧ Q (.ref p) H))
def wTupC : RWC := fun ws S Q => match ws with
  | [.tup ws] => Q (.tup ws) S
  | [.rl ws] => Q (.tup ws) S
  | [.ref a] => ∃ ws, S a = some (.lst ws) ∧ Q (.tup ws) S
  | _ => False
instance lc_tuple : LCR K (rTupA K) wTupC := ⟨fun H S xs ws Q Qw hh r q po => by
  unfold wTupC at q
  split at q
  · obtain ⟨x, rfl, a, xs, rfl, h1, h2⟩ := rep1 r
    exact ⟨a, xs, rfl, .inr ⟨h1, po.tup (Tk.refl H) hh h1 h2 q⟩⟩
  · obtain ⟨x, rfl, a, xs, rfl, h1, h2⟩ := rep1 r
    exact ⟨a, xs, rfl, .inl ⟨h1.sq, fun p hp => po.ntup hp hh h2 q⟩⟩
  · obtain ⟨x, rfl, h1⟩ := rep1 r
    cases (show x = _ from h1)
    obtain ⟨ws, e, q⟩ := q
    obtain ⟨xs, h1, h2⟩ := hh _ _ e
    exact ⟨_, xs, rfl, .inl ⟨SqL.of h1, fun p hp => po.ntup hp hh h2 q⟩⟩
  · exact q.elim⟩
/-- sum, all, any of a list -/
instance lc_sum : LCR K (rSum K) (fun ws S Q => ∃ (a : Addr) (ns : List Int), ws = [.ref a] ∧ S a = some (.lst (ns.map W.int)) ∧ Q (.int ns.sum) S) := ⟨fun H S xs ws Q Qw hh r q po => by
  obtain ⟨a, ns, rfl, e, q⟩ := q
  obtain ⟨x, rfl, h1⟩ := rep1 r
  cases (show x = _ from h1)
  obtain ⟨xs, h1, h2⟩ := hh _ _ e
  rw [h2.ints] at h1
  exact ⟨a, ns, rfl, SqL.of h1, po.int (Tk.refl H) hh q⟩⟩
def wAllC : RWC := fun ws S Q => ∃ (a : Addr) (bs : List Bool), ws = [.ref a] ∧ S a = some (.lst (bs.map W.bl)) ∧ Q (.bl (bs.all id)) S
def wAnyC : RWC := fun ws S Q => ∃ (a : Addr) (bs : List Bool), ws = [.ref a] ∧ S a = some (.lst (bs.map W.bl)) ∧ Q (.bl (bs.any id)) S
instance lc_all : LCR K (rAll K) wAllC := ⟨fun H S xs ws Q Qw hh r q po => by
  obtain ⟨a, ns, rfl, e, q⟩ := q
  obtain ⟨x, rfl, h1⟩ := rep1 r
  cases (show x = _ from h1)
  obtain ⟨xs, h1, h2⟩ := hh _ _ e
  rw [h2.bls] at h1
  exact ⟨a, ns, rfl, SqL.of h1, po.bl (Tk.refl H) hh q⟩⟩
instance lc_any : LCR K (rAny K) wAnyC := ⟨fun H S xs ws Q Qw hh r q po => by
  obtain ⟨a, ns, rfl, e, q⟩ := q
  obtain ⟨x, rfl, h1⟩ := rep1 r
  cases (show x = _ from h1)
  obtain ⟨xs, h1, h2⟩ := hh _ _ e
  rw [h2.bls] at h1
  exact ⟨a, ns, rfl, SqL.of h1, po.bl (Tk.refl H) hh q⟩⟩

/-! isinstance of built-in types -/
def tyName : W → Sto → Option String
  | .non, _ => some "NoneType" | .bl _, _ => some "bool" | .int _, _ => some "int" | .str _, _ => some "str"
  | .tup _, _ => some "tuple" | .rl _, _ => some "list" | .ty _, _ => none
  | .ref a, S => match S a with
    | some (.lst _) => some "list"
    | some (.dk _) => some "dict"
    | _ => none
def isTy (a b : String) : Option Bool :=
  if b = "int" then (if a = "int" ∨ a = "bool" then some true else if a = "str" ∨ a = "tuple" ∨ a = "list" ∨ a = "dict" ∨ a = "NoneType" then some false else none)
  else if b = "bool" ∨ b = "str" ∨ b = "tuple" ∨ b = "list" ∨ b = "dict" then
    (if a = b then some true else if a = "int" ∨ a = "bool" ∨ a = "str" ∨ a = "tuple" ∨ a = "list" ∨ a = "dict" ∨ a = "NoneType" then some false else none)
  else none
theorem isTy_kit {a b : String} {r : Bool} (h : isTy a b = some r) : kitB a b = some r := by
  have hb : b = "int" ∨ b = "bool" ∨ b = "str" ∨ b = "tuple" ∨ b = "list" ∨ b = "dict" := by
    unfold isTy at h
    split at h
    · exact .inl (by assumption)
    · split at h
      · exact .inr (by assumption)
      · cases h
  have ha : a = "int" ∨ a = "bool" ∨ a = "str" ∨ a = "tuple" ∨ a = "list" ∨ a = "dict" ∨ a = "NoneType" := by
    unfold isTy at h
    split at h
    · split at h
      · rename_i q; rcases q with q | q
        · exact .inl q
        · exact .inr (.inl q)
      · split at h
        · rename_i q; exact .inr (.inr q)
        · cases h
    · split at h
      · rename_i q
        split at h
        · rename_i e
          rcases q with q | q | q | q | q
          · exact .inr (.inl (e.trans q))
          · exact .inr (.inr (.inl (e.trans q)))
          · exact .inr (.inr (.inr (.inl (e.trans q))))
          · exact .inr (.inr (.inr (.inr (.inl (e.trans q)))))
          · exact .inr (.inr (.inr (.inr (.inr (.inl (e.trans q))))))
        · split at h
          · assumption
          · cases h
      · cases h
  rcases hb with rfl | rfl | rfl | rfl | rfl | rfl <;> rcases ha with rfl | rfl | rfl | rfl | rfl | rfl | rfl <;>
    (rw [← h]; decide +kernel)
theorem tyX_of {H : Hp} {S : Sto} {w : W} {v : V} {n : String} (hh : HRep K H S) (r : Rep K H w v) (h : tyName w S = some n) : TyX K H v (.type n) := by
  cases w with
  | non => cases (show v = _ from r); cases h; exact .base .non
  | bl b => cases (show v = _ from r); cases h; exact .base (.bl b)
  | int b => cases (show v = _ from r); cases h; exact .base (.int b)
  | str b => cases (show v = _ from r); cases h; exact .base (.str b)
  | ty n => cases h
  | ref a =>
    cases (show v = _ from r)
    unfold tyName at h
    simp only at h
    split at h
    · rename_i e
      cases h
      obtain ⟨xs, h1, _⟩ := hh _ _ e
      exact .base (.lst h1)
    · rename_i e
      cases h
      obtain ⟨xs, h1, _⟩ := hh _ _ e
      exact .base (.dK h1)
    · cases h
  | tup ws =>
    obtain ⟨a, xs, rfl, h1, _⟩ := r
    cases h
    rcases h1 with (h1 | ⟨o, h1⟩) | ⟨o, its, n, h1, h2, _⟩
    · exact .base (.tup h1)
    · exact .fTuple h1
    · exact .kTuple h1 h2
  | rl ws =>
    obtain ⟨a, xs, rfl, h1, _⟩ := r
    cases h
    rcases h1 with ⟨o, h1⟩ | ⟨o, its, n, h1, h2, _⟩
    · exact .base (.frz h1)
    · exact .kList h1 h2
def wIsi : RWC := fun ws S Q => match ws with
  | [x, .ty n] => ∃ t b, tyName x S = some t ∧ isTy t n = some b ∧ Q (.bl b) S
  | _ => False
instance lc_isi : LCR K (rIsi K) wIsi := ⟨fun H S xs ws Q Qw hh r q po => by
  unfold wIsi at q
  split at q
  · obtain ⟨x, y, rfl, h1, h2⟩ := rep2 r
    cases (show y = _ from h2)
    obtain ⟨t, b, e1, e2, q⟩ := q
    exact ⟨x, _, _, _, b, rfl, .ty _, tyX_of hh h1 e1, kit_ty (isTy_kit e2), po.bl (Tk.refl H) hh q⟩
  · exact q.elim⟩

/-! ### calls of the text's own defs -/
abbrev SpW := List W → Sto → WK → Prop
def liftSp (K : PySem.W.Frag) (sp : SpW) : Sp := fun vs H Q _ => ∃ ws S Qw, RepL K H ws vs ∧ HRep K H S ∧ sp ws S Qw ∧ PoE K H Q Qw
def wCall (sp : SpW) (t : TAW) : TEW := fun ρ S Q => t ρ S fun ws S1 => sp ws S1 Q
instance le_call {sp : SpW} {E : XK} {t : TA} {tw : TAW} [a : LA K B t tw] : LE K B (tCall (liftSp K sp) [] E t) (wCall sp tw) := ⟨fun σ H ρ S Q Qw hs hh q po =>
  a.l σ H ρ S _ _ hs hh q fun xs H1 ws S1 t1 hh1 r1 q1 => ⟨ws, S1, Qw, by rw [List.append_nil]; exact r1, hh1, q1, po.tk t1⟩⟩
section
variable {P : Program} {w : World} {mg : Str → Option Value} {base : Heap}
structure CalW (P : Program) (w : World) (K : PySem.W.Frag) (mg : Str → Option Value) (base : Heap) (k : Nat) (x : Str) (sp : SpW) : Prop where
  ex : ∃ (f : Addr) (fd : FuncData) (ps : List Str), FnOk P w K mg base CX0 k f fd ps (liftSp K sp) ∧ mg x = some (.ref f) ∧ PySem.W.keepIn K (.ref f) = true ∧ Binds K fd ps []
theorem CalW.mono {j k : Nat} {x : Str} {sp : SpW} (c : CalW P w K mg base j x sp) (h : j ≤ k) : CalW P w K mg base k x sp := by
  obtain ⟨f, fd, ps, F, r⟩ := c.ex
  exact ⟨f, fd, ps, F.mono h, r⟩
theorem CalW.imp {k : Nat} {x : Str} {sp sp' : SpW} (c : CalW P w K mg base k x sp) (h : ∀ ws S Q, sp' ws S Q → sp ws S Q) : CalW P w K mg base k x sp' := by
  obtain ⟨f, fd, ps, F, r⟩ := c.ex
  exact ⟨f, fd, ps, F.imp fun vs H Q E ⟨ws, S, Qw, h1, h2, h3, h4⟩ => ⟨ws, S, Qw, h1, h2, h _ _ _ h3, h4⟩, r⟩
theorem pe_w {X : Cx} {k j : Nat} {x : Str} {sp : SpW} {p pos : Pos} {e : Expr} {es : List Expr} {t : TA} (c : CalW X.prog X.w X.K X.mg X.base k x sp) (hr : Room j X.A) (hk : k ≤ j) (hg : Gl X x) (ha : PA X (e :: es) t)
    (hdb : (x == ("__debug__" : Str)) = false := by decide) (he : starEach (e :: es) X.env = (false, eval e X.env) :: starEach es X.env := by rfl) (hpl : (backTo pos (starEach es X.env)).any (·.1) = false := by rfl) :
    PE X (.Call (.Name x p) (e :: es) [] pos) (tCall (liftSp X.K sp) [] E0 t) := by
  obtain ⟨f, fd, ps, F, hm, kp, b⟩ := c.ex
  exact pe_call F (hr.mono hk) hg hm kp b .nil pass0 ha hdb he hpl
theorem pe_w0 {X : Cx} {k j : Nat} {x : Str} {sp : SpW} {p pos : Pos} (c : CalW X.prog X.w X.K X.mg X.base k x sp) (hr : Room j X.A) (hk : k ≤ j) (hg : Gl X x)
    (hdb : (x == ("__debug__" : Str)) = false := by decide) : PE X (.Call (.Name x p) [] [] pos) (tCall (liftSp X.K sp) [] E0 tNil) := by
  obtain ⟨f, fd, ps, F, hm, kp, b⟩ := c.ex
  exact pe_call0 F (hr.mono hk) hg hm kp b .nil pass0 hdb
/-- behind a def's end what is wanted may speak of a smaller store -/
def Fg (Q : WK) : WK := fun v S => ∃ S', Sub S' S ∧ Q v S'
theorem Fg.here {Q : WK} {v : W} {S : Sto} (h : Q v S) : Fg Q v S := ⟨S, Sub.refl S, h⟩
theorem calW {x : Str} {st : Stmt} {f : Addr} {fd : FuncData} {N ps : List Str} {k : Nat} {sp : SpW} (F : Fun K x x st f fd) (hm : mg x = some (.ref f)) (b : Binds K fd ps []) (SC : FnScope N ps (defScope st))
    (len : ∀ ws S Q, sp ws S Q → ws.length = ps.length)
    (hbody : ∀ (cdv : Value) (A : Around) (outer : List Env) (s : Shared) (H : Hp) (E : XK), Room k (A.deeper (envOfC x (defScope st) s.heap.objs.size f cdv)) →
      ∃ t tw, PSs (cxOf CX0 P w K mg base N x (defScope st) f cdv A outer s H E).nox (defBody st) t ∧ LS K H t tw ∧ ∀ ws S Q, sp ws S Q → tw { nx := fun _ S' => Fg Q .non S', rt := Fg Q } (startW N ws) S) :
    CalW P w K mg base (k + 1) x sp :=
  ⟨f, fd, ps, F.ok SC (fun vs H Q E ⟨ws, S, Qw, h1, _, h3, _⟩ => by rw [h1.length]; exact len _ _ _ h3) (fun cdv A outer s H vs Q E hr ⟨ws, S, Qw, h1, h2, h3, h4⟩ => by
    obtain ⟨t, tw, ht, hl, hq⟩ := hbody cdv A outer s H E hr
    refine ⟨t, ht, hl.l _ H (startW N ws) S _ _ (SRep.init h1) h2 (hq ws S Qw h3) ⟨?_, fun _ _ _ _ _ _ _ z => z.elim, fun _ _ _ _ _ _ _ z => z.elim, ?_⟩⟩
    · rintro σ' H' ρ' S' t1 _ hh ⟨S2, sub, q⟩
      exact h4.non t1 (hh.sub sub) q
    · rintro v H' w S' t1 hh r ⟨S2, sub, q⟩
      exact h4 v H' w S2 t1 (hh.sub sub) r q), hm, F.kp, b⟩
end

/-! ### methods -/
def tyB (T : String) : W → Sto → Prop
  | .str _, _ => T = "str"
  | .int _, _ => T = "int"
  | .rl _, _ => T = "list"
  | .ref a, S => (T = "list" ∧ ∃ ws, S a = some (.lst ws)) ∨ (T = "dict" ∧ ∃ kvs, S a = some (.dk kvs))
  | _, _ => False
theorem tyB_of {H : Hp} {S : Sto} {T : String} {w : W} {v : V} (hh : HRep K H S) (r : Rep K H w v) (h : tyB T w S) : tyV K T v H := by
  cases w with
  | str x => cases (show v = _ from r); exact h
  | int x => cases (show v = _ from r); exact h
  | rl ws => obtain ⟨a, xs, rfl, h1, _⟩ := r; exact .inl ⟨h, xs, h1.sq⟩
  | ref a =>
    cases (show v = _ from r)
    rcases h with ⟨h, ws, e⟩ | ⟨h, kvs, e⟩
    · obtain ⟨xs, h1, _⟩ := hh _ _ e
      exact .inl ⟨h, xs, SqL.of h1⟩
    · obtain ⟨xs, h1, _⟩ := hh _ _ e
      exact .inr (.inr (.inl ⟨h, .inl ⟨xs, h1⟩⟩))
  | _ => exact h.elim
def wBM (T : String) (r : W → List W → Sto → WK → Prop) (to : TEW) (t : TAW) : TEW := fun ρ S Q => to ρ S fun x S1 => tyB T x S1 ∧ t ρ S1 fun xs S2 => r x xs S2 Q
def wBM0 (T : String) (r : W → List W → Sto → WK → Prop) (to : TEW) : TEW := fun ρ S Q => to ρ S fun x S1 => tyB T x S1 ∧ r x [] S1 Q
instance le_bm {T : String} {r : V → List V → Hp → VK → Prop} {to : TE} {t : TA} {rw : W → List W → Sto → WK → Prop} {wo : TEW} {tw : TAW} [h : LMR K r rw] [a : LE K B to wo] [b : LA K B t tw] : LE K B (tBM K T r to t) (wBM T rw wo tw) := ⟨fun σ H ρ S Q Qw hs hh q po =>
  a.l σ H ρ S _ _ hs hh q fun x H1 wx S1 t1 hh1 r1 q1 => ⟨tyB_of hh1 r1 q1.1, b.l σ H1 ρ S1 _ _ (hs.tk t1) hh1 q1.2 fun xs H2 ws S2 t2 hh2 r2 q2 => h.l H2 S2 x wx xs ws Q Qw hh2 (Rep.tk t2 _ _ r1) r2 q2 (po.tk (t1.trans t2))⟩⟩
instance le_bm0 {T : String} {r : V → List V → Hp → VK → Prop} {to : TE} {rw : W → List W → Sto → WK → Prop} {wo : TEW} [h : LMR K r rw] [a : LE K B to wo] : LE K B (tBM0 K T r to) (wBM0 T rw wo) := ⟨fun σ H ρ S Q Qw hs hh q po =>
  a.l σ H ρ S _ _ hs hh q fun x H1 wx S1 t1 hh1 r1 q1 => ⟨tyB_of hh1 r1 q1.1, h.l H1 S1 x wx [] [] Q Qw hh1 r1 RepL.nil q1.2 (po.tk t1)⟩⟩
def wAppend : W → List W → Sto → WK → Prop := fun x ws S Q => match x, ws with
  | .ref l, [y] => ∃ xs, S l = some (.lst xs) ∧ xs.length < sizeLine ∧ Q .non (put S l (.lst (xs ++ [y])))
  | _, _ => False
instance lm_append : LMR K rAppend wAppend := ⟨fun H S x wx xs ws Q Qw hh rx r q po => by
  unfold wAppend at q
  split at q
  · cases (show x = _ from rx)
    obtain ⟨y, rfl, ry⟩ := rep1 r
    obtain ⟨zs, e, hl, q⟩ := q
    obtain ⟨vs, h1, h2⟩ := hh _ _ e
    have t : Tk H (upd H _ (.lst (vs ++ [y]))) := Tk.mut h1 (fun _ z => (by cases z)) (fun _ _ z => (by cases z))
    obtain ⟨t, hm⟩ := hh.mut (c' := .lst _) (o := .lst (vs ++ [y])) e ⟨_, upd_same, (RepL.tk t _ _ h2).append (.one (Rep.tk t _ _ ry))⟩
    exact ⟨_, vs, y, rfl, rfl, h1, by rw [h2.length]; exact hl, po.non t hm q⟩
  · exact q.elim⟩
def wPop : W → List W → Sto → WK → Prop := fun x ws S Q => match x, ws with
  | .ref l, [] => ∃ xs y, S l = some (.lst xs) ∧ xs[xs.length - 1]? = some y ∧ Q y (put S l (.lst xs.dropLast))
  | _, _ => False
instance lm_pop : LMR K rPop wPop := ⟨fun H S x wx xs ws Q Qw hh rx r q po => by
  unfold wPop at q
  split at q
  · cases (show x = _ from rx)
    cases (show xs = [] from r)
    obtain ⟨zs, y, e, hy, q⟩ := q
    obtain ⟨vs, h1, h2⟩ := hh _ _ e
    obtain ⟨v, e2, rv⟩ := h2.get hy
    have t : Tk H (upd H _ (.lst vs.dropLast)) := Tk.mut h1 (fun _ z => (by cases z)) (fun _ _ z => (by cases z))
    obtain ⟨t, hm⟩ := hh.mut (c' := .lst _) (o := .lst vs.dropLast) e ⟨_, upd_same, (RepL.tk t _ _ h2).dropLast⟩
    exact ⟨_, vs, v, rfl, rfl, h1, by rw [h2.length]; exact e2, po v _ y _ t hm (Rep.tk t _ _ rv) q⟩
  · exact q.elim⟩
def wPopAt : W → List W → Sto → WK → Prop := fun x ws S Q => match x, ws with
  | .ref l, [.int i] => ∃ xs k y, S l = some (.lst xs) ∧ -(2 ^ 63) ≤ i ∧ i < 2 ^ 63 ∧ seqIndex? i xs.length = some k ∧ xs[k]? = some y ∧ Q y (put S l (.lst (xs.eraseIdx k)))
  | _, _ => False
instance lm_popAt : LMR K rPopAt wPopAt := ⟨fun H S x wx xs ws Q Qw hh rx r q po => by
  unfold wPopAt at q
  split at q
  · cases (show x = _ from rx)
    obtain ⟨i, rfl, ri⟩ := rep1 r
    cases (show i = _ from ri)
    obtain ⟨zs, k, y, e, b1, b2, b3, hy, q⟩ := q
    obtain ⟨vs, h1, h2⟩ := hh _ _ e
    obtain ⟨v, e2, rv⟩ := h2.get hy
    have t : Tk H (upd H _ (.lst (vs.eraseIdx k))) := Tk.mut h1 (fun _ z => (by cases z)) (fun _ _ z => (by cases z))
    obtain ⟨t, hm⟩ := hh.mut (c' := .lst _) (o := .lst (vs.eraseIdx k)) e ⟨_, upd_same, (RepL.tk t _ _ h2).eraseIdx k⟩
    exact ⟨_, vs, _, k, v, rfl, rfl, h1, b1, b2, by rw [h2.length]; exact b3, e2, po v _ y _ t hm (Rep.tk t _ _ rv) q⟩
  · exact q.elim⟩
def wReverse : W → List W → Sto → WK → Prop := fun x ws S Q => match x, ws with
  | .ref l, [] => ∃ xs, S l = some (.lst xs) ∧ Q .non (put S l (.lst xs.reverse))
  | _, _ => False
instance lm_reverse : LMR K rReverse wReverse := ⟨fun H S x wx xs ws Q Qw hh rx r q po => by
  unfold wReverse at q
  split at q
  · cases (show x = _ from rx)
    cases (show xs = [] from r)
    obtain ⟨zs, e, q⟩ := q
    obtain ⟨vs, h1, h2⟩ := hh _ _ e
    have t : Tk H (upd H _ (.lst vs.reverse)) := Tk.mut h1 (fun _ z => (by cases z)) (fun _ _ z => (by cases z))
    obtain ⟨t, hm⟩ := hh.mut (c' := .lst _) (o := .lst vs.reverse) e ⟨_, upd_same, (RepL.tk t _ _ h2).reverse⟩
    exact ⟨_, vs, rfl, rfl, h1, po.non t hm q⟩
  · exact q.elim⟩

/-! ### targets -/
def wName (i : Nat) : TGW := fun w ρ S Q => Q (ρ.set i (some w)) S
instance lg_name {i : Nat} : LG K B (gName i) (wName i) := ⟨fun v w σ H ρ S Q Qw r hs hh q po => po _ H _ S (Tk.refl H) (hs.set i r) hh q⟩
def wGNil : TGWs := fun ws ρ S Q => ws = [] ∧ Q ρ S
def wGCons (t : TGW) (u : TGWs) : TGWs := fun ws ρ S Q => match ws with
  | w :: r => t w ρ S fun ρ' S' => u r ρ' S' Q
  | [] => False
instance lgs_nil : LGs K B gNil wGNil := ⟨fun v w σ H ρ S Q Qw r hs hh q po => by
  obtain ⟨e, q⟩ := q
  subst e
  exact ⟨r, po _ H _ S (Tk.refl H) hs hh q⟩⟩
instance lgs_cons {t : TG} {u : TGs} {tw : TGW} {uw : TGWs} [a : LG K B t tw] [b : LGs K B u uw] : LGs K B (gCons t u) (wGCons tw uw) := ⟨fun v w σ H ρ S Q Qw r hs hh q po => by
  cases w with
  | nil => exact q.elim
  | cons w ws =>
    obtain ⟨x, xs, rfl, h1, h2⟩ := r
    exact ⟨x, xs, rfl, a.l x w σ H ρ S _ _ h1 hs hh q fun σ' H' ρ' S' t1 hs' hh' q' => b.l xs ws σ' H' ρ' S' _ _ (RepL.tk t1 _ _ h2) hs' hh' q' (po.tk t1)⟩⟩
def wGTup (n : Nat) (u : TGWs) : TGW := fun w ρ S Q => match w with
  | .tup ws => ws.length = n ∧ u ws ρ S Q
  | _ => False
instance lg_tup {n : Nat} {u : TGs} {uw : TGWs} [b : LGs K B u uw] : LG K B (gTup K n u) (wGTup n uw) := ⟨fun v w σ H ρ S Q Qw r hs hh q po => by
  cases w <;> try exact q.elim
  obtain ⟨a, xs, rfl, h1, h2⟩ := r
  exact ⟨a, xs, rfl, h1, by rw [h2.length]; exact q.1, b.l _ _ σ H ρ S _ _ h2 hs hh q.2 po⟩⟩
/-- xs[i] = e -/
def wGSub (to ti : TEW) : TGW := fun w ρ S Q => to ρ S fun o S1 => ti ρ S1 fun i S2 => match o, i with
  | .ref p, .int k => ∃ ws j, S2 p = some (.lst ws) ∧ ixN ws.length k = some j ∧ Q ρ (put S2 p (.lst (ws.set j w)))
  | _, _ => False
instance lg_sub {to ti : TE} {wo wi : TEW} [a : LE K B to wo] [b : LE K B ti wi] : LG K B (gSub to ti rSetL) (wGSub wo wi) := ⟨fun v w σ H ρ S Q Qw r hs hh q po =>
  a.l σ H ρ S _ _ hs hh q fun o H1 wo S1 t1 hh1 r1 q1 => b.l σ H1 ρ S1 _ _ (hs.tk t1) hh1 q1 fun i H2 wi S2 t2 hh2 r2 q2 => by
    have ro := Rep.tk t2 _ _ r1
    cases wo <;> cases wi <;> try exact q2.elim
    cases (show o = _ from ro)
    cases (show i = _ from r2)
    obtain ⟨ws, j, e, hj, q⟩ := q2
    obtain ⟨xs, h1, h2⟩ := hh2 _ _ e
    have rv := Rep.tk (t1.trans t2) _ _ r
    have t : Tk H2 (upd H2 _ (.lst (xs.set j v))) := Tk.mut h1 (fun _ z => (by cases z)) (fun _ _ z => (by cases z))
    obtain ⟨t, hm⟩ := hh2.mut (c' := .lst _) (o := .lst (xs.set j v)) e ⟨_, upd_same, RepL.set (Rep.tk t _ _ rv) j (RepL.tk t _ _ h2)⟩
    exact ⟨_, xs, _, j, rfl, rfl, h1, by rw [h2.length]; exact hj, po _ _ _ _ ((t1.trans t2).trans t) (hs.tk ((t1.trans t2).trans t)) hm q⟩⟩

/-! ### statements -/
def wNext : TSW := fun D ρ S => D.nx ρ S
def wSeq (t u : TSW) : TSW := fun D ρ S => t { D with nx := u D } ρ S
def wBreak : TSW := fun D ρ S => D.bk ρ S
def wCont : TSW := fun D ρ S => D.ct ρ S
def wAsg (te : TEW) (g : TGW) : TSW := fun D ρ S => te ρ S fun x S1 => g x ρ S1 D.nx
def wDrop (te : TEW) : TSW := fun D ρ S => te ρ S fun _ S1 => D.nx ρ S1
def wRet (te : TEW) : TSW := fun D ρ S => te ρ S D.rt
def wRetN : TSW := fun D _ S => D.rt .non S
def wIfS (c : TTW) (t u : TSW) : TSW := fun D ρ S => c ρ S fun b S1 => (b = true → t D ρ S1) ∧ (b = false → u D ρ S1)
instance ls_next : LS K B tNext wNext := ⟨fun σ H ρ S D Dw hs hh q po => po.nx σ H ρ S (Tk.refl H) hs hh q⟩
instance ls_seq {t u : TS} {tw uw : TSW} [a : LS K B t tw] [b : LS K B u uw] : LS K B (tSeq t u) (wSeq tw uw) := ⟨fun σ H ρ S D Dw hs hh q po =>
  a.l σ H ρ S { D with nx := u D } { Dw with nx := uw Dw } hs hh q ⟨fun σ' H' ρ' S' t1 hs' hh' q' => b.l σ' H' ρ' S' D Dw hs' hh' q' (po.tk t1), po.bk, po.ct, po.rt⟩⟩
instance ls_break : LS K B tBreak wBreak := ⟨fun σ H ρ S D Dw hs hh q po => po.bk σ H ρ S (Tk.refl H) hs hh q⟩
instance ls_cont : LS K B tCont wCont := ⟨fun σ H ρ S D Dw hs hh q po => po.ct σ H ρ S (Tk.refl H) hs hh q⟩
instance ls_asg {te : TE} {g : TG} {we : TEW} {gw : TGW} [a : LE K B te we] [b : LG K B g gw] : LS K B (tAsg te g) (wAsg we gw) := ⟨fun σ H ρ S D Dw hs hh q po =>
  a.l σ H ρ S _ _ hs hh q fun x H1 wx S1 t1 hh1 r1 q1 => b.l x wx σ H1 ρ S1 _ _ r1 (hs.tk t1) hh1 q1 (po.nx.tk t1)⟩
instance ls_drop {te : TE} {we : TEW} [a : LE K B te we] : LS K B (tDrop te) (wDrop we) := ⟨fun σ H ρ S D Dw hs hh q po =>
  a.l σ H ρ S _ _ hs hh q fun x H1 wx S1 t1 hh1 r1 q1 => po.nx σ H1 ρ S1 t1 (hs.tk t1) hh1 q1⟩
instance ls_ret {te : TE} {we : TEW} [a : LE K B te we] : LS K B (tRet te) (wRet we) := ⟨fun σ H ρ S D Dw hs hh q po => a.l σ H ρ S _ _ hs hh q po.rt⟩
instance ls_retN : LS K B tRetN wRetN := ⟨fun σ H ρ S D Dw hs hh q po => po.rt.non (Tk.refl H) hh q⟩
instance ls_if {c : TT} {t u : TS} {cw : TTW} {tw uw : TSW} [h : LT K B c cw] [a : LS K B t tw] [b : LS K B u uw] : LS K B (tIfS c t u) (wIfS cw tw uw) := ⟨fun σ H ρ S D Dw hs hh q po =>
  h.l σ H ρ S _ _ hs hh q fun k H1 S1 t1 hh1 q1 => by
    cases k with
    | true => rw [if_pos rfl]; exact a.l σ H1 ρ S1 D Dw (hs.tk t1) hh1 (q1.1 rfl) (po.tk t1)
    | false => rw [if_neg Bool.false_ne_true]; exact b.l σ H1 ρ S1 D Dw (hs.tk t1) hh1 (q1.2 rfl) (po.tk t1)⟩
/-- x += e, x -= e (ints) -/
def wAugI (i : Nat) (te : TEW) (f : Int → Int → Int) : TSW := fun D ρ S => ∃ x, ρ[i]? = some (some x) ∧ te ρ S fun y S1 => match x, y with
  | .int a, .int b => D.nx (ρ.set i (some (.int (f a b)))) S1
  | _, _ => False
instance ls_aug {i : Nat} {te : TE} {f : Int → Int → Int} {we : TEW} [a : LE K B te we] : LS K B (tAug i te (ipI f)) (wAugI i we f) := ⟨fun σ H ρ S D Dw hs hh ⟨x, e, q⟩ po => by
  obtain ⟨v, e1, r⟩ := hs.at_ i x e
  refine ⟨v, e1, a.l σ H ρ S _ _ hs hh q fun y H1 wy S1 t1 hh1 r1 q1 => ?_⟩
  cases x <;> cases wy <;> try exact q1.elim
  cases (show v = _ from r)
  cases (show y = _ from r1)
  rename_i n m
  exact ⟨_, _, rfl, rfl, po.nx _ H1 _ S1 t1 ((hs.tk t1).set i (w := .int (f n m)) (show Rep K H1 (.int (f n m)) (.int (f n m)) from rfl)) hh1 q1⟩⟩
def wWhile (c : TTW) (tb : TSW) : TSW := fun D ρ S => ∃ I : Nat → StW → Sto → Prop, (∃ m, I m ρ S) ∧ ∀ m ρ S, I m ρ S → c ρ S fun b S1 =>
  (b = true → tb { D with nx := fun ρ' S' => ∃ m', m' < m ∧ I m' ρ' S', ct := fun ρ' S' => ∃ m', m' < m ∧ I m' ρ' S', bk := D.nx } ρ S1) ∧ (b = false → D.nx ρ S1)
instance ls_while {c : TT} {tb : TS} {cw : TTW} {tw : TSW} [h : LT K B c cw] [a : LS K B tb tw] : LS K B (tWhile c tb) (wWhile cw tw) := ⟨fun σ H ρ S D Dw hs hh ⟨I, ⟨m0, i0⟩, st⟩ po => by
  refine ⟨fun m σ' H' => ∃ ρ' S', Tk H H' ∧ SRep K B H' σ' ρ' ∧ HRep K H' S' ∧ I m ρ' S', ⟨m0, ρ, S, Tk.refl H, hs, hh, i0⟩, ?_⟩
  rintro m σ1 H1 ⟨ρ1, S1, t1, hs1, hh1, i1⟩
  refine h.l σ1 H1 ρ1 S1 _ _ hs1 hh1 (st m ρ1 S1 i1) fun b H2 S2 t2 hh2 q2 => ?_
  cases b with
  | true =>
    rw [if_pos rfl]
    refine ⟨fun σ' H' => ∃ m', m' < m ∧ ∃ ρ' S', Tk H H' ∧ SRep K B H' σ' ρ' ∧ HRep K H' S' ∧ I m' ρ' S', fun σ' H' z => z, ?_⟩
    refine a.l σ1 H2 ρ1 S2 _ _ (hs1.tk t2) hh2 (q2.1 rfl) ⟨?_, ?_, ?_, po.rt.tk (t1.trans t2)⟩
    · rintro σ' H' ρ' S' t3 hs3 hh3 ⟨m', hm, q⟩
      exact ⟨m', hm, ρ', S', (t1.trans t2).trans t3, hs3, hh3, q⟩
    · exact po.nx.tk (t1.trans t2)
    · rintro σ' H' ρ' S' t3 hs3 hh3 ⟨m', hm, q⟩
      exact ⟨m', hm, ρ', S', (t1.trans t2).trans t3, hs3, hh3, q⟩
  | false =>
    rw [if_neg Bool.false_ne_true]
    exact po.nx σ1 H2 ρ1 S2 (t1.trans t2) (hs1.tk t2) hh2 (q2.2 rfl)⟩
end Wl
set_option Elab.async false
set_option linter.all false
set_option maxRecDepth 100000
set_option maxHeartbeats 2000000
namespace Wl
open PySem PySem.Spec PyProof.Rows L2
variable {K : PySem.W.Frag} {B : Hp}

/-! ### what a for walks -/
/-- the iterator J goes over the data ws while ok holds of the store -/
structure IsSrc (K : PySem.W.Frag) (H1 : Hp) (J : It) (ws : List W) (ok : Sto → Prop) : Prop where
  go : ∀ i H S, Tk H1 H → HRep K H S → ok S → i < ws.length → J.go i H
  yld : ∀ i H S x H', Tk H1 H → HRep K H S → ok S → i < ws.length → J.yld i H x H' → Tk H H' ∧ HRep K H' S ∧ ∃ w, ws[i]? = some w ∧ Rep K H' w x
  stop : ∀ i H S, Tk H1 H → HRep K H S → ok S → ws.length ≤ i → J.stop i H
abbrev TIW := StW → Sto → (List W → (Sto → Prop) → Sto → Prop) → Prop
class LI (K : PySem.W.Frag) (B : Hp) (t : TI) (tw : outParam TIW) : Prop where
  l : ∀ σ H ρ S R Rw, SRep K B H σ ρ → HRep K H S → tw ρ S Rw → (∀ J H' S' ws ok, Tk H H' → HRep K H' S' → IsSrc K H' J ws ok → Rw ws ok S' → R J H') → t σ H R

def anyS : Sto → Prop := fun _ => True
def keepS (a : Addr) (ws : List W) : Sto → Prop := fun S => S a = some (.lst ws)
theorem src_list {H1 : Hp} {a : Addr} {ws : List W} : IsSrc K H1 (Itl K a) ws (keepS a ws) where
  go := fun i H S t hh ok hi => by
    obtain ⟨xs, h1, h2⟩ := hh _ _ ok
    exact ⟨xs, xs[i]'(by rw [h2.length]; exact hi), SqL.of h1, by simp [h2.length, hi]⟩
  yld := fun i H S x H' t hh ok hi y => by
    obtain ⟨e, y⟩ := y
    subst e
    obtain ⟨xs, h1, h2⟩ := hh _ _ ok
    obtain ⟨w, e, r⟩ := h2.get' (y xs (SqL.of h1))
    exact ⟨Tk.refl _, hh, w, e, r⟩
  stop := fun i H S t hh ok hi => by
    obtain ⟨xs, h1, h2⟩ := hh _ _ ok
    exact ⟨xs, SqL.of h1, by rw [h2.length]; exact hi⟩
theorem src_rl {H1 : Hp} {a : Addr} {xs : List V} {ws : List W} (h : RdL K H1 a xs) (r : RepL K H1 ws xs) : IsSrc K H1 (Itl K a) ws anyS where
  go := fun i H S t hh ok hi => ⟨xs, xs[i]'(by rw [r.length]; exact hi), (t.rdl h).sq, by simp [r.length, hi]⟩
  yld := fun i H S x H' t hh ok hi y => by
    obtain ⟨e, y⟩ := y
    subst e
    obtain ⟨w, e, r⟩ := (RepL.tk t _ _ r).get' (y xs (t.rdl h).sq)
    exact ⟨Tk.refl _, hh, w, e, r⟩
  stop := fun i H S t hh ok hi => ⟨xs, (t.rdl h).sq, by rw [r.length]; exact hi⟩
theorem src_tup {H1 : Hp} {a : Addr} {xs : List V} {ws : List W} (h : SqT K H1 a xs) (r : RepL K H1 ws xs) : IsSrc K H1 (Itt K a) ws anyS where
  go := fun i H S t hh ok hi => ⟨xs, xs[i]'(by rw [r.length]; exact hi), t.sqt h, by simp [r.length, hi]⟩
  yld := fun i H S x H' t hh ok hi y => by
    obtain ⟨e, y⟩ := y
    subst e
    obtain ⟨w, e, r⟩ := (RepL.tk t _ _ r).get' (y xs (t.sqt h))
    exact ⟨Tk.refl _, hh, w, e, r⟩
  stop := fun i H S t hh ok hi => ⟨xs, t.sqt h, by rw [r.length]; exact hi⟩
/-- lo, lo + 1, .. n of them -/
def intsW (lo : Int) (n : Nat) : List W := (List.range n).map fun i => W.int (lo + (i : Nat))
theorem intsW_len {lo : Int} {n : Nat} : (intsW lo n).length = n := by unfold intsW; simp
theorem intsW_get {lo : Int} {n i : Nat} (h : i < n) : (intsW lo n)[i]? = some (W.int (lo + (i : Nat))) := by unfold intsW; simp [h]
theorem intsW_at {lo : Int} {n i : Nat} {w : W} (h : (intsW lo n)[i]? = some w) : i < n ∧ w = W.int (lo + (i : Nat)) := by
  unfold intsW at h
  rw [List.getElem?_map] at h
  by_cases q : i < n
  · rw [List.getElem?_range q] at h
    exact ⟨q, (Option.some.inj h).symm⟩
  · rw [List.getElem?_eq_none (by simpa using q)] at h
    cases h
theorem src_range {H1 : Hp} {lo : Int} {n : Nat} : IsSrc K H1 (Itr lo n) (intsW lo n) anyS where
  go := fun i H S t hh ok hi => by rw [intsW_len] at hi; exact hi
  yld := fun i H S x H' t hh ok hi y => by
    obtain ⟨e, y⟩ := y
    subst e y
    rw [intsW_len] at hi
    exact ⟨Tk.refl _, hh, W.int (lo + (i : Nat)), intsW_get hi, (show Rep K _ (W.int (lo + (i : Nat))) _ from rfl)⟩
  stop := fun i H S t hh ok hi => by rw [intsW_len] at hi; exact hi
/-- over a list, a tuple, a text -/
def signs (x : Str) : List W := x.cps.toList.map fun c => W.str ⟨#[c]⟩
theorem src_str {H1 : Hp} {x : Str} : IsSrc K H1 (Its x) (signs x) anyS where
  go := fun i H S t hh ok hi => by
    unfold signs at hi
    rw [List.length_map, Array.length_toList] at hi
    exact hi
  yld := fun i H S z H' t hh ok hi y => by
    obtain ⟨e, c, e2, e3⟩ := y
    subst e e3
    refine ⟨Tk.refl _, hh, .str ⟨#[c]⟩, ?_, (show Rep K _ (.str ⟨#[c]⟩) _ from rfl)⟩
    unfold signs
    rw [List.getElem?_map, Array.getElem?_toList, e2]
    rfl
  stop := fun i H S t hh ok hi => by
    unfold signs at hi
    rw [List.length_map, Array.length_toList] at hi
    exact hi
def iAny (K : PySem.W.Frag) (tl : TE) : TI := fun σ H R => tl σ H fun x H1 => (∃ a, x = .ref a ∧ (∃ xs, SqL K H1 a xs) ∧ R (Itl K a) H1) ∨ (∃ a, x = .ref a ∧ (∃ xs, SqT K H1 a xs) ∧ R (Itt K a) H1) ∨ ∃ z, x = .str z ∧ R (Its z) H1
theorem pi_any {X : Cx} {tg l : Expr} {tl : TE} (hl : PE X l tl) : PI X tg l (iAny X.K tl) := by
  refine ⟨fun pins s σ H R I h => ?_⟩
  refine thn (hl.run pins s σ H _ I h) fun v s1 ⟨x, H1, I1, r1, q1⟩ => ?_
  rcases q1 with ⟨a, e, ⟨xs, hq⟩, q⟩ | ⟨a, e, ⟨xs, hq⟩, q⟩ | ⟨x, ex, q⟩
  · subst e
    cases r1
    obtain ⟨its, rv, p, hz⟩ := I1.list hq
    refine wpAny_pyIter_list p.isList ?_
    refine ⟨s1.heap.objs.size, [s1.heap.objs.size], _, _, H1, rfl, I1.kept (t' := s1.toks) fun b o e => Heap.get?_push_of_some _ e, turn_list a _, ⟨_, Heap.get?_push_size _ rfl, rfl, rfl⟩, fun b hb => ?_, q⟩
    have e : b = s1.heap.objs.size := by simpa using hb
    subst e
    exact I1.fpOk (Nat.le_refl _) (I1.hok.fresh (Nat.le_refl _))
  · subst e
    cases r1
    obtain ⟨its, rv, p, hz⟩ := I1.tuple hq
    refine wpAny_pyIter_tuple (show s1.heap.IsTuple a its.toArray from p) ?_
    refine ⟨s1.heap.objs.size, [s1.heap.objs.size], _, _, H1, rfl, I1.kept (t' := s1.toks) fun b o e => Heap.get?_push_of_some _ e, turn_tuple a _, ⟨_, Heap.get?_push_size _ rfl, rfl, rfl⟩, fun b hb => ?_, q⟩
    have e : b = s1.heap.objs.size := by simpa using hb
    subst e
    exact I1.fpOk (Nat.le_refl _) (I1.hok.fresh (Nat.le_refl _))
  · subst ex
    obtain ⟨t, rfl⟩ := r1
    cases ha : x.cps.all (· < 128)
    · exact wpAny_pyIter_wide ha (pi_one (tk := s1.toks) I1 _ (turn_str _ x t "str_iterator" (.inr rfl)) ⟨_, Heap.get?_push_size _ rfl, rfl, rfl⟩ q)
    · exact wpAny_pyIter_ascii ha (pi_one (tk := s1.toks) I1 _ (turn_str _ x t "str_ascii_iterator" (.inl rfl)) ⟨_, Heap.get?_push_size _ rfl, rfl, rfl⟩ q)
def wiAny (te : TEW) : TIW := fun ρ S R => te ρ S fun x S1 => match x with
  | .tup ws => R ws anyS S1
  | .rl ws => R ws anyS S1
  | .str z => R (signs z) anyS S1
  | .ref a => ∃ ws, S1 a = some (.lst ws) ∧ R ws (keepS a ws) S1
  | _ => False
instance li_any {t : TE} {tw : TEW} [a : LE K B t tw] : LI K B (iAny K t) (wiAny tw) := ⟨fun σ H ρ S R Rw hs hh q po => a.l σ H ρ S _ _ hs hh q fun x H1 wx S1 t1 hh1 r1 q1 => by
  cases wx <;> try exact q1.elim
  · cases (show x = _ from r1)
    exact .inr (.inr ⟨_, rfl, po _ H1 S1 _ _ t1 hh1 src_str q1⟩)
  · cases (show x = _ from r1)
    obtain ⟨ws, e, q⟩ := q1
    obtain ⟨xs, h1, h2⟩ := hh1 _ _ e
    exact .inl ⟨_, rfl, ⟨xs, SqL.of h1⟩, po _ H1 S1 _ _ t1 hh1 src_list q⟩
  · obtain ⟨a, xs, rfl, h1, h2⟩ := r1
    exact .inr (.inl ⟨a, rfl, ⟨xs, h1⟩, po _ H1 S1 _ _ t1 hh1 (src_tup h1 h2) q1⟩)
  · obtain ⟨a, xs, rfl, h1, h2⟩ := r1
    exact .inl ⟨a, rfl, ⟨xs, h1.sq⟩, po _ H1 S1 _ _ t1 hh1 (src_rl h1 h2) q1⟩⟩
def wiR1 (ta : TAW) : TIW := fun ρ S R => ta ρ S fun ws S1 => match ws with
  | [.int j] => -(2 ^ 62) ≤ j ∧ j < 2 ^ 62 ∧ R (intsW 0 j.toNat) anyS S1
  | _ => False
def wiR2 (ta : TAW) : TIW := fun ρ S R => ta ρ S fun ws S1 => match ws with
  | [.int i, .int j] => (-(2 ^ 62) ≤ i ∧ i < 2 ^ 62 ∧ -(2 ^ 62) ≤ j ∧ j < 2 ^ 62) ∧ R (intsW i (j - i).toNat) anyS S1
  | _ => False
instance li_r1 {t : TA} {tw : TAW} [a : LA K B t tw] : LI K B (iRng1 t) (wiR1 tw) := ⟨fun σ H ρ S R Rw hs hh q po => a.l σ H ρ S _ _ hs hh q fun xs H1 ws S1 t1 hh1 r1 q1 => by
  split at q1
  · obtain ⟨x, rfl, h1⟩ := rep1 r1
    cases (show x = _ from h1)
    exact ⟨_, rfl, q1.1, q1.2.1, po _ H1 S1 _ _ t1 hh1 src_range q1.2.2⟩
  · exact q1.elim⟩
instance li_r2 {t : TA} {tw : TAW} [a : LA K B t tw] : LI K B (iRng2 t) (wiR2 tw) := ⟨fun σ H ρ S R Rw hs hh q po => a.l σ H ρ S _ _ hs hh q fun xs H1 ws S1 t1 hh1 r1 q1 => by
  split at q1
  · obtain ⟨x, y, rfl, h1, h2⟩ := rep2 r1
    cases (show x = _ from h1)
    cases (show y = _ from h2)
    exact ⟨_, _, rfl, q1.1, po _ H1 S1 _ _ t1 hh1 src_range q1.2⟩
  · exact q1.elim⟩

/-! ### for -/
def wFor (wi : TIW) (g : TGW) (tb : TSW) : TSW := fun D ρ S => wi ρ S fun ws ok S1 => ∃ P : Nat → StW → Sto → Prop, P 0 ρ S1 ∧ (∀ i ρ' S', P i ρ' S' → ok S') ∧
  (∀ i w ρ' S', ws[i]? = some w → P i ρ' S' → g w ρ' S' fun ρ2 S2 => tb { D with nx := P (i + 1), ct := P (i + 1), bk := D.nx } ρ2 S2) ∧ ∀ ρ' S', P ws.length ρ' S' → D.nx ρ' S'
instance ls_for {wi : TI} {g : TG} {tb : TS} {ww : TIW} {gw : TGW} {tw : TSW} [h : LI K B wi ww] [b : LG K B g gw] [a : LS K B tb tw] : LS K B (tFor wi g tb) (wFor ww gw tw) := ⟨fun σ H ρ S D Dw hs hh q po => by
  refine h.l σ H ρ S _ _ hs hh q fun J H1 S1 ws ok t1 hh1 src ⟨P, p0, pok, pst, pend⟩ => ?_
  refine ⟨fun i m σ' H' => m = ws.length - i ∧ i ≤ ws.length ∧ ∃ ρ' S', Tk H1 H' ∧ SRep K B H' σ' ρ' ∧ HRep K H' S' ∧ P i ρ' S', ⟨ws.length, by simp, Nat.zero_le _, ρ, S1, Tk.refl H1, hs.tk t1, hh1, p0⟩, ?_⟩
  rintro i m σ2 H2 ⟨rfl, hi, ρ2, S2, t2, hs2, hh2, p2⟩
  by_cases hlt : i < ws.length
  · refine .inr ⟨src.go i H2 S2 t2 hh2 (pok _ _ _ p2) hlt, fun σ' H' => ∃ ρ' S', Tk H1 H' ∧ SRep K B H' σ' ρ' ∧ HRep K H' S' ∧ P (i + 1) ρ' S', fun σ' H' z => ⟨ws.length - (i + 1), by omega, rfl, hlt, z⟩, fun x H3 y => ?_⟩
    obtain ⟨t3, hh3, w, e, r⟩ := src.yld i H2 S2 x H3 t2 hh2 (pok _ _ _ p2) hlt y
    refine b.l x w σ2 H3 ρ2 S2 _ _ r (hs2.tk t3) hh3 (pst i w ρ2 S2 e p2) fun σ4 H4 ρ4 S4 t4 hs4 hh4 q4 => ?_
    have t14 := (t2.trans t3).trans t4
    refine a.l σ4 H4 ρ4 S4 _ _ hs4 hh4 q4 ⟨?_, po.nx.tk (t1.trans t14), ?_, po.rt.tk (t1.trans t14)⟩
    · exact fun σ' H' ρ' S' t5 hs5 hh5 q5 => ⟨ρ', S', t14.trans t5, hs5, hh5, q5⟩
    · exact fun σ' H' ρ' S' t5 hs5 hh5 q5 => ⟨ρ', S', t14.trans t5, hs5, hh5, q5⟩
  · have e : i = ws.length := by omega
    subst e
    exact .inl ⟨src.stop _ H2 S2 t2 hh2 (pok _ _ _ p2) (Nat.le_refl _), po.nx σ2 H2 ρ2 S2 (t1.trans t2) hs2 hh2 (pend _ _ p2)⟩⟩

/-! ### comprehensions -/
def wipeW (ρ : StW) : List Nat → StW
  | [] => ρ
  | v :: vs => (wipeW ρ vs).set v none
theorem srep_wipe {H : Hp} {σ : L2.St} {ρ : StW} (h : SRep K B H σ ρ) : ∀ vs : List Nat, SRep K B H (wipe σ vs) (wipeW ρ vs)
  | [] => h
  | v :: vs => by
    have ih := srep_wipe h vs
    unfold wipe wipeW
    refine ⟨ih.bs, by rw [List.length_set, List.length_set, ih.len], fun j z e => ?_⟩
    by_cases q : v = j
    · subst q
      by_cases hl : v < (wipeW ρ vs).length
      · rw [List.getElem?_set_self hl] at e; cases e
      · rw [List.getElem?_eq_none (by rw [List.length_set]; omega)] at e; cases e
    · rw [List.getElem?_set_ne q] at e ⊢
      exact ih.at_ j z e
/-- a target that stores own names alone -/
class GW (g : TG) (vs : List Nat) : Prop where
  l : ∀ v σ H Q, g v (wipe σ vs) H Q → g v (wipe σ vs) H fun σ2 H2 => wipe σ2 vs = wipe σ vs ∧ Q σ2 H2
theorem wipe_at (σ : L2.St) (vs : List Nat) (i : Nat) : (wipe σ vs)[i]? = if i ∈ vs then (if i < σ.length then some none else none) else σ[i]? := by
  induction vs with
  | nil => simp [wipe]
  | cons v vs ih =>
    unfold wipe
    by_cases q : v = i
    · subst q
      by_cases hl : v < σ.length
      · rw [List.getElem?_set_self (by rw [wipe_length]; exact hl)]
        simp [hl]
      · rw [List.getElem?_eq_none (by rw [List.length_set, wipe_length]; omega)]
        simp [hl]
    · rw [List.getElem?_set_ne q, ih]
      simp [Ne.symm q]
theorem wipe_set {σ : L2.St} {vs : List Nat} {j : Nat} {x : V} (hj : j ∈ vs) : wipe ((wipe σ vs).set j (some x)) vs = wipe σ vs := by
  apply List.ext_getElem?
  intro i
  rw [wipe_at, wipe_at]
  by_cases hi : i ∈ vs
  · simp [hi, wipe_length]
  · rw [if_neg hi, if_neg hi, List.getElem?_set_ne (show j ≠ i from fun e => hi (by rw [← e]; exact hj)), wipe_at, if_neg hi]
class MemN (j : Nat) (vs : List Nat) : Prop where
  h : j ∈ vs
instance mem_hd {j : Nat} {vs : List Nat} : MemN j (j :: vs) := ⟨by simp⟩
instance mem_tl {j v : Nat} {vs : List Nat} [h : MemN j vs] : MemN j (v :: vs) := ⟨by simp [h.h]⟩
instance memm_hd {j : Nat} {x : Str} {vs : List (Str × Nat)} : MemN j (((x, j) :: vs).map (·.2)) := ⟨by simp⟩
instance memm_tl {j : Nat} {y : Str × Nat} {vs : List (Str × Nat)} [h : MemN j (vs.map (·.2))] : MemN j ((y :: vs).map (·.2)) := ⟨by rw [List.map_cons]; exact List.mem_cons_of_mem _ h.h⟩
instance gw_name {j : Nat} {vs : List Nat} [h : MemN j vs] : GW (gName j) vs := ⟨fun v σ H Q q => ⟨wipe_set h.h, q⟩⟩
def wLc (wi : TIW) (g : TGW) (tt : TTW) (te : TEW) (vs : List Nat) : TEW := fun ρ S Q => wi ρ S fun ws ok S1 => ∀ D, S1 D = none → ∃ P : Nat → List W → Sto → Prop, P 0 [] (put S1 D (.lst [])) ∧
  (∀ i acc S', P i acc S' → ok S') ∧
  (∀ i w acc S', ws[i]? = some w → P i acc S' → g w (wipeW ρ vs) S' fun ρ2 S2 => tt ρ2 S2 fun b S3 =>
    (b = true → te ρ2 S3 fun y S4 => S4 D = some (.lst acc) ∧ acc.length < sizeLine ∧ P (i + 1) (acc ++ [y]) (put S4 D (.lst (acc ++ [y])))) ∧ (b = false → P (i + 1) acc S3)) ∧
  ∀ acc S', P ws.length acc S' → Q (.ref D) S'
instance le_lc {wi : TI} {g : TG} {tt : TT} {te : TE} {vs : List Nat} {ww : TIW} {gw : TGW} {tw : TTW} {ew : TEW} [h : LI K B wi ww] [b : LG K B g gw] [gg : GW g vs] [c : LT K B tt tw] [a : LE K B te ew] : LE K B (tLc wi g tt te vs) (wLc ww gw tw ew vs) := ⟨fun σ H ρ S Q Qw hs hh q po => by
  refine h.l σ H ρ S _ _ hs hh q fun J H1 S1 ws ok t1 hh1 src hD => fun D hDn => ?_
  obtain ⟨P, p0, pok, pst, pend⟩ := hD D (hh1.fresh hDn)
  have tD : Tk H1 (upd H1 D (.lst [])) := Tk.new hDn
  have hhD : HRep K (upd H1 D (.lst [])) (put S1 D (.lst [])) := hh1.new hDn ⟨[], upd_same, rfl⟩
  refine ⟨fun i m H' => m = ws.length - i ∧ i ≤ ws.length ∧ ∃ acc S', Tk H1 H' ∧ HRep K H' S' ∧ P i acc S', ⟨ws.length, by simp, Nat.zero_le _, [], _, tD, hhD, p0⟩, ?_⟩
  rintro i m H2 ⟨rfl, hi, acc, S2, t2, hh2, p2⟩
  by_cases hlt : i < ws.length
  · refine .inr ⟨src.go i H2 S2 t2 hh2 (pok _ _ _ p2) hlt, fun H' => ∃ acc S', Tk H1 H' ∧ HRep K H' S' ∧ P (i + 1) acc S', fun H' z => ⟨ws.length - (i + 1), by omega, rfl, hlt, z⟩, fun x H3 y => ?_⟩
    obtain ⟨t3, hh3, w, e, r⟩ := src.yld i H2 S2 x H3 t2 hh2 (pok _ _ _ p2) hlt y
    refine gg.l x σ H3 _ ?_
    have hs3 : SRep K B H3 (wipe σ vs) (wipeW ρ vs) := srep_wipe (hs.tk ((t1.trans t2).trans t3)) vs
    refine b.l x w (wipe σ vs) H3 (wipeW ρ vs) S2 _ _ r hs3 hh3 (pst i w acc S2 e p2) fun σ4 H4 ρ4 S4 t4 hs4 hh4 q4 => ?_
    refine c.l σ4 H4 ρ4 S4 _ _ hs4 hh4 q4 fun bb H5 S5 t5 hh5 q5 => ?_
    have t15 := ((t2.trans t3).trans t4).trans t5
    cases bb with
    | true =>
      rw [if_pos rfl]
      refine a.l σ4 H5 ρ4 S5 _ _ (hs4.tk t5) hh5 (q5.1 rfl) fun z H6 wz S6 t6 hh6 r6 ⟨eD, hl, q6⟩ => ?_
      obtain ⟨vs', h1, h2⟩ := hh6 _ _ eD
      have t : Tk H6 (upd H6 D (.lst (vs' ++ [z]))) := Tk.mut h1 (fun _ z => (by cases z)) (fun _ _ z => (by cases z))
      obtain ⟨t, hm⟩ := hh6.mut (c' := .lst (acc ++ [wz])) (o := .lst (vs' ++ [z])) eD ⟨_, upd_same, (RepL.tk t _ _ h2).append (.one (Rep.tk t _ _ r6))⟩
      exact ⟨vs', h1, by rw [h2.length]; exact hl, _, _, (t15.trans t6).trans t, hm, q6⟩
    | false =>
      rw [if_neg Bool.false_ne_true]
      exact ⟨acc, S5, t15, hh5, q5.2 rfl⟩
  · have e : i = ws.length := by omega
    subst e
    exact .inl ⟨src.stop _ H2 S2 t2 hh2 (pok _ _ _ p2) (Nat.le_refl _), po.ref (t1.trans t2) hh2 (pend _ _ p2)⟩⟩
end Wl
set_option Elab.async false
set_option linter.all false
set_option maxRecDepth 100000
set_option maxHeartbeats 2000000
namespace Wl
open PySem PySem.Spec PyProof.Rows L2
variable {K : PySem.W.Frag} {B : Hp}
/-! ### more statements -/
def wPar (i j : Nat) (ta : TAW) : TSW := fun D ρ S => ta ρ S fun ws S1 => match ws with
  | [v, w] => D.nx ((ρ.set i (some v)).set j (some w)) S1
  | _ => False
instance ls_par {i j : Nat} {ta : TA} {wa : TAW} [a : LA K B ta wa] : LS K B (tPar i j ta) (wPar i j wa) := ⟨fun σ H ρ S D Dw hs hh q po => a.l σ H ρ S _ _ hs hh q fun xs H1 ws S1 t1 hh1 r1 q1 => by
  split at q1
  · obtain ⟨x, y, rfl, h1, h2⟩ := rep2 r1
    exact ⟨x, y, rfl, po.nx _ H1 _ S1 t1 (((hs.tk t1).set i h1).set j h2) hh1 q1⟩
  · exact q1.elim⟩

/-- a statement, then the rest, with a word between them -/
def tMid (t u : TS) : TS := fun D σ H => ∃ M : L2.St → Hp → Prop, t { D with nx := M } σ H ∧ ∀ σ' H', M σ' H' → u D σ' H'
theorem pss_mid {X : Cx} {st : Stmt} {rest : List Stmt} {t u : TS} (h1 : PS X st t) (h2 : PSs X rest u) : PSs X (st :: rest) (tMid t u) := by
  refine ⟨fun pins s σ H D I h => ?_⟩
  obtain ⟨Mid, hm, hu⟩ := h
  refine wpAny_execs_cons (thn (h1.run pins s σ H { D with nx := Mid } I hm) fun f s1 q => ?_)
  cases f with
  | next =>
    obtain ⟨σ', H', I', q⟩ := q
    exact h2.run pins s1 σ' H' D I' (hu σ' H' q)
  | ret v => exact q
  | brk => exact q
  | cont => exact q
def wMid (t u : TSW) : TSW := fun D ρ S => ∃ M : StW → Sto → Prop, t { D with nx := M } ρ S ∧ ∀ ρ' S', M ρ' S' → u D ρ' S'
instance ls_mid {t u : TS} {tw uw : TSW} [a : LS K B t tw] [b : LS K B u uw] : LS K B (tMid t u) (wMid tw uw) := ⟨fun σ H ρ S D Dw hs hh ⟨M, hm, hu⟩ po =>
  ⟨fun σ' H' => ∃ ρ' S', Tk H H' ∧ SRep K B H' σ' ρ' ∧ HRep K H' S' ∧ M ρ' S', a.l σ H ρ S _ { Dw with nx := M } hs hh hm ⟨fun σ' H' ρ' S' t1 hs' hh' q' => ⟨ρ', S', t1, hs', hh', q'⟩, po.bk, po.ct, po.rt⟩,
    fun σ' H' ⟨ρ', S', t1, hs', hh', q'⟩ => b.l σ' H' ρ' S' D Dw hs' hh' (hu ρ' S' q') (po.tk t1)⟩⟩

/-! ### the text's defs -/
section
variable {P : Program} {w : World} {mg : Str → Option Value} {base : Heap}
structure DefAt (K : PySem.W.Frag) (mg : Str → Option Value) (x : Str) (st : Stmt) (ps : List Str) : Prop where
  ex : ∃ (f : Addr) (fd : FuncData), Fun K x x st f fd ∧ mg x = some (.ref f) ∧ Binds K fd ps []
theorem calD {x : Str} {st : Stmt} {N ps : List Str} {k : Nat} {sp : SpW} (d : DefAt K mg x st ps) (SC : FnScope N ps (defScope st))
    (len : ∀ ws S Q, sp ws S Q → ws.length = ps.length)
    (hbody : ∀ (f : Addr) (cdv : Value) (A : Around) (outer : List Env) (s : Shared) (H : Hp) (E : XK), Room k (A.deeper (envOfC x (defScope st) s.heap.objs.size f cdv)) →
      ∃ t tw, PSs (cxOf CX0 P w K mg base N x (defScope st) f cdv A outer s H E).nox (defBody st) t ∧ LS K H t tw ∧ ∀ ws S Q, sp ws S Q → tw { nx := fun _ S' => Fg Q .non S', rt := Fg Q } (startW N ws) S) :
    CalW P w K mg base (k + 1) x sp := by
  obtain ⟨f, fd, F, hm, b⟩ := d.ex
  exact calW F hm b SC len (hbody f)
/-- the law itself -/
theorem fnD {x : Str} {st : Stmt} {N ps : List Str} {k : Nat} {sp : SpW} {f : Addr} {fd : FuncData} (F : Fun K x x st f fd) (SC : FnScope N ps (defScope st))
    (len : ∀ ws S Q, sp ws S Q → ws.length = ps.length)
    (hbody : ∀ (f : Addr) (cdv : Value) (A : Around) (outer : List Env) (s : Shared) (H : Hp) (E : XK), Room k (A.deeper (envOfC x (defScope st) s.heap.objs.size f cdv)) →
      ∃ t tw, PSs (cxOf CX0 P w K mg base N x (defScope st) f cdv A outer s H E).nox (defBody st) t ∧ LS K H t tw ∧ ∀ ws S Q, sp ws S Q → tw { nx := fun _ S' => Fg Q .non S', rt := Fg Q } (startW N ws) S) :
    FnOk P w K mg base CX0 (k + 1) f fd ps (liftSp K sp) :=
  F.ok SC (fun vs H Q E ⟨ws, S, Qw, h1, _, h3, _⟩ => by rw [h1.length]; exact len _ _ _ h3) (fun cdv A outer s H vs Q E hr ⟨ws, S, Qw, h1, h2, h3, h4⟩ => by
    obtain ⟨t, tw, ht, hl, hq⟩ := hbody f cdv A outer s H E hr
    refine ⟨t, ht, hl.l _ H (startW N ws) S _ _ (SRep.init h1) h2 (hq ws S Qw h3) ⟨?_, fun _ _ _ _ _ _ _ z => z.elim, fun _ _ _ _ _ _ _ z => z.elim, ?_⟩⟩
    · rintro σ' H' ρ' S' t1 _ hh ⟨S2, sub, q⟩
      exact h4.non t1 (hh.sub sub) q
    · rintro v H' w S' t1 hh r ⟨S2, sub, q⟩
      exact h4 v H' w S2 t1 (hh.sub sub) r q)
end
/-- the law's promise: True, whatever the script -/
def spLaw : SpW := fun ws _ Q => ∃ ns : List Int, ws = [.rl (ns.map W.int)] ∧ ns.length ≤ 63 ∧ ∀ S', Q (.bl true) S'
theorem law_end {H : Hp} {a : Addr} {ns : List Int} (hl : ns.length ≤ 63) (hO : Only H) (hS : SqL K H a (ns.map V.int)) : liftSp K spLaw [.ref a] H (fun v _ => v = .bl true) (fun _ _ _ => False) := by
  refine ⟨[.rl (ns.map W.int)], fun _ => none, fun v _ => v = .bl true, ?_, fun a c e => (by cases e), ⟨ns, rfl, hl, fun _ => rfl⟩, fun v H' w S' _ _ r q => ?_⟩
  · refine .one ⟨a, ns.map V.int, rfl, ?_, RepL.ofInts⟩
    rcases hS with (h | h) | h
    · rcases hO a with z | ⟨o, xs, z⟩
      · rw [h] at z; cases z
      · rw [h] at z; cases z
    · exact .inl h
    · exact .inr h
  · have q' : w = .bl true := q
    subst q'
    exact r

theorem isTy_tt : isTy "tuple" "tuple" = some true := by decide +kernel
theorem isTy_ii : isTy "int" "int" = some true := by decide +kernel
theorem isTy_ib : isTy "int" "bool" = some false := by decide +kernel
theorem isTy_bb : isTy "bool" "bool" = some true := by decide +kernel
theorem isTy_ll : isTy "list" "list" = some true := by decide +kernel
theorem isTy_ss : isTy "str" "str" = some true := by decide +kernel
theorem tyName_lst {S : Sto} {a : Addr} {ws : List W} (h : S a = some (.lst ws)) : tyName (.ref a) S = some "list" := by
  unfold tyName
  simp only [h]
/-! ### never called -/
def wNever : TSW := fun _ _ _ => False
instance ls_never : LS K B tNever wNever := ⟨fun σ H ρ S D Dw hs hh q po => q.elim⟩
def spNever : SpW := fun _ _ _ => False
theorem calNever {P : Program} {w : World} {mg : Str → Option Value} {base : Heap} {x : Str} {st : Stmt} {N ps : List Str} (d : DefAt K mg x st ps) (SC : FnScope N ps (defScope st)) : CalW P w K mg base 1 x spNever :=
  calD d SC (fun _ _ _ h => h.elim) fun f cdv A outer s H E hr => ⟨_, _, pss_never, inferInstance, fun ws S Q h => h.elim⟩

/-! ### stores -/
theorem ne_free {S : Sto} {p q : Addr} {c : Cell} (h : S p = some c) (n : S q = none) : q ≠ p := fun e => by rw [e, h] at n; cases n
theorem sub_new2 {S : Sto} {p : Addr} {c : Cell} (n : S p = none) : Sub S (put S p c) := Sub.new n

/-! ### pools: the drawn numbers of a script -/
/-- a pool's list: what is left, how many were drawn, whether by digits, the seed, three -/
def poolL (c n b s : Int) : List W := [.int c, .int n, .int b, .int s, .int 3]
structure PoolOk (c n s : Int) : Prop where
  c0 : 0 ≤ c
  n0 : 0 ≤ n
  n1 : n ≤ 1000000
  s0 : 0 ≤ s
  s1 : s < 2147483647
/-- a new pool at p; its own cell, anything else as it was -/
def spPool : SpW := fun ws S Q => ∃ (ns : List Int) (k : Int), ws = [.rl (ns.map W.int), .int k] ∧ 0 ≤ k ∧ k ≤ 1000 ∧ ns.length ≤ 63 ∧
  ∀ p c b s, S p = none → PoolOk c 0 s → Q (.ref p) (put S p (.lst (poolL c 0 b s)))
/-- one number is drawn, 0 or more and less than many -/
def spTake : SpW := fun ws S Q => ∃ (p : Addr) (c n b s many : Int), ws = [.ref p, .int many] ∧ S p = some (.lst (poolL c n b s)) ∧ PoolOk c n s ∧ n < 1000000 ∧ 0 < many ∧ many < 2 ^ 64 ∧
  ∀ r c', 0 ≤ r → r < many → PoolOk c' (n + 1) s → Q (.int r) (put S p (.lst (poolL c' (n + 1) b s)))
theorem sizeLine_ge : 1000 ≤ sizeLine := by decide
theorem atI_int {ns : List Int} {i : Int} (h0 : 0 ≤ i) (h1 : i < ns.length) : ∃ n, atI (ns.map W.int) i = some (.int n) := by
  obtain ⟨j, rfl⟩ : ∃ j : Nat, i = (j : Int) := ⟨i.toNat, by omega⟩
  have hj : j < ns.length := by omega
  refine ⟨ns[j], ?_⟩
  unfold atI ixN
  rw [if_pos (by omega), if_pos (by rw [List.length_map]; omega)]
  simp [hj]
end Wl
set_option Elab.async false
set_option linter.all false
set_option maxRecDepth 100000
set_option maxHeartbeats 2000000
/-! The rules with the written part named. -/
namespace Wl
open PySem PySem.Spec PyProof.Rows L2
section
variable {X : Cx} (K : PySem.W.Frag)
theorem k_add (hK : X.K = K := by rfl) : OpR X (binaryOp .Add) (rAddA K) := by subst hK; exact op_addA
theorem k_eq (hu : X.A.units + 64 < cLine) (hK : X.K = K := by rfl) : OpR X (compareOp .Eq) (rEqA K) := by subst hK; exact op_eqA hu
theorem k_ne (hu : X.A.units + 64 < cLine) (hK : X.K = K := by rfl) : OpR X (compareOp .NotEq) (rNeA K) := by subst hK; exact op_neA hu
theorem k_in (hK : X.K = K := by rfl) : OpR X (compareOp .In) (rInA K false) := by subst hK; exact op_inA
theorem k_notIn (hK : X.K = K := by rfl) : OpR X (compareOp .NotIn) (rInA K true) := by subst hK; exact op_notInA
theorem k_ix (hK : X.K = K := by rfl) : IxR X (rIx K) := by subst hK; exact ix_seq
theorem k_sl (hK : X.K = K := by rfl) : SlR X (rSlA K) := by subst hK; exact sl_A
theorem k_any {tg l : Expr} {tl : TE} (hl : PE X l tl) (hK : X.K = K := by rfl) : PI X tg l (iAny K tl) := by subst hK; exact pi_any hl
theorem k_len (hK : X.K = K := by rfl) : CallR X (.builtin "len") (rLenA K) := by subst hK; exact call_len
theorem k_list (hK : X.K = K := by rfl) : CallR X (.type "list") (rListA K) := by subst hK; exact call_list_of
theorem k_tuple (hK : X.K = K := by rfl) : CallR X (.type "tuple") (rTupA K) := by subst hK; exact call_tuple_of
theorem k_sum (hc : X.calm = true) (hK : X.K = K := by rfl) : CallR X (.builtin "sum") (rSum K) := by subst hK; exact cr_sum hc
theorem k_all (hc : X.calm = true) (hK : X.K = K := by rfl) : CallR X (.builtin "all") (rAll K) := by subst hK; exact cr_all hc
theorem k_anyC (hc : X.calm = true) (hK : X.K = K := by rfl) : CallR X (.builtin "any") (rAny K) := by subst hK; exact cr_any hc
theorem k_isi (hK : X.K = K := by rfl) : CallR X (.builtin "isinstance") (rIsi K) := by subst hK; exact call_isi
theorem k_gtup {es : List Expr} {k : Nat} {t : TGs} {n : Nat} {pos : Pos} (hc : X.calm = true) (h : PGs X es t)
    (hn : (assignEach es X.env).length = n := by rfl) (hst : (assignEach es X.env).findIdx? (·.1) = none := by rfl) (hK : X.K = K := by rfl) : PG X (.Tuple es k pos) (gTup K n t) := by subst hK; exact pg_tup hc h hn hst
theorem k_bm {o e : Expr} {es : List Expr} {to : TE} {t : TA} {name : Str} {apos cpos : Pos} {T id : String} {r : V → List V → Hp → VK → Prop} (pa : PlainAttrs T) (slot : Slot T name id) (hty : typeOf (.builtin id) = pure (.type "method_descriptor")) (hm : MtR X id r) (ho : PE X o to) (ha : PA X (e :: es) t)
    (hbase : attributeBase o name X.env (eval o X.env) = eval o X.env := by rfl)
    (hfew : ((backTo cpos (starEach (e :: es) X.env)).all (fun x => !x.1) && (backToKw cpos (keywordEach [] X.env)).all (fun x => x.1.isSome)
      && decide ((e :: es).length + ([] : List Keyword).length + (if ([] : List Keyword).isEmpty then 0 else 1) < 30)) = true := by rfl)
    (hline : (apos.endLine == cpos.line) = true := by rfl) (hs : starEach (e :: es) X.env = (false, eval e X.env) :: starEach es X.env := by rfl) (hplain : (backTo cpos (starEach es X.env)).any (·.1) = false := by rfl)
    (hK : X.K = K := by rfl) : PE X (.Call (.Attribute o name apos) (e :: es) [] cpos) (tBM K T r to t) := by subst hK; exact pe_bm pa slot hty hm ho ha hbase hfew hline hs hplain
theorem k_bm0 {o : Expr} {to : TE} {name : Str} {apos cpos : Pos} {T id : String} {r : V → List V → Hp → VK → Prop} (pa : PlainAttrs T) (slot : Slot T name id) (hty : typeOf (.builtin id) = pure (.type "method_descriptor")) (hm : MtR X id r) (ho : PE X o to)
    (hbase : attributeBase o name X.env (eval o X.env) = eval o X.env := by rfl) (hline : (apos.endLine == cpos.line) = true := by rfl) (hK : X.K = K := by rfl) : PE X (.Call (.Attribute o name apos) [] [] cpos) (tBM0 K T r to) := by subst hK; exact pe_bm0 pa slot hty hm ho hbase hline
theorem k_w {k j : Nat} {x : Str} {sp : SpW} {p pos : Pos} {e : Expr} {es : List Expr} {t : TA} (c : CalW X.prog X.w K X.mg X.base k x sp) (hr : Room j X.A) (hk : k ≤ j) (hg : Gl X x) (ha : PA X (e :: es) t)
    (hdb : (x == ("__debug__" : Str)) = false := by decide) (he : starEach (e :: es) X.env = (false, eval e X.env) :: starEach es X.env := by rfl) (hpl : (backTo pos (starEach es X.env)).any (·.1) = false := by rfl) (hK : X.K = K := by rfl) :
    PE X (.Call (.Name x p) (e :: es) [] pos) (tCall (liftSp K sp) [] E0 t) := by subst hK; exact pe_w c hr hk hg ha hdb he hpl
theorem k_w0 {k j : Nat} {x : Str} {sp : SpW} {p pos : Pos} (c : CalW X.prog X.w K X.mg X.base k x sp) (hr : Room j X.A) (hk : k ≤ j) (hg : Gl X x)
    (hdb : (x == ("__debug__" : Str)) = false := by decide) (hK : X.K = K := by rfl) : PE X (.Call (.Name x p) [] [] pos) (tCall (liftSp K sp) [] E0 tNil) := by subst hK; exact pe_w0 c hr hk hg hdb
end
/-! ### tests that change nothing, told by their answer -/
def EvW (t : TTW) (ρ : StW) (S : Sto) (b : Bool) : Prop := ∀ Q : Bool → Sto → Prop, Q b S → t ρ S Q
section
variable {t u : TTW} {ρ : StW} {S : Sto} {a b : Bool}
theorem evOr (h1 : EvW t ρ S a) (h2 : a = false → EvW u ρ S b) : EvW (wOr t u) ρ S (a || b) := fun Q q => h1 _ ⟨fun e => by rw [e] at q; exact q, fun e => by rw [e] at q; exact h2 e Q q⟩
theorem evAnd (h1 : EvW t ρ S a) (h2 : a = true → EvW u ρ S b) : EvW (wAnd t u) ρ S (a && b) := fun Q q => h1 _ ⟨fun e => by rw [e] at q; exact h2 e Q q, fun e => by rw [e] at q; exact q⟩
theorem evNot (h1 : EvW t ρ S a) : EvW (wNot t) ρ S (!a) := fun Q q => h1 _ q
theorem evIs {c : Bool} (h : EvW t ρ S a) (e : a = c) : EvW t ρ S c := by rw [← e]; exact h
theorem ifEv {p q : TSW} {D : EndsW} (h : EvW t ρ S b) (h1 : b = true → p D ρ S) (h2 : b = false → q D ρ S) : wIfS t p q D ρ S := h _ ⟨h1, h2⟩
end
theorem orGo {t : TTW} {ρ : StW} {S : Sto} {c b d : Bool} {K : Bool → Sto → Prop} (h : c = false → EvW t ρ S b) (e : (c || b) = d) (q : K d S) : (c = false → t ρ S K) ∧ (c = true → K true S) := by
  subst e
  exact ⟨fun e => by rw [e] at q; exact h e K q, fun e => by rw [e] at q; exact q⟩
theorem andGo {t : TTW} {ρ : StW} {S : Sto} {c b d : Bool} {K : Bool → Sto → Prop} (h : c = true → EvW t ρ S b) (e : (c && b) = d) (q : K d S) : (c = true → t ρ S K) ∧ (c = false → K false S) := by
  subst e
  exact ⟨fun e => by rw [e] at q; exact h e K q, fun e => by rw [e] at q; exact q⟩
theorem wEq_t {x y : W} {S : Sto} {Q : WK} (tx : ∃ a, x = .tup a) (ty : ∃ b, y = .tup b) (hx : shW x) (hy : shW y) (q : Q (.bl (PyData.eqv (toD x) (toD y))) S) : wEq x y S Q := by
  obtain ⟨a, rfl⟩ := tx
  obtain ⟨b, rfl⟩ := ty
  exact ⟨hx, hy, q⟩
theorem wNe_t {x y : W} {S : Sto} {Q : WK} (tx : ∃ a, x = .tup a) (ty : ∃ b, y = .tup b) (hx : shW x) (hy : shW y) (q : Q (.bl (!PyData.eqv (toD x) (toD y))) S) : wNe x y S Q := by
  obtain ⟨a, rfl⟩ := tx
  obtain ⟨b, rfl⟩ := ty
  exact ⟨hx, hy, q⟩
theorem rdAt_ok {o : Option W} {w : W} {S : Sto} {Q : WK} (e : o = some w) (q : Q w S) : rdAt o S Q := by rw [e]; exact q
/-- a comprehension whose element changes nothing: map -/
theorem lcMap {wi : TIW} {j : Nat} {te : TEW} {vs : List Nat} {ρ : StW} {S S1 : Sto} {Q : WK} {ws : List W} {ok : Sto → Prop} (f : W → W) (hw : ∀ R : List W → (Sto → Prop) → Sto → Prop, R ws ok S1 → wi ρ S R) (hl : ws.length ≤ 100000)
    (hok : ∀ (D : Addr) (acc : List W), S1 D = none → ok (put S1 D (.lst acc)))
    (he : ∀ (i : Nat) (w : W) (D : Addr) (acc : List W), ws[i]? = some w → S1 D = none → ∀ Q' : WK, Q' (f w) (put S1 D (.lst acc)) → te ((wipeW ρ vs).set j (some w)) (put S1 D (.lst acc)) Q')
    (hd : ∀ (D : Addr), S1 D = none → Q (.ref D) (put S1 D (.lst (ws.map f)))) : wLc wi (wName j) wYes te vs ρ S Q := by
  refine hw _ fun D hD => ⟨fun i acc S' => i ≤ ws.length ∧ acc = (ws.map f).take i ∧ S' = put S1 D (.lst acc), ⟨Nat.zero_le _, rfl, rfl⟩, ?_, ?_, ?_⟩
  · rintro i acc S' ⟨_, _, rfl⟩
    exact hok D acc hD
  · rintro i w acc S' e ⟨_, ha, rfl⟩
    refine ⟨fun _ => he i w D acc e hD _ ⟨put_same, ?_, ?_⟩, fun h => by cases h⟩
    · rw [ha, List.length_take]
      exact Nat.lt_of_le_of_lt (Nat.min_le_left _ _) (Nat.lt_of_lt_of_le (show i < 200000 by have := (List.getElem?_eq_some_iff.mp e).1; omega) (by decide))
    · refine ⟨(List.getElem?_eq_some_iff.mp e).1, ?_, put_put⟩
      rw [List.take_add_one, List.getElem?_map, e, ha]
      rfl
  · rintro acc S' ⟨_, ha, rfl⟩
    rw [List.take_of_length_le (by rw [List.length_map]; exact Nat.le_refl _)] at ha
    rw [ha]
    exact hd D hD
/-! ### is None -/
def isN : W → Bool
  | .non => true
  | _ => false
def wIsN : RW2 := fun x y S Q => y = .non ∧ Q (.bl (isN x)) S
instance l2_isN {K : PySem.W.Frag} : L2R K (fun x y H Q => y = V.non ∧ Q (V.bl (decide (x = V.non))) H) wIsN := ⟨fun H S x y wx wy Q Qw hh rx ry q po => by
  obtain ⟨rfl, q⟩ := q
  refine ⟨ry, ?_⟩
  have e : decide (x = V.non) = isN wx := by
    cases wx with
    | tup ws =>
      obtain ⟨a, xs, rfl, _⟩ := (show ∃ a xs, x = .ref a ∧ _ from rx)
      rfl
    | rl ws =>
      obtain ⟨a, xs, rfl, _⟩ := (show ∃ a xs, x = .ref a ∧ _ from rx)
      rfl
    | _ => cases (show x = _ from rx); rfl
  rw [e]
  exact po.bl (Tk.refl H) hh q⟩
theorem isN_of {K : PySem.W.Frag} {H : Hp} {x : V} {wx : W} (rx : Rep K H wx x) : decide (x = V.non) = isN wx := by
  cases wx with
  | tup ws =>
    obtain ⟨a, xs, rfl, _⟩ := (show ∃ a xs, x = .ref a ∧ _ from rx)
    rfl
  | rl ws =>
    obtain ⟨a, xs, rfl, _⟩ := (show ∃ a xs, x = .ref a ∧ _ from rx)
    rfl
  | _ => cases (show x = _ from rx); rfl
def wNotN : RW2 := fun x y S Q => y = .non ∧ Q (.bl (!isN x)) S
instance l2_notN {K : PySem.W.Frag} : L2R K (fun x y H Q => y = V.non ∧ Q (V.bl (!decide (x = V.non))) H) wNotN := ⟨fun H S x y wx wy Q Qw hh rx ry q po => by
  obtain ⟨rfl, q⟩ := q
  refine ⟨ry, ?_⟩
  rw [isN_of rx]
  exact po.bl (Tk.refl H) hh q⟩
/-! ### more of the types -/
theorem isTy_tb : isTy "tuple" "bool" = some false := by decide +kernel
theorem isTy_ti : isTy "tuple" "int" = some false := by decide +kernel
theorem isTy_ts : isTy "tuple" "str" = some false := by decide +kernel
theorem isTy_tl : isTy "tuple" "list" = some false := by decide +kernel
theorem isTy_lb : isTy "list" "bool" = some false := by decide +kernel
theorem isTy_li : isTy "list" "int" = some false := by decide +kernel
theorem isTy_ls : isTy "list" "str" = some false := by decide +kernel
theorem isTy_lt : isTy "list" "tuple" = some false := by decide +kernel
theorem isTy_sb : isTy "str" "bool" = some false := by decide +kernel
theorem isTy_si : isTy "str" "int" = some false := by decide +kernel
theorem isTy_st : isTy "str" "tuple" = some false := by decide +kernel
theorem isTy_sl : isTy "str" "list" = some false := by decide +kernel
theorem isTy_is : isTy "int" "str" = some false := by decide +kernel
theorem isTy_it : isTy "int" "tuple" = some false := by decide +kernel
theorem isTy_il : isTy "int" "list" = some false := by decide +kernel
theorem isTy_bi : isTy "bool" "int" = some true := by decide +kernel
theorem isTy_bs : isTy "bool" "str" = some false := by decide +kernel
/-! ### shapes -/
def shN (n : Nat) (w : W) : Prop := datW w = true ∧ (toD w).canLay0 = true ∧ (toD w).depth ≤ n
theorem shN_list {n : Nat} : ∀ {ws : List W}, (∀ w ∈ ws, shN n w) → datWs ws = true ∧ PyData.canLayAll0 (toDs ws) = true ∧ PyData.depthAll (toDs ws) ≤ n
  | [], _ => ⟨rfl, rfl, Nat.zero_le _⟩
  | w :: ws, h => by
    obtain ⟨a, b, c⟩ := h w List.mem_cons_self
    obtain ⟨d, e, f⟩ := shN_list fun x hx => h x (List.mem_cons_of_mem _ hx)
    refine ⟨?_, ?_, ?_⟩
    · unfold datWs; rw [a, d]; rfl
    · unfold toDs; unfold PyData.canLayAll0; rw [b, e]; rfl
    · unfold toDs; unfold PyData.depthAll; exact Nat.max_le.mpr ⟨c, f⟩
theorem shN_tup {n : Nat} {ws : List W} (h : ∀ w ∈ ws, shN n w) : shN (n + 1) (.tup ws) := by
  obtain ⟨a, b, c⟩ := shN_list h
  refine ⟨by unfold datW; exact a, by unfold toD; unfold PyData.canLay0; exact b, ?_⟩
  unfold toD
  unfold PyData.depth
  omega
theorem shN_rl {n : Nat} {ws : List W} (h : ∀ w ∈ ws, shN n w) : shN (n + 1) (.rl ws) := by
  obtain ⟨a, b, c⟩ := shN_list h
  refine ⟨by unfold datW; exact a, by unfold toD; unfold PyData.canLay0; exact b, ?_⟩
  unfold toD
  unfold PyData.depth
  omega
theorem shN_int (n : Int) : shN 0 (.int n) := ⟨rfl, rfl, Nat.le_refl 0⟩
theorem shN_str {n : Str} (h : PyData.strOk n = true) : shN 0 (.str n) := ⟨rfl, h, Nat.le_refl 0⟩
theorem shN_bl (n : Bool) : shN 0 (.bl n) := ⟨rfl, rfl, Nat.le_refl 0⟩
theorem shN_up {n m : Nat} {w : W} (h : shN n w) (l : n ≤ m) : shN m w := ⟨h.1, h.2.1, Nat.le_trans h.2.2 l⟩
theorem shN_sh {n : Nat} {w : W} (h : shN n w) (l : n ≤ 64) : shW w := ⟨h.1, by unfold SeqAt.shaped; rw [h.2.1, decide_eq_true (Nat.le_trans h.2.2 l)]; rfl⟩
theorem eqvW_refl {w : W} (h : shW w) : PyData.eqv (toD w) (toD w) = true := SeqAt.eqv_refl _ (by
  have := h.2
  unfold SeqAt.shaped at this
  rw [Bool.and_eq_true] at this
  exact this.1)
theorem eqvAllW_refl {ws : List W} (h : shW (.rl ws)) : PyData.eqvAll (toDs ws) (toDs ws) = true := SeqAt.eqvAll_refl _ (by
  have := h.2
  unfold SeqAt.shaped at this
  rw [Bool.and_eq_true] at this
  exact this.1)
end Wl
set_option Elab.async false
set_option linter.all false
set_option maxRecDepth 100000
set_option maxHeartbeats 2000000
/-! Words that whnf does not open. -/
namespace Wl
open PySem PySem.Spec PyProof.Rows L2
section
variable {K : PySem.W.Frag} {P : Program} {w : World} {mg : Str → Option Value} {base : Heap}
@[irreducible] def Hd (sp : SpW) : SpW := sp
theorem Hd_eq (sp : SpW) : Hd sp = sp := by unfold Hd; rfl
theorem Hd.mk {sp : SpW} {ws : List W} {S : Sto} {Q : WK} (h : sp ws S Q) : Hd sp ws S Q := by rw [Hd_eq]; exact h
theorem CalW.hd {k : Nat} {x : Str} {sp : SpW} (c : CalW P w K mg base k x sp) : CalW P w K mg base k x (Hd sp) := by rw [Hd_eq]; exact c
@[irreducible] def FgI (Q : WK) : WK := Fg Q
theorem FgI_eq (Q : WK) : FgI Q = Fg Q := by unfold FgI; rfl
theorem fg_here {Q : WK} {v : W} {S : Sto} (h : Q v S) : FgI Q v S := by rw [FgI_eq]; exact ⟨S, Sub.refl S, h⟩
theorem fg_sub {Q : WK} {v : W} {S S' : Sto} (h : Sub S' S) (q : Q v S') : FgI Q v S := by rw [FgI_eq]; exact ⟨S', h, q⟩
theorem calDI {x : Str} {st : Stmt} {N ps : List Str} {k : Nat} {sp : SpW} (d : DefAt K mg x st ps) (SC : FnScope N ps (defScope st))
    (len : ∀ ws S Q, sp ws S Q → ws.length = ps.length)
    (hbody : ∀ (f : Addr) (cdv : Value) (A : Around) (outer : List Env) (s : Shared) (H : Hp) (E : XK), Room k (A.deeper (envOfC x (defScope st) s.heap.objs.size f cdv)) →
      ∃ t tw, PSs (cxOf CX0 P w K mg base N x (defScope st) f cdv A outer s H E).nox (defBody st) t ∧ LS K H t tw ∧ ∀ ws S Q, sp ws S Q → tw { nx := fun _ S' => FgI Q .non S', rt := FgI Q } (startW N ws) S) :
    CalW P w K mg base (k + 1) x sp := calD d SC len fun f cdv A outer s H E hr => by
  obtain ⟨t, tw, h1, h2, h3⟩ := hbody f cdv A outer s H E hr
  refine ⟨t, tw, h1, h2, fun ws S Q h => ?_⟩
  have h4 := h3 ws S Q h
  rw [FgI_eq] at h4
  exact h4
theorem fnDI {x : Str} {st : Stmt} {N ps : List Str} {k : Nat} {sp : SpW} {f : Addr} {fd : FuncData} (F : Fun K x x st f fd) (SC : FnScope N ps (defScope st))
    (len : ∀ ws S Q, sp ws S Q → ws.length = ps.length)
    (hbody : ∀ (f : Addr) (cdv : Value) (A : Around) (outer : List Env) (s : Shared) (H : Hp) (E : XK), Room k (A.deeper (envOfC x (defScope st) s.heap.objs.size f cdv)) →
      ∃ t tw, PSs (cxOf CX0 P w K mg base N x (defScope st) f cdv A outer s H E).nox (defBody st) t ∧ LS K H t tw ∧ ∀ ws S Q, sp ws S Q → tw { nx := fun _ S' => FgI Q .non S', rt := FgI Q } (startW N ws) S) :
    FnOk P w K mg base CX0 (k + 1) f fd ps (liftSp K sp) := fnD F SC len fun f cdv A outer s H E hr => by
  obtain ⟨t, tw, h1, h2, h3⟩ := hbody f cdv A outer s H E hr
  refine ⟨t, tw, h1, h2, fun ws S Q h => ?_⟩
  have h4 := h3 ws S Q h
  rw [FgI_eq] at h4
  exact h4
@[irreducible] def wLcI (wi : TIW) (g : TGW) (tt : TTW) (te : TEW) (vs : List Nat) : TEW := wLc wi g tt te vs
theorem wLcI_eq (wi : TIW) (g : TGW) (tt : TTW) (te : TEW) (vs : List Nat) : wLcI wi g tt te vs = wLc wi g tt te vs := by unfold wLcI; rfl
instance (priority := high) le_lcI {wi : TI} {g : TG} {tt : TT} {te : TE} {vs : List Nat} {ww : TIW} {gw : TGW} {tw : TTW} {ew : TEW} [h : LI K B wi ww] [b : LG K B g gw] [gg : GW g vs] [c : LT K B tt tw] [a : LE K B te ew] : LE K B (tLc wi g tt te vs) (wLcI ww gw tw ew vs) := by
  rw [wLcI_eq]; infer_instance
theorem lc_mk {wi : TIW} {g : TGW} {tt : TTW} {te : TEW} {vs : List Nat} {ρ : StW} {S : Sto} {Q : WK} (h : wi ρ S fun ws ok S1 => ∀ D, S1 D = none → ∃ P : Nat → List W → Sto → Prop, P 0 [] (put S1 D (.lst [])) ∧
  (∀ i acc S', P i acc S' → ok S') ∧
  (∀ i w acc S', ws[i]? = some w → P i acc S' → g w (wipeW ρ vs) S' fun ρ2 S2 => tt ρ2 S2 fun b S3 =>
    (b = true → te ρ2 S3 fun y S4 => S4 D = some (.lst acc) ∧ acc.length < sizeLine ∧ P (i + 1) (acc ++ [y]) (put S4 D (.lst (acc ++ [y])))) ∧ (b = false → P (i + 1) acc S3)) ∧
  ∀ acc S', P ws.length acc S' → Q (.ref D) S') : wLcI wi g tt te vs ρ S Q := by rw [wLcI_eq]; exact h
theorem lcMapI {wi : TIW} {j : Nat} {te : TEW} {vs : List Nat} {ρ : StW} {S S1 : Sto} {Q : WK} {ws : List W} {ok : Sto → Prop} (f : W → W) (hw : ∀ R : List W → (Sto → Prop) → Sto → Prop, R ws ok S1 → wi ρ S R) (hl : ws.length ≤ 100000)
    (hok : ∀ (D : Addr) (acc : List W), S1 D = none → ok (put S1 D (.lst acc)))
    (he : ∀ (i : Nat) (w : W) (D : Addr) (acc : List W), ws[i]? = some w → S1 D = none → ∀ Q' : WK, Q' (f w) (put S1 D (.lst acc)) → te ((wipeW ρ vs).set j (some w)) (put S1 D (.lst acc)) Q')
    (hd : ∀ (D : Addr), S1 D = none → Q (.ref D) (put S1 D (.lst (ws.map f)))) : wLcI wi (wName j) wYes te vs ρ S Q := by rw [wLcI_eq]; exact lcMap f hw hl hok he hd
/-- all but p is as it was -/
@[irreducible] def Kp (S : Sto) (p : Addr) (S' : Sto) : Prop := ∀ a c, a ≠ p → S a = some c → S' a = some c
theorem Kp_eq (S : Sto) (p : Addr) (S' : Sto) : Kp S p S' = ∀ a c, a ≠ p → S a = some c → S' a = some c := by unfold Kp; rfl
theorem Kp.refl (S : Sto) (p : Addr) : Kp S p S := by rw [Kp_eq]; exact fun _ _ _ h => h
theorem Kp.at {S S' : Sto} {p : Addr} {c : Cell} (h : Kp S p S') : Kp S p (put S' p c) := by
  rw [Kp_eq] at *
  exact fun a d ha e => by rw [put_ne ha]; exact h a d ha e
theorem Kp.free {S S' : Sto} {p d : Addr} {c : Cell} (h : Kp S p S') (hp : S' p = some c) (n : S' d = none) : S d = none := by
  rw [Kp_eq] at h
  cases e : S d with
  | none => rfl
  | some x =>
    have hd : d ≠ p := fun z => by rw [z, hp] at n; cases n
    rw [h d x hd e] at n; cases n
theorem Kp.new {S S' : Sto} {p d : Addr} {c : Cell} (h : Kp S p S') (n : S d = none) : Kp S p (put S' d c) := by
  rw [Kp_eq] at *
  exact fun a e ha q => by
    have hd : a ≠ d := fun z => by rw [z, n] at q; cases q
    rw [put_ne hd]; exact h a e ha q
theorem Kp.sub {S S' : Sto} {p : Addr} {c : Cell} (h : Kp S p S') (hp : S' p = some c) : Sub (put S p c) S' := by
  rw [Kp_eq] at h
  exact fun a d e => by
    by_cases q : a = p
    · rw [q, put_same] at e; rw [q, hp]; exact e
    · rw [put_ne q] at e; exact h a d q e
/-! pools -/
theorem take_go {p : Addr} {c n b s many : Int} {S : Sto} {Q : WK} (h : S p = some (.lst (poolL c n b s))) (ok : PoolOk c n s) (hn : n < 1000000) (h0 : 0 < many) (h1 : many < 2 ^ 64)
    (q : ∀ r c', 0 ≤ r → r < many → PoolOk c' (n + 1) s → Q (.int r) (put S p (.lst (poolL c' (n + 1) b s)))) : Hd spTake [.ref p, .int many] S Q := Hd.mk ⟨p, c, n, b, s, many, rfl, h, ok, hn, h0, h1, q⟩
theorem pool_go {ns : List Int} {k : Int} {S : Sto} {Q : WK} (h0 : 0 ≤ k) (h1 : k ≤ 1000) (hl : ns.length ≤ 63) (q : ∀ p c b s, S p = none → PoolOk c 0 s → Q (.ref p) (put S p (.lst (poolL c 0 b s)))) : Hd spPool [.rl (ns.map W.int), .int k] S Q := Hd.mk ⟨ns, k, rfl, h0, h1, hl, q⟩
theorem sh_pr (a b : Int) : shW (.tup [.int a, .int b]) := shN_sh (n := 1) (shN_tup fun w hw => by
  rw [List.mem_cons, List.mem_cons] at hw
  rcases hw with rfl | rfl | hw
  · exact shN_int _
  · exact shN_int _
  · cases hw) (by decide)
end
end Wl
set_option Elab.async false
set_option linter.all false
set_option maxRecDepth 100000
set_option maxHeartbeats 2000000
/-! Exceptions over data. -/
namespace Wl
open PySem PySem.Spec PyProof.Rows L2
variable {K : PySem.W.Frag} {B : Hp}
/-- an exception: its class, the fields of its own dict -/
structure Ex where
  cls : Value
  fs : List (Str × W) := []
def RepX (K : PySem.W.Frag) (H : Hp) (ex : Ex) (cls : Value) (d : Option Addr) : Prop :=
  cls = ex.cls ∧ ((d = none ∧ ex.fs = []) ∨ (ex.fs ≠ [] ∧ ∃ a gs, d = some a ∧ H a = some (.xd gs) ∧ RepKV K H ex.fs gs))
abbrev XQ := Ex → Sto → Prop
abbrev XW := Ex → StW → Sto → Prop
def PoX (K : PySem.W.Frag) (H : Hp) (E : XK) (Ew : XQ) : Prop := ∀ cls d H' ex S', Tk H H' → HRep K H' S' → RepX K H' ex cls d → Ew ex S' → E cls d H'
theorem PoX.tk {H H1 : Hp} {E : XK} {Ew : XQ} (h : PoX K H E Ew) (t : Tk H H1) : PoX K H1 E Ew := fun cls d H' ex S' t' => h cls d H' ex S' (t.trans t')
class PX (K : PySem.W.Frag) (B : Hp) (W : WX) (Xw : outParam XW) : Prop where
  l : ∀ cls d σ H ex ρ S, SRep K B H σ ρ → HRep K H S → RepX K H ex cls d → Xw ex ρ S → W cls d σ H
/-- nothing is let out -/
abbrev WX0 : WX := fun _ _ _ _ => False
abbrev XW0 : XW := fun _ _ _ => False
instance px_none : PX K B WX0 XW0 := ⟨fun _ _ _ _ _ _ _ _ _ _ h => h⟩
theorem SRep.rebase {H H' : Hp} {σ : L2.St} {ρ : StW} (h : SRep K H H' σ ρ) (t : Tk B H) : SRep K B H' σ ρ := ⟨t.trans h.bs, h.len, h.at_⟩
theorem SRep.top {H : Hp} {σ : L2.St} {ρ : StW} (h : SRep K B H σ ρ) : SRep K H H σ ρ := ⟨Tk.refl H, h.len, h.at_⟩
theorem PoD.rebase {H : Hp} {D : Ends} {Dw : EndsW} (h : PoD K B H D Dw) (t : Tk B H) : PoD K H H D Dw :=
  ⟨fun σ' H' ρ' S' t' hs => h.nx σ' H' ρ' S' t' (hs.rebase t), fun σ' H' ρ' S' t' hs => h.bk σ' H' ρ' S' t' (hs.rebase t), fun σ' H' ρ' S' t' hs => h.ct σ' H' ρ' S' t' (hs.rebase t), h.rt⟩

/-! ### raise -/
abbrev TMk := L2.St → Hp → XK → Prop
abbrev TMkW := StW → Sto → XQ → Prop
class LMk (K : PySem.W.Frag) (B : Hp) (t : TMk) (tw : outParam TMkW) : Prop where
  l : ∀ σ H ρ S Q Qw, SRep K B H σ ρ → HRep K H S → tw ρ S Qw → PoX K H Q Qw → t σ H Q
def tMk0 (C : Addr) : TMk := fun _ H Q => Q (.ref C) none H
def wMk0 (C : Addr) : TMkW := fun _ S Q => Q ⟨.ref C, []⟩ S
instance lmk_0 {C : Addr} : LMk K B (tMk0 C) (wMk0 C) := ⟨fun σ H ρ S Q Qw hs hh q po => po _ _ H _ S (Tk.refl H) hh ⟨rfl, .inl ⟨rfl, rfl⟩⟩ q⟩
theorem pmk_own0 {X : Cx} {C : Addr} {bmB : List Value} {B newId initId : String} {x : Str} {p pos : Pos} (F : ExcBaseFacts B newId initId bmB) (q : PySem.W.excIn X.K C bmB newId = true) (gC : X.mg x = some (.ref C)) (kC : PySem.W.keepIn X.K (.ref C) = true) (r : Raises X (.ref C)) (hg : Gl X x)
    (hdb : (x == ("__debug__" : Str)) = false := by decide) : PMk X (.Call (.Name x p) [] [] pos) (tMk0 C) := by
  intro pins s σ H Q I h
  refine wpAny_Call_Name_kw (ld_glob I hg gC ?_ hdb)
  refine PySem.W.callWith_K0 I.kIn kC ?_
  show wpAny _ _ (call (.ref C) []) _ _ _
  obtain ⟨bm, N, nm, qn, bs, hdct, sn, sub, ab, col, dd, k0, k1, k2, k3, k5, mN, hC, hN, hni, T⟩ := exc_obj I.kIn q
  refine wpAny_call_exc_subT F T hC hN hni (fun h' e hm => ?_) (Nat.zero_le _)
  exact mk_of I hm r h (I.hok.gone hm.new)
def tRaise (t : TMk) (W : WX) : TS := fun _ σ H => t σ H fun cls d H' => W cls d σ H'
def wRaise (t : TMkW) (Xw : XW) : TSW := fun _ ρ S => t ρ S fun ex S' => Xw ex ρ S'
instance ls_raise {t : TMk} {W : WX} {tw : TMkW} {Xw : XW} [px : PX K B W Xw] [m : LMk K B t tw] : LS K B (tRaise t W) (wRaise tw Xw) := ⟨fun σ H ρ S D Dw hs hh q po =>
  m.l σ H ρ S _ _ hs hh q fun cls d H' ex S' t' hh' r q' => px.l cls d σ H' ex ρ S' (hs.tk t') hh' r q'⟩
theorem ps_raiseW {X : Cx} {W : WX} {e : Expr} {t : TMk} {pos : Pos} (hc : X.calm = true) (tk : Takes X W) (he : PMk X e t) : PS X (.Raise (some e) none pos) (tRaise t W) := ps_raise hc tk he

/-! ### defs that may raise -/
abbrev SpX := List W → Sto → WK → XQ → Prop
def liftX (K : PySem.W.Frag) (sp : SpX) : Sp := fun vs H Q E => ∃ ws S Qw Ew, RepL K H ws vs ∧ HRep K H S ∧ sp ws S Qw Ew ∧ PoE K H Q Qw ∧ PoX K H E Ew
def wCallX (sp : SpX) (Xw : XW) (t : TAW) : TEW := fun ρ S Q => t ρ S fun ws S1 => sp ws S1 Q fun ex S2 => Xw ex ρ S2
instance le_callX {sp : SpX} {W : WX} {Xw : XW} {t : TA} {tw : TAW} [px : PX K B W Xw] [a : LA K B t tw] : LE K B (tCallS (liftX K sp) (WE W) t) (wCallX sp Xw tw) := ⟨fun σ H ρ S Q Qw hs hh q po =>
  a.l σ H ρ S _ _ hs hh q fun xs H1 ws S1 t1 hh1 r1 q1 => ⟨ws, S1, Qw, _, r1, hh1, q1, po.tk t1, fun cls d H' ex S' t hh' r q' => px.l cls d σ H' ex ρ S' (hs.tk (t1.trans t)) hh' r q'⟩⟩
section
variable {P : Program} {w : World} {mg : Str → Option Value} {base : Heap}
structure CalX (P : Program) (w : World) (K : PySem.W.Frag) (mg : Str → Option Value) (base : Heap) (k : Nat) (x : Str) (sp : SpX) : Prop where
  ex : ∃ (f : Addr) (fd : FuncData) (ps : List Str), FnOk P w K mg base (L2.CX P w) k f fd ps (liftX K sp) ∧ mg x = some (.ref f) ∧ PySem.W.keepIn K (.ref f) = true ∧ Binds K fd ps []
theorem CalX.mono {j k : Nat} {x : Str} {sp : SpX} (c : CalX P w K mg base j x sp) (h : j ≤ k) : CalX P w K mg base k x sp := by
  obtain ⟨f, fd, ps, F, r⟩ := c.ex
  exact ⟨f, fd, ps, F.mono h, r⟩
theorem CalX.imp {k : Nat} {x : Str} {sp sp' : SpX} (c : CalX P w K mg base k x sp) (h : ∀ ws S Q E, sp' ws S Q E → sp ws S Q E) : CalX P w K mg base k x sp' := by
  obtain ⟨f, fd, ps, F, r⟩ := c.ex
  exact ⟨f, fd, ps, F.imp fun vs H Q E ⟨ws, S, Qw, Ew, h1, h2, h3, h4⟩ => ⟨ws, S, Qw, Ew, h1, h2, h _ _ _ _ h3, h4⟩, r⟩
@[irreducible] def HdX (sp : SpX) : SpX := sp
theorem HdX_eq (sp : SpX) : HdX sp = sp := by unfold HdX; rfl
theorem HdX.mk {sp : SpX} {ws : List W} {S : Sto} {Q : WK} {E : XQ} (h : sp ws S Q E) : HdX sp ws S Q E := by rw [HdX_eq]; exact h
theorem CalX.hd {k : Nat} {x : Str} {sp : SpX} (c : CalX P w K mg base k x sp) : CalX P w K mg base k x (HdX sp) := by rw [HdX_eq]; exact c
/-- a def that raises nothing where its promise holds, called where something may be raised -/
theorem k_x (K : PySem.W.Frag) {X : Cx} {W : WX} {k j : Nat} {x : Str} {sp : SpX} {p pos : Pos} {e : Expr} {es : List Expr} {t : TA} (tk : Takes X W) (c : CalX X.prog X.w K X.mg X.base k x sp) (hr : Room j X.A) (hk : k ≤ j) (hg : Gl X x) (ha : PA X (e :: es) t)
    (hdb : (x == ("__debug__" : Str)) = false := by decide) (he : starEach (e :: es) X.env = (false, eval e X.env) :: starEach es X.env := by rfl) (hpl : (backTo pos (starEach es X.env)).any (·.1) = false := by rfl) (hK : X.K = K := by rfl) :
    PE X (.Call (.Name x p) (e :: es) [] pos) (tCallS (liftX K sp) (WE W) t) := by
  subst hK
  obtain ⟨f, fd, ps, F, hm, kp, b⟩ := c.ex
  exact pe_callS F (hr.mono hk) hg hm kp b (passAt tk) ha hdb he hpl
/-- what a def lets out -/
abbrev WD (E : XK) : WX := fun cls d _ H => E cls d H
@[irreducible] def FgX (Ew : XQ) : XQ := fun ex S => ∃ S', Sub S' S ∧ Ew ex S'
theorem FgX_eq (Ew : XQ) (ex : Ex) (S : Sto) : FgX Ew ex S = ∃ S', Sub S' S ∧ Ew ex S' := by unfold FgX; rfl
theorem fgx_here {Ew : XQ} {ex : Ex} {S : Sto} (h : Ew ex S) : FgX Ew ex S := by rw [FgX_eq]; exact ⟨S, Sub.refl S, h⟩
theorem fgx_sub {Ew : XQ} {ex : Ex} {S S' : Sto} (h : Sub S' S) (q : Ew ex S') : FgX Ew ex S := by rw [FgX_eq]; exact ⟨S', h, q⟩
abbrev XD (Ew : XQ) : XW := fun ex _ S => FgX Ew ex S
theorem calX {x : Str} {st : Stmt} {N ps : List Str} {k : Nat} {sp : SpX} (d : DefAt K mg x st ps) (SC : FnScope N ps (defScope st))
    (len : ∀ ws S Q E, sp ws S Q E → ws.length = ps.length)
    (hbody : ∀ (f : Addr) (cdv : Value) (A : Around) (outer : List Env) (s : Shared) (H : Hp) (E : XK) (Ew : XQ), Room k (A.deeper (envOfC x (defScope st) s.heap.objs.size f cdv)) →
      Takes (cxOf (L2.CX P w) P w K mg base N x (defScope st) f cdv A outer s H E) (WD E) → PX K H (WD E) (XD Ew) →
      ∃ t tw, PSs (cxOf (L2.CX P w) P w K mg base N x (defScope st) f cdv A outer s H E) (defBody st) t ∧ LS K H t tw ∧ ∀ ws S Q, sp ws S Q Ew → tw { nx := fun _ S' => FgI Q .non S', rt := FgI Q } (startW N ws) S) :
    CalX P w K mg base (k + 1) x sp := by
  obtain ⟨f, fd, F, hm, b⟩ := d.ex
  refine ⟨f, fd, ps, F.okX SC (fun vs H Q E ⟨ws, S, Qw, Ew, h1, _, h3, _⟩ => by rw [h1.length]; exact len _ _ _ _ h3) (fun cdv A outer s H vs Q E hr ⟨ws, S, Qw, Ew, h1, h2, h3, h4, h5⟩ => ?_), hm, F.kp, b⟩
  have px : PX K H (WD E) (XD Ew) := ⟨fun cls d σ H' ex ρ S' hs hh r q => by
    have q : FgX Ew ex S' := q
    rw [FgX_eq] at q
    obtain ⟨S2, sub, q⟩ := q
    exact h5 cls d H' ex S2 hs.bs (hh.sub sub) r q⟩
  obtain ⟨t, tw, ht, hl, hq⟩ := hbody f cdv A outer s H E Ew hr (takes_of rfl rfl rfl rfl) px
  refine ⟨t, ht, hl.l _ H (startW N ws) S _ _ (SRep.init h1) h2 (hq ws S Qw h3) ⟨?_, fun _ _ _ _ _ _ _ z => z.elim, fun _ _ _ _ _ _ _ z => z.elim, ?_⟩⟩
  · intro σ' H' ρ' S' t1 _ hh q
    have q : FgI Qw .non S' := q
    rw [FgI_eq] at q
    obtain ⟨S2, sub, q⟩ := q
    exact h4.non t1 (hh.sub sub) q
  · intro v H' w S' t1 hh r q
    have q : FgI Qw w S' := q
    rw [FgI_eq] at q
    obtain ⟨S2, sub, q⟩ := q
    exact h4 v H' w S2 t1 (hh.sub sub) r q
/-- where nothing can be raised, a def that may raise raises nothing -/
theorem CalX.calm {k : Nat} {x : Str} {sp : SpX} (c : CalX P w K mg base k x sp) : CalX P w K mg base k x sp := c
end

/-! ### try: .. except C: .. -/
/-- the wish that a data wish makes -/
def Wc (K : PySem.W.Frag) (B : Hp) (Xw : XW) : WX := fun cls d σ H => ∃ ex ρ S, SRep K B H σ ρ ∧ HRep K H S ∧ RepX K H ex cls d ∧ Xw ex ρ S
instance px_wc {Xw : XW} : PX K B (Wc K B Xw) Xw := ⟨fun cls d σ H ex ρ S h1 h2 h3 h4 => ⟨ex, ρ, S, h1, h2, h3, h4⟩⟩
def tWeak (tb : WX → TS) (W : WX) : TS := fun D σ H => ∃ W' : WX, (∀ cls d σ' H', W' cls d σ' H' → W cls d σ' H') ∧ tb W' D σ H
abbrev HbW (K : PySem.W.Frag) (tb : WX → TS) (tbw : XW → TSW) : Prop := ∀ (B1 : Hp) (Xw : XW), LS K B1 (tb (Wc K B1 Xw)) (tbw Xw)
def tTryO (K : PySem.W.Frag) (c : Value) (tb : WX → TS) (ts : Addr → Value → Option Addr → TS) (Wout : WX) (tbw : XW → TSW) (_ : HbW K tb tbw) : TS := fun D σ H => tWeak tb (wOnly K c ts Wout D) D σ H
def wTryO (K : PySem.W.Frag) (c : Value) (tb : XW → TSW) (ts : TSW) (Xout : XW) : TSW := fun D ρ S =>
  tb (fun ex ρ' S' => ∃ b, PySem.W.exmOne K ex.cls c = some b ∧ (b = true → ts D ρ' S') ∧ (b = false → Xout ex ρ' S')) D ρ S
instance ls_tryO {c : Value} {tb : WX → TS} {ts : Addr → Value → Option Addr → TS} {Wout : WX} {tbw : XW → TSW} {hb : HbW K tb tbw} {tsw : TSW} {Xout : XW} [px : PX K B Wout Xout]
    [hsu : ∀ a cls d, LS K B (ts a cls d) tsw] : LS K B (tTryO K c tb ts Wout tbw hb) (wTryO K c tbw tsw Xout) := ⟨fun σ H ρ S D Dw hs hh q po => by
  refine ⟨Wc K H (fun ex ρ' S' => ∃ b, PySem.W.exmOne K ex.cls c = some b ∧ (b = true → tsw Dw ρ' S') ∧ (b = false → Xout ex ρ' S')), ?_, ?_⟩
  · rintro cls d σ' H' ⟨ex, ρ', S', hs', hh', r, b, e1, e2, e3⟩
    have rc := r.1
    refine ⟨b, by rw [rc]; exact e1, fun hbt a ha => ?_, fun hbf => px.l cls d σ' H' ex ρ' S' (hs'.rebase hs.bs) hh' r (e3 hbf)⟩
    exact (hsu a cls d).l σ' H' ρ' S' D Dw (hs'.rebase hs.bs) hh' (e2 hbt) (po.tk hs'.bs)
  · exact (hb H _).l σ H ρ S D Dw hs.top hh q (po.rebase hs.bs)⟩
theorem pss_weak {X : Cx} {body : List Stmt} {tb : WX → TS} {W : WX} (tk : Takes X W) (hb : ∀ W', Takes X W' → PSs X body (tb W')) : PSs X body (tWeak tb W) :=
  ⟨fun pins s σ H D I ⟨W', hi, h⟩ => (hb W' (tk.imp hi)).run pins s σ H D I h⟩
theorem ps_tryO (K : PySem.W.Frag) {X : Cx} {x : Str} {c : Value} {body suite : List Stmt} {b₀ : Stmt} {np pos pos' : Pos} {tb : WX → TS} {ts : Addr → Value → Option Addr → TS} {Wout : WX} {tbw : XW → TSW} (hs : X.stack = X.env :: X.outer) (hf : X.env.frame = some X.env.locals) (hc : Names X x c) (tk : Takes X Wout)
    (hb : ∀ (W : WX) (pn : List (Addr × Obj)) (xe : Value → Shared → Prop), Takes (X.tr pn xe) W → PassesOwn (model X.prog X.w) X.A X.env xe → PSs (X.tr pn xe) body (tb W))
    (hsu : ∀ (a : Addr) (oe : Obj) (cls : Value) (d : Option Addr) (pn : List (Addr × Obj)), Zc cls d oe → (∃ vs, oe.data = .fields vs) → PSs (X.suite a ((a, oe) :: pn)) (b₀ :: suite) (ts a cls d)) (hbw : HbW K tb tbw) (hK : X.K = K := by rfl) :
    PS X (.Try body [.ExceptHandler (some (.Name x np)) none (b₀ :: suite) pos'] [] [] pos) (tTryO K c tb ts Wout tbw hbw) := by
  subst hK
  exact ps_try_only (tb := tWeak tb) hs hf hc tk (fun W pn xe tkb pob => pss_weak tkb fun W' tk' => hb W' pn xe tk' pob) hsu
end Wl
set_option Elab.async false
set_option linter.all false
set_option maxRecDepth 100000
set_option maxHeartbeats 2000000
/-! More built-in things over data. -/
namespace Wl
open PySem PySem.Spec PyProof.Rows L2
variable {K : PySem.W.Frag} {B : Hp}
/-! ### sep.join(texts) -/
def rJoinA (K : PySem.W.Frag) : V → List V → Hp → VK → Prop := fun x xs H Q => ∃ a p, ∃ ys : List Str, x = .str a ∧ xs = [.ref p] ∧ (SqL K H p (ys.map V.str) ∨ SqT K H p (ys.map V.str)) ∧
    (ys.map (·.length)).sum + ys.length * a.length ≤ 16777216 ∧ Q (.str (Txt.join a ys)) H
theorem k_joinM (K : PySem.W.Frag) {X : Cx} (hK : X.K = K := by rfl) : MtR X "str.join" (rJoinA K) := by subst hK; exact mt_join
/-- the texts of a row -/
def strsOf : List W → Option (List Str)
  | [] => some []
  | .str x :: ws => (strsOf ws).map (x :: ·)
  | _ => none
theorem strsOf_map (ys : List Str) : strsOf (ys.map W.str) = some ys := by
  induction ys with
  | nil => rfl
  | cons y ys ih => show (strsOf (ys.map W.str)).map (y :: ·) = _; rw [ih]; rfl
theorem strsOf_eq : ∀ {ws : List W} {ys : List Str}, strsOf ws = some ys → ws = ys.map W.str
  | [], ys, h => by cases h; rfl
  | w :: ws, ys, h => by
    cases w with
    | str x =>
      have h : (strsOf ws).map (x :: ·) = some ys := h
      cases e : strsOf ws with
      | none => rw [e] at h; cases h
      | some zs =>
        rw [e] at h
        cases h
        rw [strsOf_eq e]
        rfl
    | _ => cases h
def joinAt (a : Str) (ws : List W) (S : Sto) (Q : WK) : Prop := ∃ ys, ws = List.map W.str ys ∧ (ys.map (·.length)).sum + ys.length * a.length ≤ 16777216 ∧ Q (.str (Txt.join a ys)) S
def wJoin : W → List W → Sto → WK → Prop := fun x ws S Q => match x, ws with
  | .str a, [.tup ws] => joinAt a ws S Q
  | .str a, [.rl ws] => joinAt a ws S Q
  | .str a, [.ref p] => ∃ ws, S p = some (.lst ws) ∧ joinAt a ws S Q
  | _, _ => False
instance lm_join : LMR K (rJoinA K) wJoin := ⟨fun H S x wx xs ws Q Qw hh rx r q po => by
  unfold wJoin at q
  split at q
  · cases (show x = _ from rx)
    obtain ⟨y, rfl, p, zs, rfl, h1, h2⟩ := rep1 r
    obtain ⟨ys, rfl, hl, q⟩ := q
    rw [h2.strs] at h1
    exact ⟨_, p, ys, rfl, rfl, .inr h1, hl, po.str (Tk.refl H) hh q⟩
  · cases (show x = _ from rx)
    obtain ⟨y, rfl, p, zs, rfl, h1, h2⟩ := rep1 r
    obtain ⟨ys, rfl, hl, q⟩ := q
    rw [h2.strs] at h1
    exact ⟨_, p, ys, rfl, rfl, .inl h1.sq, hl, po.str (Tk.refl H) hh q⟩
  · cases (show x = _ from rx)
    obtain ⟨y, rfl, ry⟩ := rep1 r
    cases (show y = _ from ry)
    obtain ⟨ws, e, ys, rfl, hl, q⟩ := q
    obtain ⟨zs, h1, h2⟩ := hh _ _ e
    rw [h2.strs] at h1
    exact ⟨_, _, ys, rfl, rfl, .inl (SqL.of h1), hl, po.str (Tk.refl H) hh q⟩
  · exact q.elim⟩
/-! ### xs.extend(ys) -/
def wExtend : W → List W → Sto → WK → Prop := fun x ws S Q => match x, ws with
  | .ref l, [.ref b] => ∃ xs ys, S l = some (.lst xs) ∧ S b = some (.lst ys) ∧ xs.length + ys.length ≤ sizeLine ∧ Q .non (put S l (.lst (xs ++ ys)))
  | _, _ => False
instance lm_extend : LMR K rExtend wExtend := ⟨fun H S x wx xs ws Q Qw hh rx r q po => by
  unfold wExtend at q
  split at q
  · cases (show x = _ from rx)
    obtain ⟨y, rfl, ry⟩ := rep1 r
    cases (show y = _ from ry)
    obtain ⟨xs, ys, e1, e2, hl, q⟩ := q
    obtain ⟨vs, h1, h2⟩ := hh _ _ e1
    obtain ⟨us, g1, g2⟩ := hh _ _ e2
    have t : Tk H (upd H _ (.lst (vs ++ us))) := Tk.mut h1 (fun _ z => (by cases z)) (fun _ _ z => (by cases z))
    obtain ⟨t, hm⟩ := hh.mut (c' := .lst _) (o := .lst (vs ++ us)) e1 ⟨_, upd_same, (RepL.tk t _ _ h2).append (RepL.tk t _ _ g2)⟩
    exact ⟨_, _, vs, us, rfl, rfl, h1, g1, by rw [h2.length, g2.length]; exact hl, po.non t hm q⟩
  · exact q.elim⟩
end Wl
set_option Elab.async false
set_option linter.all false
set_option maxRecDepth 100000
set_option maxHeartbeats 2000000
/-! A module's constants, the text's own errors. -/
namespace Wl
open PySem PySem.Spec PyProof.Rows L2
variable {K : PySem.W.Frag} {B : Hp}
structure ConstAt (K : PySem.W.Frag) (mg : Str → Option Value) (x : Str) (wd : W) : Prop where
  ex : ∃ u v, mg x = some u ∧ RelV v u ∧ ∀ H, Rep K H wd v
def tGl (K : PySem.W.Frag) (wd : W) : TE := fun _ H Q => ∀ v, (∀ H', Rep K H' wd v) → Q v H
instance le_gl {wd : W} : LE K B (tGl K wd) (wC wd) := ⟨fun σ H ρ S Q Qw hs hh q po v hv => po v H wd S (Tk.refl H) hh (hv H) q⟩
theorem k_gl (K : PySem.W.Frag) {X : Cx} {x : Str} {wd : W} {pos : Pos} (c : ConstAt K X.mg x wd) (hg : Gl X x) (hd : (x == ("__debug__" : Str)) = false := by decide) : PE X (.Name x pos) (tGl K wd) := by
  obtain ⟨u, v, hm, r, hv⟩ := c.ex
  exact ⟨fun pins s σ H Q I h => (pe_glob (pos := pos) hg hm r hd).run pins s σ H Q I (h v hv)⟩
theorem const_int {mg : Str → Option Value} {x : Str} {i : Int} {t : Tok} (h : mg x = some (.int i t)) : ConstAt K mg x (.int i) := ⟨⟨_, .int i, h, ⟨t, rfl⟩, fun _ => rfl⟩⟩
theorem const_str {mg : Str → Option Value} {x : Str} {i : Str} {t : Tok} (h : mg x = some (.str i t)) : ConstAt K mg x (.str i) := ⟨⟨_, .str i, h, ⟨t, rfl⟩, fun _ => rfl⟩⟩
/-- a value of the written part -/
def Wr (K : PySem.W.Frag) (wd : W) (u : Value) : Prop := ∃ v, RelV v u ∧ ∀ H, Rep K H wd v
theorem wr_int {i : Int} {t : Tok} : Wr K (.int i) (.int i t) := ⟨.int i, ⟨t, rfl⟩, fun _ => rfl⟩
theorem wr_str {i : Str} {t : Tok} : Wr K (.str i) (.str i t) := ⟨.str i, ⟨t, rfl⟩, fun _ => rfl⟩
theorem wr_bl {i : Bool} : Wr K (.bl i) (.bool i) := ⟨.bl i, rfl, fun _ => rfl⟩
theorem wr_non : Wr K .non .none := ⟨.non, rfl, fun _ => rfl⟩
inductive Wrs (K : PySem.W.Frag) : List W → List Value → Prop where
  | nil : Wrs K [] []
  | cons {wd : W} {u : Value} {ws : List W} {us : List Value} : Wr K wd u → Wrs K ws us → Wrs K (wd :: ws) (u :: us)
theorem Wrs.vals : ∀ {ws : List W} {us : List Value}, Wrs K ws us → ∃ vs, Vals vs us ∧ ∀ H, RepL K H ws vs
  | _, _, .nil => ⟨[], .nil, fun _ => rfl⟩
  | _, _, .cons ⟨v, r, hv⟩ t => by
    obtain ⟨vs, h1, h2⟩ := t.vals
    exact ⟨v :: vs, .cons r h1, fun H => .cons (hv H) (h2 H)⟩
theorem wr_tup {r : Addr} {od : Option Addr} {its : List Value} {n : Nat} {sl : Array (Option Value)} {ws : List W} (l : K.lookup r = some ⟨.type "tuple", od, .seq its.toArray n, sl⟩) (hz : its.length ≤ 1000) (h : Wrs K ws its) : Wr K (.tup ws) (.ref r) := by
  obtain ⟨vs, h1, h2⟩ := h.vals
  exact ⟨.ref r, rfl, fun H => ⟨r, vs, rfl, .inr ⟨_, _, _, l, rfl, rfl, by rw [List.size_toArray]; exact Nat.le_trans hz (by decide), by simpa using h1⟩, h2 H⟩⟩
theorem const_wr {mg : Str → Option Value} {x : Str} {u : Value} {wd : W} (h : mg x = some u) (r : Wr K wd u) : ConstAt K mg x wd := by
  obtain ⟨v, r, hv⟩ := r
  exact ⟨⟨_, v, h, r, hv⟩⟩
/-! ### an own error class over ValueError, without __init__ -/
structure ErrAt (K : PySem.W.Frag) (mg : Str → Option Value) (x : Str) (C : Addr) : Prop where
  gC : mg x = some (.ref C)
  xC : PySem.W.excIn K C [.type "ValueError", .type "Exception", .type "BaseException", .type "object"] "ValueError.__new__" = true
  kC : PySem.W.keepIn K (.ref C) = true
  bC : PySem.W.subIn K (.ref C) (.type "BaseException") = some true
  tC : PySem.W.typeIn K (.ref C) = some (.type "type")
/-- raise C() -/
theorem k_raise0 (K : PySem.W.Frag) {X : Cx} {W : WX} {C : Addr} {x : Str} {p pos pos' : Pos} (c : ErrAt K X.mg x C) (hc : X.calm = true) (tk : Takes X W) (hg : Gl X x) (hdb : (x == ("__debug__" : Str)) = false := by decide) (hK : X.K = K := by rfl) :
    PS X (.Raise (some (.Call (.Name x p) [] [] pos)) none pos') (tRaise (tMk0 C) W) := by
  subst hK
  exact ps_raiseW hc tk (pmk_own0 PySem.F.excBase_ValueError c.xC c.gC c.kC (raises_own c.bC c.tC) hg hdb)
theorem ErrAt.names {X : Cx} {mg : Str → Option Value} {x : Str} {C : Addr} (c : ErrAt K mg x C) (hg : Gl X x) (hmg : X.mg = mg := by rfl) (hdb : (x == ("__debug__" : Str)) = false := by decide) : Names X x (.ref C) := by
  subst hmg
  exact ⟨hg, hdb, .inl c.gC⟩
end Wl
set_option Elab.async false
set_option linter.all false
set_option maxRecDepth 100000
set_option maxHeartbeats 2000000
/-! Loops, comprehensions, meeting ways: hidden until asked. -/
namespace Wl
open PySem PySem.Spec PyProof.Rows L2
variable {K : PySem.W.Frag} {B : Hp}
@[irreducible] def ForQ (g : TGW) (tb : TSW) (D : EndsW) (ρ : StW) (ws : List W) (ok : Sto → Prop) (S1 : Sto) : Prop := ∃ P : Nat → StW → Sto → Prop, P 0 ρ S1 ∧ (∀ i ρ' S', P i ρ' S' → ok S') ∧
  (∀ i w ρ' S', ws[i]? = some w → P i ρ' S' → g w ρ' S' fun ρ2 S2 => tb { D with nx := P (i + 1), ct := P (i + 1), bk := D.nx } ρ2 S2) ∧ ∀ ρ' S', P ws.length ρ' S' → D.nx ρ' S'
theorem for_q {g : TGW} {tb : TSW} {D : EndsW} {ρ : StW} {ws : List W} {ok : Sto → Prop} {S1 : Sto} (P : Nat → StW → Sto → Prop) (h0 : P 0 ρ S1) (hok : ∀ i ρ' S', P i ρ' S' → ok S')
    (turn : ∀ i w ρ' S', ws[i]? = some w → P i ρ' S' → g w ρ' S' fun ρ2 S2 => tb { D with nx := P (i + 1), ct := P (i + 1), bk := D.nx } ρ2 S2) (fin : ∀ ρ' S', P ws.length ρ' S' → D.nx ρ' S') : ForQ g tb D ρ ws ok S1 := by
  unfold ForQ
  exact ⟨P, h0, hok, turn, fin⟩
def wForQ (wi : TIW) (g : TGW) (tb : TSW) : TSW := fun D ρ S => wi ρ S fun ws ok S1 => ForQ g tb D ρ ws ok S1
theorem wForQ_eq (wi : TIW) (g : TGW) (tb : TSW) : wForQ wi g tb = wFor wi g tb := by
  funext D ρ S
  unfold wForQ wFor ForQ
  rfl
instance (priority := high) ls_forQ {wi : TI} {g : TG} {tb : TS} {ww : TIW} {gw : TGW} {tw : TSW} [h : LI K B wi ww] [b : LG K B g gw] [a : LS K B tb tw] : LS K B (tFor wi g tb) (wForQ ww gw tw) := by
  rw [wForQ_eq]; infer_instance
@[irreducible] def LcQ (g : TGW) (tt : TTW) (te : TEW) (vs : List Nat) (ρ : StW) (Q : WK) (ws : List W) (ok : Sto → Prop) (S1 : Sto) : Prop := ∀ D, S1 D = none → ∃ P : Nat → List W → Sto → Prop, P 0 [] (put S1 D (.lst [])) ∧
  (∀ i acc S', P i acc S' → ok S') ∧
  (∀ i w acc S', ws[i]? = some w → P i acc S' → g w (wipeW ρ vs) S' fun ρ2 S2 => tt ρ2 S2 fun b S3 =>
    (b = true → te ρ2 S3 fun y S4 => S4 D = some (.lst acc) ∧ acc.length < sizeLine ∧ P (i + 1) (acc ++ [y]) (put S4 D (.lst (acc ++ [y])))) ∧ (b = false → P (i + 1) acc S3)) ∧
  ∀ acc S', P ws.length acc S' → Q (.ref D) S'
def wLcQ (wi : TIW) (g : TGW) (tt : TTW) (te : TEW) (vs : List Nat) : TEW := fun ρ S Q => wi ρ S fun ws ok S1 => LcQ g tt te vs ρ Q ws ok S1
theorem wLcQ_eq (wi : TIW) (g : TGW) (tt : TTW) (te : TEW) (vs : List Nat) : wLcQ wi g tt te vs = wLc wi g tt te vs := by
  funext ρ S Q
  unfold wLcQ wLc LcQ
  rfl
instance (priority := high + 1) le_lcQ {wi : TI} {g : TG} {tt : TT} {te : TE} {vs : List Nat} {ww : TIW} {gw : TGW} {tw : TTW} {ew : TEW} [h : LI K B wi ww] [b : LG K B g gw] [gg : GW g vs] [c : LT K B tt tw] [a : LE K B te ew] : LE K B (tLc wi g tt te vs) (wLcQ ww gw tw ew vs) := by
  rw [wLcQ_eq]; exact le_lc
section
variable {g : TGW} {tt : TTW} {te : TEW} {vs : List Nat} {ρ : StW} {Q : WK} {ws : List W} {ok : Sto → Prop} {S1 : Sto}
/-- any element: what holds behind the i-th -/
theorem lc_q (h : ∀ D, S1 D = none → ∃ P : Nat → List W → Sto → Prop, P 0 [] (put S1 D (.lst [])) ∧ (∀ i acc S', P i acc S' → ok S') ∧
    (∀ i w acc S', ws[i]? = some w → P i acc S' → g w (wipeW ρ vs) S' fun ρ2 S2 => tt ρ2 S2 fun b S3 =>
      (b = true → te ρ2 S3 fun y S4 => S4 D = some (.lst acc) ∧ acc.length < sizeLine ∧ P (i + 1) (acc ++ [y]) (put S4 D (.lst (acc ++ [y])))) ∧ (b = false → P (i + 1) acc S3)) ∧
    ∀ acc S', P ws.length acc S' → Q (.ref D) S') : LcQ g tt te vs ρ Q ws ok S1 := by unfold LcQ; exact h
theorem lc_map {j : Nat} (f : W → W) (hl : ws.length ≤ 100000) (hok : ∀ (D : Addr) (acc : List W), S1 D = none → ok (put S1 D (.lst acc)))
    (he : ∀ (i : Nat) (w : W) (D : Addr) (acc : List W), ws[i]? = some w → S1 D = none → ∀ Q' : WK, Q' (f w) (put S1 D (.lst acc)) → te ((wipeW ρ vs).set j (some w)) (put S1 D (.lst acc)) Q')
    (hd : ∀ (D : Addr), S1 D = none → Q (.ref D) (put S1 D (.lst (ws.map f)))) : LcQ (wName j) wYes te vs ρ Q ws ok S1 := by
  have h := lcMap (wi := fun ρ S R => R ws ok S) (ρ := ρ) (S := S1) f (fun R h => h) hl hok he hd
  unfold wLc at h
  unfold LcQ
  exact h
/-- with a test that changes nothing -/
theorem lc_fil {j : Nat} (p : W → Bool) (f : W → W) (hl : ws.length ≤ 100000) (hok : ∀ (D : Addr) (acc : List W), S1 D = none → ok (put S1 D (.lst acc)))
    (ht : ∀ (i : Nat) (w : W) (D : Addr) (acc : List W), ws[i]? = some w → S1 D = none → EvW tt ((wipeW ρ vs).set j (some w)) (put S1 D (.lst acc)) (p w))
    (he : ∀ (i : Nat) (w : W) (D : Addr) (acc : List W), ws[i]? = some w → p w = true → S1 D = none → ∀ Q' : WK, Q' (f w) (put S1 D (.lst acc)) → te ((wipeW ρ vs).set j (some w)) (put S1 D (.lst acc)) Q')
    (hd : ∀ (D : Addr), S1 D = none → Q (.ref D) (put S1 D (.lst ((ws.filter p).map f)))) : LcQ (wName j) tt te vs ρ Q ws ok S1 := by
  refine lc_q fun D hD => ⟨fun i acc S' => i ≤ ws.length ∧ acc = ((ws.take i).filter p).map f ∧ S' = put S1 D (.lst acc), ⟨Nat.zero_le _, rfl, rfl⟩, ?_, ?_, ?_⟩
  · rintro i acc S' ⟨_, _, rfl⟩
    exact hok D acc hD
  · rintro i w acc S' e ⟨_, ha, rfl⟩
    have hi : i < ws.length := (List.getElem?_eq_some_iff.mp e).1
    have tk : ws.take (i + 1) = ws.take i ++ [w] := by rw [List.take_add_one, e]; rfl
    refine ht i w D acc e hD _ ⟨fun hb => he i w D acc e hb hD _ ⟨put_same, ?_, ?_⟩, fun hb => ⟨hi, ?_, rfl⟩⟩
    · rw [ha, List.length_map]
      refine Nat.lt_of_le_of_lt (Nat.le_trans (List.length_filter_le _ _) (by rw [List.length_take]; exact Nat.min_le_left _ _)) (Nat.lt_of_lt_of_le (show i < 200000 by omega) (by decide))
    · refine ⟨hi, ?_, put_put⟩
      rw [tk, List.filter_append, List.map_append, ha]
      simp [hb]
    · rw [tk, List.filter_append, List.map_append, ha]
      simp [hb]
  · rintro acc S' ⟨_, ha, rfl⟩
    rw [List.take_of_length_le (Nat.le_refl _)] at ha
    rw [ha]
    exact hd D hD
end
@[irreducible] def WhQ (c : TTW) (tb : TSW) : TSW := wWhile c tb
theorem WhQ_eq (c : TTW) (tb : TSW) : WhQ c tb = wWhile c tb := by unfold WhQ; rfl
instance (priority := high) ls_whQ {c : TT} {tb : TS} {cw : TTW} {tw : TSW} [h : LT K B c cw] [a : LS K B tb tw] : LS K B (tWhile c tb) (WhQ cw tw) := by
  rw [WhQ_eq]; infer_instance
theorem wh_q {c : TTW} {tb : TSW} {D : EndsW} {ρ : StW} {S : Sto} (I : Nat → StW → Sto → Prop) (h0 : ∃ m, I m ρ S) (turn : ∀ m ρ S, I m ρ S → c ρ S fun b S1 =>
  (b = true → tb { D with nx := fun ρ' S' => ∃ m', m' < m ∧ I m' ρ' S', ct := fun ρ' S' => ∃ m', m' < m ∧ I m' ρ' S', bk := D.nx } ρ S1) ∧ (b = false → D.nx ρ S1)) : WhQ c tb D ρ S := by
  rw [WhQ_eq]; exact ⟨I, h0, turn⟩
@[irreducible] def MidQ (t u : TSW) : TSW := wMid t u
theorem MidQ_eq (t u : TSW) : MidQ t u = wMid t u := by unfold MidQ; rfl
instance (priority := high) ls_midQ {t u : TS} {tw uw : TSW} [a : LS K B t tw] [b : LS K B u uw] : LS K B (tMid t u) (MidQ tw uw) := by
  rw [MidQ_eq]; infer_instance
theorem mid_q {t u : TSW} {D : EndsW} {ρ : StW} {S : Sto} (M : StW → Sto → Prop) (h1 : t { D with nx := M } ρ S) (h2 : ∀ ρ' S', M ρ' S' → u D ρ' S') : MidQ t u D ρ S := by
  rw [MidQ_eq]; exact ⟨M, h1, h2⟩
end Wl
set_option Elab.async false
set_option linter.all false
set_option maxRecDepth 100000
set_option maxHeartbeats 2000000
/-! What stays; pools; joined texts. -/
namespace Wl
open PySem PySem.Spec PyProof.Rows L2
variable {K : PySem.W.Frag} {B : Hp}
/-! a + b, tuples of any length -/
def rAddB (K : PySem.W.Frag) : R2 := fun x y H Q => rAddA K x y H Q ∨ L2.rCatA K x y H Q
theorem k_addB (K : PySem.W.Frag) {X : Cx} (hK : X.K = K := by rfl) : OpR X (binaryOp .Add) (rAddB K) := by
  subst hK
  intro pins s σ H x y v u Q I rx ry h
  rcases h with h | h
  · exact op_addA pins s σ H x y v u Q I rx ry h
  · exact L2.op_catA pins s σ H x y v u Q I rx ry h
def wAddB : RW2 := fun x y S Q => match x, y with
  | .int i, .int j => Q (.int (i + j)) S
  | .str i, .str j => i.length + j.length ≤ sizeLine ∧ Q (.str (i ++ j)) S
  | .tup a, .tup b => a.length + b.length ≤ sizeLine ∧ Q (.tup (a ++ b)) S
  | .ref a, .ref b => ∃ xs ys, S a = some (.lst xs) ∧ S b = some (.lst ys) ∧ xs.length + ys.length ≤ sizeLine ∧ ∀ p, S p = none → Q (.ref p) (put S p (.lst (xs ++ ys)))
  | _, _ => False
instance l2_addB : L2R K (rAddB K) wAddB := ⟨fun H S x y wx wy Q Qw hh rx ry q po => by
  have old : wAdd wx wy S Qw → rAddB K x y H Q := fun q => .inl (l2_add.l H S x y wx wy Q Qw hh rx ry q po)
  cases wx <;> cases wy <;> first
    | exact q.elim
    | exact old q
    | skip
  obtain ⟨a, as, rfl, h1, r1⟩ := (show ∃ a xs, x = .ref a ∧ _ from rx)
  obtain ⟨b, bs, rfl, h2, r2⟩ := (show ∃ a xs, y = .ref a ∧ _ from ry)
  obtain ⟨hl, q⟩ := q
  refine .inr ⟨a, b, as, bs, rfl, rfl, h1, h2, by rw [r1.length, r2.length]; exact hl, fun z => ?_, fun _ z => ?_, fun _ _ p hp => po.ntup hp hh (r1.append r2) q⟩
  · subst z
    have e := List.length_eq_zero_iff.mp (r1.length.symm.trans (List.length_nil))
    rw [e, List.nil_append] at q
    exact po.tup (Tk.refl H) hh h2 r2 q
  · subst z
    have e := List.length_eq_zero_iff.mp (r2.length.symm.trans (List.length_nil))
    rw [e, List.append_nil] at q
    exact po.tup (Tk.refl H) hh h1 r1 q⟩
/-- just the cells of ps may be others -/
def OffL (ps : List Addr) (S S' : Sto) : Prop := ∀ a, a ∉ ps → S' a = S a
def KpL (ps : List Addr) (S T : Sto) : Prop := ∀ a c, a ∉ ps → S a = some c → T a = some c
theorem OffL.kp {ps : List Addr} {S T : Sto} (h : OffL ps S T) : KpL ps S T := fun a c ha e => by rw [h a ha]; exact e
theorem KpL.refl (ps : List Addr) (S : Sto) : KpL ps S S := fun _ _ _ h => h
theorem KpL.trans {ps : List Addr} {S T U : Sto} (h : KpL ps S T) (g : KpL ps T U) : KpL ps S U := fun a c ha e => g a c ha (h a c ha e)
theorem KpL.mono {ps qs : List Addr} {S T : Sto} (h : KpL ps S T) (hs : ∀ a ∈ ps, a ∈ qs) : KpL qs S T := fun a c ha e => h a c (fun z => ha (hs a z)) e
theorem KpL.new {ps : List Addr} {S T : Sto} {d : Addr} {c : Cell} (h : KpL ps S T) (n : T d = none) : KpL ps S (put T d c) := fun a e ha q => by
  have h1 := h a e ha q
  rw [put_ne (fun z => by rw [z, n] at h1; cases h1)]
  exact h1
theorem KpL.at {ps : List Addr} {S T : Sto} {d : Addr} {c : Cell} (h : KpL ps S T) (hd : d ∈ ps) : KpL ps S (put T d c) := fun a e ha q => by
  rw [put_ne (fun z => ha (by rw [z]; exact hd))]
  exact h a e ha q
/-- the free cells of S may be written -/
theorem KpL.own {ps : List Addr} {S T : Sto} {d : Addr} {c : Cell} (h : KpL ps S T) (n : S d = none) : KpL ps S (put T d c) := fun a e ha q => by
  rw [put_ne (fun z => by rw [z, n] at q; cases q)]
  exact h a e ha q
theorem KpL.off {ps qs : List Addr} {S T U : Sto} (h : KpL ps S T) (g : OffL qs T U) (hs : ∀ a ∈ qs, a ∈ ps ∨ S a = none) : KpL ps S U := fun a c ha e => by
  rw [g a (fun z => by
    rcases hs a z with h1 | h1
    · exact ha h1
    · rw [h1] at e; cases e)]
  exact h a c ha e
theorem KpL.free {ps : List Addr} {S T : Sto} {d : Addr} (h : KpL ps S T) (n : T d = none) (hd : d ∉ ps) : S d = none := by
  cases e : S d with
  | none => rfl
  | some x => rw [h d x hd e] at n; cases n
theorem fg_off {ps : List Addr} {S T : Sto} {Q : WK} {v : W} (h : KpL ps S T) (q : ∀ S', OffL ps S S' → (∀ a ∈ ps, S' a = T a) → Q v S') : FgI Q v T := by
  refine fg_sub (S' := fun a => if a ∈ ps then T a else S a) (fun a c e => ?_) (q _ (fun a ha => if_neg ha) (fun a ha => if_pos ha))
  have e : (if a ∈ ps then T a else S a) = some c := e
  by_cases ha : a ∈ ps
  · rw [if_pos ha] at e; exact e
  · rw [if_neg ha] at e; exact h a c ha e
theorem notin1 {a p : Addr} (h : a ≠ p) : a ∉ [p] := fun z => h (List.mem_singleton.mp z)
theorem notin2 {a p q : Addr} (h : a ≠ p) (g : a ≠ q) : a ∉ [p, q] := fun z => by
  rcases List.mem_cons.mp z with e | e
  · exact h e
  · exact g (List.mem_singleton.mp e)
theorem notin3 {a p q r : Addr} (h : a ≠ p) (g : a ≠ q) (f : a ≠ r) : a ∉ [p, q, r] := fun z => by
  rcases List.mem_cons.mp z with e | e
  · exact h e
  · exact notin2 g f e
/-- a pool of at most N drawn numbers -/
def Pl (S : Sto) (p : Addr) (N : Int) : Prop := ∃ c n b s, S p = some (.lst (poolL c n b s)) ∧ 0 ≤ c ∧ 0 ≤ n ∧ n ≤ N ∧ 0 ≤ s ∧ s < 2147483647
theorem Pl.some {S : Sto} {p : Addr} {N : Int} (h : Pl S p N) : ∃ c, S p = some c := by
  obtain ⟨c, n, b, s, e, _⟩ := h
  exact ⟨_, e⟩
theorem Pl.ne {S : Sto} {p d : Addr} {N : Int} (h : Pl S p N) (n : S d = none) : d ≠ p := by
  obtain ⟨c, e⟩ := h.some
  exact ne_free e n
theorem Pl.eq {S T : Sto} {p : Addr} {N : Int} (h : Pl S p N) (e : T p = S p) : Pl T p N := by
  obtain ⟨c, n, b, s, e1, r⟩ := h
  exact ⟨c, n, b, s, e.trans e1, r⟩
theorem Pl.mono {S : Sto} {p : Addr} {N M : Int} (h : Pl S p N) (l : N ≤ M) : Pl S p M := by
  obtain ⟨c, n, b, s, e1, h1, h2, h3, h4⟩ := h
  exact ⟨c, n, b, s, e1, h1, h2, by omega, h4⟩
def spTk : SpW := fun ws S Q => ∃ (p : Addr) (N many : Int), ws = [.ref p, .int many] ∧ Pl S p N ∧ N < 2 ^ 40 ∧ 0 < many ∧ many < 2 ^ 64 ∧ ∀ r S', 0 ≤ r → r < many → Pl S' p (N + 1) → OffL [p] S S' → Q (.int r) S'
theorem tk_go {p : Addr} {N many : Int} {S : Sto} {Q : WK} (h : Pl S p N) (hN : N < 2 ^ 40) (h0 : 0 < many) (h1 : many < 2 ^ 64) (q : ∀ r S', 0 ≤ r → r < many → Pl S' p (N + 1) → OffL [p] S S' → Q (.int r) S') : Hd spTk [.ref p, .int many] S Q := Hd.mk ⟨p, N, many, rfl, h, hN, h0, h1, q⟩
def spPl : SpW := fun ws S Q => ∃ (ns : List Int) (k : Int), ws = [.rl (ns.map W.int), .int k] ∧ 0 ≤ k ∧ k ≤ 1000 ∧ ns.length ≤ 63 ∧ ∀ p S', S p = none → Pl S' p 0 → OffL [p] S S' → Q (.ref p) S'
theorem pl_go {ns : List Int} {k : Int} {S : Sto} {Q : WK} (h0 : 0 ≤ k) (h1 : k ≤ 1000) (hl : ns.length ≤ 63) (q : ∀ p S', S p = none → Pl S' p 0 → OffL [p] S S' → Q (.ref p) S') : Hd spPl [.rl (ns.map W.int), .int k] S Q := Hd.mk ⟨ns, k, rfl, h0, h1, hl, q⟩
/-! texts -/
def tl (x : Str) : List Nat := x.cps.toList
theorem tl_len (x : Str) : (tl x).length = x.length := by unfold tl Str.length; simp
theorem tl_ext {x y : Str} (h : tl x = tl y) : x = y := by
  cases x; cases y
  unfold tl at h
  simp only at h
  congr 1
  exact Array.ext' h
theorem tl_append (x y : Str) : tl (x ++ y) = tl x ++ tl y := by
  show (x.cps ++ y.cps).toList = _
  simp [tl]
theorem tl_one (c : Nat) : tl ⟨#[c]⟩ = [c] := rfl
theorem tl_join0 : ∀ ys : List Str, tl (Txt.join "" ys) = (ys.map tl).flatten
  | [] => by decide +kernel
  | [x] => by
    have e : Txt.join "" [x] = Str.join "" [x] := StrLaws.glued_eq_join _ _
    rw [e]
    simp [Str.join]
  | x :: y :: r => by
    have e : ∀ zs, Txt.join "" zs = Str.join "" zs := fun zs => StrLaws.glued_eq_join _ _
    have ih := tl_join0 (y :: r)
    rw [e] at ih ⊢
    show tl (x ++ "" ++ Str.join "" (y :: r)) = _
    rw [tl_append, tl_append, ih]
    have z : tl ("" : Str) = [] := by decide +kernel
    rw [z]
    simp
/-- n letters from a to z -/
def Abc (x : Str) : Prop := ∀ c ∈ tl x, 97 ≤ c ∧ c ≤ 122
def NameOk (x : Str) : Prop := 1 ≤ (tl x).length ∧ (tl x).length ≤ 8 ∧ Abc x
theorem cut_tl (z : Str) (lo hi : Option Int) : tl (cutS z lo hi) = cutL (tl z) lo hi := by
  unfold cutS cutL tl
  simp [Str.length]
end Wl
set_option Elab.async false
set_option linter.all false
set_option maxRecDepth 100000
set_option maxHeartbeats 4000000
set_option synthInstance.maxHeartbeats 4000000
set_option synthInstance.maxSize 100000
namespace K10
open PySem PySem.Spec PyProof.Rows L2 Wl
/-! ### the text -/
def topS (i : Nat) : Stmt := PySem.Challenge.pw_stylepages_k10_whole_written_form_there.main.body.getD i (.Pass ⟨0, 0, 0, 0⟩)
abbrev s_is_name : Stmt := topS 14
theorem sc_is_name : FnScope ["word", "char"] ["word"] (defScope s_is_name) := ⟨rfl, rfl, rfl, by decide +kernel, rfl, by decide +kernel, by decide +kernel⟩
abbrev s_is_text : Stmt := topS 15
theorem sc_is_text : FnScope ["word", "char"] ["word"] (defScope s_is_text) := ⟨rfl, rfl, rfl, by decide +kernel, rfl, by decide +kernel, by decide +kernel⟩
abbrev s_is_marks : Stmt := topS 16
theorem sc_is_marks : FnScope ["words", "word"] ["words"] (defScope s_is_marks) := ⟨rfl, rfl, rfl, by decide +kernel, rfl, by decide +kernel, by decide +kernel⟩
abbrev s_is_part : Stmt := topS 17
theorem sc_is_part : FnScope ["item"] ["item"] (defScope s_is_part) := ⟨rfl, rfl, rfl, by decide +kernel, rfl, by decide +kernel, by decide +kernel⟩
abbrev s_walk : Stmt := topS 18
theorem sc_walk : GScope ["root", "waiting", "path", "item", "items", "k"] ["root"] (defScope s_walk) := ⟨rfl, rfl, rfl, by decide +kernel, rfl, by decide +kernel, by decide +kernel⟩
abbrev s_within_bounds : Stmt := topS 19
theorem sc_within_bounds : FnScope ["root", "rows", "parts", "path", "item", "texts", "references", "part", "text"] ["root"] (defScope s_within_bounds) := ⟨rfl, rfl, rfl, by decide +kernel, rfl, by decide +kernel, by decide +kernel⟩
abbrev s_write_item : Stmt := topS 21
theorem sc_write_item : FnScope ["item", "kind", "marks", "items", "words", "inner"] ["item"] (defScope s_write_item) := ⟨rfl, rfl, rfl, by decide +kernel, rfl, by decide +kernel, by decide +kernel⟩
abbrev s_write_document : Stmt := topS 22
theorem sc_write_document : FnScope ["root"] ["root"] (defScope s_write_document) := ⟨rfl, rfl, rfl, by decide +kernel, rfl, by decide +kernel, by decide +kernel⟩
abbrev s__name_at : Stmt := topS 23
theorem sc__name_at : FnScope ["text", "at", "end", "word"] ["text", "at"] (defScope s__name_at) := ⟨rfl, rfl, rfl, by decide +kernel, rfl, by decide +kernel, by decide +kernel⟩
abbrev s__text_at : Stmt := topS 24
theorem sc__text_at : FnScope ["text", "at", "end"] ["text", "at"] (defScope s__text_at) := ⟨rfl, rfl, rfl, by decide +kernel, rfl, by decide +kernel, by decide +kernel⟩
abbrev s__part_at : Stmt := topS 25
theorem sc__part_at : FnScope ["text", "at", "depth", "kind", "marks", "mark", "items", "item"] ["text", "at", "depth"] (defScope s__part_at) := ⟨rfl, rfl, rfl, by decide +kernel, rfl, by decide +kernel, by decide +kernel⟩
abbrev s__item_at : Stmt := topS 26
theorem sc__item_at : FnScope ["text", "at", "depth", "sign", "name"] ["text", "at", "depth"] (defScope s__item_at) := ⟨rfl, rfl, rfl, by decide +kernel, rfl, by decide +kernel, by decide +kernel⟩
abbrev s_read_item : Stmt := topS 27
theorem sc_read_item : FnScope ["text", "item", "end"] ["text"] (defScope s_read_item) := ⟨rfl, rfl, rfl, by decide +kernel, rfl, by decide +kernel, by decide +kernel⟩
abbrev s_read_document : Stmt := topS 28
theorem sc_read_document : FnScope ["text", "item"] ["text"] (defScope s_read_document) := ⟨rfl, rfl, rfl, by decide +kernel, rfl, by decide +kernel, by decide +kernel⟩
abbrev s__law_pool : Stmt := topS 30
theorem sc__law_pool : FnScope ["_law_script", "_law_at", "_law_cell"] ["_law_script", "_law_at"] (defScope s__law_pool) := ⟨rfl, rfl, rfl, by decide +kernel, rfl, by decide +kernel, by decide +kernel⟩
abbrev s__law_take : Stmt := topS 31
theorem sc__law_take : FnScope ["_law_pool_here", "_law_many", "_law_got", "_law_one", "_law_two"] ["_law_pool_here", "_law_many"] (defScope s__law_take) := ⟨rfl, rfl, rfl, by decide +kernel, rfl, by decide +kernel, by decide +kernel⟩
abbrev s__law_same : Stmt := topS 32
theorem sc__law_same : FnScope ["_law_one", "_law_two", "_law_both", "_law_k"] ["_law_one", "_law_two"] (defScope s__law_same) := ⟨rfl, rfl, rfl, by decide +kernel, rfl, by decide +kernel, by decide +kernel⟩
abbrev s__law_letters : Stmt := topS 33
theorem sc__law_letters : FnScope ["_law_pool_here", "_law_many", "_law_abc", "_law_k"] ["_law_pool_here", "_law_many"] (defScope s__law_letters) := ⟨rfl, rfl, rfl, by decide +kernel, rfl, by decide +kernel, by decide +kernel⟩
abbrev s__law_name : Stmt := topS 34
theorem sc__law_name : FnScope ["_law_pool_here", "_law_names", "_law_sort", "_law_name_here", "_law_at"] ["_law_pool_here", "_law_names"] (defScope s__law_name) := ⟨rfl, rfl, rfl, by decide +kernel, rfl, by decide +kernel, by decide +kernel⟩
abbrev s__law_marks : Stmt := topS 35
theorem sc__law_marks : FnScope ["_law_pool_here", "_law_names", "_law_marks_here", "_law_k", "_law_name_here", "_law_less", "_law_mark"] ["_law_pool_here", "_law_names"] (defScope s__law_marks) := ⟨rfl, rfl, rfl, by decide +kernel, rfl, by decide +kernel, by decide +kernel⟩
abbrev s__law_prose : Stmt := topS 36
theorem sc__law_prose : FnScope ["_law_pool_here", "_law_many", "_law_signs", "_law_k"] ["_law_pool_here", "_law_many"] (defScope s__law_prose) := ⟨rfl, rfl, rfl, by decide +kernel, rfl, by decide +kernel, by decide +kernel⟩
abbrev s__law_text : Stmt := topS 37
theorem sc__law_text : FnScope ["_law_pool_here", "_law_budget", "_law_many"] ["_law_pool_here", "_law_budget"] (defScope s__law_text) := ⟨rfl, rfl, rfl, by decide +kernel, rfl, by decide +kernel, by decide +kernel⟩
abbrev s__law_item : Stmt := topS 38
theorem sc__law_item : FnScope ["_law_pool_here", "_law_names", "_law_budget", "_law_depth", "_law_sort"] ["_law_pool_here", "_law_names", "_law_budget", "_law_depth"] (defScope s__law_item) := ⟨rfl, rfl, rfl, by decide +kernel, rfl, by decide +kernel, by decide +kernel⟩
abbrev s__law_part : Stmt := topS 39
theorem sc__law_part : FnScope ["_law_pool_here", "_law_names", "_law_budget", "_law_depth", "_law_kind", "_law_marks_here", "_law_many", "_law_items", "_law_k"] ["_law_pool_here", "_law_names", "_law_budget", "_law_depth"] (defScope s__law_part) := ⟨rfl, rfl, rfl, by decide +kernel, rfl, by decide +kernel, by decide +kernel⟩
abbrev s__law_wrapped : Stmt := topS 40
theorem sc__law_wrapped : FnScope ["_law_pool_here", "_law_names", "_law_item_here", "_law_many", "_law_turn"] ["_law_pool_here", "_law_names", "_law_item_here", "_law_many"] (defScope s__law_wrapped) := ⟨rfl, rfl, rfl, by decide +kernel, rfl, by decide +kernel, by decide +kernel⟩
abbrev s__law_leaf : Stmt := topS 41
theorem sc__law_leaf : FnScope ["_law_pool_here", "_law_names"] ["_law_pool_here", "_law_names"] (defScope s__law_leaf) := ⟨rfl, rfl, rfl, by decide +kernel, rfl, by decide +kernel, by decide +kernel⟩
abbrev s__law_full_row : Stmt := topS 42
theorem sc__law_full_row : FnScope ["_law_pool_here", "_law_names", "_law_shift", "_law_row", "_law_k", "_law_part_here"] ["_law_pool_here", "_law_names", "_law_shift"] (defScope s__law_full_row) := ⟨rfl, rfl, rfl, by decide +kernel, rfl, by decide +kernel, by decide +kernel⟩
abbrev s__law_full_count : Stmt := topS 43
theorem sc__law_full_count : FnScope ["_law_pool_here", "_law_names", "_law_shift", "_law_odd", "_law_rows", "_law_k", "_law_many", "_law_row", "_law_j"] ["_law_pool_here", "_law_names", "_law_shift"] (defScope s__law_full_count) := ⟨rfl, rfl, rfl, by decide +kernel, rfl, by decide +kernel, by decide +kernel⟩
abbrev s__law_full_prose : Stmt := topS 44
theorem sc__law_full_prose : FnScope ["_law_pool_here", "_law_names", "_law_shift", "_law_odd", "_law_rows", "_law_k", "_law_text_here"] ["_law_pool_here", "_law_names", "_law_shift"] (defScope s__law_full_prose) := ⟨rfl, rfl, rfl, by decide +kernel, rfl, by decide +kernel, by decide +kernel⟩
abbrev s__law_full_depth : Stmt := topS 45
theorem sc__law_full_depth : FnScope ["_law_pool_here", "_law_names", "_law_shift", "_law_item_here", "_law_turn", "_law_row"] ["_law_pool_here", "_law_names", "_law_shift"] (defScope s__law_full_depth) := ⟨rfl, rfl, rfl, by decide +kernel, rfl, by decide +kernel, by decide +kernel⟩
abbrev s__law_full_refs : Stmt := topS 46
theorem sc__law_full_refs : FnScope ["_law_pool_here", "_law_names", "_law_shift", "_law_rows", "_law_k", "_law_name_here"] ["_law_pool_here", "_law_names", "_law_shift"] (defScope s__law_full_refs) := ⟨rfl, rfl, rfl, by decide +kernel, rfl, by decide +kernel, by decide +kernel⟩
abbrev s__law_edge : Stmt := topS 47
theorem sc__law_edge : FnScope ["_law_pool_here", "_law_names", "_law_shift", "_law_sort"] ["_law_pool_here", "_law_names", "_law_shift"] (defScope s__law_edge) := ⟨rfl, rfl, rfl, by decide +kernel, rfl, by decide +kernel, by decide +kernel⟩
abbrev s__law_paths : Stmt := topS 48
theorem sc__law_paths : FnScope ["_law_item_here", "_law_path", "_law_rows", "_law_k"] ["_law_item_here", "_law_path"] (defScope s__law_paths) := ⟨rfl, rfl, rfl, by decide +kernel, rfl, by decide +kernel, by decide +kernel⟩
abbrev s__law_sizes : Stmt := topS 49
theorem sc__law_sizes : FnScope ["_law_item_here", "_law_depth", "_law_sizes_here", "_law_one", "_law_more", "_law_total", "_law_k"] ["_law_item_here", "_law_depth"] (defScope s__law_sizes) := ⟨rfl, rfl, rfl, by decide +kernel, rfl, by decide +kernel, by decide +kernel⟩
abbrev s__law_let : Stmt := topS 50
theorem sc__law_let : FnScope ["_law_root", "_law_sizes_here", "_law_bounds", "_law_k"] ["_law_root"] (defScope s__law_let) := ⟨rfl, rfl, rfl, by decide +kernel, rfl, by decide +kernel, by decide +kernel⟩
abbrev s__law_written : Stmt := topS 51
theorem sc__law_written : FnScope ["_law_item_here", "_law_rest", "_law_one"] ["_law_item_here"] (defScope s__law_written) := ⟨rfl, rfl, rfl, by decide +kernel, rfl, by decide +kernel, by decide +kernel⟩
abbrev s__law_read : Stmt := topS 52
theorem sc__law_read : FnScope ["_law_text_here", "_law_told"] ["_law_text_here"] (defScope s__law_read) := ⟨rfl, rfl, rfl, by decide +kernel, rfl, by decide +kernel, by decide +kernel⟩
abbrev s_law : Stmt := topS 53
theorem sc_law : FnScope ["_law_script", "_law_names", "_law_pool_here", "_law_way", "_law_root", "_law_row", "_law_text_here"] ["_law_script"] (defScope s_law) := ⟨rfl, rfl, rfl, by decide +kernel, rfl, by decide +kernel, by decide +kernel⟩
structure Cls where
  BadDocument : Addr
structure Txt (K : PySem.W.Frag) (mg : Str → Option Value) (ec : Cls) : Prop where
  b_abs : mg "abs" = none
  b_all : mg "all" = none
  b_bool : mg "bool" = none
  b_int : mg "int" = none
  b_isinstance : mg "isinstance" = none
  b_len : mg "len" = none
  b_list : mg "list" = none
  b_max : mg "max" = none
  b_min : mg "min" = none
  b_range : mg "range" = none
  b_set : mg "set" = none
  b_sorted : mg "sorted" = none
  b_str : mg "str" = none
  b_sum : mg "sum" = none
  b_tuple : mg "tuple" = none
  m_LONGEST_NAME : ConstAt K mg "LONGEST_NAME" (.int (8))
  m_LONGEST_TEXT : ConstAt K mg "LONGEST_TEXT" (.int (60))
  m_MOST_DEPTH : ConstAt K mg "MOST_DEPTH" (.int (6))
  m_MOST_ITEMS : ConstAt K mg "MOST_ITEMS" (.int (60))
  m_MOST_ITEMS_OF_A_PART : ConstAt K mg "MOST_ITEMS_OF_A_PART" (.int (12))
  m_MOST_MARKS : ConstAt K mg "MOST_MARKS" (.int (3))
  m_MOST_REFERENCES : ConstAt K mg "MOST_REFERENCES" (.int (3))
  m_MOST_TEXT : ConstAt K mg "MOST_TEXT" (.int (400))
  m_NAME_LETTERS : ConstAt K mg "NAME_LETTERS" (.str "abcdefghijklmnopqrstuvwxyz")
  m_TEXT_CHARACTERS : ConstAt K mg "TEXT_CHARACTERS" (.str " abcdefghijklmnopqrstuvwxyzABCDEFGHIJKLMNOPQRSTUVWXYZ0123456789.,;:!?'()|")
  e_BadDocument : ErrAt K mg "BadDocument" ec.BadDocument
  x_BadDocument_BadDocument : PySem.W.exmOne K (.ref ec.BadDocument) (.ref ec.BadDocument) = some true
local macro_rules | `(tactic| walk_at "w") => `(tactic| (conv => whnf))
/-! what a store holds -/
local macro_rules | `(tactic| walk_at "ne") => `(tactic| first | assumption | (apply Ne.symm; assumption) | exact ne_free (by assumption) (by assumption) | exact (ne_free (by assumption) (by assumption)).symm | exact Pl.ne (by assumption) (by assumption) | exact (Pl.ne (by assumption) (by assumption)).symm)
local macro_rules | `(tactic| walk_at "s") => `(tactic| first
  | exact put_same
  | assumption
  | (refine (put_ne ?_).trans ?_; (· walk_at "ne"); (· walk_at "s")))
/-! a side condition -/
local macro_rules | `(tactic| walk_at "c") => `(tactic| first
  | exact Or.inl (Or.inl ⟨by omega, by omega⟩)
  | exact Or.inl (Or.inr ⟨by omega, by omega⟩)
  | exact Or.inl ⟨by omega, by omega⟩
  | exact Or.inl ⟨rfl, _, by walk_at "s"⟩
  | rfl
  | omega
  | decide
  | exact Nat.le_trans (by omega) sizeLine_ge)
/-! one question is answered, if the answer is plain -/
local macro_rules | `(tactic| walk_at "g1") => `(tactic| first
  | refine ⟨fun _ => ?_, fun h => absurd (show true = false from h) (by decide)⟩
  | refine ⟨fun h => absurd (show false = true from h) Bool.false_ne_true, fun _ => ?_⟩
  | refine ⟨_, by walk_at "s", ?_⟩
  | refine ⟨_, _, by walk_at "s", by walk_at "s", ?_⟩
  | refine ⟨_, by walk_at "s", by simpa using (by omega), ?_⟩
  | refine ⟨_, rfl, ?_⟩
  | refine ⟨_, _, rfl, (by first | exact isTy_tt | exact isTy_ii | exact isTy_ll | exact isTy_ss | exact isTy_ib | exact isTy_tb | exact isTy_ti | exact isTy_ts | exact isTy_tl | exact isTy_lb | exact isTy_li | exact isTy_ls | exact isTy_lt | exact isTy_sb | exact isTy_si | exact isTy_st | exact isTy_sl | exact isTy_is | exact isTy_it | exact isTy_il | exact isTy_bi | exact isTy_bs | exact isTy_bb), ?_⟩
  | refine ⟨_, _, tyName_lst (by walk_at "s"), (by first | exact isTy_ll | exact isTy_lb | exact isTy_li | exact isTy_ls | exact isTy_lt), ?_⟩
  | refine ⟨by walk_at "c", ?_⟩)
local macro_rules | `(tactic| walk_at "go") => `(tactic| (walk_at "w"; repeat (walk_at "g1"; walk_at "w")))
/-! a branch that cannot be -/
local macro_rules | `(tactic| walk_at "two") => `(tactic| refine ⟨fun h => ?_, fun h => ?_⟩)
section
variable {P : Program} {w : World} {K : PySem.W.Frag} {mg : Str → Option Value} {base : Heap} {ec : Cls}
theorem ok__law_take (T : Txt K mg ec) (d : DefAt K mg "_law_take" s__law_take ["_law_pool_here", "_law_many"]) : CalW P w K mg base 1 "_law_take" spTk :=
  calDI d sc__law_take (fun ws S Q ⟨p, N, many, e, _⟩ => by rw [e]; rfl) fun f cdv A outer s H E hr => ⟨_, _,
    (pss_cons (ps_asg (pe_op (k_addB K) (pe_ix (k_ix K) (pv 0) pe_int (fun _ _ => rfl)) pe_int) (pg_sub (pv 0) pe_int set_list))
      (pss_cons (ps_if (pt_cmpR (k_eq K hr.units) (pe_ix (k_ix K) (pv 0) pe_int (fun _ _ => rfl)) pe_int (nomark _))
       (pss_cons (ps_set (i := 2) sc__law_take.nd rfl (Or.inl rfl) (pe_op op_mod (pe_callTy call_int1 (by rfl) T.b_int (by decide +kernel) (pa_cons (pe_ix (k_ix K) (pv 0) pe_int (fun _ _ => rfl)) pa_nil)) (pv 1)))
       (pss_cons (ps_asg (pe_op op_fdivA (pe_ix (k_ix K) (pv 0) pe_int (fun _ _ => rfl)) (pv 1)) (pg_sub (pv 0) pe_int set_list))
       (pss_one (ps_ret (pv 2)))))
       pss_nil)
      (pss_cons (ps_set (i := 3) sc__law_take.nd rfl (Or.inl rfl) (pe_op op_mod (pe_callTy call_int1 (by rfl) T.b_int (by decide +kernel) (pa_cons (pe_op (k_addB K) (pe_op (k_addB K) (pe_op op_mulA (pe_ix (k_ix K) (pv 0) pe_int (fun _ _ => rfl)) pe_int) (pe_op op_mulA (pe_ix (k_ix K) (pv 0) pe_int (fun _ _ => rfl)) pe_int)) pe_int) pa_nil)) pe_int))
      (pss_cons (ps_set (i := 4) sc__law_take.nd rfl (Or.inl rfl) (pe_op op_mod (pe_callTy call_int1 (by rfl) T.b_int (by decide +kernel) (pa_cons (pe_op (k_addB K) (pe_op (k_addB K) (pe_op op_mulA (pv 3) pe_int) (pe_op op_fdivA (pv 3) pe_int)) (pe_op op_mulA (pe_op op_mulA (pe_ix (k_ix K) (pv 0) pe_int (fun _ _ => rfl)) (pe_ix (k_ix K) (pv 0) pe_int (fun _ _ => rfl))) pe_int)) pa_nil)) pe_int))
      (pss_one (ps_ret (pe_op op_mod (pe_callTy call_int1 (by rfl) T.b_int (by decide +kernel) (pa_cons (pe_op op_fdivA (pv 4) (pe_op (k_addB K) (pe_ix (k_ix K) (pv 0) pe_int (fun _ _ => rfl)) pe_int)) pa_nil)) (pv 1)))))))), inferInstance, by
    rintro ws S Q ⟨p, N, many, rfl, ⟨c, n, b, sd, hp, c0, n0, n1, s0, s1⟩, hN, hm, hm2, q⟩
    have ok' : ∀ c' b', 0 ≤ c' → Pl (put S p (.lst (poolL c' (n + 1) b' sd))) p (N + 1) := fun c' b' h => ⟨c', n + 1, b', sd, put_same, h, by omega, by omega, s0, s1⟩
    have off : ∀ c', OffL [p] S (put S p c') := fun c' a ha => put_ne (fun e => ha (by rw [e]; exact List.mem_singleton.mpr rfl))
    have dv : CDivA c many := .inr (wide_div hm (b := 64) (by omega) (by decide) (by decide))
    walk_at "w"
    refine ⟨_, hp, ?_⟩
    walk_at "w"
    refine ⟨_, 1, hp, rfl, ?_⟩
    walk_at "w"
    refine ⟨_, put_same, ?_⟩
    walk_at "w"
    refine ⟨fun h => ?_, fun h => ?_⟩
    · walk_at "w"
      refine ⟨_, put_same, ?_⟩
      walk_at "w"
      refine ⟨hm, ?_⟩
      walk_at "w"
      refine ⟨_, put_same, ?_⟩
      walk_at "w"
      refine ⟨dv, ?_⟩
      walk_at "w"
      refine ⟨_, 0, put_same, rfl, ?_⟩
      rw [put_put]
      exact fg_here (q _ _ (Int.emod_nonneg _ (by omega)) (Int.emod_lt_of_pos _ hm) (ok' _ b (Int.ediv_nonneg c0 (by omega))) (off _))
    · walk_at "w"
      refine ⟨_, put_same, ?_⟩
      walk_at "w"
      refine ⟨.inl (.inl ⟨by omega, by omega⟩), ?_⟩
      walk_at "w"
      refine ⟨_, put_same, ?_⟩
      walk_at "w"
      refine ⟨.inl (.inl ⟨by omega, by omega⟩), ?_⟩
      walk_at "w"
      refine ⟨(by show (0 : Int) < 2147483647; decide), ?_⟩
      generalize ho : (sd * 48271 + (n + 1) * 69621 + 11) % 2147483647 = one
      have o0 : 0 ≤ one := by rw [← ho]; exact Int.emod_nonneg _ (by decide)
      have o1 : one < 2147483647 := by rw [← ho]; exact Int.emod_lt_of_pos _ (by decide)
      walk_at "w"
      refine ⟨.inl (.inl ⟨by omega, by omega⟩), ?_⟩
      walk_at "w"
      refine ⟨.inl ⟨by decide, by decide⟩, ?_⟩
      walk_at "w"
      refine ⟨_, put_same, ?_⟩
      walk_at "w"
      refine ⟨_, put_same, ?_⟩
      walk_at "w"
      refine ⟨.inl (.inl ⟨by omega, by omega⟩), ?_⟩
      walk_at "w"
      refine ⟨.inl (.inr ⟨by decide, by decide⟩), ?_⟩
      walk_at "w"
      refine ⟨(by show (0 : Int) < 2147483399; decide), ?_⟩
      generalize ht : (one * 16807 + one / 65536 + (n + 1) * (n + 1) * 40692) % 2147483399 = two
      walk_at "w"
      refine ⟨_, put_same, ?_⟩
      walk_at "w"
      refine ⟨.inr (wide_div (by omega) (b := 64) (by omega) (by decide) (by decide)), ?_⟩
      walk_at "w"
      refine ⟨hm, ?_⟩
      exact fg_here (q _ _ (Int.emod_nonneg _ (by omega)) (Int.emod_lt_of_pos _ hm) (ok' c b c0) (off _))⟩
theorem ok__law_pool (T : Txt K mg ec) (d : DefAt K mg "_law_pool" s__law_pool ["_law_script", "_law_at"]) : CalW P w K mg base 1 "_law_pool" spPl :=
  calDI d sc__law_pool (fun ws S Q ⟨n, k, e, _⟩ => by rw [e]; rfl) fun f cdv A outer s H E hr => ⟨_, _,
    (pss_cons (ps_set (i := 2) sc__law_pool.nd rfl (Or.inl rfl) pe_int)
      (pss_mid (ps_if (pt_cmpR op_ltA (pv 1) (pe_callB (k_len K) (by rfl) T.b_len (by decide +kernel) (pa_cons (pv 0) pa_nil)) (nomark _))
       (pss_one (ps_set (i := 2) sc__law_pool.nd rfl (Or.inl rfl) (pe_callB call_abs (by rfl) T.b_abs (by decide +kernel) (pa_cons (pe_callTy call_int1 (by rfl) T.b_int (by decide +kernel) (pa_cons (pe_ix (k_ix K) (pv 0) (pv 1) (fun _ _ => rfl)) pa_nil)) pa_nil))))
       pss_nil)
      (pss_one (ps_ret (pe_lst (pa_cons (pv 2) (pa_cons pe_int (pa_cons (pe_callTy call_int1 (by rfl) T.b_int (by decide +kernel) (pa_cons (pe_cmpR op_geA (pv 2) (pe_op op_pow pe_int pe_int) (nomark _)) pa_nil)) (pa_cons (pe_op op_mod (pe_callTy call_int1 (by rfl) T.b_int (by decide +kernel) (pa_cons (pe_op (k_addB K) (pv 2) (pe_op op_mulA (pv 1) pe_int)) pa_nil)) pe_int) (pa_cons pe_int pa_nil)))))))))), inferInstance, by
    rintro ws S Q ⟨ns, k, rfl, h0, h1, hl, q⟩
    walk_at "w"
    refine mid_q (fun ρ S' => S' = S ∧ ∃ c : Int, 0 ≤ c ∧ ρ = [some (.rl (ns.map W.int)), some (.int k), some (.int c)]) ?_ ?_
    · walk_at "w"
      refine ⟨fun h => ?_, fun h => ?_⟩
      · have h := of_decide_eq_true h
        rw [List.length_map] at h
        obtain ⟨n, e⟩ := atI_int (ns := ns) h0 h
        show rdAt (atI (ns.map W.int) k) S _
        rw [e]
        refine ⟨rfl, _, ?_, rfl⟩
        show 0 ≤ if n < 0 then -n else n
        split <;> omega
      · exact ⟨rfl, 0, Int.le_refl 0, rfl⟩
    · rintro ρ S' ⟨rfl, c, hc, rfl⟩
      walk_at "w"
      refine ⟨⟨by decide, by decide, by decide⟩, .inl (.inl ⟨by omega, by omega⟩), (by show (0 : Int) < 2147483647; decide), ?_⟩
      intro p hp
      refine fg_here (q p _ hp ⟨c, 0, _, _, put_same, hc, Int.le_refl 0, Int.le_refl 0, ?_, ?_⟩ fun a ha => put_ne (fun e => ha (by rw [e]; exact List.mem_singleton.mpr rfl)))
      · exact Int.emod_nonneg _ (by decide)
      · exact Int.emod_lt_of_pos _ (by decide)⟩
end
end K10
set_option Elab.async false
set_option linter.all false
set_option maxRecDepth 100000
set_option maxHeartbeats 4000000
set_option synthInstance.maxHeartbeats 4000000
set_option synthInstance.maxSize 100000
namespace K10
open PySem PySem.Spec PyProof.Rows L2 Wl
local macro_rules | `(tactic| walk_at "w") => `(tactic| (conv => whnf))
/-! what a store holds -/
local macro_rules | `(tactic| walk_at "ne") => `(tactic| first | assumption | (apply Ne.symm; assumption) | exact ne_free (by assumption) (by assumption) | exact (ne_free (by assumption) (by assumption)).symm | exact Pl.ne (by assumption) (by assumption) | exact (Pl.ne (by assumption) (by assumption)).symm)
local macro_rules | `(tactic| walk_at "s") => `(tactic| first
  | exact put_same
  | assumption
  | (refine (put_ne ?_).trans ?_; (· walk_at "ne"); (· walk_at "s")))
/-! a side condition -/
local macro_rules | `(tactic| walk_at "c") => `(tactic| first
  | exact Or.inl (Or.inl ⟨by omega, by omega⟩)
  | exact Or.inl (Or.inr ⟨by omega, by omega⟩)
  | exact Or.inl ⟨by omega, by omega⟩
  | exact Or.inl ⟨rfl, _, by walk_at "s"⟩
  | rfl
  | omega
  | decide
  | exact Nat.le_trans (by omega) sizeLine_ge)
/-! one question is answered, if the answer is plain -/
local macro_rules | `(tactic| walk_at "g1") => `(tactic| first
  | refine ⟨fun _ => ?_, fun h => absurd (show true = false from h) (by decide)⟩
  | refine ⟨fun h => absurd (show false = true from h) Bool.false_ne_true, fun _ => ?_⟩
  | refine ⟨_, by walk_at "s", ?_⟩
  | refine ⟨_, _, by walk_at "s", by walk_at "s", ?_⟩
  | refine ⟨_, by walk_at "s", by simpa using (by omega), ?_⟩
  | refine ⟨_, rfl, ?_⟩
  | refine ⟨_, _, rfl, (by first | exact isTy_tt | exact isTy_ii | exact isTy_ll | exact isTy_ss | exact isTy_ib | exact isTy_tb | exact isTy_ti | exact isTy_ts | exact isTy_tl | exact isTy_lb | exact isTy_li | exact isTy_ls | exact isTy_lt | exact isTy_sb | exact isTy_si | exact isTy_st | exact isTy_sl | exact isTy_is | exact isTy_it | exact isTy_il | exact isTy_bi | exact isTy_bs | exact isTy_bb), ?_⟩
  | refine ⟨_, _, tyName_lst (by walk_at "s"), (by first | exact isTy_ll | exact isTy_lb | exact isTy_li | exact isTy_ls | exact isTy_lt), ?_⟩
  | refine ⟨by walk_at "c", ?_⟩)
local macro_rules | `(tactic| walk_at "go") => `(tactic| (walk_at "w"; repeat (walk_at "g1"; walk_at "w")))
/-! a branch that cannot be -/
local macro_rules | `(tactic| walk_at "two") => `(tactic| refine ⟨fun h => ?_, fun h => ?_⟩)
section
variable {P : Program} {w : World} {K : PySem.W.Frag} {mg : Str → Option Value} {base : Heap} {ec : Cls}
/-! letters, names -/
theorem abc_at {r : Int} (h0 : 0 ≤ r) (h1 : r < 26) : ∃ c, atI (("abcdefghijklmnopqrstuvwxyz" : Str)).cps.toList r = some c ∧ 97 ≤ c ∧ c ≤ 122 := by
  obtain ⟨j, rfl⟩ : ∃ j : Nat, r = (j : Int) := ⟨r.toNat, by omega⟩
  have hj : j < 26 := by omega
  have hl : (("abcdefghijklmnopqrstuvwxyz" : Str)).cps.toList.length = 26 := by decide +kernel
  have ha : ∀ c ∈ (("abcdefghijklmnopqrstuvwxyz" : Str)).cps.toList, 97 ≤ c ∧ c ≤ 122 := by decide +kernel
  refine ⟨(("abcdefghijklmnopqrstuvwxyz" : Str)).cps.toList[j]'(by omega), atI_nat ?_, ha _ (List.getElem_mem _)⟩
  rw [List.getElem?_eq_getElem]
theorem abc_len : (("abcdefghijklmnopqrstuvwxyz" : Str)).length ≤ sizeLine := by
  have : (("abcdefghijklmnopqrstuvwxyz" : Str)).length = 26 := by decide +kernel
  rw [this]
  exact Nat.le_trans (by decide) sizeLine_ge
theorem flat_ones : ∀ {ys : List Str} {m : Nat}, (∀ y ∈ ys, (tl y).length = m) → ((ys.map tl).flatten).length = m * ys.length
  | [], m, _ => by simp
  | y :: ys, m, h => by
    have ih := flat_ones (ys := ys) (m := m) fun z hz => h z (List.mem_cons_of_mem _ hz)
    rw [List.map_cons, List.flatten_cons, List.length_append, ih, h y List.mem_cons_self, List.length_cons, Nat.mul_succ]
    omega
theorem sum_ones : ∀ {ys : List Str}, (∀ y ∈ ys, (tl y).length = 1) → (ys.map (·.length)).sum = ys.length
  | [], _ => rfl
  | y :: ys, h => by
    have ih := sum_ones (ys := ys) fun z hz => h z (List.mem_cons_of_mem _ hz)
    rw [List.map_cons, List.sum_cons, ih, ← tl_len, h y List.mem_cons_self, List.length_cons]
    omega
def spLet : SpW := fun ws S Q => ∃ (p : Addr) (N many : Int), ws = [.ref p, .int many] ∧ Pl S p N ∧ N < 2 ^ 39 ∧ 0 ≤ many ∧ many ≤ 100 ∧ ∀ x S', ((tl x).length : Int) = many → Abc x → Pl S' p (N + many) → OffL [p] S S' → Q (.str x) S'
theorem let_go {p : Addr} {N many : Int} {S : Sto} {Q : WK} (h : Pl S p N) (hN : N < 2 ^ 39) (h0 : 0 ≤ many) (h1 : many ≤ 100) (q : ∀ x S', ((tl x).length : Int) = many → Abc x → Pl S' p (N + many) → OffL [p] S S' → Q (.str x) S') : Hd spLet [.ref p, .int many] S Q := Hd.mk ⟨p, N, many, rfl, h, hN, h0, h1, q⟩
theorem ok__law_letters (T : Txt K mg ec) (c__law_take : CalW P w K mg base 1 "_law_take" (Hd spTk)) (d : DefAt K mg "_law_letters" s__law_letters ["_law_pool_here", "_law_many"]) : CalW P w K mg base 2 "_law_letters" spLet :=
  calDI d sc__law_letters (fun ws S Q ⟨p, N, many, e, _⟩ => by rw [e]; rfl) fun f cdv A outer s H E hr => ⟨_, _,
    (pss_cons (ps_set (i := 2) sc__law_letters.nd rfl (Or.inr rfl) pe_str)
      (pss_one (ps_ret (k_bm K PySem.F.plainAttrs_str PySem.F.slot_str_join PySem.F.type_str_join (k_joinM K) pe_str (pa_cons (pe_lc (own := [("_law_k", 3)]) rfl sc__law_letters.nd (pi_range1 rfl T.b_range (pa_cons (pv 1) pa_nil)) (blkOk_by (own := [("_law_k", 3)]) (N := ["_law_pool_here", "_law_many", "_law_abc", "_law_k"]) (sc := defScope s__law_letters) (by decide +kernel)) (fun _ _ _ _ _ => (pg_name (i := 3) sc__law_letters.nd rfl (Or.inl rfl))) (fun _ _ _ _ _ => pts_nil) (fun _ _ _ _ _ => (pe_ix (k_ix K) (pv 2) (k_w K c__law_take hr (by decide) rfl (pa_cons (pv 0) (pa_cons pe_int pa_nil))) (fun _ _ => rfl)))) pa_nil))))), inferInstance, by
    rintro ws S Q ⟨p, N, many, rfl, hp, hN, h0, h1, q⟩
    walk_at "go"
    refine lc_q fun D hD => ⟨fun i acc S' => ∃ ys : List Str, acc = ys.map W.str ∧ ys.length = i ∧ (∀ y ∈ ys, (tl y).length = 1 ∧ Abc y) ∧ i ≤ many.toNat ∧ Pl S' p (N + i) ∧ S' D = some (.lst acc) ∧ KpL [p] S S',
      ⟨[], rfl, rfl, (fun _ h => by cases h), Nat.zero_le _, (hp.eq (put_ne (hp.ne hD).symm)).mono (by omega), put_same, (KpL.refl _ _).new hD⟩, fun _ _ _ _ => trivial, ?_, ?_⟩
    · rintro i w acc S' e ⟨ys, rfl, hl, hy, hi, g1, g2, g3⟩
      obtain ⟨hi2, rfl⟩ := intsW_at e
      have hDp : D ≠ p := hp.ne hD
      walk_at "w"
      refine ⟨fun _ => ?_, fun h => absurd (show true = false from h) (by decide)⟩
      refine tk_go g1 (by omega) (by decide) (by decide) fun r S2 r0 r1 k1 k2 => ?_
      obtain ⟨c, hc, c0, c1⟩ := abc_at r0 r1
      have hD2 := (k2 D (notin1 hDp)).trans g2
      walk_at "w"
      refine ⟨abc_len, c, hc, hD2, ?_, ys ++ [⟨#[c]⟩], by rw [List.map_append]; rfl, by rw [List.length_append, hl]; rfl, ?_, by omega, (k1.eq (put_ne hDp.symm)).mono (by omega), put_same, ?_⟩
      · rw [List.length_map, hl]
        exact Nat.lt_of_lt_of_le (show i < 1000 by omega) sizeLine_ge
      · intro y hy2
        rcases List.mem_append.mp hy2 with h | h
        · exact hy y h
        · rw [List.mem_singleton] at h
          subst h
          exact ⟨rfl, fun z hz => by rw [tl_one, List.mem_singleton] at hz; omega⟩
      · exact (g3.trans k2.kp).own ((KpL.refl [p] S).free hD (notin1 hDp))
    · rintro acc S' ⟨ys, rfl, hl, hy, hi, g1, g2, g3⟩
      rw [intsW_len] at hl g1
      have hl2 : (ys.length : Int) = many := by omega
      walk_at "w"
      refine ⟨_, g2, ys, rfl, ?_, ?_⟩
      · rw [sum_ones fun y h => (hy y h).1]
        show ys.length + ys.length * 0 ≤ 16777216
        omega
      · refine fg_off (ps := [p]) g3 fun S2 o1 o2 => q _ S2 ?_ ?_ ((g1.eq (o2 p (List.mem_singleton.mpr rfl))).mono (by omega)) o1
        · rw [tl_join0, flat_ones fun y h => (hy y h).1]
          omega
        · intro c hc
          rw [tl_join0, List.mem_flatten] at hc
          obtain ⟨l, hl, hc⟩ := hc
          obtain ⟨y, h, rfl⟩ := List.mem_map.mp hl
          exact (hy y h).2 c hc⟩
end
end K10
set_option Elab.async false
set_option linter.all false
set_option maxRecDepth 100000
set_option maxHeartbeats 4000000
set_option synthInstance.maxHeartbeats 4000000
set_option synthInstance.maxSize 100000
namespace K10
open PySem PySem.Spec PyProof.Rows L2 Wl
local macro_rules | `(tactic| walk_at "w") => `(tactic| (conv => whnf))
/-! what a store holds -/
local macro_rules | `(tactic| walk_at "ne") => `(tactic| first | assumption | (apply Ne.symm; assumption) | exact ne_free (by assumption) (by assumption) | exact (ne_free (by assumption) (by assumption)).symm | exact Pl.ne (by assumption) (by assumption) | exact (Pl.ne (by assumption) (by assumption)).symm)
local macro_rules | `(tactic| walk_at "s") => `(tactic| first
  | exact put_same
  | assumption
  | (refine (put_ne ?_).trans ?_; (· walk_at "ne"); (· walk_at "s")))
/-! a side condition -/
local macro_rules | `(tactic| walk_at "c") => `(tactic| first
  | exact Or.inl (Or.inl ⟨by omega, by omega⟩)
  | exact Or.inl (Or.inr ⟨by omega, by omega⟩)
  | exact Or.inl ⟨by omega, by omega⟩
  | exact Or.inl ⟨rfl, _, by walk_at "s"⟩
  | rfl
  | omega
  | decide
  | exact Nat.le_trans (by omega) sizeLine_ge)
/-! one question is answered, if the answer is plain -/
local macro_rules | `(tactic| walk_at "g1") => `(tactic| first
  | refine ⟨fun _ => ?_, fun h => absurd (show true = false from h) (by decide)⟩
  | refine ⟨fun h => absurd (show false = true from h) Bool.false_ne_true, fun _ => ?_⟩
  | refine ⟨_, by walk_at "s", ?_⟩
  | refine ⟨_, _, by walk_at "s", by walk_at "s", ?_⟩
  | refine ⟨_, by walk_at "s", by simpa using (by omega), ?_⟩
  | refine ⟨_, rfl, ?_⟩
  | refine ⟨_, _, rfl, (by first | exact isTy_tt | exact isTy_ii | exact isTy_ll | exact isTy_ss | exact isTy_ib | exact isTy_tb | exact isTy_ti | exact isTy_ts | exact isTy_tl | exact isTy_lb | exact isTy_li | exact isTy_ls | exact isTy_lt | exact isTy_sb | exact isTy_si | exact isTy_st | exact isTy_sl | exact isTy_is | exact isTy_it | exact isTy_il | exact isTy_bi | exact isTy_bs | exact isTy_bb), ?_⟩
  | refine ⟨_, _, tyName_lst (by walk_at "s"), (by first | exact isTy_ll | exact isTy_lb | exact isTy_li | exact isTy_ls | exact isTy_lt), ?_⟩
  | refine ⟨by walk_at "c", ?_⟩)
local macro_rules | `(tactic| walk_at "go") => `(tactic| (walk_at "w"; repeat (walk_at "g1"; walk_at "w")))
/-! a branch that cannot be -/
local macro_rules | `(tactic| walk_at "two") => `(tactic| refine ⟨fun h => ?_, fun h => ?_⟩)
section
variable {P : Program} {w : World} {K : PySem.W.Frag} {mg : Str → Option Value} {base : Heap} {ec : Cls}
theorem NameOk.len {x : Str} (h : NameOk x) : x.length = (tl x).length := (tl_len x).symm
theorem nameLen {x : Str} (h : tl x = [] ∨ NameOk x) : x.length ≤ 8 ∧ x.length ≤ sizeLine := by
  have : x.length ≤ 8 := by
    rw [← tl_len]
    rcases h with h | h
    · rw [h]; exact Nat.zero_le _
    · exact h.2.1
  exact ⟨this, Nat.le_trans (Nat.le_trans this (by decide)) sizeLine_ge⟩
theorem pool_names {S : Sto} {p nl : Addr} {N : Int} {ys : List Str} (h : Pl S p N) (g : S nl = some (.lst (ys.map W.str))) : nl ≠ p := fun e => by
  obtain ⟨c, n, b, s, e1, _⟩ := h
  rw [e, e1] at g
  cases ys with
  | nil => cases g
  | cons y ys => cases g
/-- the three cuts -/
theorem cut_to {α : Type} (xs : List α) (k : Nat) (h : k ≤ xs.length) : cutL xs none (some (k : Int)) = xs.take k := by
  unfold cutL
  rw [HT.sIx_none, HT.sIx_nat]
  simp [Nat.min_eq_left h]
theorem cut_from {α : Type} (xs : List α) (k : Nat) : cutL xs (some (k : Int)) none = xs.drop k := by
  unfold cutL
  rw [HT.sIx_none, HT.sIx_nat]
  by_cases h : k ≤ xs.length
  · rw [Nat.min_eq_left h]
    exact List.take_of_length_le (by rw [List.length_drop]; omega)
  · rw [Nat.min_eq_right (by omega)]
    rw [List.drop_eq_nil_of_le (Nat.le_refl _), List.drop_eq_nil_of_le (by omega)]
    simp
def spNm : SpW := fun ws S Q => ∃ (p nl : Addr) (N : Int) (ys : List Str), ws = [.ref p, .ref nl] ∧ Pl S p N ∧ N < 2 ^ 38 ∧ S nl = some (.lst (ys.map W.str)) ∧ (∀ y ∈ ys, NameOk y) ∧ ys.length < 2 ^ 24 ∧
  ∀ x S', NameOk x → Pl S' p (N + 20) → S' nl = some (.lst ((ys ++ [x]).map W.str)) → OffL [p, nl] S S' → Q (.str x) S'
theorem nm_go {p nl : Addr} {N : Int} {ys : List Str} {S : Sto} {Q : WK} (h : Pl S p N) (hN : N < 2 ^ 38) (g : S nl = some (.lst (ys.map W.str))) (hy : ∀ y ∈ ys, NameOk y) (hl : ys.length < 2 ^ 24)
    (q : ∀ x S', NameOk x → Pl S' p (N + 20) → S' nl = some (.lst ((ys ++ [x]).map W.str)) → OffL [p, nl] S S' → Q (.str x) S') : Hd spNm [.ref p, .ref nl] S Q := Hd.mk ⟨p, nl, N, ys, rfl, h, hN, g, hy, hl, q⟩
theorem size24 {n : Nat} (h : n ≤ 2 ^ 24) : n ≤ sizeLine := Nat.le_trans h (by decide)
theorem ok__law_name (T : Txt K mg ec) (c__law_take : CalW P w K mg base 1 "_law_take" (Hd spTk)) (c__law_letters : CalW P w K mg base 2 "_law_letters" (Hd spLet)) (d : DefAt K mg "_law_name" s__law_name ["_law_pool_here", "_law_names"]) : CalW P w K mg base 3 "_law_name" spNm :=
  calDI d sc__law_name (fun ws S Q ⟨p, nl, N, ys, e, _⟩ => by rw [e]; rfl) fun f cdv A outer s H E hr => ⟨_, _,
    (pss_cons (ps_set (i := 2) sc__law_name.nd rfl (Or.inl rfl) (k_w K c__law_take hr (by decide) rfl (pa_cons (pv 0) (pa_cons pe_int pa_nil))))
      (pss_cons (ps_set (i := 3) sc__law_name.nd rfl (Or.inl rfl) pe_str)
      (pss_mid (ps_if (PW.pt (pw_and (pt_cmpR op_gtA (pv 2) pe_int (nomark _)) (pw_and1 (pt_cmpR op_gtA (pe_callB (k_len K) (by rfl) T.b_len (by decide +kernel) (pa_cons (pv 1) pa_nil)) pe_int (nomark _)))))
       (pss_one (ps_set (i := 3) sc__law_name.nd rfl (Or.inl rfl) (pe_ix (k_ix K) (pv 1) (k_w K c__law_take hr (by decide) rfl (pa_cons (pv 0) (pa_cons (pe_callB (k_len K) (by rfl) T.b_len (by decide +kernel) (pa_cons (pv 1) pa_nil)) pa_nil))) (fun _ _ => rfl))))
       pss_nil)
      (pss_mid (ps_if (PW.pt (pw_and (pt_cmpR (k_eq K hr.units) (pv 2) pe_int (nomark _)) (pw_and1 (pt_cmpR op_gtA (pe_callB (k_len K) (by rfl) T.b_len (by decide +kernel) (pa_cons (pv 3) pa_nil)) pe_int (nomark _)))))
       (pss_cons (ps_set (i := 4) sc__law_name.nd rfl (Or.inl rfl) (k_w K c__law_take hr (by decide) rfl (pa_cons (pv 0) (pa_cons (pe_callB (k_len K) (by rfl) T.b_len (by decide +kernel) (pa_cons (pv 3) pa_nil)) pa_nil))))
       (pss_one (ps_set (i := 3) sc__law_name.nd rfl (Or.inl rfl) (pe_op (k_addB K) (pe_op (k_addB K) (pe_slice (k_sl K) (pv 3) po_none (po_some (pv 4))) (k_w K c__law_letters hr (by decide) rfl (pa_cons (pv 0) (pa_cons pe_int pa_nil)))) (pe_slice (k_sl K) (pv 3) (po_some (pe_op (k_addB K) (pv 4) pe_int)) po_none)))))
       pss_nil)
      (pss_mid (ps_if (PW.pt (pw_and (pt_cmpR (k_eq K hr.units) (pv 2) pe_int (nomark _)) (pw_and1 (pt_chain op_ltA op_ltA pe_int (pe_callB (k_len K) (by rfl) T.b_len (by decide +kernel) (pa_cons (pv 3) pa_nil)) pe_int))))
       (pss_one (ps_set (i := 3) sc__law_name.nd rfl (Or.inl rfl) (pe_op (k_addB K) (pv 3) (k_w K c__law_letters hr (by decide) rfl (pa_cons (pv 0) (pa_cons pe_int pa_nil))))))
       pss_nil)
      (pss_mid (ps_if (pt_cmpR (k_eq K hr.units) (pv 3) pe_str (nomark _))
       (pss_one (ps_set (i := 3) sc__law_name.nd rfl (Or.inl rfl) (k_w K c__law_letters hr (by decide) rfl (pa_cons (pv 0) (pa_cons (pe_op (k_addB K) pe_int (k_w K c__law_take hr (by decide) rfl (pa_cons (pv 0) (pa_cons pe_int pa_nil)))) pa_nil)))))
       pss_nil)
      (pss_cons (ps_expr (k_bm K PySem.F.plainAttrs_list PySem.F.slot_list_append PySem.F.type_list_append mt_append (pv 1) (pa_cons (pv 3) pa_nil)))
      (pss_one (ps_ret (pv 3)))))))))), inferInstance, by
    rintro ws S Q ⟨p, nl, N, ys, rfl, hp, hN, hn, hy, hyl, q⟩
    have hne := pool_names hp hn
    walk_at "go"
    refine tk_go hp (by omega) (by decide) (by decide) fun so S1 so0 so1 p1 o1 => ?_
    have n1 := (o1 nl (notin1 hne)).trans hn
    walk_at "go"
    refine mid_q (fun ρ' S' => ∃ y : Str, ρ' = [some (.ref p), some (.ref nl), some (.int so), some (.str y), none] ∧ (tl y = [] ∨ NameOk y) ∧ Pl S' p (N + 2) ∧ S' nl = some (.lst (ys.map W.str)) ∧ KpL [p] S S') ?_ ?_
    · have no : ∃ y : Str, ([some (.ref p), some (.ref nl), some (.int so), some (.str ""), none] : StW) = [some (.ref p), some (.ref nl), some (.int so), some (.str y), none] ∧ (tl y = [] ∨ NameOk y) ∧ Pl S1 p (N + 2) ∧ S1 nl = some (.lst (ys.map W.str)) ∧ KpL [p] S S1 :=
        ⟨"", rfl, .inl (by decide +kernel), p1.mono (by omega), n1, o1.kp⟩
      walk_at "w"
      walk_at "two"
      · walk_at "w"
        refine ⟨_, n1, ?_⟩
        walk_at "w"
        walk_at "two"
        · rename_i h
          have h := of_decide_eq_true h
          rw [List.length_map] at h
          walk_at "w"
          refine ⟨_, n1, ?_⟩
          rw [List.length_map]
          refine tk_go p1 (by omega) h (by omega) fun r S2 r0 r1 p2 o2 => ?_
          have n2 := (o2 nl (notin1 hne)).trans n1
          walk_at "w"
          refine ⟨_, n2, ?_⟩
          obtain ⟨j, rfl⟩ : ∃ j : Nat, r = (j : Int) := ⟨r.toNat, by omega⟩
          have hj : j < ys.length := by omega
          have ej : (ys.map W.str)[j]? = some (.str ys[j]) := by rw [List.getElem?_map, List.getElem?_eq_getElem hj]; rfl
          refine rdAt_ok (atI_nat ej) ?_
          exact ⟨ys[j], rfl, .inr (hy _ (List.getElem_mem hj)), p2.mono (by omega), n2, o1.kp.trans o2.kp⟩
        · exact no
      · walk_at "w"
        exact ⟨fun h => absurd (show false = true from h) Bool.false_ne_true, fun _ => no⟩
    clear p1 o1 n1 S1
    rintro ρ' S1 ⟨y, rfl, hy1, p1, n1, o1⟩
    obtain ⟨yl, ysz⟩ := nameLen hy1
    walk_at "w"
    refine mid_q (fun ρ' S' => ∃ (y : Str) (a : Option W), ρ' = [some (.ref p), some (.ref nl), some (.int so), some (.str y), a] ∧ (tl y = [] ∨ NameOk y) ∧ Pl S' p (N + 4) ∧ S' nl = some (.lst (ys.map W.str)) ∧ KpL [p] S S') ?_ ?_
    · walk_at "w"
      walk_at "two"
      · walk_at "w"
        refine ⟨ysz, ?_⟩
        walk_at "w"
        walk_at "two"
        · rename_i h
          have h := of_decide_eq_true h
          walk_at "w"
          refine ⟨ysz, ?_⟩
          refine tk_go p1 (by omega) h (by omega) fun r S2 r0 r1 p2 o2 => ?_
          have n2 := (o2 nl (notin1 hne)).trans n1
          walk_at "w"
          refine ⟨ysz, ?_⟩
          refine let_go p2 (by omega) (by decide) (by decide) fun x S3 xl xa p3 o3 => ?_
          have n3 := (o3 nl (notin1 hne)).trans n2
          obtain ⟨j, rfl⟩ : ∃ j : Nat, r = (j : Int) := ⟨r.toNat, by omega⟩
          have hj : j < (tl y).length := by rw [tl_len]; omega
          have hy2 : NameOk y := by
            rcases hy1 with h0 | h0
            · rw [h0] at hj; exact absurd hj (Nat.not_lt_zero _)
            · exact h0
          have e1 : tl (cutS y none (some (j : Int))) = (tl y).take j := by rw [cut_tl, cut_to _ _ (by omega)]
          have e2 : tl (cutS y (some ((j : Int) + 1)) none) = (tl y).drop (j + 1) := by rw [cut_tl]; exact cut_from _ (j + 1)
          have l1 : (cutS y none (some (j : Int))).length = j := by rw [← tl_len, e1, List.length_take]; omega
          have l2 : (cutS y (some ((j : Int) + 1)) none).length = (tl y).length - (j + 1) := by rw [← tl_len, e2, List.length_drop]
          have lx : x.length = 1 := by rw [← tl_len]; omega
          walk_at "w"
          refine ⟨size24 (by rw [l1, lx]; have := tl_len y; omega), ?_⟩
          walk_at "w"
          refine ⟨ysz, ?_⟩
          walk_at "w"
          have l12 : (cutS y none (some (j : Int)) ++ x).length = j + 1 := by rw [← tl_len, tl_append, List.length_append, tl_len, tl_len, l1, lx]
          refine ⟨size24 (by
            show (cutS y none (some (j : Int)) ++ x).length + (cutS y (some ((j : Int) + 1)) none).length ≤ _
            rw [l12, l2]; have := tl_len y; omega), ?_⟩
          have et : tl (cutS y none (some (j : Int)) ++ x ++ cutS y (some ((j : Int) + 1)) none) = (tl y).take j ++ tl x ++ (tl y).drop (j + 1) := by rw [tl_append, tl_append, e1, e2]
          refine ⟨_, _, rfl, .inr ⟨?_, ?_, ?_⟩, p3.mono (by omega), n3, (o1.trans o2.kp).trans o3.kp⟩
          · rw [et, List.length_append, List.length_append]; omega
          · have := hy2.2.1
            rw [et, List.length_append, List.length_append, List.length_take, List.length_drop]; omega
          · intro c hc
            rw [et, List.mem_append, List.mem_append] at hc
            rcases hc with (hc | hc) | hc
            · exact hy2.2.2 c (List.mem_of_mem_take hc)
            · exact xa c hc
            · exact hy2.2.2 c (List.mem_of_mem_drop hc)
        · exact ⟨y, _, rfl, hy1, p1.mono (by omega), n1, o1⟩
      · walk_at "w"
        exact ⟨fun h => absurd (show false = true from h) Bool.false_ne_true, fun _ => ⟨y, _, rfl, hy1, p1.mono (by omega), n1, o1⟩⟩
    clear p1 o1 n1 S1 hy1 yl ysz y
    rintro ρ' S1 ⟨y, a, rfl, hy1, p1, n1, o1⟩
    obtain ⟨yl, ysz⟩ := nameLen hy1
    walk_at "w"
    refine mid_q (fun ρ' S' => ∃ (y : Str) (a : Option W), ρ' = [some (.ref p), some (.ref nl), some (.int so), some (.str y), a] ∧ (tl y = [] ∨ NameOk y) ∧ Pl S' p (N + 5) ∧ S' nl = some (.lst (ys.map W.str)) ∧ KpL [p] S S') ?_ ?_
    · have no : ∃ (y' : Str) (a' : Option W), ([some (.ref p), some (.ref nl), some (.int so), some (.str y), a] : StW) = [some (.ref p), some (.ref nl), some (.int so), some (.str y'), a'] ∧ (tl y' = [] ∨ NameOk y') ∧ Pl S1 p (N + 5) ∧ S1 nl = some (.lst (ys.map W.str)) ∧ KpL [p] S S1 :=
        ⟨y, a, rfl, hy1, p1.mono (by omega), n1, o1⟩
      walk_at "w"
      walk_at "two"
      · walk_at "w"
        refine ⟨ysz, ?_⟩
        walk_at "w"
        walk_at "two"
        · rename_i h
          have h := of_decide_eq_true h
          walk_at "w"
          walk_at "two"
          · rename_i h8
            have h8 := of_decide_eq_true h8
            walk_at "w"
            refine let_go p1 (by omega) (by decide) (by decide) fun x S3 xl xa p3 o3 => ?_
            have n3 := (o3 nl (notin1 hne)).trans n1
            have lx : x.length = 1 := by rw [← tl_len]; omega
            have ly := tl_len y
            have hy2 : NameOk y := by
              rcases hy1 with h0 | h0
              · rw [h0] at ly; have : (0 : Nat) = y.length := ly; omega
              · exact h0
            walk_at "w"
            refine ⟨size24 (by rw [lx]; omega), ?_⟩
            refine ⟨_, _, rfl, .inr ⟨?_, ?_, ?_⟩, p3.mono (by omega), n3, o1.trans o3.kp⟩
            · rw [tl_append, List.length_append]; omega
            · rw [tl_append, List.length_append]; omega
            · intro c hc
              rw [tl_append, List.mem_append] at hc
              rcases hc with hc | hc
              · exact hy2.2.2 c hc
              · exact xa c hc
          · exact no
        · walk_at "w"
          first | exact no | exact ⟨fun h => absurd (show false = true from h) Bool.false_ne_true, fun _ => no⟩
      · walk_at "w"
        exact ⟨fun h => absurd (show false = true from h) Bool.false_ne_true, fun _ => no⟩
    clear p1 o1 n1 S1 hy1 yl ysz y a
    rintro ρ' S1 ⟨y, a, rfl, hy1, p1, n1, o1⟩
    walk_at "w"
    refine mid_q (fun ρ' S' => ∃ (y : Str) (a : Option W), ρ' = [some (.ref p), some (.ref nl), some (.int so), some (.str y), a] ∧ NameOk y ∧ Pl S' p (N + 20) ∧ S' nl = some (.lst (ys.map W.str)) ∧ KpL [p] S S') ?_ ?_
    · walk_at "w"
      walk_at "two"
      · walk_at "w"
        refine tk_go p1 (by omega) (by decide) (by decide) fun r S2 r0 r1 p2 o2 => ?_
        have n2 := (o2 nl (notin1 hne)).trans n1
        walk_at "w"
        refine let_go p2 (by omega) (by omega) (by omega) fun x S3 xl xa p3 o3 => ?_
        have n3 := (o3 nl (notin1 hne)).trans n2
        walk_at "w"
        exact ⟨_, _, rfl, ⟨by omega, by omega, xa⟩, p3.mono (by omega), n3, (o1.trans o2.kp).trans o3.kp⟩
      · rename_i h
        have h := of_decide_eq_false h
        refine ⟨y, a, rfl, ?_, p1.mono (by omega), n1, o1⟩
        rcases hy1 with h0 | h0
        · exact absurd (tl_ext (h0.trans (show [] = tl "" by decide +kernel))) h
        · exact h0
    clear p1 o1 n1 S1 hy1 y a
    rintro ρ' S1 ⟨y, a, rfl, hy1, p1, n1, o1⟩
    walk_at "w"
    refine ⟨.inl ⟨rfl, _, n1⟩, ?_⟩
    walk_at "w"
    refine ⟨_, n1, Nat.lt_of_lt_of_le (show (ys.map W.str).length < 2 ^ 24 by rw [List.length_map]; exact hyl) (by decide), ?_⟩
    refine fg_off (ps := [p, nl]) ((o1.mono fun a ha => by rw [List.mem_singleton] at ha; rw [ha]; exact List.mem_cons_self).at (List.mem_cons_of_mem _ (List.mem_singleton.mpr rfl))) fun S2 g1 g2 => q y S2 hy1 (p1.eq ?_) ?_ g1
    · rw [g2 p List.mem_cons_self, put_ne hne.symm]
    · rw [g2 nl (List.mem_cons_of_mem _ (List.mem_singleton.mpr rfl)), put_same, List.map_append]
      rfl⟩
end
end K10
set_option Elab.async false
set_option linter.all false
set_option maxRecDepth 100000
set_option maxHeartbeats 4000000
set_option synthInstance.maxHeartbeats 4000000
set_option synthInstance.maxSize 100000
namespace K10
open PySem PySem.Spec PyProof.Rows L2 Wl
local macro_rules | `(tactic| walk_at "w") => `(tactic| (conv => whnf))
/-! what a store holds -/
local macro_rules | `(tactic| walk_at "ne") => `(tactic| first | assumption | (apply Ne.symm; assumption) | exact ne_free (by assumption) (by assumption) | exact (ne_free (by assumption) (by assumption)).symm | exact Pl.ne (by assumption) (by assumption) | exact (Pl.ne (by assumption) (by assumption)).symm)
local macro_rules | `(tactic| walk_at "s") => `(tactic| first
  | exact put_same
  | assumption
  | (refine (put_ne ?_).trans ?_; (· walk_at "ne"); (· walk_at "s")))
/-! a side condition -/
local macro_rules | `(tactic| walk_at "c") => `(tactic| first
  | exact Or.inl (Or.inl ⟨by omega, by omega⟩)
  | exact Or.inl (Or.inr ⟨by omega, by omega⟩)
  | exact Or.inl ⟨by omega, by omega⟩
  | exact Or.inl ⟨rfl, _, by walk_at "s"⟩
  | rfl
  | omega
  | decide
  | exact Nat.le_trans (by omega) sizeLine_ge)
/-! one question is answered, if the answer is plain -/
local macro_rules | `(tactic| walk_at "g1") => `(tactic| first
  | refine ⟨fun _ => ?_, fun h => absurd (show true = false from h) (by decide)⟩
  | refine ⟨fun h => absurd (show false = true from h) Bool.false_ne_true, fun _ => ?_⟩
  | refine ⟨_, by walk_at "s", ?_⟩
  | refine ⟨_, _, by walk_at "s", by walk_at "s", ?_⟩
  | refine ⟨_, by walk_at "s", by simpa using (by omega), ?_⟩
  | refine ⟨_, rfl, ?_⟩
  | refine ⟨_, _, rfl, (by first | exact isTy_tt | exact isTy_ii | exact isTy_ll | exact isTy_ss | exact isTy_ib | exact isTy_tb | exact isTy_ti | exact isTy_ts | exact isTy_tl | exact isTy_lb | exact isTy_li | exact isTy_ls | exact isTy_lt | exact isTy_sb | exact isTy_si | exact isTy_st | exact isTy_sl | exact isTy_is | exact isTy_it | exact isTy_il | exact isTy_bi | exact isTy_bs | exact isTy_bb), ?_⟩
  | refine ⟨_, _, tyName_lst (by walk_at "s"), (by first | exact isTy_ll | exact isTy_lb | exact isTy_li | exact isTy_ls | exact isTy_lt), ?_⟩
  | refine ⟨by walk_at "c", ?_⟩)
local macro_rules | `(tactic| walk_at "go") => `(tactic| (walk_at "w"; repeat (walk_at "g1"; walk_at "w")))
/-! a branch that cannot be -/
local macro_rules | `(tactic| walk_at "two") => `(tactic| refine ⟨fun h => ?_, fun h => ?_⟩)
section
variable {P : Program} {w : World} {K : PySem.W.Frag} {mg : Str → Option Value} {base : Heap} {ec : Cls}
/-! marks -/
theorem slt_trans {a b c : Str} (h : sLt a b = true) (g : sLt b c = true) : sLt a c = true := decide_eq_true (List.lt_trans (of_decide_eq_true h) (of_decide_eq_true g))
theorem slt_asymm {a b : Str} (h : sLt a b = true) : sLt b a = false := decide_eq_false (List.lt_asymm (of_decide_eq_true h))
structure MarksOk (ms : List Str) : Prop where
  name : ∀ m ∈ ms, NameOk m
  up : ms.Pairwise fun a b => sLt a b = true
def insM (ms : List Str) (x : Str) : List Str := ms.filter (fun m => sLt m x) ++ [x] ++ ms.filter (fun m => sLt x m)
theorem fil_two (x : Str) : ∀ ms : List Str, (ms.filter fun m => sLt m x).length + (ms.filter fun m => sLt x m).length ≤ ms.length
  | [] => Nat.le_refl _
  | m :: ms => by
    have ih := fil_two x ms
    rw [List.filter_cons, List.filter_cons, List.length_cons]
    by_cases h : sLt m x = true
    · rw [if_pos h, if_neg (by rw [slt_asymm h]; decide), List.length_cons]; omega
    · rw [if_neg h]
      split
      · rw [List.length_cons]; omega
      · omega
theorem insM_len (ms : List Str) (x : Str) : (insM ms x).length ≤ ms.length + 1 := by
  unfold insM
  rw [List.length_append, List.length_append]
  have := fil_two x ms
  show _ + 1 + _ ≤ _
  omega
theorem insM_ok {ms : List Str} {x : Str} (h : MarksOk ms) (hx : NameOk x) : MarksOk (insM ms x) := by
  constructor
  · intro m hm
    unfold insM at hm
    rw [List.mem_append, List.mem_append] at hm
    rcases hm with (hm | hm) | hm
    · exact h.name m (List.mem_filter.mp hm).1
    · rw [List.mem_singleton] at hm; subst hm; exact hx
    · exact h.name m (List.mem_filter.mp hm).1
  · unfold insM
    rw [List.append_assoc, List.pairwise_append]
    refine ⟨h.up.filter _, ?_, ?_⟩
    · rw [List.singleton_append, List.pairwise_cons]
      exact ⟨fun b hb => (List.mem_filter.mp hb).2, h.up.filter _⟩
    · intro a ha b hb
      have ha := (List.mem_filter.mp ha).2
      rw [List.singleton_append, List.mem_cons] at hb
      rcases hb with rfl | hb
      · exact ha
      · exact slt_trans ha (List.mem_filter.mp hb).2
def pStr (f : Str → Bool) : W → Bool
  | .str m => f m
  | _ => false
theorem fil_strs (f : Str → Bool) (ms : List Str) : ((ms.map W.str).filter (pStr f)).map id = (ms.filter f).map W.str := by
  rw [List.map_id, List.filter_map]
  rfl
theorem str_item {ms : List Str} {i : Nat} {w : W} (e : (ms.map W.str)[i]? = some w) : ∃ m, m ∈ ms ∧ w = .str m := by
  rw [List.getElem?_map] at e
  cases q : ms[i]? with
  | none => rw [q] at e; cases e
  | some m => rw [q] at e; exact ⟨m, List.mem_of_getElem? q, (Option.some.inj e).symm⟩
def spMk : SpW := fun ws S Q => ∃ (p nl : Addr) (N : Int) (ys : List Str), ws = [.ref p, .ref nl] ∧ Pl S p N ∧ N < 2 ^ 37 ∧ S nl = some (.lst (ys.map W.str)) ∧ (∀ y ∈ ys, NameOk y) ∧ ys.length < 2 ^ 23 ∧
  ∀ ms zs S', MarksOk ms → ms.length ≤ 3 → zs.length ≤ 3 → (∀ y ∈ zs, NameOk y) → Pl S' p (N + 61) → S' nl = some (.lst ((ys ++ zs).map W.str)) → OffL [p, nl] S S' → Q (.tup (ms.map W.str)) S'
theorem mk_go {p nl : Addr} {N : Int} {ys : List Str} {S : Sto} {Q : WK} (h : Pl S p N) (hN : N < 2 ^ 37) (g : S nl = some (.lst (ys.map W.str))) (hy : ∀ y ∈ ys, NameOk y) (hl : ys.length < 2 ^ 23)
    (q : ∀ ms zs S', MarksOk ms → ms.length ≤ 3 → zs.length ≤ 3 → (∀ y ∈ zs, NameOk y) → Pl S' p (N + 61) → S' nl = some (.lst ((ys ++ zs).map W.str)) → OffL [p, nl] S S' → Q (.tup (ms.map W.str)) S') : Hd spMk [.ref p, .ref nl] S Q := Hd.mk ⟨p, nl, N, ys, rfl, h, hN, g, hy, hl, q⟩
theorem ok__law_marks (T : Txt K mg ec) (c__law_take : CalW P w K mg base 1 "_law_take" (Hd spTk)) (c__law_name : CalW P w K mg base 3 "_law_name" (Hd spNm)) (d : DefAt K mg "_law_marks" s__law_marks ["_law_pool_here", "_law_names"]) : CalW P w K mg base 4 "_law_marks" spMk :=
  calDI d sc__law_marks (fun ws S Q ⟨p, nl, N, ys, e, _⟩ => by rw [e]; rfl) fun f cdv A outer s H E hr => ⟨_, _,
    (pss_cons (ps_set (i := 2) sc__law_marks.nd rfl (Or.inl rfl) (pe_lst pa_nil))
      (pss_cons (ps_for PassesOwn.never rfl (pi_range1 rfl T.b_range (pa_cons (k_w K c__law_take hr (by decide) rfl (pa_cons (pv 0) (pa_cons pe_int pa_nil))) pa_nil)) (pg_name (i := 3) sc__law_marks.nd rfl (Or.inl rfl))
       (pss_cons (ps_set (i := 4) sc__law_marks.nd rfl (Or.inr rfl) (k_w K c__law_name hr (by decide) rfl (pa_cons (pv 0) (pa_cons (pv 1) pa_nil))))
       (pss_cons (ps_setLc (i := 5) (own := [("_law_mark", 6)]) rfl sc__law_marks.nd rfl rfl (sw_true rfl rfl rfl (by decide +kernel)) (k_any K (pv 2)) (blkOk_by (own := [("_law_mark", 6)]) (N := ["_law_pool_here", "_law_names", "_law_marks_here", "_law_k", "_law_name_here", "_law_less", "_law_mark"]) (sc := defScope s__law_marks) (by decide +kernel)) (fun _ _ _ _ _ => (pg_name (i := 6) sc__law_marks.nd rfl (Or.inl rfl))) (fun _ _ _ _ _ => (pts_one (pt_cmpR op_ltA (pv 6) (pv 4) (nomark _)))) (fun _ _ _ _ _ => (pv 6)))
       (pss_one (ps_set (i := 2) sc__law_marks.nd rfl (Or.inl rfl) (pe_op (k_addB K) (pe_op (k_addB K) (pv 5) (pe_lst (pa_cons (pv 4) pa_nil))) (pe_lc (own := [("_law_mark", 6)]) rfl sc__law_marks.nd (k_any K (pv 2)) (blkOk_by (own := [("_law_mark", 6)]) (N := ["_law_pool_here", "_law_names", "_law_marks_here", "_law_k", "_law_name_here", "_law_less", "_law_mark"]) (sc := defScope s__law_marks) (by decide +kernel)) (fun _ _ _ _ _ => (pg_name (i := 6) sc__law_marks.nd rfl (Or.inl rfl))) (fun _ _ _ _ _ => (pts_one (pt_cmpR op_gtA (pv 6) (pv 4) (nomark _)))) (fun _ _ _ _ _ => (pv 6)))))))))
      (pss_one (ps_ret (pe_callTy (k_tuple K) (by rfl) T.b_tuple (by decide +kernel) (pa_cons (pv 2) pa_nil)))))), inferInstance, by
    rintro ws S Q ⟨p, nl, N, ys, rfl, hp, hN, hn, hy, hyl, q⟩
    have hne := pool_names hp hn
    walk_at "w"
    intro l hl
    have hlp := hp.ne hl
    have hln := ne_free hn hl
    have hp0 : Pl (put S l (.lst [])) p N := hp.eq (put_ne hlp.symm)
    walk_at "w"
    refine tk_go hp0 (by omega) (by decide) (by decide) fun r S1 r0 r1 p1 o1 => ?_
    have n1 : S1 nl = some (.lst (ys.map W.str)) := (o1 nl (notin1 hne)).trans ((put_ne hln.symm).trans hn)
    have l1 : S1 l = some (.lst []) := (o1 l (notin1 hlp)).trans put_same
    have k1 : KpL [p, nl] S S1 := ((KpL.refl _ S).new hl).trans (o1.kp.mono fun a ha => by rw [List.mem_singleton] at ha; rw [ha]; exact List.mem_cons_self)
    walk_at "w"
    refine ⟨by omega, by omega, ?_⟩
    refine for_q (fun i ρ' S' => ∃ (l : Addr) (ms zs : List Str) (kk a4 a5 : Option W), ρ' = [some (.ref p), some (.ref nl), some (.ref l), kk, a4, a5, none] ∧ S' l = some (.lst (ms.map W.str)) ∧ S l = none ∧ MarksOk ms ∧ ms.length ≤ i ∧ zs.length = i ∧ (∀ y ∈ zs, NameOk y) ∧ i ≤ 3 ∧
        S' nl = some (.lst ((ys ++ zs).map W.str)) ∧ Pl S' p (N + 1 + 20 * i) ∧ KpL [p, nl] S S')
      ⟨l, [], [], none, none, none, rfl, l1, hl, ⟨(fun _ h => by cases h), List.Pairwise.nil⟩, Nat.le_refl _, rfl, (fun _ h => by cases h), by omega, by rw [List.append_nil]; exact n1, p1.mono (by omega), k1⟩ (fun _ _ _ _ => trivial) ?_ ?_
    · rintro i w ρ' S2 e ⟨l, ms, zs, kk, a4, a5, rfl, h1, hl, hm, ml, zl, zo, hi, n2, p2, k2⟩
      obtain ⟨hi2, rfl⟩ := intsW_at e
      have hlp := hp.ne hl
      have hln := ne_free hn hl
      walk_at "w"
      refine nm_go p2 (by omega) n2 (fun y h => by
        rcases List.mem_append.mp h with h | h
        · exact hy y h
        · exact zo y h) (by rw [List.length_append]; omega) fun x S3 hx p3 n3 o3 => ?_
      have l3 := (o3 l (notin2 hlp hln)).trans h1
      have k3 := k2.trans o3.kp
      walk_at "w"
      refine ⟨_, l3, ?_⟩
      refine lc_fil (pStr fun m => sLt m x) id (by rw [List.length_map]; omega) (fun D acc hD => (put_ne (ne_free l3 hD).symm).trans l3) ?_ ?_ ?_
      · intro j w D acc e hD
        obtain ⟨m, _, rfl⟩ := str_item e
        intro Q' q'
        walk_at "w"
        exact q'
      · intro j w D acc e _ hD Q' q'
        obtain ⟨m, _, rfl⟩ := str_item e
        walk_at "w"
        exact q'
      intro D hD
      rw [fil_strs]
      have hDl := ne_free l3 hD
      have hDp := p3.ne hD
      have hDn := ne_free n3 hD
      walk_at "w"
      intro E1 hE1
      have hE1l := ne_free ((put_ne (c := .lst ((ms.filter fun m => sLt m x).map W.str)) hDl.symm).trans l3) hE1
      have hE1D := ne_free (c := .lst ((ms.filter fun m => sLt m x).map W.str)) put_same hE1
      have hE1S3 : S3 E1 = none := (put_ne hE1D).symm.trans hE1
      walk_at "w"
      refine ⟨_, _, (put_ne hE1D.symm).trans put_same, put_same, ?_, ?_⟩
      · rw [List.length_map]
        exact size24 (by have := List.length_filter_le (fun m => sLt m x) ms; show _ + 1 ≤ _; omega)
      intro E2 hE2
      have hE2E1 := ne_free (c := .lst [.str x]) put_same hE2
      have hE2' : put S3 D (.lst ((ms.filter fun m => sLt m x).map W.str)) E2 = none := (put_ne hE2E1).symm.trans hE2
      have hE2D := ne_free (c := .lst ((ms.filter fun m => sLt m x).map W.str)) put_same hE2'
      have hE2S3 : S3 E2 = none := (put_ne hE2D).symm.trans hE2'
      have hE2l := ne_free l3 hE2S3
      walk_at "w"
      have l4 : put (put (put S3 D (.lst ((ms.filter fun m => sLt m x).map W.str))) E1 (.lst [.str x])) E2 (.lst ((ms.filter fun m => sLt m x).map W.str ++ [.str x])) l = some (.lst (ms.map W.str)) := (put_ne hE2l.symm).trans ((put_ne hE1l.symm).trans ((put_ne hDl.symm).trans l3))
      refine ⟨_, l4, ?_⟩
      refine lc_fil (pStr fun m => sLt x m) id (by rw [List.length_map]; omega) (fun D' acc hD' => (put_ne (ne_free l4 hD').symm).trans l4) ?_ ?_ ?_
      · intro j w D' acc e hD'
        obtain ⟨m, _, rfl⟩ := str_item e
        intro Q' q'
        walk_at "w"
        exact q'
      · intro j w D' acc e _ hD' Q' q'
        obtain ⟨m, _, rfl⟩ := str_item e
        walk_at "w"
        exact q'
      intro E3 hE3
      rw [fil_strs]
      have hE3E2 := ne_free (c := .lst ((ms.filter fun m => sLt m x).map W.str ++ [.str x])) put_same hE3
      have hE3b := (put_ne hE3E2).symm.trans hE3
      have hE3E1 := ne_free (c := .lst [.str x]) put_same hE3b
      have hE3c := (put_ne hE3E1).symm.trans hE3b
      have hE3D := ne_free (c := .lst ((ms.filter fun m => sLt m x).map W.str)) put_same hE3c
      have hE3S3 : S3 E3 = none := (put_ne hE3D).symm.trans hE3c
      walk_at "w"
      refine ⟨_, _, (put_ne hE3E2.symm).trans put_same, put_same, ?_, ?_⟩
      · rw [List.length_append, List.length_map, List.length_map]
        exact size24 (by have := fil_two x ms; show _ + 1 + _ ≤ _; omega)
      intro E4 hE4
      have hE4E3 := ne_free (c := .lst ((ms.filter fun m => sLt x m).map W.str)) put_same hE4
      have hE4a := (put_ne hE4E3).symm.trans hE4
      have hE4E2 := ne_free (c := .lst ((ms.filter fun m => sLt m x).map W.str ++ [.str x])) put_same hE4a
      have hE4b := (put_ne hE4E2).symm.trans hE4a
      have hE4E1 := ne_free (c := .lst [.str x]) put_same hE4b
      have hE4c := (put_ne hE4E1).symm.trans hE4b
      have hE4D := ne_free (c := .lst ((ms.filter fun m => sLt m x).map W.str)) put_same hE4c
      have hE4S3 : S3 E4 = none := (put_ne hE4D).symm.trans hE4c
      refine ⟨E4, insM ms x, zs ++ [x], _, _, _, rfl, ?_, k3.free hE4S3 (notin2 (p3.ne hE4S3) (ne_free n3 hE4S3)), insM_ok hm hx, ?_, by rw [List.length_append, zl]; rfl, ?_, by omega, ?_, ?_, ?_⟩
      · unfold insM
        rw [List.map_append, List.map_append]
        exact put_same
      · have := insM_len ms x; omega
      · intro y h
        rcases List.mem_append.mp h with h | h
        · exact zo y h
        · rw [List.mem_singleton] at h; subst h; exact hx
      · rw [put_ne (ne_free n3 hE4S3).symm, put_ne (ne_free n3 hE3S3).symm, put_ne (ne_free n3 hE2S3).symm, put_ne (ne_free n3 hE1S3).symm, put_ne (ne_free n3 hD).symm, n3, List.append_assoc]
      · refine (p3.eq ?_).mono (by omega)
        rw [put_ne (p3.ne hE4S3).symm, put_ne (p3.ne hE3S3).symm, put_ne (p3.ne hE2S3).symm, put_ne (p3.ne hE1S3).symm, put_ne (p3.ne hD).symm]
      · exact ((((k3.new hD).new hE1).new hE2).new hE3).new hE4
    · rintro ρ' S2 ⟨l, ms, zs, kk, a4, a5, rfl, h1, hl, hm, ml, zl, zo, hi, n2, p2, k2⟩
      rw [intsW_len] at ml zl hi p2
      walk_at "w"
      refine ⟨_, h1, ?_⟩
      exact fg_off (ps := [p, nl]) k2 fun S3 g1 g2 => q ms zs S3 hm (by omega) (by omega) zo ((p2.eq (g2 p List.mem_cons_self)).mono (by omega)) ((g2 nl (List.mem_cons_of_mem _ (List.mem_singleton.mpr rfl))).trans n2) g1⟩
end
end K10
set_option Elab.async false
set_option linter.all false
set_option maxRecDepth 100000
set_option maxHeartbeats 4000000
set_option synthInstance.maxHeartbeats 4000000
set_option synthInstance.maxSize 100000
namespace K10
open PySem PySem.Spec PyProof.Rows L2 Wl
local macro_rules | `(tactic| walk_at "w") => `(tactic| (conv => whnf))
/-! what a store holds -/
local macro_rules | `(tactic| walk_at "ne") => `(tactic| first | assumption | (apply Ne.symm; assumption) | exact ne_free (by assumption) (by assumption) | exact (ne_free (by assumption) (by assumption)).symm | exact Pl.ne (by assumption) (by assumption) | exact (Pl.ne (by assumption) (by assumption)).symm)
local macro_rules | `(tactic| walk_at "s") => `(tactic| first
  | exact put_same
  | assumption
  | (refine (put_ne ?_).trans ?_; (· walk_at "ne"); (· walk_at "s")))
/-! a side condition -/
local macro_rules | `(tactic| walk_at "c") => `(tactic| first
  | exact Or.inl (Or.inl ⟨by omega, by omega⟩)
  | exact Or.inl (Or.inr ⟨by omega, by omega⟩)
  | exact Or.inl ⟨by omega, by omega⟩
  | exact Or.inl ⟨rfl, _, by walk_at "s"⟩
  | rfl
  | omega
  | decide
  | exact Nat.le_trans (by omega) sizeLine_ge)
/-! one question is answered, if the answer is plain -/
local macro_rules | `(tactic| walk_at "g1") => `(tactic| first
  | refine ⟨fun _ => ?_, fun h => absurd (show true = false from h) (by decide)⟩
  | refine ⟨fun h => absurd (show false = true from h) Bool.false_ne_true, fun _ => ?_⟩
  | refine ⟨_, by walk_at "s", ?_⟩
  | refine ⟨_, _, by walk_at "s", by walk_at "s", ?_⟩
  | refine ⟨_, by walk_at "s", by simpa using (by omega), ?_⟩
  | refine ⟨_, rfl, ?_⟩
  | refine ⟨_, _, rfl, (by first | exact isTy_tt | exact isTy_ii | exact isTy_ll | exact isTy_ss | exact isTy_ib | exact isTy_tb | exact isTy_ti | exact isTy_ts | exact isTy_tl | exact isTy_lb | exact isTy_li | exact isTy_ls | exact isTy_lt | exact isTy_sb | exact isTy_si | exact isTy_st | exact isTy_sl | exact isTy_is | exact isTy_it | exact isTy_il | exact isTy_bi | exact isTy_bs | exact isTy_bb), ?_⟩
  | refine ⟨_, _, tyName_lst (by walk_at "s"), (by first | exact isTy_ll | exact isTy_lb | exact isTy_li | exact isTy_ls | exact isTy_lt), ?_⟩
  | refine ⟨by walk_at "c", ?_⟩)
local macro_rules | `(tactic| walk_at "go") => `(tactic| (walk_at "w"; repeat (walk_at "g1"; walk_at "w")))
/-! a branch that cannot be -/
local macro_rules | `(tactic| walk_at "two") => `(tactic| refine ⟨fun h => ?_, fun h => ?_⟩)
section
variable {P : Program} {w : World} {K : PySem.W.Frag} {mg : Str → Option Value} {base : Heap} {ec : Cls}
/-! texts -/
def textAbc : Str := " abcdefghijklmnopqrstuvwxyzABCDEFGHIJKLMNOPQRSTUVWXYZ0123456789.,;:!?'()|"
theorem textAbc_len : (tl textAbc).length = 73 := by decide +kernel
theorem textAbc_all : ∀ c ∈ tl textAbc, 32 ≤ c ∧ c ≤ 124 ∧ c ≠ 34 ∧ c ≠ 35 ∧ c ≠ 64 := by decide +kernel
def TextOk (x : Str) : Prop := 1 ≤ (tl x).length ∧ (tl x).length ≤ 60 ∧ ∀ c ∈ tl x, c ∈ tl textAbc
theorem text_at {r : Int} (h0 : 0 ≤ r) (h1 : r < 73) : ∃ c, atI textAbc.cps.toList r = some c ∧ c ∈ tl textAbc := by
  obtain ⟨j, rfl⟩ : ∃ j : Nat, r = (j : Int) := ⟨r.toNat, by omega⟩
  have hj : j < (tl textAbc).length := by rw [textAbc_len]; omega
  refine ⟨(tl textAbc)[j], atI_nat ?_, List.getElem_mem _⟩
  show (tl textAbc)[j]? = _
  rw [List.getElem?_eq_getElem]
def spPr : SpW := fun ws S Q => ∃ (p : Addr) (N many : Int), ws = [.ref p, .int many] ∧ Pl S p N ∧ N < 2 ^ 39 ∧ 0 ≤ many ∧ many ≤ 100 ∧ ∀ x S', ((tl x).length : Int) = many → (∀ c ∈ tl x, c ∈ tl textAbc) → Pl S' p (N + many) → OffL [p] S S' → Q (.str x) S'
theorem pr_go {p : Addr} {N many : Int} {S : Sto} {Q : WK} (h : Pl S p N) (hN : N < 2 ^ 39) (h0 : 0 ≤ many) (h1 : many ≤ 100) (q : ∀ x S', ((tl x).length : Int) = many → (∀ c ∈ tl x, c ∈ tl textAbc) → Pl S' p (N + many) → OffL [p] S S' → Q (.str x) S') : Hd spPr [.ref p, .int many] S Q := Hd.mk ⟨p, N, many, rfl, h, hN, h0, h1, q⟩
theorem ok__law_prose (T : Txt K mg ec) (c__law_take : CalW P w K mg base 1 "_law_take" (Hd spTk)) (d : DefAt K mg "_law_prose" s__law_prose ["_law_pool_here", "_law_many"]) : CalW P w K mg base 2 "_law_prose" spPr :=
  calDI d sc__law_prose (fun ws S Q ⟨p, N, many, e, _⟩ => by rw [e]; rfl) fun f cdv A outer s H E hr => ⟨_, _,
    (pss_cons (ps_set (i := 2) sc__law_prose.nd rfl (Or.inr rfl) pe_str)
      (pss_one (ps_ret (k_bm K PySem.F.plainAttrs_str PySem.F.slot_str_join PySem.F.type_str_join (k_joinM K) pe_str (pa_cons (pe_lc (own := [("_law_k", 3)]) rfl sc__law_prose.nd (pi_range1 rfl T.b_range (pa_cons (pv 1) pa_nil)) (blkOk_by (own := [("_law_k", 3)]) (N := ["_law_pool_here", "_law_many", "_law_signs", "_law_k"]) (sc := defScope s__law_prose) (by decide +kernel)) (fun _ _ _ _ _ => (pg_name (i := 3) sc__law_prose.nd rfl (Or.inl rfl))) (fun _ _ _ _ _ => pts_nil) (fun _ _ _ _ _ => (pe_ix (k_ix K) (pv 2) (pe_callB (call_max2 rfl) (by rfl) T.b_max (by decide +kernel) (pa_cons pe_int (pa_cons (pe_op op_sub (k_w K c__law_take hr (by decide) rfl (pa_cons (pv 0) (pa_cons pe_int pa_nil))) pe_int) pa_nil))) (fun _ _ => rfl)))) pa_nil))))), inferInstance, by
    rintro ws S Q ⟨p, N, many, rfl, hp, hN, h0, h1, q⟩
    walk_at "go"
    refine lc_q fun D hD => ⟨fun i acc S' => ∃ ys : List Str, acc = ys.map W.str ∧ ys.length = i ∧ (∀ y ∈ ys, (tl y).length = 1 ∧ ∀ c ∈ tl y, c ∈ tl textAbc) ∧ i ≤ many.toNat ∧ Pl S' p (N + i) ∧ S' D = some (.lst acc) ∧ KpL [p] S S',
      ⟨[], rfl, rfl, (fun _ h => by cases h), Nat.zero_le _, (hp.eq (put_ne (hp.ne hD).symm)).mono (by omega), put_same, (KpL.refl _ _).new hD⟩, fun _ _ _ _ => trivial, ?_, ?_⟩
    · rintro i w acc S' e ⟨ys, rfl, hl, hy, hi, g1, g2, g3⟩
      obtain ⟨hi2, rfl⟩ := intsW_at e
      have hDp : D ≠ p := hp.ne hD
      walk_at "w"
      refine ⟨fun _ => ?_, fun h => absurd (show true = false from h) (by decide)⟩
      refine tk_go g1 (by omega) (by decide) (by decide) fun r S2 r0 r1 k1 k2 => ?_
      have hD2 := (k2 D (notin1 hDp)).trans g2
      walk_at "w"
      obtain ⟨c, hc, c0⟩ := text_at (r := if r - 20 > 0 then r - 20 else 0) (by split <;> omega) (by split <;> omega)
      refine ⟨?_, c, hc, hD2, ?_, ys ++ [⟨#[c]⟩], by rw [List.map_append]; rfl, by rw [List.length_append, hl]; rfl, ?_, by omega, (k1.eq (put_ne hDp.symm)).mono (by omega), put_same, ?_⟩
      · have z : (" abcdefghijklmnopqrstuvwxyzABCDEFGHIJKLMNOPQRSTUVWXYZ0123456789.,;:!?'()|" : Str).length = 73 := by rw [← tl_len]; exact textAbc_len
        show (" abcdefghijklmnopqrstuvwxyzABCDEFGHIJKLMNOPQRSTUVWXYZ0123456789.,;:!?'()|" : Str).length ≤ _
        rw [z]
        exact Nat.le_trans (by decide) sizeLine_ge
      · rw [List.length_map, hl]
        exact Nat.lt_of_lt_of_le (show i < 1000 by omega) sizeLine_ge
      · intro y hy2
        rcases List.mem_append.mp hy2 with h | h
        · exact hy y h
        · rw [List.mem_singleton] at h
          subst h
          exact ⟨rfl, fun z hz => by rw [tl_one, List.mem_singleton] at hz; rw [hz]; exact c0⟩
      · exact (g3.trans k2.kp).own ((KpL.refl [p] S).free hD (notin1 hDp))
    · rintro acc S' ⟨ys, rfl, hl, hy, hi, g1, g2, g3⟩
      rw [intsW_len] at hl g1
      have hl2 : (ys.length : Int) = many := by omega
      walk_at "w"
      refine ⟨_, g2, ys, rfl, ?_, ?_⟩
      · rw [sum_ones fun y h => (hy y h).1]
        show ys.length + ys.length * 0 ≤ 16777216
        omega
      · refine fg_off (ps := [p]) g3 fun S2 o1 o2 => q _ S2 ?_ ?_ ((g1.eq (o2 p (List.mem_singleton.mpr rfl))).mono (by omega)) o1
        · rw [tl_join0, flat_ones fun y h => (hy y h).1]
          omega
        · intro c hc
          rw [tl_join0, List.mem_flatten] at hc
          obtain ⟨l, hl, hc⟩ := hc
          obtain ⟨y, h, rfl⟩ := List.mem_map.mp hl
          exact (hy y h).2 c hc⟩
/-- the budget: a list whose second number is b1 -/
def spTx : SpW := fun ws S Q => ∃ (p g : Addr) (N b0 b1 : Int) (rest : List W), ws = [.ref p, .ref g] ∧ Pl S p N ∧ N < 2 ^ 38 ∧ g ≠ p ∧ S g = some (.lst (.int b0 :: .int b1 :: rest)) ∧ 1 ≤ b1 ∧ b1 < 2 ^ 60 ∧ rest.length ≤ 100 ∧
  ∀ x S', TextOk x → ((tl x).length : Int) ≤ b1 → Pl S' p (N + 62) → S' g = some (.lst (.int b0 :: .int (b1 - (tl x).length) :: rest)) → OffL [p, g] S S' → Q (.str x) S'
theorem tx_go {p g : Addr} {N b0 b1 : Int} {rest : List W} {S : Sto} {Q : WK} (h : Pl S p N) (hN : N < 2 ^ 38) (hg : g ≠ p) (e : S g = some (.lst (.int b0 :: .int b1 :: rest))) (h1 : 1 ≤ b1) (h2 : b1 < 2 ^ 60) (hl : rest.length ≤ 100)
    (q : ∀ x S', TextOk x → ((tl x).length : Int) ≤ b1 → Pl S' p (N + 62) → S' g = some (.lst (.int b0 :: .int (b1 - (tl x).length) :: rest)) → OffL [p, g] S S' → Q (.str x) S') : Hd spTx [.ref p, .ref g] S Q := Hd.mk ⟨p, g, N, b0, b1, rest, rfl, h, hN, hg, e, h1, h2, hl, q⟩
theorem ixN1 (n : Nat) : ixN (n + 2) 1 = some 1 := by
  unfold ixN
  rw [if_pos (by decide), if_pos (by omega)]
  rfl
theorem ok__law_text (T : Txt K mg ec) (c__law_take : CalW P w K mg base 1 "_law_take" (Hd spTk)) (c__law_prose : CalW P w K mg base 2 "_law_prose" (Hd spPr)) (d : DefAt K mg "_law_text" s__law_text ["_law_pool_here", "_law_budget"]) : CalW P w K mg base 3 "_law_text" spTx :=
  calDI d sc__law_text (fun ws S Q ⟨p, g, N, b0, b1, rest, e, _⟩ => by rw [e]; rfl) fun f cdv A outer s H E hr => ⟨_, _,
    (pss_cons (ps_set (i := 2) sc__law_text.nd rfl (Or.inl rfl) (pe_ix (k_ix K) (pe_lst (pa_cons pe_int (pa_cons pe_int (pa_cons pe_int (pa_cons pe_int pa_nil))))) (k_w K c__law_take hr (by decide) rfl (pa_cons (pv 0) (pa_cons pe_int pa_nil))) (fun _ _ => rfl)))
      (pss_cons (ps_set (i := 2) sc__law_text.nd rfl (Or.inl rfl) (pe_op (k_addB K) pe_int (k_w K c__law_take hr (by decide) rfl (pa_cons (pv 0) (pa_cons (pe_callB (call_min2 rfl) (by rfl) T.b_min (by decide +kernel) (pa_cons (pe_callTy call_int1 (by rfl) T.b_int (by decide +kernel) (pa_cons (pv 2) pa_nil)) (pa_cons (pe_ix (k_ix K) (pv 1) pe_int (fun _ _ => rfl)) pa_nil))) pa_nil)))))
      (pss_cons (ps_asg (pe_op op_sub (pe_ix (k_ix K) (pv 1) pe_int (fun _ _ => rfl)) (pv 2)) (pg_sub (pv 1) pe_int set_list))
      (pss_one (ps_ret (k_w K c__law_prose hr (by decide) rfl (pa_cons (pv 0) (pa_cons (pv 2) pa_nil)))))))), inferInstance, by
    rintro ws S Q ⟨p, g, N, b0, b1, rest, rfl, hp, hN, hg, e, h1, h2, hl, q⟩
    walk_at "w"
    intro l hlf
    have hlp := hp.ne hlf
    have hlg := ne_free e hlf
    walk_at "w"
    refine tk_go (hp.eq (put_ne hlp.symm)) (by omega) (by decide) (by decide) fun r S1 r0 r1 p1 o1 => ?_
    have l1 : S1 l = some (.lst [.int 4, .int 4, .int 9, .int 60]) := (o1 l (notin1 hlp)).trans put_same
    have g1 : S1 g = some (.lst (.int b0 :: .int b1 :: rest)) := (o1 g (notin1 hg)).trans ((put_ne hlg.symm).trans e)
    have k1 : KpL [p, g] S S1 := ((KpL.refl _ S).new hlf).trans (o1.kp.mono fun a ha => by rw [List.mem_singleton] at ha; rw [ha]; exact List.mem_cons_self)
    obtain ⟨m, em, hm0, hm1⟩ : ∃ m : Int, atI [W.int 4, .int 4, .int 9, .int 60] r = some (.int m) ∧ 4 ≤ m ∧ m ≤ 60 := by
      obtain rfl | rfl | rfl | rfl : r = 0 ∨ r = 1 ∨ r = 2 ∨ r = 3 := by omega
      · exact ⟨4, rfl, by decide, by decide⟩
      · exact ⟨4, rfl, by decide, by decide⟩
      · exact ⟨9, rfl, by decide, by decide⟩
      · exact ⟨60, rfl, by decide, by decide⟩
    walk_at "w"
    refine ⟨_, l1, ?_⟩
    refine rdAt_ok em ?_
    walk_at "w"
    refine ⟨_, g1, ?_⟩
    refine rdAt_ok (show atI (W.int b0 :: .int b1 :: rest) 1 = some (.int b1) from atI_nat (j := 1) rfl) ?_
    walk_at "w"
    obtain ⟨u, eu⟩ : ∃ u : Int, (if b1 < m then b1 else m) = u := ⟨_, rfl⟩
    change Hd spTk [.ref p, .int (if b1 < m then b1 else m)] _ _
    rw [eu]
    have hu : 1 ≤ u ∧ u ≤ b1 ∧ u ≤ 60 := by rw [← eu]; split <;> omega
    refine tk_go p1 (by omega) (by omega) (by omega) fun v S2 v0 v1 p2 o2 => ?_
    have g2 := (o2 g (notin1 hg)).trans g1
    have k2 : KpL [p, g] S S2 := k1.trans (o2.kp.mono fun a ha => by rw [List.mem_singleton] at ha; rw [ha]; exact List.mem_cons_self)
    walk_at "w"
    refine ⟨_, g2, ?_⟩
    refine rdAt_ok (show atI (W.int b0 :: .int b1 :: rest) 1 = some (.int b1) from atI_nat (j := 1) rfl) ?_
    walk_at "w"
    refine ⟨_, 1, g2, ixN1 _, ?_⟩
    have hgm : g ∈ [p, g] := List.mem_cons_of_mem _ (List.mem_singleton.mpr rfl)
    refine pr_go (p2.eq (put_ne hg.symm)) (by omega) (by omega) (by omega) fun x S3 xl xa p3 o3 => ?_
    have g3 := (o3 g (notin1 hg)).trans put_same
    have k3 : KpL [p, g] S S3 := (k2.at hgm).trans (o3.kp.mono fun a ha => by rw [List.mem_singleton] at ha; rw [ha]; exact List.mem_cons_self)
    refine fg_off k3 fun S4 f1 f2 => q x S4 ⟨by omega, by omega, xa⟩ (by omega) ((p3.eq (f2 p List.mem_cons_self)).mono (by omega)) ?_ f1
    rw [f2 g hgm, g3]
    show some (Cell.lst (W.int b0 :: .int (b1 - (1 + v)) :: rest)) = _
    rw [show (1 + v : Int) = ((tl x).length : Int) by omega]⟩
end
end K10
set_option Elab.async false
set_option linter.all false
set_option maxRecDepth 100000
set_option maxHeartbeats 4000000
set_option synthInstance.maxHeartbeats 4000000
set_option synthInstance.maxSize 100000
namespace K10
open PySem PySem.Spec PyProof.Rows L2 Wl
local macro_rules | `(tactic| walk_at "w") => `(tactic| (conv => whnf))
/-! what a store holds -/
local macro_rules | `(tactic| walk_at "ne") => `(tactic| first | assumption | (apply Ne.symm; assumption) | exact ne_free (by assumption) (by assumption) | exact (ne_free (by assumption) (by assumption)).symm | exact Pl.ne (by assumption) (by assumption) | exact (Pl.ne (by assumption) (by assumption)).symm)
local macro_rules | `(tactic| walk_at "s") => `(tactic| first
  | exact put_same
  | assumption
  | (refine (put_ne ?_).trans ?_; (· walk_at "ne"); (· walk_at "s")))
/-! a side condition -/
local macro_rules | `(tactic| walk_at "c") => `(tactic| first
  | exact Or.inl (Or.inl ⟨by omega, by omega⟩)
  | exact Or.inl (Or.inr ⟨by omega, by omega⟩)
  | exact Or.inl ⟨by omega, by omega⟩
  | exact Or.inl ⟨rfl, _, by walk_at "s"⟩
  | rfl
  | omega
  | decide
  | exact Nat.le_trans (by omega) sizeLine_ge)
/-! one question is answered, if the answer is plain -/
local macro_rules | `(tactic| walk_at "g1") => `(tactic| first
  | refine ⟨fun _ => ?_, fun h => absurd (show true = false from h) (by decide)⟩
  | refine ⟨fun h => absurd (show false = true from h) Bool.false_ne_true, fun _ => ?_⟩
  | refine ⟨_, by walk_at "s", ?_⟩
  | refine ⟨_, _, by walk_at "s", by walk_at "s", ?_⟩
  | refine ⟨_, by walk_at "s", by simpa using (by omega), ?_⟩
  | refine ⟨_, rfl, ?_⟩
  | refine ⟨_, _, rfl, (by first | exact isTy_tt | exact isTy_ii | exact isTy_ll | exact isTy_ss | exact isTy_ib | exact isTy_tb | exact isTy_ti | exact isTy_ts | exact isTy_tl | exact isTy_lb | exact isTy_li | exact isTy_ls | exact isTy_lt | exact isTy_sb | exact isTy_si | exact isTy_st | exact isTy_sl | exact isTy_is | exact isTy_it | exact isTy_il | exact isTy_bi | exact isTy_bs | exact isTy_bb), ?_⟩
  | refine ⟨_, _, tyName_lst (by walk_at "s"), (by first | exact isTy_ll | exact isTy_lb | exact isTy_li | exact isTy_ls | exact isTy_lt), ?_⟩
  | refine ⟨by walk_at "c", ?_⟩)
local macro_rules | `(tactic| walk_at "go") => `(tactic| (walk_at "w"; repeat (walk_at "g1"; walk_at "w")))
/-! a branch that cannot be -/
local macro_rules | `(tactic| walk_at "two") => `(tactic| refine ⟨fun h => ?_, fun h => ?_⟩)
section
variable {P : Program} {w : World} {K : PySem.W.Frag} {mg : Str → Option Value} {base : Heap} {ec : Cls}
/-! documents -/
inductive Itm where
  | text (x : Str) | lab (x : Str) | ref (x : Str) | part (k : Str) (ms : List Str) (is : List Itm)
mutual
def Itm.w : Itm → W
  | .text x => .str x
  | .lab x => .tup [.str "#", .str x]
  | .ref x => .tup [.str "@", .str x]
  | .part k ms is => .tup [.str k, .tup (ms.map W.str), .tup (itmsW is)]
def itmsW : List Itm → List W
  | [] => []
  | i :: is => i.w :: itmsW is
end
theorem itmsW_map : ∀ is : List Itm, itmsW is = is.map Itm.w
  | [] => by unfold itmsW; rfl
  | i :: is => by unfold itmsW; rw [itmsW_map is]; rfl
mutual
def Itm.cnt : Itm → Nat
  | .text _ => 1 | .lab _ => 1 | .ref _ => 1
  | .part _ _ is => 1 + cnts is
def cnts : List Itm → Nat
  | [] => 0
  | i :: is => i.cnt + cnts is
end
mutual
def Itm.chars : Itm → Nat
  | .text x => (tl x).length | .lab _ => 0 | .ref _ => 0
  | .part _ _ is => charss is
def charss : List Itm → Nat
  | [] => 0
  | i :: is => i.chars + charss is
end
mutual
def Itm.refs : Itm → Nat
  | .text _ => 0 | .lab _ => 0 | .ref _ => 1
  | .part _ _ is => refss is
def refss : List Itm → Nat
  | [] => 0
  | i :: is => i.refs + refss is
end
theorem cnts_cons (i : Itm) (a : List Itm) : cnts (i :: a) = i.cnt + cnts a := by simp only [cnts]
theorem cnts_nil : cnts [] = 0 := by simp only [cnts]
theorem cnts_app : ∀ a b : List Itm, cnts (a ++ b) = cnts a + cnts b
  | [], b => by rw [List.nil_append, cnts_nil, Nat.zero_add]
  | i :: a, b => by rw [List.cons_append, cnts_cons, cnts_cons, cnts_app a b]; omega
theorem charss_cons (i : Itm) (a : List Itm) : charss (i :: a) = i.chars + charss a := by simp only [charss]
theorem charss_nil : charss [] = 0 := by simp only [charss]
theorem charss_app : ∀ a b : List Itm, charss (a ++ b) = charss a + charss b
  | [], b => by rw [List.nil_append, charss_nil, Nat.zero_add]
  | i :: a, b => by rw [List.cons_append, charss_cons, charss_cons, charss_app a b]; omega
theorem refss_cons (i : Itm) (a : List Itm) : refss (i :: a) = i.refs + refss a := by simp only [refss]
theorem refss_nil : refss [] = 0 := by simp only [refss]
theorem refss_app : ∀ a b : List Itm, refss (a ++ b) = refss a + refss b
  | [], b => by rw [List.nil_append, refss_nil, Nat.zero_add]
  | i :: a, b => by rw [List.cons_append, refss_cons, refss_cons, refss_app a b]; omega
theorem cnt_pos (i : Itm) : 1 ≤ i.cnt := by cases i <;> (unfold Itm.cnt; omega)
/-- at most d deep, at most m items in a part -/
inductive ItmOk (m : Nat) : Nat → Itm → Prop where
  | text {d : Nat} {x : Str} : TextOk x → ItmOk m d (.text x)
  | lab {d : Nat} {x : Str} : NameOk x → ItmOk m d (.lab x)
  | ref {d : Nat} {x : Str} : NameOk x → ItmOk m d (.ref x)
  | part {d : Nat} {k : Str} {ms : List Str} {is : List Itm} : NameOk k → MarksOk ms → ms.length ≤ 3 → is.length ≤ m → (∀ i ∈ is, ItmOk m d i) → ItmOk m (d + 1) (.part k ms is)
theorem ItmOk.up {m d e : Nat} {i : Itm} (h : ItmOk m d i) (l : d ≤ e) : ItmOk m e i := by
  induction h generalizing e with
  | text h => exact .text h
  | lab h => exact .lab h
  | ref h => exact .ref h
  | part h1 h2 h3 h4 h5 ih =>
    obtain ⟨e, rfl⟩ : ∃ e', e = e' + 1 := ⟨e - 1, by omega⟩
    exact .part h1 h2 h3 h4 fun i hi => ih i hi (by omega)
def bud (b0 b1 b2 b3 b4 : Int) : Cell := .lst [.int b0, .int b1, .int b2, .int b3, .int b4]
/-- what a drawn item costs, and what stays of the budget -/
structure Cost (cnt chars refs : Nat) (b0 b1 b2 c0 c1 c2 : Int) : Prop where
  n : (cnt : Int) + c0 ≤ b0
  t : (chars : Int) + c1 ≤ b1
  r : (refs : Int) + c2 ≤ b2
  p0 : 0 ≤ c0
  p1 : 0 ≤ c1
  p2 : 0 ≤ c2
structure Bud (p nl g : Addr) (N b0 b1 b2 b3 b4 : Int) (ys : List Str) (S : Sto) : Prop where
  hp : Pl S p N
  hn : S nl = some (.lst (ys.map W.str))
  hg : S g = some (bud b0 b1 b2 b3 b4)
  gp : g ≠ p
  gn : g ≠ nl
  ny : ∀ y ∈ ys, NameOk y
  p0 : 0 ≤ b0
  p1 : 0 ≤ b1
  p2 : 0 ≤ b2
  l1 : b1 < 2 ^ 50
  p4 : 3 ≤ b4
  l4 : b4 ≤ 100
  l0 : b0 ≤ 1000
  sy : (ys.length : Int) + 20 * (b0 + 2) < 2 ^ 22
/-- one item: at most d parts deep -/
def spIt (d : Nat) : SpW := fun ws S Q => ∃ (p nl g : Addr) (N b0 b1 b2 b3 b4 dep : Int) (ys : List Str), ws = [.ref p, .ref nl, .ref g, .int dep] ∧ Bud p nl g N b0 b1 b2 b3 b4 ys S ∧ N + 300 * (b0 + 2) < 2 ^ 36 ∧ b3 + 1 - dep ≤ d ∧
  ∀ (it : Itm) (zs : List Str) (c0 c1 c2 : Int) (S' : Sto), ItmOk b4.toNat d it → Cost it.cnt it.chars it.refs (b0 + 1) b1 b2 c0 c1 c2 → c0 ≤ b0 → (∀ y ∈ zs, NameOk y) → (zs.length : Int) ≤ 20 * (b0 + 1 - c0) → Pl S' p (N + 300 * (b0 + 1 - c0)) →
    S' nl = some (.lst ((ys ++ zs).map W.str)) → S' g = some (bud c0 c1 c2 b3 b4) → OffL [p, nl, g] S S' → Q it.w S'
def spPt (d : Nat) : SpW := fun ws S Q => ∃ (p nl g : Addr) (N b0 b1 b2 b3 b4 dep : Int) (ys : List Str), ws = [.ref p, .ref nl, .ref g, .int dep] ∧ Bud p nl g N b0 b1 b2 b3 b4 ys S ∧ N + 300 * (b0 + 2) < 2 ^ 36 + 100 ∧ b3 + 1 - dep ≤ d ∧ 1 ≤ d ∧
  ∀ (k : Str) (ms : List Str) (is : List Itm) (zs : List Str) (c0 c1 c2 : Int) (S' : Sto), ItmOk b4.toNat d (.part k ms is) → Cost (cnts is) (charss is) (refss is) b0 b1 b2 c0 c1 c2 → c0 ≤ b0 → (∀ y ∈ zs, NameOk y) → (zs.length : Int) ≤ 10 + 20 * (b0 - c0) → Pl S' p (N + 150 + 300 * (b0 - c0)) →
    S' nl = some (.lst ((ys ++ zs).map W.str)) → S' g = some (bud c0 c1 c2 b3 b4) → OffL [p, nl, g] S S' → Q (Itm.part k ms is).w S'
theorem it_go {d : Nat} {p nl g : Addr} {N b0 b1 b2 b3 b4 dep : Int} {ys : List Str} {S : Sto} {Q : WK} (h : Bud p nl g N b0 b1 b2 b3 b4 ys S) (sn : N + 300 * (b0 + 2) < 2 ^ 36) (hd : b3 + 1 - dep ≤ d)
  (q : ∀ (it : Itm) (zs : List Str) (c0 c1 c2 : Int) (S' : Sto), ItmOk b4.toNat d it → Cost it.cnt it.chars it.refs (b0 + 1) b1 b2 c0 c1 c2 → c0 ≤ b0 → (∀ y ∈ zs, NameOk y) → (zs.length : Int) ≤ 20 * (b0 + 1 - c0) → Pl S' p (N + 300 * (b0 + 1 - c0)) →
    S' nl = some (.lst ((ys ++ zs).map W.str)) → S' g = some (bud c0 c1 c2 b3 b4) → OffL [p, nl, g] S S' → Q it.w S') : Hd (spIt d) [.ref p, .ref nl, .ref g, .int dep] S Q := Hd.mk ⟨p, nl, g, N, b0, b1, b2, b3, b4, dep, ys, rfl, h, sn, hd, q⟩
theorem pt_go {d : Nat} {p nl g : Addr} {N b0 b1 b2 b3 b4 dep : Int} {ys : List Str} {S : Sto} {Q : WK} (h : Bud p nl g N b0 b1 b2 b3 b4 ys S) (sn : N + 300 * (b0 + 2) < 2 ^ 36 + 100) (hd : b3 + 1 - dep ≤ d) (h1 : 1 ≤ d)
  (q : ∀ (k : Str) (ms : List Str) (is : List Itm) (zs : List Str) (c0 c1 c2 : Int) (S' : Sto), ItmOk b4.toNat d (.part k ms is) → Cost (cnts is) (charss is) (refss is) b0 b1 b2 c0 c1 c2 → c0 ≤ b0 → (∀ y ∈ zs, NameOk y) → (zs.length : Int) ≤ 10 + 20 * (b0 - c0) → Pl S' p (N + 150 + 300 * (b0 - c0)) →
    S' nl = some (.lst ((ys ++ zs).map W.str)) → S' g = some (bud c0 c1 c2 b3 b4) → OffL [p, nl, g] S S' → Q (Itm.part k ms is).w S') : Hd (spPt d) [.ref p, .ref nl, .ref g, .int dep] S Q := Hd.mk ⟨p, nl, g, N, b0, b1, b2, b3, b4, dep, ys, rfl, h, sn, hd, h1, q⟩
theorem mem3 {p q r : Addr} : r ∈ [p, q, r] := List.mem_cons_of_mem _ (List.mem_cons_of_mem _ (List.mem_singleton.mpr rfl))
theorem mem2 {p q r : Addr} : q ∈ [p, q, r] := List.mem_cons_of_mem _ List.mem_cons_self
theorem ok__law_item (T : Txt K mg ec) (d j : Nat) (hj : 3 ≤ j) (c__law_take : CalW P w K mg base 1 "_law_take" (Hd spTk)) (c__law_name : CalW P w K mg base 3 "_law_name" (Hd spNm)) (c__law_text : CalW P w K mg base 3 "_law_text" (Hd spTx)) (c__law_part : CalW P w K mg base j "_law_part" (Hd (spPt d)))
    (dd : DefAt K mg "_law_item" s__law_item ["_law_pool_here", "_law_names", "_law_budget", "_law_depth"]) : CalW P w K mg base (j + 1) "_law_item" (spIt d) :=
  have c__law_take := c__law_take.mono (k := j) (by omega)
  have c__law_name := c__law_name.mono hj
  have c__law_text := c__law_text.mono hj
  calDI dd sc__law_item (fun ws S Q ⟨p, nl, g, N, b0, b1, b2, b3, b4, dep, ys, e, _⟩ => by rw [e]; rfl) fun f cdv A outer s H E hr => ⟨_, _,
    (pss_cons (ps_set (i := 4) sc__law_item.nd rfl (Or.inl rfl) (k_w K c__law_take hr (Nat.le_refl _) rfl (pa_cons (pv 0) (pa_cons pe_int pa_nil))))
      (pss_cons (ps_if (PW.pt (pw_and (pt_cmpR op_ltA (pv 4) pe_int (nomark _)) (pw_and1 (pt_cmpR op_leA (pv 3) (pe_ix (k_ix K) (pv 2) pe_int (fun _ _ => rfl)) (nomark _)))))
       (pss_one (ps_ret (k_w K c__law_part hr (Nat.le_refl _) rfl (pa_cons (pv 0) (pa_cons (pv 1) (pa_cons (pv 2) (pa_cons (pv 3) pa_nil)))))))
       pss_nil)
      (pss_cons (ps_if (PW.pt (pw_and (pt_cmpR (k_eq K hr.units) (pv 4) pe_int (nomark _)) (pw_and1 (pt_cmpR op_gtA (pe_ix (k_ix K) (pv 2) pe_int (fun _ _ => rfl)) pe_int (nomark _)))))
       (pss_cons (ps_asg (pe_op op_sub (pe_ix (k_ix K) (pv 2) pe_int (fun _ _ => rfl)) pe_int) (pg_sub (pv 2) pe_int set_list))
       (pss_one (ps_ret (pe_tup (pa_cons pe_str (pa_cons (k_w K c__law_name hr (Nat.le_refl _) rfl (pa_cons (pv 0) (pa_cons (pv 1) pa_nil))) pa_nil))))))
       pss_nil)
      (pss_cons (ps_if (PW.pt (pw_and (pt_cmpR op_gtA (pv 4) pe_int (nomark _)) (pw_and1 (pt_cmpR op_gtA (pe_ix (k_ix K) (pv 2) pe_int (fun _ _ => rfl)) pe_int (nomark _)))))
       (pss_one (ps_ret (k_w K c__law_text hr (Nat.le_refl _) rfl (pa_cons (pv 0) (pa_cons (pv 2) pa_nil)))))
       pss_nil)
      (pss_one (ps_ret (pe_tup (pa_cons pe_str (pa_cons (k_w K c__law_name hr (Nat.le_refl _) rfl (pa_cons (pv 0) (pa_cons (pv 1) pa_nil))) pa_nil))))))))), inferInstance, by
    rintro ws S Q ⟨p, nl, g, N, b0, b1, b2, b3, b4, dep, ys, rfl, B0, sn, hd, q⟩
    have hne := pool_names B0.hp B0.hn
    have s0 := B0.p0
    have s1 := B0.p1
    have s2 := B0.p2
    have s3 := B0.sy
    walk_at "w"
    refine tk_go B0.hp (by omega) (by decide) (by decide) fun so S1 so0 so1 p1 o1 => ?_
    have n1 := (o1 nl (notin1 hne)).trans B0.hn
    have g1 : S1 g = some (.lst [.int b0, .int b1, .int b2, .int b3, .int b4]) := (o1 g (notin1 B0.gp)).trans B0.hg
    have k1 : KpL [p, nl, g] S S1 := o1.kp.mono fun a ha => by rw [List.mem_singleton] at ha; rw [ha]; exact List.mem_cons_self
    have B1 : Bud p nl g (N + 1) b0 b1 b2 b3 b4 ys S1 := ⟨p1, n1, g1, B0.gp, B0.gn, B0.ny, B0.p0, B0.p1, B0.p2, B0.l1, B0.p4, B0.l4, B0.l0, B0.sy⟩
    have off3 : ∀ {S2 : Sto}, OffL [p, nl, g] S1 S2 → KpL [p, nl, g] S S2 := fun h => k1.trans h.kp
    have named : ∀ (x : Str) (S2 : Sto) (it : Itm) (c2 : Int), NameOk x → Pl S2 p (N + 1 + 20) → S2 nl = some (.lst ((ys ++ [x]).map W.str)) → KpL [p, nl, g] S S2 → S2 g = some (bud b0 b1 c2 b3 b4) → 0 ≤ c2 →
        ItmOk b4.toNat d it → it.cnt = 1 → it.chars = 0 → (it.refs : Int) + c2 ≤ b2 → FgI Q it.w S2 := fun x S2 it c2 hx p2 n2 k2 g2 h0 ok ec eh er =>
      fg_off k2 fun S3 f1 f2 => q it [x] b0 b1 c2 S3 ok ⟨by omega, by omega, er, s0, s1, h0⟩ (Int.le_refl _) (fun y h => by rw [List.mem_singleton] at h; rw [h]; exact hx) (by show (1 : Int) ≤ _; omega)
        ((p2.eq (f2 p List.mem_cons_self)).mono (by omega)) ((f2 nl mem2).trans n2) ((f2 g mem3).trans g2) f1
    have three : wSeq (wIfS (wAnd (wT (wOp (wOrd (fun i j => decide (j < i)) fun i j => sLt j i) (wVar 4) (wC (.int 4)))) (wT (wOp (wOrd (fun i j => decide (j < i)) fun i j => sLt j i) (wOp wIx (wVar 2) (wC (.int 1))) (wC (.int 0)))))
        (wRet (wCall (Hd spTx) (wCons (wVar 0) (wCons (wVar 2) wNil)))) wNext) (wRet (wTup (wCons (wC (.str "#")) (wCons (wCall (Hd spNm) (wCons (wVar 0) (wCons (wVar 1) wNil))) wNil))))
        { nx := fun _ S' => FgI Q .non S', rt := FgI Q } [some (.ref p), some (.ref nl), some (.ref g), some (.int dep), some (.int so)] S1 := by
      have last : wRet (wTup (wCons (wC (.str "#")) (wCons (wCall (Hd spNm) (wCons (wVar 0) (wCons (wVar 1) wNil))) wNil)))
        { nx := fun _ S' => FgI Q .non S', rt := FgI Q } [some (.ref p), some (.ref nl), some (.ref g), some (.int dep), some (.int so)] S1 := by
        walk_at "w"
        refine nm_go p1 (by omega) n1 B0.ny (by omega) fun x S2 hx p2 n2 o2 => ?_
        exact named x S2 (.lab x) b2 hx p2 n2 (off3 fun a ha => o2 a fun z => ha (by
          rcases List.mem_cons.mp z with e | e
          · rw [e]; exact List.mem_cons_self
          · rw [List.mem_singleton.mp e]; exact mem2)) ((o2 g (notin2 B0.gp B0.gn)).trans g1) s2 (.lab hx) rfl rfl (by show (0 : Int) + b2 ≤ b2; omega)
      walk_at "w"
      walk_at "two"
      · walk_at "go"
        walk_at "two"
        · rename_i h
          have h := of_decide_eq_true h
          walk_at "w"
          refine tx_go p1 (by omega) B0.gp g1 (by omega) (by have := B0.l1; omega) (by show 3 ≤ 100; decide) fun x S2 hx lx p2 g2 o2 => ?_
          have n2 := (o2 nl (notin2 hne (Ne.symm B0.gn))).trans n1
          have k2 : KpL [p, nl, g] S S2 := off3 fun a ha => o2 a fun z => ha (by
            rcases List.mem_cons.mp z with e | e
            · rw [e]; exact List.mem_cons_self
            · rw [List.mem_singleton.mp e]; exact mem3)
          refine fg_off k2 fun S3 f1 f2 => q (.text x) [] b0 (b1 - (tl x).length) b2 S3 (.text hx) ⟨by show (1 : Int) + b0 ≤ _; omega, by show ((tl x).length : Int) + _ ≤ _; omega, by show (0 : Int) + b2 ≤ b2; omega, s0, by omega, s2⟩ (Int.le_refl _) (fun y h => by cases h) (by show (0 : Int) ≤ _; omega)
            ((p2.eq (f2 p List.mem_cons_self)).mono (by omega)) (by rw [List.append_nil]; exact (f2 nl mem2).trans n2) ((f2 g mem3).trans g2) f1
        · exact last
      · walk_at "w"
        exact ⟨fun h => absurd (show false = true from h) Bool.false_ne_true, fun _ => last⟩
    have two : wSeq (wIfS (wAnd (wT (wOp wEq (wVar 4) (wC (.int 3)))) (wT (wOp (wOrd (fun i j => decide (j < i)) fun i j => sLt j i) (wOp wIx (wVar 2) (wC (.int 2))) (wC (.int 0)))))
          (wSeq (wAsg (wOp (wII HSub.hSub) (wOp wIx (wVar 2) (wC (.int 2))) (wC (.int 1))) (wGSub (wVar 2) (wC (.int 2)))) (wRet (wTup (wCons (wC (.str "@")) (wCons (wCall (Hd spNm) (wCons (wVar 0) (wCons (wVar 1) wNil))) wNil))))) wNext)
        (wSeq (wIfS (wAnd (wT (wOp (wOrd (fun i j => decide (j < i)) fun i j => sLt j i) (wVar 4) (wC (.int 4)))) (wT (wOp (wOrd (fun i j => decide (j < i)) fun i j => sLt j i) (wOp wIx (wVar 2) (wC (.int 1))) (wC (.int 0)))))
        (wRet (wCall (Hd spTx) (wCons (wVar 0) (wCons (wVar 2) wNil)))) wNext) (wRet (wTup (wCons (wC (.str "#")) (wCons (wCall (Hd spNm) (wCons (wVar 0) (wCons (wVar 1) wNil))) wNil)))))
        { nx := fun _ S' => FgI Q .non S', rt := FgI Q } [some (.ref p), some (.ref nl), some (.ref g), some (.int dep), some (.int so)] S1 := by
      walk_at "w"
      walk_at "two"
      · walk_at "go"
        walk_at "two"
        · rename_i h
          have h := of_decide_eq_true h
          walk_at "w"
          refine ⟨_, g1, ?_⟩
          walk_at "w"
          refine ⟨_, 2, g1, rfl, ?_⟩
          refine nm_go (p1.eq (put_ne B0.gp.symm)) (by omega) ((put_ne B0.gn.symm).trans n1) B0.ny (by omega) fun x S2 hx p2 n2 o2 => ?_
          refine named x S2 (.ref x) (b2 - 1) hx p2 n2 ((k1.at mem3).trans (o2.kp.mono fun a z => by
            rcases List.mem_cons.mp z with e | e
            · rw [e]; exact List.mem_cons_self
            · rw [List.mem_singleton.mp e]; exact mem2)) ((o2 g (notin2 B0.gp B0.gn)).trans put_same) (by omega) (.ref hx) rfl rfl (by show (1 : Int) + (b2 - 1) ≤ b2; omega)
        · exact three
      · walk_at "w"
        exact ⟨fun h => absurd (show false = true from h) Bool.false_ne_true, fun _ => three⟩
    walk_at "w"
    walk_at "two"
    · walk_at "w"
      refine ⟨_, g1, ?_⟩
      walk_at "w"
      walk_at "two"
      · rename_i h
        have h : dep ≤ b3 := of_decide_eq_true h
        walk_at "w"
        refine pt_go B1 (by omega) hd (by omega) fun k ms is zs c0 c1 c2 S2 ok co cl zo zl p2 n2 g2 o2 => ?_
        refine fg_off (off3 o2) fun S3 f1 f2 => q _ zs c0 c1 c2 S3 ok ⟨?_, co.t, co.r, co.p0, co.p1, co.p2⟩ cl zo (by omega) ((p2.eq (f2 p List.mem_cons_self)).mono (by omega)) ((f2 nl mem2).trans n2) ((f2 g mem3).trans g2) f1
        have := co.n
        show ((1 + cnts is : Nat) : Int) + c0 ≤ b0 + 1
        omega
      · exact two
    · walk_at "w"
      exact ⟨fun h => absurd (show false = true from h) Bool.false_ne_true, fun _ => two⟩⟩
end
end K10
set_option Elab.async false
set_option linter.all false
set_option maxRecDepth 100000
set_option maxHeartbeats 4000000
set_option synthInstance.maxHeartbeats 4000000
set_option synthInstance.maxSize 100000
namespace K10
open PySem PySem.Spec PyProof.Rows L2 Wl
local macro_rules | `(tactic| walk_at "w") => `(tactic| (conv => whnf))
/-! what a store holds -/
local macro_rules | `(tactic| walk_at "ne") => `(tactic| first | assumption | (apply Ne.symm; assumption) | exact ne_free (by assumption) (by assumption) | exact (ne_free (by assumption) (by assumption)).symm | exact Pl.ne (by assumption) (by assumption) | exact (Pl.ne (by assumption) (by assumption)).symm)
local macro_rules | `(tactic| walk_at "s") => `(tactic| first
  | exact put_same
  | assumption
  | (refine (put_ne ?_).trans ?_; (· walk_at "ne"); (· walk_at "s")))
/-! a side condition -/
local macro_rules | `(tactic| walk_at "c") => `(tactic| first
  | exact Or.inl (Or.inl ⟨by omega, by omega⟩)
  | exact Or.inl (Or.inr ⟨by omega, by omega⟩)
  | exact Or.inl ⟨by omega, by omega⟩
  | exact Or.inl ⟨rfl, _, by walk_at "s"⟩
  | rfl
  | omega
  | decide
  | exact Nat.le_trans (by omega) sizeLine_ge)
/-! one question is answered, if the answer is plain -/
local macro_rules | `(tactic| walk_at "g1") => `(tactic| first
  | refine ⟨fun _ => ?_, fun h => absurd (show true = false from h) (by decide)⟩
  | refine ⟨fun h => absurd (show false = true from h) Bool.false_ne_true, fun _ => ?_⟩
  | refine ⟨_, by walk_at "s", ?_⟩
  | refine ⟨_, _, by walk_at "s", by walk_at "s", ?_⟩
  | refine ⟨_, by walk_at "s", by simpa using (by omega), ?_⟩
  | refine ⟨_, rfl, ?_⟩
  | refine ⟨_, _, rfl, (by first | exact isTy_tt | exact isTy_ii | exact isTy_ll | exact isTy_ss | exact isTy_ib | exact isTy_tb | exact isTy_ti | exact isTy_ts | exact isTy_tl | exact isTy_lb | exact isTy_li | exact isTy_ls | exact isTy_lt | exact isTy_sb | exact isTy_si | exact isTy_st | exact isTy_sl | exact isTy_is | exact isTy_it | exact isTy_il | exact isTy_bi | exact isTy_bs | exact isTy_bb), ?_⟩
  | refine ⟨_, _, tyName_lst (by walk_at "s"), (by first | exact isTy_ll | exact isTy_lb | exact isTy_li | exact isTy_ls | exact isTy_lt), ?_⟩
  | refine ⟨by walk_at "c", ?_⟩)
local macro_rules | `(tactic| walk_at "go") => `(tactic| (walk_at "w"; repeat (walk_at "g1"; walk_at "w")))
/-! a branch that cannot be -/
local macro_rules | `(tactic| walk_at "two") => `(tactic| refine ⟨fun h => ?_, fun h => ?_⟩)
section
variable {P : Program} {w : World} {K : PySem.W.Frag} {mg : Str → Option Value} {base : Heap} {ec : Cls}
theorem cnts_set {a : Itm} (h : a.cnt = 1) : ∀ (its : List Itm) (k : Nat), cnts (its.set k a) ≤ cnts its
  | [], _ => Nat.le_refl _
  | i :: its, 0 => by
    rw [List.set_cons_zero, cnts_cons, cnts_cons]
    have := cnt_pos i
    omega
  | i :: its, k + 1 => by
    have := cnts_set h its k
    rw [List.set_cons_succ, cnts_cons, cnts_cons]
    omega
theorem charss_set {a : Itm} (h : a.chars = 0) : ∀ (its : List Itm) (k : Nat), charss (its.set k a) ≤ charss its
  | [], _ => Nat.le_refl _
  | i :: its, 0 => by
    rw [List.set_cons_zero, charss_cons, charss_cons]
    omega
  | i :: its, k + 1 => by
    have := charss_set h its k
    rw [List.set_cons_succ, charss_cons, charss_cons]
    omega
theorem refss_set {a : Itm} (h : a.refs = 0) : ∀ (its : List Itm) (k : Nat), refss (its.set k a) ≤ refss its
  | [], _ => Nat.le_refl _
  | i :: its, 0 => by
    rw [List.set_cons_zero, refss_cons, refss_cons]
    omega
  | i :: its, k + 1 => by
    have := refss_set h its k
    rw [List.set_cons_succ, refss_cons, refss_cons]
    omega
theorem itmsW_app (a b : List Itm) : itmsW (a ++ b) = itmsW a ++ itmsW b := by rw [itmsW_map, itmsW_map, itmsW_map, List.map_append]
theorem itmsW_len (a : List Itm) : (itmsW a).length = a.length := by rw [itmsW_map, List.length_map]
theorem itmsW_set (a : List Itm) (k : Nat) (i : Itm) : itmsW (a.set k i) = (itmsW a).set k i.w := by rw [itmsW_map, itmsW_map, List.map_set]
/-- the first item once more -/
def dupI : Itm → Bool
  | .lab _ => true
  | .part _ _ [] => true
  | _ => false
theorem dup_one {a : Itm} (h : dupI a = true) : a.cnt = 1 ∧ a.chars = 0 ∧ a.refs = 0 := by
  cases a with
  | text x => cases h
  | ref x => cases h
  | lab x => exact ⟨rfl, rfl, rfl⟩
  | part k ms is =>
    cases is with
    | nil => exact ⟨rfl, rfl, rfl⟩
    | cons i is => cases h
theorem strOk_of {x : Str} (h : ∀ c ∈ tl x, c < 1114112) : PyData.strOk x = true := by
  unfold PyData.strOk
  rw [← Array.all_toList, List.all_eq_true]
  exact fun c hc => decide_eq_true (h c hc)
theorem NameOk.str {x : Str} (h : NameOk x) : PyData.strOk x = true := strOk_of fun c hc => by have := h.2.2 c hc; omega
theorem TextOk.str {x : Str} (h : TextOk x) : PyData.strOk x = true := strOk_of fun c hc => by have := textAbc_all c (h.2.2 c hc); omega
theorem shN_pair {n : Nat} {a b : W} (ha : shN n a) (hb : shN n b) : shN (n + 1) (.tup [a, b]) := shN_tup fun w hw => by
  rw [List.mem_cons, List.mem_cons] at hw
  rcases hw with rfl | rfl | hw
  · exact ha
  · exact hb
  · cases hw
theorem ItmOk.sh {m d : Nat} {i : Itm} (h : ItmOk m d i) : shN (2 * d + 1) i.w := by
  induction h with
  | text h => exact shN_up (shN_str (TextOk.str h)) (by omega)
  | lab h => exact shN_up (shN_pair (shN_str (by decide +kernel)) (shN_str (NameOk.str h))) (by omega)
  | ref h => exact shN_up (shN_pair (shN_str (by decide +kernel)) (shN_str (NameOk.str h))) (by omega)
  | @part d k ms is h1 h2 h3 h4 h5 ih =>
    have e : (Itm.part k ms is).w = .tup [.str k, .tup (ms.map W.str), .tup (itmsW is)] := by simp only [Itm.w]
    rw [e]
    refine shN_tup (n := 2 * d + 2) fun w hw => ?_
    rw [List.mem_cons, List.mem_cons, List.mem_cons] at hw
    rcases hw with rfl | rfl | rfl | hw
    · exact shN_up (shN_str (NameOk.str h1)) (by omega)
    · refine shN_up (shN_tup (n := 0) fun w hw => ?_) (by omega)
      obtain ⟨y, hy, rfl⟩ := List.mem_map.mp hw
      exact shN_str (NameOk.str (h2.name y hy))
    · refine shN_tup (n := 2 * d + 1) fun w hw => ?_
      rw [itmsW_map] at hw
      obtain ⟨y, hy, rfl⟩ := List.mem_map.mp hw
      exact ih y hy
    · cases hw
theorem hash_no {k : Str} (h : NameOk k) : k ≠ ("#" : Str) := fun e => by
  have := h.2.2 35 (by rw [e]; decide +kernel)
  omega
theorem ok__law_part (T : Txt K mg ec) (d j : Nat) (hj : 4 ≤ j) (hd30 : d ≤ 30) (c__law_take : CalW P w K mg base 1 "_law_take" (Hd spTk)) (c__law_name : CalW P w K mg base 3 "_law_name" (Hd spNm)) (c__law_marks : CalW P w K mg base 4 "_law_marks" (Hd spMk)) (c__law_item : CalW P w K mg base j "_law_item" (Hd (spIt d)))
    (dd : DefAt K mg "_law_part" s__law_part ["_law_pool_here", "_law_names", "_law_budget", "_law_depth"]) : CalW P w K mg base (j + 1) "_law_part" (spPt (d + 1)) :=
  have c__law_take := c__law_take.mono (k := j) (by omega)
  have c__law_name := c__law_name.mono (k := j) (by omega)
  have c__law_marks := c__law_marks.mono hj
  calDI dd sc__law_part (fun ws S Q ⟨p, nl, g, N, b0, b1, b2, b3, b4, dep, ys, e, _⟩ => by rw [e]; rfl) fun f cdv A outer s H E hr => ⟨_, _,
    (pss_cons (ps_set (i := 4) sc__law_part.nd rfl (Or.inl rfl) (k_w K c__law_name hr (Nat.le_refl _) rfl (pa_cons (pv 0) (pa_cons (pv 1) pa_nil))))
      (pss_cons (ps_set (i := 5) sc__law_part.nd rfl (Or.inl rfl) (k_w K c__law_marks hr (Nat.le_refl _) rfl (pa_cons (pv 0) (pa_cons (pv 1) pa_nil))))
      (pss_cons (ps_set (i := 6) sc__law_part.nd rfl (Or.inl rfl) (k_w K c__law_take hr (Nat.le_refl _) rfl (pa_cons (pv 0) (pa_cons pe_int pa_nil))))
      (pss_mid (ps_if (pt_cmpR (k_eq K hr.units) (pv 6) pe_int (nomark _))
       (pss_one (ps_set (i := 6) sc__law_part.nd rfl (Or.inl rfl) (k_w K c__law_take hr (Nat.le_refl _) rfl (pa_cons (pv 0) (pa_cons (pe_op (k_addB K) (pe_ix (k_ix K) (pv 2) pe_int (fun _ _ => rfl)) pe_int) pa_nil)))))
       pss_nil)
      (pss_cons (ps_set (i := 6) sc__law_part.nd rfl (Or.inl rfl) (pe_callB (call_min2 rfl) (by rfl) T.b_min (by decide +kernel) (pa_cons (pe_callTy call_int1 (by rfl) T.b_int (by decide +kernel) (pa_cons (pv 6) pa_nil)) (pa_cons (pe_ix (k_ix K) (pv 2) pe_int (fun _ _ => rfl)) pa_nil))))
      (pss_cons (ps_asg (pe_op op_sub (pe_ix (k_ix K) (pv 2) pe_int (fun _ _ => rfl)) (pv 6)) (pg_sub (pv 2) pe_int set_list))
      (pss_cons (ps_set (i := 7) sc__law_part.nd rfl (Or.inl rfl) (pe_lst pa_nil))
      (pss_cons (ps_for PassesOwn.never rfl (pi_range1 rfl T.b_range (pa_cons (pv 6) pa_nil)) (pg_name (i := 8) sc__law_part.nd rfl (Or.inl rfl))
       (pss_one (ps_expr (k_bm K PySem.F.plainAttrs_list PySem.F.slot_list_append PySem.F.type_list_append mt_append (pv 7) (pa_cons (k_w K c__law_item hr (Nat.le_refl _) rfl (pa_cons (pv 0) (pa_cons (pv 1) (pa_cons (pv 2) (pa_cons (pe_op (k_addB K) (pv 3) pe_int) pa_nil))))) pa_nil)))))
      (pss_mid (ps_if (PW.pt (pw_and (pt_cmpR op_gtA (pv 6) pe_int (nomark _)) (pw_and (pt_cmpR (k_eq K hr.units) (pe_ix (k_ix K) (pv 0) pe_int (fun _ _ => rfl)) pe_int (nomark _)) (pw_and1 (pt_cmpR (k_eq K hr.units) (pe_op op_mod (pe_callB (k_len K) (by rfl) T.b_len (by decide +kernel) (pa_cons (pv 1) pa_nil)) pe_int) pe_int (nomark _))))))
       (pss_one (ps_if (PW.pt (pw_or (pt_cmpR (k_eq K hr.units) (pe_ix (k_ix K) (pe_ix (k_ix K) (pv 7) pe_int (fun _ _ => rfl)) pe_int (fun _ _ => rfl)) pe_str (nomark _)) (pw_or1 (pt_cmpR (k_eq K hr.units) (pe_slice (k_sl K) (pe_ix (k_ix K) (pv 7) pe_int (fun _ _ => rfl)) (po_some pe_int) po_none) (pe_tup (pa_cons (pe_tup pa_nil) pa_nil)) (nomark _)))))
        (pss_one (ps_asg (pe_ix (k_ix K) (pv 7) pe_int (fun _ _ => rfl)) (pg_sub (pv 7) (pe_op op_sub (pv 6) pe_int) set_list)))
        pss_nil))
       pss_nil)
      (pss_one (ps_ret (pe_tup (pa_cons (pv 4) (pa_cons (pv 5) (pa_cons (pe_callTy (k_tuple K) (by rfl) T.b_tuple (by decide +kernel) (pa_cons (pv 7) pa_nil)) pa_nil))))))))))))))), inferInstance, by
    rintro ws S Q ⟨p, nl, g, N, b0, b1, b2, b3, b4, dep, ys, rfl, B0, sn, hd, hd1, q⟩
    have hne := pool_names B0.hp B0.hn
    have s0 := B0.p0
    have s1 := B0.p1
    have s2 := B0.p2
    have s3 := B0.sy
    have s4 := B0.p4
    have s5 := B0.l4
    have s6 := B0.l0
    have sub2 : ∀ a ∈ [p, nl], a ∈ [p, nl, g] := fun a z => by
      rcases List.mem_cons.mp z with e | e
      · rw [e]; exact List.mem_cons_self
      · rw [List.mem_singleton.mp e]; exact mem2
    have sub1 : ∀ a ∈ [p], a ∈ [p, nl, g] := fun a z => by rw [List.mem_singleton.mp z]; exact List.mem_cons_self
    walk_at "w"
    refine nm_go B0.hp (by omega) B0.hn B0.ny (by omega) fun x S1 hx p1 n1 o1 => ?_
    have g1 := (o1 g (notin2 B0.gp B0.gn)).trans B0.hg
    have k1 : KpL [p, nl, g] S S1 := o1.kp.mono sub2
    have ny1 : ∀ y ∈ ys ++ [x], NameOk y := fun y h => by
      rcases List.mem_append.mp h with h | h
      · exact B0.ny y h
      · rw [List.mem_singleton] at h; rw [h]; exact hx
    walk_at "w"
    refine mk_go p1 (by omega) n1 ny1 (by rw [List.length_append]; show _ + 1 < _; omega) fun ms zs S2 hm ml zl zo p2 n2 o2 => ?_
    have g2 := (o2 g (notin2 B0.gp B0.gn)).trans g1
    have k2 := k1.trans (o2.kp.mono sub2)
    walk_at "w"
    refine tk_go p2 (by omega) (by decide) (by decide) fun m S3 m0 m1 p3 o3 => ?_
    have n3 := (o3 nl (notin1 hne)).trans n2
    have g3 : S3 g = some (.lst [.int b0, .int b1, .int b2, .int b3, .int b4]) := (o3 g (notin1 B0.gp)).trans g2
    have k3 := k2.trans (o3.kp.mono sub1)
    walk_at "w"
    refine mid_q (fun ρ' S' => ∃ m, ρ' = [some (.ref p), some (.ref nl), some (.ref g), some (.int dep), some (.str x), some (.tup (ms.map W.str)), some (.int m), none, none] ∧ 0 ≤ m ∧ m ≤ b4 ∧ Pl S' p (N + 83) ∧
      S' nl = some (.lst ((ys ++ [x] ++ zs).map W.str)) ∧ S' g = some (.lst [.int b0, .int b1, .int b2, .int b3, .int b4]) ∧ KpL [p, nl, g] S S') ?_ ?_
    · walk_at "w"
      walk_at "two"
      · walk_at "w"
        refine ⟨_, g3, ?_⟩
        refine tk_go p3 (by omega) (by show (0 : Int) < b4 + 1; omega) (by show b4 + 1 < 2 ^ 64; omega) fun m S4 m0 m1 p4 o4 => ?_
        have m1 : m < b4 + 1 := m1
        exact ⟨m, rfl, m0, by omega, p4.mono (by omega), (o4 nl (notin1 hne)).trans n3, (o4 g (notin1 B0.gp)).trans g3, k3.trans (o4.kp.mono sub1)⟩
      · rename_i h
        have h := of_decide_eq_false h
        exact ⟨m, rfl, m0, by omega, p3.mono (by omega), n3, g3, k3⟩
    clear k3 g3 n3 p3 o3 m0 m1 m S3
    rintro ρ' S3 ⟨m, rfl, m0, m1, p3, n3, g3, k3⟩
    walk_at "w"
    refine ⟨_, g3, ?_⟩
    walk_at "w"
    refine ⟨_, g3, ?_⟩
    obtain ⟨u, eu⟩ : ∃ u : Int, (if b0 < m then b0 else m) = u := ⟨_, rfl⟩
    have hu : 0 ≤ u ∧ u ≤ b0 ∧ u ≤ b4 := by rw [← eu]; split <;> omega
    walk_at "w"
    refine ⟨_, 0, g3, rfl, ?_⟩
    intro L hL
    have hL3 : S3 L = none := (put_ne (ne_free (c := .lst [.int (b0 - (if b0 < m then b0 else m)), .int b1, .int b2, .int b3, .int b4]) put_same hL)).symm.trans hL
    have hLp := p3.ne hL3
    have hLn := ne_free n3 hL3
    have hLg := ne_free g3 hL3
    have hLS := k3.free hL3 (notin3 hLp hLn hLg)
    have T0 : ∃ T : Sto, T = put (put S3 g (.lst [.int (b0 - u), .int b1, .int b2, .int b3, .int b4])) L (.lst []) := ⟨_, rfl⟩
    obtain ⟨T0, eT⟩ := T0
    have t1 : T0 p = S3 p := by rw [eT, put_ne hLp.symm, put_ne B0.gp.symm]
    have t2 : T0 nl = some (.lst ((ys ++ [x] ++ zs).map W.str)) := by rw [eT, put_ne hLn.symm, put_ne B0.gn.symm]; exact n3
    have t3 : T0 g = some (bud (b0 - u) b1 b2 b3 b4) := by rw [eT, put_ne hLg.symm]; exact put_same
    have t4 : T0 L = some (.lst (itmsW [])) := by rw [eT]; exact put_same
    have t5 : KpL [p, nl, g] S T0 := by rw [eT]; exact (k3.at mem3).own hLS
    change wName 7 (.ref L) [some (.ref p), some (.ref nl), some (.ref g), some (.int dep), some (.str x), some (.tup (ms.map W.str)), some (.int (if b0 < m then b0 else m)), none, none]
      (put (put S3 g (.lst [.int (b0 - (if b0 < m then b0 else m)), .int b1, .int b2, .int b3, .int b4])) L (.lst [])) _
    rw [eu, ← eT]
    clear eT hL eu
    walk_at "w"
    refine ⟨by omega, by omega, ?_⟩
    refine for_q (fun i ρ' S' => ∃ (kk : Option W) (its : List Itm) (zt : List Str) (c0 c1 c2 : Int), ρ' = [some (.ref p), some (.ref nl), some (.ref g), some (.int dep), some (.str x), some (.tup (ms.map W.str)), some (.int u), some (.ref L), kk] ∧
        S' L = some (.lst (itmsW its)) ∧ its.length = i ∧ (i : Int) ≤ u ∧ (∀ a ∈ its, ItmOk b4.toNat d a) ∧ Cost (cnts its) (charss its) (refss its) (b0 - u + i) b1 b2 c0 c1 c2 ∧ c0 ≤ b0 - u ∧ (∀ y ∈ zt, NameOk y) ∧ (zt.length : Int) ≤ 20 * (b0 - u + i - c0) ∧
        Pl S' p (N + 83 + 300 * (b0 - u + i - c0)) ∧ S' nl = some (.lst ((ys ++ [x] ++ zs ++ zt).map W.str)) ∧ S' g = some (bud c0 c1 c2 b3 b4) ∧ KpL [p, nl, g] S S')
      ⟨none, [], [], b0 - u, b1, b2, rfl, t4, rfl, by omega, (fun _ h => by cases h), ⟨by rw [cnts_nil]; omega, by rw [charss_nil]; omega, by rw [refss_nil]; omega, by omega, s1, s2⟩, Int.le_refl _, (fun _ h => by cases h), by show (0 : Int) ≤ _; omega,
        (p3.eq t1).mono (by omega), by rw [List.append_nil]; exact t2, t3, t5⟩ (fun _ _ _ _ => trivial) ?_ ?_
    · rintro i w ρ' S4 e ⟨kk, its, zt, c0, c1, c2, rfl, h1, hl, hi, hok, hc, hc0, hz, hzl, p4, n4, g4, k4⟩
      obtain ⟨hi2, rfl⟩ := intsW_at e
      have hi3 : (i : Int) < u := by
        have : i < u.toNat := hi2
        omega
      have cc := hc.p0
      have ct := hc.p1
      have cr := hc.p2
      have cm := hc.n
      have cmt := hc.t
      have cmr := hc.r
      have ly : ((ys ++ [x] ++ zs ++ zt).length : Int) = (ys.length : Int) + 1 + zs.length + zt.length := by
        rw [List.length_append, List.length_append, List.length_append]; simp only [List.length_singleton]; omega
      have B4 : Bud p nl g (N + 83 + 300 * (b0 - u + i - c0)) c0 c1 c2 b3 b4 (ys ++ [x] ++ zs ++ zt) S4 := ⟨p4, n4, g4, B0.gp, B0.gn, fun y h => by
        rcases List.mem_append.mp h with h | h
        · rcases List.mem_append.mp h with h | h
          · exact ny1 y h
          · exact zo y h
        · exact hz y h, cc, ct, cr, by have := B0.l1; omega, s4, s5, by omega, by rw [ly]; omega⟩
      walk_at "w"
      refine ⟨.inl ⟨rfl, _, h1⟩, ?_⟩
      walk_at "w"
      refine it_go B4 (by omega) (by omega) fun it zu e0 e1 e2 S5 ok co el zo2 zl2 p5 n5 g5 o5 => ?_
      have h5 := (o5 L (notin3 hLp hLn hLg)).trans h1
      have k5 := k4.trans o5.kp
      have co0 := co.p0
      have con := co.n
      have cot := co.t
      have cor := co.r
      walk_at "w"
      refine ⟨_, h5, ?_, _, its ++ [it], zt ++ zu, e0, e1, e2, rfl, ?_, by rw [List.length_append, hl]; rfl, by omega, ?_, ⟨?_, ?_, ?_, co.p0, co.p1, co.p2⟩, by omega, ?_, ?_, (p5.eq (put_ne hLp.symm)).mono (by omega), ?_, (put_ne hLg.symm).trans g5, k5.own hLS⟩
      · rw [itmsW_len, hl]
        exact Nat.lt_of_lt_of_le (show i < 1000 by omega) sizeLine_ge
      · rw [itmsW_app]
        exact put_same
      · intro a h
        rcases List.mem_append.mp h with h | h
        · exact hok a h
        · rw [List.mem_singleton] at h; rw [h]; exact ok
      · rw [cnts_app, cnts_cons, cnts_nil]; omega
      · rw [charss_app, charss_cons, charss_nil]; omega
      · rw [refss_app, refss_cons, refss_nil]; omega
      · intro y h
        rcases List.mem_append.mp h with h | h
        · exact hz y h
        · exact zo2 y h
      · rw [List.length_append]; omega
      · rw [put_ne hLn.symm, n5, ← List.append_assoc]
    rintro ρ' S4 ⟨kk, its, zt, c0, c1, c2, rfl, h1, hl, hi, hok, hc, hc0, hz, hzl, p4, n4, g4, k4⟩
    rw [intsW_len] at hl hc hzl p4 hi
    have eu3 : ((u.toNat : Nat) : Int) = u := by omega
    rw [eu3] at hc hzl p4
    have cc := hc.p0
    have cm := hc.n
    have cmt := hc.t
    have cmr := hc.r
    walk_at "w"
    refine mid_q (fun ρ' S' => ∃ (its' : List Itm), ρ' = [some (.ref p), some (.ref nl), some (.ref g), some (.int dep), some (.str x), some (.tup (ms.map W.str)), some (.int u), some (.ref L), kk] ∧
        S' L = some (.lst (itmsW its')) ∧ its'.length = its.length ∧ (∀ a ∈ its', ItmOk b4.toNat d a) ∧ cnts its' ≤ cnts its ∧ charss its' ≤ charss its ∧ refss its' ≤ refss its ∧
        Pl S' p (N + 83 + 300 * (b0 - c0)) ∧ S' nl = some (.lst ((ys ++ [x] ++ zs ++ zt).map W.str)) ∧ S' g = some (bud c0 c1 c2 b3 b4) ∧ KpL [p, nl, g] S S') ?_ ?_
    · have no : ∃ (its' : List Itm), ([some (.ref p), some (.ref nl), some (.ref g), some (.int dep), some (.str x), some (.tup (ms.map W.str)), some (.int u), some (.ref L), kk] : StW) = [some (.ref p), some (.ref nl), some (.ref g), some (.int dep), some (.str x), some (.tup (ms.map W.str)), some (.int u), some (.ref L), kk] ∧
        S4 L = some (.lst (itmsW its')) ∧ its'.length = its.length ∧ (∀ a ∈ its', ItmOk b4.toNat d a) ∧ cnts its' ≤ cnts its ∧ charss its' ≤ charss its ∧ refss its' ≤ refss its ∧
        Pl S4 p (N + 83 + 300 * (b0 - c0)) ∧ S4 nl = some (.lst ((ys ++ [x] ++ zs ++ zt).map W.str)) ∧ S4 g = some (bud c0 c1 c2 b3 b4) ∧ KpL [p, nl, g] S S4 :=
        ⟨its, rfl, h1, rfl, hok, Nat.le_refl _, Nat.le_refl _, Nat.le_refl _, p4.mono (by omega), n4, g4, k4⟩
      obtain ⟨pc, pn, pb, ps, pe, _⟩ := id p4
      walk_at "w"
      walk_at "two"
      · rename_i hu1
        have hu1 : 1 < u := of_decide_eq_true hu1
        obtain ⟨a, rest, rfl⟩ : ∃ a rest, its = a :: rest := by
          cases its with
          | nil => rw [List.length_nil] at hl; omega
          | cons a rest => exact ⟨a, rest, rfl⟩
        have h1' : S4 L = some (.lst (a.w :: itmsW rest)) := h1
        walk_at "w"
        refine ⟨_, pe, ?_⟩
        walk_at "w"
        walk_at "two"
        · walk_at "w"
          refine ⟨_, n4, (by show (0 : Int) < 3; decide), ?_⟩
          walk_at "w"
          walk_at "two"
          · walk_at "w"
            refine ⟨_, h1', ?_⟩
            refine rdAt_ok (show atI (a.w :: itmsW rest) 0 = some a.w from atI_nat (j := 0) rfl) ?_
            have hj1 : u.toNat - 1 < (a :: rest).length := by omega
            have jx : ixN (a.w :: itmsW rest).length (u - 1) = some (u.toNat - 1) := by
              have e1 : (a.w :: itmsW rest).length = (a :: rest).length := itmsW_len (a :: rest)
              unfold ixN
              rw [e1, if_pos (by omega), if_pos (by omega)]
              rw [show (u - 1).toNat = u.toNat - 1 by omega]
            have yes : dupI a = true → ∃ (its' : List Itm), ([some (.ref p), some (.ref nl), some (.ref g), some (.int dep), some (.str x), some (.tup (ms.map W.str)), some (.int u), some (.ref L), kk] : StW) = [some (.ref p), some (.ref nl), some (.ref g), some (.int dep), some (.str x), some (.tup (ms.map W.str)), some (.int u), some (.ref L), kk] ∧
              (put S4 L (.lst ((a.w :: itmsW rest).set (u.toNat - 1) a.w))) L = some (.lst (itmsW its')) ∧ its'.length = (a :: rest).length ∧ (∀ a ∈ its', ItmOk b4.toNat d a) ∧ cnts its' ≤ cnts (a :: rest) ∧ charss its' ≤ charss (a :: rest) ∧ refss its' ≤ refss (a :: rest) ∧
              Pl (put S4 L (.lst ((a.w :: itmsW rest).set (u.toNat - 1) a.w))) p (N + 83 + 300 * (b0 - c0)) ∧ (put S4 L (.lst ((a.w :: itmsW rest).set (u.toNat - 1) a.w))) nl = some (.lst ((ys ++ [x] ++ zs ++ zt).map W.str)) ∧
              (put S4 L (.lst ((a.w :: itmsW rest).set (u.toNat - 1) a.w))) g = some (bud c0 c1 c2 b3 b4) ∧ KpL [p, nl, g] S (put S4 L (.lst ((a.w :: itmsW rest).set (u.toNat - 1) a.w))) := fun h => by
              obtain ⟨q1, q2, q3⟩ := dup_one h
              refine ⟨(a :: rest).set (u.toNat - 1) a, rfl, ?_, by rw [List.length_set], ?_, cnts_set q1 _ _, charss_set q2 _ _, refss_set q3 _ _, (p4.eq (put_ne hLp.symm)).mono (by omega), (put_ne hLn.symm).trans n4, (put_ne hLg.symm).trans g4, k4.own hLS⟩
              · rw [put_same, itmsW_set]
                rfl
              · intro b hb
                rcases List.mem_or_eq_of_mem_set hb with h | h
                · exact hok b h
                · rw [h]; exact hok a List.mem_cons_self
            have ha := hok a List.mem_cons_self
            cases a with
            | text y =>
              cases ha with
              | text hy =>
                obtain ⟨c, cs, ec⟩ : ∃ c cs, tl y = c :: cs := by
                  cases ht : tl y with
                  | nil => have := hy.1; rw [ht, List.length_nil] at this; omega
                  | cons c cs => exact ⟨c, cs, rfl⟩
                have hc35 := textAbc_all c (hy.2.2 c (by rw [ec]; exact List.mem_cons_self))
                have ylen : y.length ≤ sizeLine := by rw [← tl_len]; exact Nat.le_trans (by have := hy.2.1; omega) sizeLine_ge
                walk_at "w"
                refine ⟨ylen, c, atI_nat (j := 0) (by show (tl y)[0]? = _; rw [ec]; rfl), ?_⟩
                walk_at "w"
                walk_at "two"
                · rename_i h
                  have h := of_decide_eq_true h
                  have h2 : tl ⟨#[c]⟩ = tl "#" := by rw [h]
                  rw [show tl ("#" : Str) = [35] by decide +kernel, tl_one] at h2
                  have h3 : c = 35 := by simpa using h2
                  omega
                · walk_at "w"
                  refine ⟨_, h1', ?_⟩
                  refine rdAt_ok (show atI (_ :: itmsW rest) 0 = some _ from atI_nat (j := 0) rfl) ?_
                  walk_at "w"
                  refine ⟨ylen, ?_⟩
                  walk_at "w"
                  refine ⟨shN_sh (n := 0) (shN_str (strOk_of fun z hz => ?_)) (by decide), shN_sh (n := 2) ⟨rfl, rfl, by decide⟩ (by decide), ?_⟩
                  · rw [cut_tl] at hz
                    unfold cutL at hz
                    have := textAbc_all z (hy.2.2 z (List.mem_of_mem_drop (List.mem_of_mem_take hz)))
                    omega
                  · exact ⟨fun h => absurd (show false = true from h) Bool.false_ne_true, fun _ => no⟩
            | lab y =>
              walk_at "w"
              refine ⟨fun _ => ?_, fun h => absurd (show true = false from h) (by decide)⟩
              refine ⟨fun _ => ?_, fun h => absurd (show true = false from h) (by decide)⟩
              walk_at "w"
              refine ⟨_, h1', ?_⟩
              refine rdAt_ok (show atI (_ :: itmsW rest) 0 = some _ from atI_nat (j := 0) rfl) ?_
              walk_at "w"
              exact ⟨_, _, h1', jx, yes rfl⟩
            | ref y =>
              cases ha with
              | ref hy =>
                walk_at "w"
                refine ⟨fun h => absurd (show false = true from h) Bool.false_ne_true, fun _ => ?_⟩
                walk_at "w"
                refine ⟨_, h1', ?_⟩
                refine rdAt_ok (show atI (_ :: itmsW rest) 0 = some _ from atI_nat (j := 0) rfl) ?_
                walk_at "w"
                have ec : cutL [W.str "@", W.str y] (some 2) none = [] := cut_from [W.str "@", W.str y] 2
                rw [ec]
                refine ⟨shN_sh (n := 1) ⟨rfl, rfl, by decide⟩ (by decide), shN_sh (n := 2) ⟨rfl, rfl, by decide⟩ (by decide), ?_⟩
                exact ⟨fun h => absurd (show false = true from h) Bool.false_ne_true, fun _ => no⟩
            | part k2 ms2 is2 =>
              have sh := ItmOk.sh ha
              cases ha with
              | part hk2 hm2 hl2 hc2 hi2 =>
                walk_at "w"
                walk_at "two"
                · rename_i h
                  exact absurd (of_decide_eq_true h) (hash_no hk2)
                · walk_at "w"
                  refine ⟨_, h1', ?_⟩
                  refine rdAt_ok (show atI (_ :: itmsW rest) 0 = some _ from atI_nat (j := 0) rfl) ?_
                  walk_at "w"
                  have ec : cutL [W.str k2, W.tup (ms2.map W.str), W.tup (itmsW is2)] (some 2) none = [W.tup (itmsW is2)] := cut_from [W.str k2, W.tup (ms2.map W.str), W.tup (itmsW is2)] 2
                  rw [ec]
                  refine ⟨shN_sh (n := 63) (shN_tup (n := 62) fun w hw => ?_) (by decide), shN_sh (n := 2) ⟨rfl, rfl, by decide⟩ (by decide), ?_⟩
                  · rw [List.mem_singleton] at hw
                    rw [hw]
                    refine shN_tup (n := 61) fun w hw => ?_
                    rw [itmsW_map] at hw
                    obtain ⟨b, hb, rfl⟩ := List.mem_map.mp hw
                    exact shN_up (hi2 b hb).sh (by omega)
                  · cases is2 with
                    | nil =>
                      refine ⟨fun _ => ?_, fun h => absurd (show true = false from h) (by decide)⟩
                      walk_at "w"
                      refine ⟨_, h1', ?_⟩
                      refine rdAt_ok (show atI (_ :: itmsW rest) 0 = some _ from atI_nat (j := 0) rfl) ?_
                      walk_at "w"
                      exact ⟨_, _, h1', jx, yes rfl⟩
                    | cons i2 is2 =>
                      exact ⟨fun h => absurd (show false = true from h) Bool.false_ne_true, fun _ => no⟩
          · exact no
        · exact ⟨fun h => absurd (show false = true from h) Bool.false_ne_true, fun _ => no⟩
      · walk_at "w"
        exact ⟨fun h => absurd (show false = true from h) Bool.false_ne_true, fun _ => no⟩
    rintro ρ' S5 ⟨its', rfl, h5, l5, ok5, e0, e1, e2, p5, n5, g5, k5⟩
    walk_at "w"
    refine ⟨_, h5, ?_⟩
    refine fg_off k5 fun S6 f1 f2 => q x ms its' ([x] ++ zs ++ zt) c0 c1 c2 S6 (.part hx hm ml (by omega) ok5) ⟨by omega, by omega, by omega, cc, hc.p1, hc.p2⟩ (by omega) ?_ ?_ ((p5.eq (f2 p List.mem_cons_self)).mono (by omega)) ?_ ((f2 g mem3).trans g5) f1
    · intro y h
      rcases List.mem_append.mp h with h | h
      · rcases List.mem_append.mp h with h | h
        · rw [List.mem_singleton] at h; rw [h]; exact hx
        · exact zo y h
      · exact hz y h
    · rw [List.length_append, List.length_append]
      simp only [List.length_singleton]
      omega
    · rw [f2 nl mem2, n5, List.append_assoc, List.append_assoc, List.append_assoc]⟩
end
end K10
set_option Elab.async false
set_option linter.all false
set_option maxRecDepth 100000
set_option maxHeartbeats 2000000
/-! Ifs over several tests: hidden until asked. -/
namespace Wl
open PySem PySem.Spec PyProof.Rows L2
variable {K : PySem.W.Frag} {B : Hp}
@[irreducible] def IfQ (c : TTW) (t u : TSW) : TSW := wIfS c t u
theorem IfQ_eq (c : TTW) (t u : TSW) : IfQ c t u = wIfS c t u := by unfold IfQ; rfl
instance (priority := high) ls_ifAnd {c1 c2 : TT} {t u : TS} {cw : TTW} {tw uw : TSW} [h : LT K B (tAnd c1 c2) cw] [a : LS K B t tw] [b : LS K B u uw] : LS K B (tIfS (tAnd c1 c2) t u) (IfQ cw tw uw) := by
  rw [IfQ_eq]; infer_instance
instance (priority := high) ls_ifOr {c1 c2 : TT} {t u : TS} {cw : TTW} {tw uw : TSW} [h : LT K B (tOr c1 c2) cw] [a : LS K B t tw] [b : LS K B u uw] : LS K B (tIfS (tOr c1 c2) t u) (IfQ cw tw uw) := by
  rw [IfQ_eq]; infer_instance
theorem if_q {c : TTW} {t u : TSW} {D : EndsW} {ρ : StW} {S : Sto} (h : wIfS c t u D ρ S) : IfQ c t u D ρ S := by rw [IfQ_eq]; exact h
/-- the tests change nothing -/
theorem if_ev {c : TTW} {t u : TSW} {D : EndsW} {ρ : StW} {S : Sto} (b : Bool) (h : EvW c ρ S b) (h1 : b = true → t D ρ S) (h2 : b = false → u D ρ S) : IfQ c t u D ρ S := by
  rw [IfQ_eq]; exact ifEv h h1 h2
theorem isTy_nb : isTy "NoneType" "bool" = some false := by decide +kernel
theorem isTy_ni : isTy "NoneType" "int" = some false := by decide +kernel
theorem isTy_ns : isTy "NoneType" "str" = some false := by decide +kernel
theorem isTy_nt : isTy "NoneType" "tuple" = some false := by decide +kernel
theorem isTy_nl : isTy "NoneType" "list" = some false := by decide +kernel
theorem isTy_bt : isTy "bool" "tuple" = some false := by decide +kernel
theorem isTy_bl : isTy "bool" "list" = some false := by decide +kernel
theorem isTy_td : isTy "tuple" "dict" = some false := by decide +kernel
theorem isTy_dd : isTy "dict" "dict" = some true := by decide +kernel
theorem OffL.trans1 {ps : List Addr} {S T U : Sto} (h : OffL ps S T) (g : OffL ps T U) : OffL ps S U := fun a ha => (g a ha).trans (h a ha)
end Wl
set_option Elab.async false
set_option linter.all false
set_option maxRecDepth 100000
set_option maxHeartbeats 2000000
/-! insert, str of a text, sorted texts. -/
namespace Wl
open PySem PySem.Spec PyProof.Rows L2
variable {K : PySem.W.Frag} {B : Hp}
/-! ### xs.insert(i, y), i not below 0 -/
def rInsA : V → List V → Hp → VK → Prop := fun x vs H Q => ∃ (l : Addr) (xs : List V) (i : Int) (y : V), x = .ref l ∧ vs = [.int i, y] ∧ H l = some (.lst xs) ∧ xs.length < sizeLine ∧ 0 ≤ i ∧ i < 2 ^ 63 ∧
    Q .non (upd H l (.lst (xs.take i.toNat ++ [y] ++ xs.drop i.toNat)))
theorem mt_insertA {X : Cx} : MtR X "list.insert" rInsA := mt_insert
def wInsA : W → List W → Sto → WK → Prop := fun x ws S Q => match x, ws with
  | .ref l, [.int i, y] => ∃ xs, S l = some (.lst xs) ∧ xs.length < sizeLine ∧ 0 ≤ i ∧ i < 2 ^ 63 ∧ Q .non (put S l (.lst (xs.take i.toNat ++ [y] ++ xs.drop i.toNat)))
  | _, _ => False
instance lm_insertA : LMR K rInsA wInsA := ⟨fun H S x wx xs ws Q Qw hh rx r q po => by
  unfold wInsA at q
  split at q
  · rename_i l i wy
    cases (show x = _ from rx)
    obtain ⟨y, ys, rfl, ry, r⟩ := r
    cases (show y = _ from ry)
    obtain ⟨z, rfl, rz⟩ := rep1 r
    obtain ⟨zs, e, hl, h0, h1, q⟩ := q
    obtain ⟨vs, g1, g2⟩ := hh _ _ e
    have t : Tk H (upd H _ (.lst (vs.take i.toNat ++ [z] ++ vs.drop i.toNat))) := Tk.mut g1 (fun _ z => (by cases z)) (fun _ _ z => (by cases z))
    obtain ⟨t, hm⟩ := hh.mut (c' := .lst _) (o := .lst (vs.take i.toNat ++ [z] ++ vs.drop i.toNat)) e ⟨_, upd_same, ((RepL.tk t _ _ (g2.take i.toNat)).append (.one (Rep.tk t _ _ rz))).append (RepL.tk t _ _ (g2.drop i.toNat))⟩
    exact ⟨_, vs, _, z, rfl, rfl, g1, by rw [g2.length]; exact hl, h0, h1, po.non t hm q⟩
  · exact q.elim⟩
/-! ### str(n), str(x) -/
def rStrA : List V → Hp → VK → Prop := fun xs H Q => (∃ i, xs = [.int i] ∧ i.natAbs.log2 < 1920 ∧ Q (.str (toString i)) H) ∨ ∃ a, xs = [.str a] ∧ Q (.str a) H
theorem call_strA {X : Cx} : CallR X (.type "str") rStrA := by
  intro pins s σ H xs us Q I r h
  rcases h with h | h
  · exact call_str_int pins s σ H xs us Q I r h
  · exact SkE.call_str_str pins s σ H xs us Q I r h
def wStrA : RWC := fun ws S Q => match ws with
  | [.int i] => i.natAbs.log2 < 1920 ∧ Q (.str (toString i)) S
  | [.str a] => Q (.str a) S
  | _ => False
instance lc_strA : LCR K rStrA wStrA := ⟨fun H S xs ws Q Qw hh r q po => by
  unfold wStrA at q
  split at q
  · obtain ⟨x, rfl, h1⟩ := rep1 r
    cases (show x = _ from h1)
    exact .inl ⟨_, rfl, q.1, po.str (Tk.refl H) hh q.2⟩
  · obtain ⟨x, rfl, h1⟩ := rep1 r
    cases (show x = _ from h1)
    exact .inr ⟨_, rfl, po.str (Tk.refl H) hh q⟩
  · exact q.elim⟩
/-! ### sorted(xs): ints, texts -/
def rSortA (K : PySem.W.Frag) : List V → Hp → VK → Prop := fun vs H Q => rSorted K vs H Q ∨ rSortedS K vs H Q
theorem k_sortA (K : PySem.W.Frag) {X : Cx} (hK : X.K = K := by rfl) : CallR X (.builtin "sorted") (rSortA K) := by
  intro pins s σ H xs us Q I r h
  subst hK
  rcases h with h | h
  · exact cr_sorted pins s σ H xs us Q I r h
  · exact cr_sortedS pins s σ H xs us Q I r h
def wSortA : RWC := fun vs S Q => match vs with
  | [.ref a] => (∃ ns : List Int, S a = some (.lst (ns.map W.int)) ∧ ns.length < 64 ∧ ∀ (ns' : List Int) p, ns'.Perm ns → ns'.Pairwise (· ≤ ·) → S p = none → Q (.ref p) (put S p (.lst (ns'.map W.int)))) ∨
      ∃ xs : List Str, S a = some (.lst (xs.map W.str)) ∧ xs.length < 64 ∧ ∀ (ys : List Str) p, ys.Perm xs → sortedS ys = true → S p = none → Q (.ref p) (put S p (.lst (ys.map W.str)))
  | _ => False
instance lc_sortA : LCR K (rSortA K) wSortA := ⟨fun H S xs ws Q Qw hh r q po => by
  unfold wSortA at q
  split at q
  · obtain ⟨x, rfl, h1⟩ := rep1 r
    cases (show x = _ from h1)
    rcases q with ⟨ns, e, hl, q⟩ | ⟨ns, e, hl, q⟩
    · obtain ⟨vs, g1, g2⟩ := hh _ _ e
      have g3 := g2.ints
      subst g3
      exact .inl ⟨_, ns, rfl, SqL.of g1, hl, fun ns' p h1 h2 hp => po.nlst hp hh RepL.ofInts fun p hp => q ns' p h1 h2 hp⟩
    · obtain ⟨vs, g1, g2⟩ := hh _ _ e
      have g3 := g2.strs
      subst g3
      exact .inr ⟨_, ns, rfl, SqL.of g1, hl, fun ns' p h1 h2 hp => po.nlst hp hh RepL.ofStrs fun p hp => q ns' p h1 h2 hp⟩
  · exact q.elim⟩
/-! ### a text times an int -/
def rMulS : R2 := fun x y H Q => ∃ a n, x = .str a ∧ y = .int n ∧ MulOk a n ∧ Q (.str (Txt.mul a n)) H
theorem op_mulS {X : Cx} : OpR X (binaryOp .Mult) rMulS := by
  intro pins s σ H x y v u Q I rx ry h
  obtain ⟨a, n, rfl, rfl, ok, q⟩ := h
  obtain ⟨t, rfl⟩ := rx
  obtain ⟨t2, rfl⟩ := ry
  exact SB.mul ok fun t' k => ⟨.str _, H, I.tok _, ⟨_, rfl⟩, q⟩
def wMulS : RW2 := fun x y S Q => match x, y with
  | .str a, .int n => MulOk a n ∧ Q (.str (Txt.mul a n)) S
  | _, _ => False
instance l2_mulS : L2R K rMulS wMulS := ⟨fun H S x y wx wy Q Qw hh rx ry q po => by
  unfold wMulS at q
  split at q
  · cases (show x = _ from rx)
    cases (show y = _ from ry)
    exact ⟨_, _, rfl, rfl, q.1, po.str (Tk.refl H) hh q.2⟩
  · exact q.elim⟩
end Wl
set_option Elab.async false
set_option linter.all false
set_option maxRecDepth 100000
set_option maxHeartbeats 2000000
/-! Truth of lists and tuples, ranges with a step, tuple targets in comprehensions, generators. -/
namespace Wl
open PySem PySem.Spec PyProof.Rows L2
variable {K : PySem.W.Frag} {B : Hp}
/-! ### truth -/
def tTruA (K : PySem.W.Frag) (ta : TE) : TT := fun σ H Q => ta σ H fun x H' => ∃ k, TruV K x H' k ∧ Q k H'
theorem k_truth (K : PySem.W.Frag) {X : Cx} {a : Expr} {ta : TE} (ha : PE X a ta) (he : ∀ whole, isTrue a X.env whole = (do let v ← whole; standAt a.pos; holding [v] (truthy v)) := by intro _; rfl) (hK : X.K = K := by rfl) : PT X a (tTruA K ta) := by
  subst hK; exact pt_truth ha he
def wTruA (t : TEW) : TTW := fun ρ S Q => t ρ S fun x S1 => match x with
  | .non => Q false S1
  | .bl k => Q k S1
  | .int i => Q (i != 0) S1
  | .str z => z.length ≤ sizeLine ∧ Q ((z.length : Int) != 0) S1
  | .tup ws => Q (!ws.isEmpty) S1
  | .rl ws => Q (!ws.isEmpty) S1
  | .ref a => ∃ ws, S1 a = some (.lst ws) ∧ Q (!ws.isEmpty) S1
  | _ => False
theorem RepL.isE {H : Hp} {ws : List W} {xs : List V} (r : RepL K H ws xs) : xs.isEmpty = ws.isEmpty := by
  have h := r.length
  cases xs <;> cases ws <;> first | rfl | (simp at h)
instance lt_truA {t : TE} {tw : TEW} [a : LE K B t tw] : LT K B (tTruA K t) (wTruA tw) := ⟨fun σ H ρ S Q Qw hs hh q po =>
  a.l σ H ρ S _ _ hs hh q fun x H1 wx S1 t1 hh1 r1 q1 => by
    cases wx <;> try exact q1.elim
    · cases (show x = _ from r1)
      exact ⟨_, rfl, po _ H1 S1 t1 hh1 q1⟩
    · cases (show x = _ from r1)
      exact ⟨_, rfl, po _ H1 S1 t1 hh1 q1⟩
    · cases (show x = _ from r1)
      exact ⟨_, rfl, po _ H1 S1 t1 hh1 q1⟩
    · cases (show x = _ from r1)
      exact ⟨_, ⟨q1.1, rfl⟩, po _ H1 S1 t1 hh1 q1.2⟩
    · cases (show x = _ from r1)
      obtain ⟨ws, e, q⟩ := q1
      obtain ⟨xs, h1, h2⟩ := hh1 _ _ e
      exact ⟨_, .inl ⟨xs, SqL.of h1, rfl⟩, po _ H1 S1 t1 hh1 (by rw [h2.isE]; exact q)⟩
    · obtain ⟨a, xs, rfl, h1, h2⟩ := r1
      exact ⟨_, .inr (.inl ⟨xs, h1, rfl⟩), po _ H1 S1 t1 hh1 (by rw [h2.isE]; exact q1)⟩
    · obtain ⟨a, xs, rfl, h1, h2⟩ := r1
      exact ⟨_, .inl ⟨xs, h1.sq, rfl⟩, po _ H1 S1 t1 hh1 (by rw [h2.isE]; exact q1)⟩⟩

/-! ### range(i, j, -1), any step -/
def stepsW (lo c : Int) (n : Nat) : List W := (List.range n).map fun i => W.int (lo + (i : Nat) * c)
theorem stepsW_len {lo c : Int} {n : Nat} : (stepsW lo c n).length = n := by unfold stepsW; simp
theorem stepsW_get {lo c : Int} {n i : Nat} (h : i < n) : (stepsW lo c n)[i]? = some (W.int (lo + (i : Nat) * c)) := by unfold stepsW; simp [h]
theorem stepsW_at {lo c : Int} {n i : Nat} {w : W} (h : (stepsW lo c n)[i]? = some w) : i < n ∧ w = W.int (lo + (i : Nat) * c) := by
  unfold stepsW at h
  rw [List.getElem?_map] at h
  by_cases q : i < n
  · rw [List.getElem?_range q] at h
    exact ⟨q, (Option.some.inj h).symm⟩
  · rw [List.getElem?_eq_none (by simpa using q)] at h
    cases h
theorem src_steps {H1 : Hp} {lo c : Int} {n : Nat} : IsSrc K H1 (Itc lo c n) (stepsW lo c n) anyS where
  go := fun i H S t hh ok hi => by rw [stepsW_len] at hi; exact hi
  yld := fun i H S x H' t hh ok hi y => by
    obtain ⟨e, y⟩ := y
    subst e y
    rw [stepsW_len] at hi
    exact ⟨Tk.refl _, hh, W.int (lo + (i : Nat) * c), stepsW_get hi, (show Rep K _ (W.int (lo + (i : Nat) * c)) _ from rfl)⟩
  stop := fun i H S t hh ok hi => by rw [stepsW_len] at hi; exact hi
def wiR3 (ta : TAW) : TIW := fun ρ S R => ta ρ S fun ws S1 => match ws with
  | [.int i, .int j, .int c] => ∃ n, RgC i j c n ∧ R (stepsW i c n) anyS S1
  | _ => False
theorem rep3 {H : Hp} {w z u : W} {xs : List V} (r : RepL K H [w, z, u] xs) : ∃ x y a, xs = [x, y, a] ∧ Rep K H w x ∧ Rep K H z y ∧ Rep K H u a := by
  obtain ⟨x, r, rfl, h1, h2⟩ := r
  obtain ⟨y, a, rfl, h3, h4⟩ := rep2 h2
  exact ⟨x, y, a, rfl, h1, h3, h4⟩
instance li_r3 {t : TA} {tw : TAW} [a : LA K B t tw] : LI K B (iRng3 t) (wiR3 tw) := ⟨fun σ H ρ S R Rw hs hh q po => a.l σ H ρ S _ _ hs hh q fun xs H1 ws S1 t1 hh1 r1 q1 => by
  split at q1
  · obtain ⟨x, y, z, rfl, h1, h2, h3⟩ := rep3 r1
    cases (show x = _ from h1)
    cases (show y = _ from h2)
    cases (show z = _ from h3)
    obtain ⟨n, hn, q⟩ := q1
    exact ⟨_, _, _, n, rfl, hn, po _ H1 S1 _ _ t1 hh1 src_steps q⟩
  · exact q1.elim⟩

/-! ### tuple targets in comprehensions -/
class GWg (g : TG) (vs : List Nat) : Prop where
  l : ∀ v σ H Q, g v σ H Q → g v σ H fun σ2 H2 => wipe σ2 vs = wipe σ vs ∧ Q σ2 H2
  m : ∀ v σ H (Q R : L2.St → Hp → Prop), (∀ a b, Q a b → R a b) → g v σ H Q → g v σ H R
class GWgs (g : TGs) (vs : List Nat) : Prop where
  l : ∀ v σ H Q, g v σ H Q → g v σ H fun σ2 H2 => wipe σ2 vs = wipe σ vs ∧ Q σ2 H2
  m : ∀ v σ H (Q R : L2.St → Hp → Prop), (∀ a b, Q a b → R a b) → g v σ H Q → g v σ H R
theorem wipe_set' {σ : L2.St} {vs : List Nat} {j : Nat} {x : V} (hj : j ∈ vs) : wipe (σ.set j (some x)) vs = wipe σ vs := by
  apply List.ext_getElem?
  intro i
  rw [wipe_at, wipe_at]
  by_cases hi : i ∈ vs
  · simp [hi]
  · rw [if_neg hi, if_neg hi, List.getElem?_set_ne (show j ≠ i from fun e => hi (by rw [← e]; exact hj))]
theorem wipe_wipe (σ : L2.St) (vs : List Nat) : wipe (wipe σ vs) vs = wipe σ vs := by
  apply List.ext_getElem?
  intro i
  rw [wipe_at, wipe_at]
  by_cases hi : i ∈ vs
  · simp [hi, wipe_length]
  · rw [if_neg hi, if_neg hi]
instance gwg_name {j : Nat} {vs : List Nat} [h : MemN j vs] : GWg (gName j) vs := ⟨fun v σ H Q q => ⟨wipe_set' h.h, q⟩, fun v σ H Q R hm q => hm _ _ q⟩
instance gwgs_nil {vs : List Nat} : GWgs gNil vs := ⟨fun v σ H Q q => ⟨q.1, rfl, q.2⟩, fun v σ H Q R hm q => ⟨q.1, hm _ _ q.2⟩⟩
instance gwgs_cons {t : TG} {u : TGs} {vs : List Nat} [a : GWg t vs] [b : GWgs u vs] : GWgs (gCons t u) vs := ⟨fun v σ H Q ⟨x, r, e, q⟩ => ⟨x, r, e, by
  refine a.m _ _ _ _ _ ?_ (a.l x σ H _ q)
  rintro σ2 H2 ⟨e2, q2⟩
  refine b.m _ _ _ _ _ ?_ (b.l r σ2 H2 Q q2)
  rintro σ3 H3 ⟨e3, q3⟩
  exact ⟨e3.trans e2, q3⟩⟩, fun v σ H Q R hm ⟨x, r, e, q⟩ => ⟨x, r, e, a.m _ _ _ _ _ (fun σ2 H2 q2 => b.m _ _ _ _ _ hm q2) q⟩⟩
instance gwg_tup {n : Nat} {u : TGs} {vs : List Nat} [b : GWgs u vs] : GWg (gTup K n u) vs := ⟨fun v σ H Q ⟨a, xs, h1, h2, h3, q⟩ => ⟨a, xs, h1, h2, h3, b.l xs σ H Q q⟩, fun v σ H Q R hm ⟨a, xs, h1, h2, h3, q⟩ => ⟨a, xs, h1, h2, h3, b.m _ _ _ _ _ hm q⟩⟩
instance gw_tup {n : Nat} {u : TGs} {vs : List Nat} [b : GWgs u vs] : GW (gTup K n u) vs := ⟨fun v σ H Q q => by
  have h := (gwg_tup (K := K) (n := n) (u := u) (vs := vs)).l v (wipe σ vs) H Q q
  refine (gwg_tup (K := K) (n := n) (u := u) (vs := vs)).m _ _ _ _ _ ?_ h
  rintro σ2 H2 ⟨e, q2⟩
  exact ⟨e.trans (wipe_wipe σ vs), q2⟩⟩

/-! ### generators -/
structure GEndsW where
  nx : List W → StW → Sto → Prop
  rt : List W → WK
  bk : List W → StW → Sto → Prop := fun _ _ _ => False
  ct : List W → StW → Sto → Prop := fun _ _ _ => False
abbrev TGnW := GEndsW → List W → StW → Sto → Prop
def PoGS (K : PySem.W.Frag) (B H : Hp) (Q : List V → L2.St → Hp → Prop) (Qw : List W → StW → Sto → Prop) : Prop := ∀ ys ws σ' H' ρ' S', Tk H H' → RepL K H' ws ys → SRep K B H' σ' ρ' → HRep K H' S' → Qw ws ρ' S' → Q ys σ' H'
theorem PoGS.tk {H H1 : Hp} {Q : List V → L2.St → Hp → Prop} {Qw : List W → StW → Sto → Prop} (h : PoGS K B H Q Qw) (t : Tk H H1) : PoGS K B H1 Q Qw := fun ys ws σ' H' ρ' S' t' => h ys ws σ' H' ρ' S' (t.trans t')
def PoGR (K : PySem.W.Frag) (H : Hp) (Q : List V → VK) (Qw : List W → WK) : Prop := ∀ ys ws v H' w S', Tk H H' → RepL K H' ws ys → HRep K H' S' → Rep K H' w v → Qw ws w S' → Q ys v H'
theorem PoGR.tk {H H1 : Hp} {Q : List V → VK} {Qw : List W → WK} (h : PoGR K H Q Qw) (t : Tk H H1) : PoGR K H1 Q Qw := fun ys ws v H' w S' t' => h ys ws v H' w S' (t.trans t')
structure PoG (K : PySem.W.Frag) (B H : Hp) (D : GEnds) (Dw : GEndsW) : Prop where
  nx : PoGS K B H D.nx Dw.nx
  bk : PoGS K B H D.bk Dw.bk
  ct : PoGS K B H D.ct Dw.ct
  rt : PoGR K H D.rt Dw.rt
theorem PoG.tk {H H1 : Hp} {D : GEnds} {Dw : GEndsW} (h : PoG K B H D Dw) (t : Tk H H1) : PoG K B H1 D Dw := ⟨h.nx.tk t, h.bk.tk t, h.ct.tk t, h.rt.tk t⟩
class LGn (K : PySem.W.Frag) (B : Hp) (t : TGn) (tw : outParam TGnW) : Prop where
  l : ∀ ys ws σ H ρ S D Dw, RepL K H ws ys → SRep K B H σ ρ → HRep K H S → tw Dw ws ρ S → PoG K B H D Dw → t D ys σ H
def GEndsW.at (D : GEndsW) (ys : List W) : EndsW := { nx := D.nx ys, rt := D.rt ys, bk := D.bk ys, ct := D.ct ys }
def wPlainG (t : TSW) : TGnW := fun D ys ρ S => t (D.at ys) ρ S
instance lgn_plain {t : TS} {tw : TSW} [a : LS K B t tw] : LGn K B (tPlain t) (wPlainG tw) := ⟨fun ys ws σ H ρ S D Dw hy hs hh q po =>
  a.l σ H ρ S (D.at ys) (Dw.at ws) hs hh q ⟨fun σ' H' ρ' S' t1 hs' hh' q' => po.nx ys ws σ' H' ρ' S' t1 (RepL.tk t1 _ _ hy) hs' hh' q', fun σ' H' ρ' S' t1 hs' hh' q' => po.bk ys ws σ' H' ρ' S' t1 (RepL.tk t1 _ _ hy) hs' hh' q',
    fun σ' H' ρ' S' t1 hs' hh' q' => po.ct ys ws σ' H' ρ' S' t1 (RepL.tk t1 _ _ hy) hs' hh' q', fun v H' w S' t1 hh' r q' => po.rt ys ws v H' w S' t1 (RepL.tk t1 _ _ hy) hh' r q'⟩⟩
def wG0 : TGnW := fun D ys ρ S => D.nx ys ρ S
instance lgn_0 : LGn K B tG0 wG0 := ⟨fun ys ws σ H ρ S D Dw hy hs hh q po => po.nx ys ws σ H ρ S (Tk.refl H) hy hs hh q⟩
def wGThen (t u : TGnW) : TGnW := fun D ys ρ S => t { D with nx := fun ys' ρ' S' => u D ys' ρ' S' } ys ρ S
instance lgn_then {t u : TGn} {tw uw : TGnW} [a : LGn K B t tw] [b : LGn K B u uw] : LGn K B (tGThen t u) (wGThen tw uw) := ⟨fun ys ws σ H ρ S D Dw hy hs hh q po =>
  a.l ys ws σ H ρ S _ _ hy hs hh q ⟨fun ys' ws' σ' H' ρ' S' t1 hy' hs' hh' q' => b.l ys' ws' σ' H' ρ' S' D Dw hy' hs' hh' q' (po.tk t1), po.bk, po.ct, po.rt⟩⟩
def wGYield (te : TEW) : TGnW := fun D ys ρ S => ys.length < sizeLine ∧ te ρ S fun x S1 => D.nx (ys ++ [x]) ρ S1
instance lgn_yield {te : TE} {we : TEW} [a : LE K B te we] : LGn K B (tGYield te) (wGYield we) := ⟨fun ys ws σ H ρ S D Dw hy hs hh q po =>
  ⟨by rw [hy.length]; exact q.1, a.l σ H ρ S _ _ hs hh q.2 fun x H1 wx S1 t1 hh1 r1 q1 => po.nx _ _ σ H1 ρ S1 t1 ((RepL.tk t1 _ _ hy).append (.one r1)) (hs.tk t1) hh1 q1⟩⟩
@[irreducible] def WhG (c : TTW) (tb : TGnW) : TGnW := fun D ys ρ S => ∃ I : Nat → List W → StW → Sto → Prop, (∃ m, I m ys ρ S) ∧ ∀ m ys ρ S, I m ys ρ S → c ρ S fun b S1 =>
  (b = true → tb { D with nx := fun ys' ρ' S' => ∃ m', m' < m ∧ I m' ys' ρ' S', ct := fun ys' ρ' S' => ∃ m', m' < m ∧ I m' ys' ρ' S', bk := D.nx } ys ρ S1) ∧ (b = false → D.nx ys ρ S1)
theorem wh_g {c : TTW} {tb : TGnW} {D : GEndsW} {ys : List W} {ρ : StW} {S : Sto} (I : Nat → List W → StW → Sto → Prop) (h0 : ∃ m, I m ys ρ S) (turn : ∀ m ys ρ S, I m ys ρ S → c ρ S fun b S1 =>
  (b = true → tb { D with nx := fun ys' ρ' S' => ∃ m', m' < m ∧ I m' ys' ρ' S', ct := fun ys' ρ' S' => ∃ m', m' < m ∧ I m' ys' ρ' S', bk := D.nx } ys ρ S1) ∧ (b = false → D.nx ys ρ S1)) : WhG c tb D ys ρ S := by
  unfold WhG; exact ⟨I, h0, turn⟩
instance lgn_while {c : TT} {tb : TGn} {cw : TTW} {tw : TGnW} [h : LT K B c cw] [a : LGn K B tb tw] : LGn K B (tGWhile c tb) (WhG cw tw) := ⟨fun ys ws σ H ρ S D Dw hy hs hh q po => by
  unfold WhG at q
  obtain ⟨I, ⟨m0, i0⟩, st⟩ := q
  refine ⟨fun m ys' σ' H' => ∃ ws' ρ' S', Tk H H' ∧ RepL K H' ws' ys' ∧ SRep K B H' σ' ρ' ∧ HRep K H' S' ∧ I m ws' ρ' S', ⟨m0, ws, ρ, S, Tk.refl H, hy, hs, hh, i0⟩, ?_⟩
  rintro m ys1 σ1 H1 ⟨ws1, ρ1, S1, t1, hy1, hs1, hh1, i1⟩
  refine h.l σ1 H1 ρ1 S1 _ _ hs1 hh1 (st m ws1 ρ1 S1 i1) fun b H2 S2 t2 hh2 q2 => ?_
  cases b with
  | true =>
    rw [if_pos rfl]
    refine ⟨fun ys' σ' H' => ∃ m', m' < m ∧ ∃ ws' ρ' S', Tk H H' ∧ RepL K H' ws' ys' ∧ SRep K B H' σ' ρ' ∧ HRep K H' S' ∧ I m' ws' ρ' S', fun ys' σ' H' z => z, ?_⟩
    refine a.l ys1 ws1 σ1 H2 ρ1 S2 _ _ (RepL.tk t2 _ _ hy1) (hs1.tk t2) hh2 (q2.1 rfl) ⟨?_, ?_, ?_, po.rt.tk (t1.trans t2)⟩
    · rintro ys' ws' σ' H' ρ' S' t3 hy3 hs3 hh3 ⟨m', hm, q⟩
      exact ⟨m', hm, ws', ρ', S', (t1.trans t2).trans t3, hy3, hs3, hh3, q⟩
    · exact po.nx.tk (t1.trans t2)
    · rintro ys' ws' σ' H' ρ' S' t3 hy3 hs3 hh3 ⟨m', hm, q⟩
      exact ⟨m', hm, ws', ρ', S', (t1.trans t2).trans t3, hy3, hs3, hh3, q⟩
  | false =>
    rw [if_neg Bool.false_ne_true]
    exact po.nx ys1 ws1 σ1 H2 ρ1 S2 (t1.trans t2) (RepL.tk t2 _ _ hy1) (hs1.tk t2) hh2 (q2.2 rfl)⟩
/-- a generator def's promise over data: the arguments, the store, what is wanted of all that is handed out -/
abbrev SpGW := List W → Sto → (List W → Sto → Prop) → Prop
def liftG (K : PySem.W.Frag) (sp : SpGW) : SpG := fun vs H cont _ => ∃ ws S cw, RepL K H ws vs ∧ HRep K H S ∧ sp ws S cw ∧ PoA K H cont cw
section
variable {P : Program} {w : World} {mg : Str → Option Value} {base : Heap}
structure CalG (P : Program) (w : World) (K : PySem.W.Frag) (mg : Str → Option Value) (base : Heap) (k : Nat) (x : Str) (sp : SpGW) : Prop where
  ex : ∃ (f : Addr) (fd : FuncData) (ps : List Str), GFn P w K mg base k f fd ps (liftG K sp) ∧ mg x = some (.ref f) ∧ PySem.W.keepIn K (.ref f) = true ∧ Binds K fd ps []
@[irreducible] def HdG (sp : SpGW) : SpGW := sp
theorem HdG_eq (sp : SpGW) : HdG sp = sp := by unfold HdG; rfl
theorem HdG.mk {sp : SpGW} {ws : List W} {S : Sto} {Q : List W → Sto → Prop} (h : sp ws S Q) : HdG sp ws S Q := by rw [HdG_eq]; exact h
theorem CalG.hd {k : Nat} {x : Str} {sp : SpGW} (c : CalG P w K mg base k x sp) : CalG P w K mg base k x (HdG sp) := by rw [HdG_eq]; exact c
theorem never_passes {X : Cx} : Passes (L2.CX X.prog X.w) X E0 := fun pins σ H s e s' I c => by
  obtain ⟨a, B, H', cls, d, rfl, fl, _, _, _, _, _, hW⟩ := c
  exact hW.elim
theorem never_stop : NoStop K E0 := fun _ _ _ h => h.elim
/-- list(f(e, ..)), f a generator def -/
theorem k_listG (K : PySem.W.Frag) {X : Cx} {k j : Nat} {x : Str} {sp : SpGW} {p pos pos' : Pos} {e : Expr} {es : List Expr} {t : TA} {nm : Str} {p2 : Pos} (c : CalG X.prog X.w K X.mg X.base k x sp) (hr : Room j X.A) (hk : k + 3 ≤ j) (hg : Gl X x) (hgl : Gl X nm) (hmg : X.mg nm = none) (hv : bootBuiltins nm = some (.type "list")) (ha : PA X (e :: es) t)
    (hdb : (x == ("__debug__" : Str)) = false := by decide) (he : starEach (e :: es) X.env = (false, eval e X.env) :: starEach es X.env := by rfl) (hpl : (backTo pos' (starEach es X.env)).any (·.1) = false := by rfl)
    (hnm : nm ≠ "__name__" := by decide) (hdb2 : (nm == ("__debug__" : Str)) = false := by decide)
    (he2 : starEach [.Call (.Name x p) (e :: es) [] pos'] X.env = (false, eval (.Call (.Name x p) (e :: es) [] pos') X.env) :: starEach [] X.env := by rfl) (hK : X.K = K := by rfl) :
    PE X (.Call (.Name nm p2) [.Call (.Name x p) (e :: es) [] pos'] [] pos) (tListG (tCallG (liftG K sp) [] E0 t)) := by
  subst hK
  obtain ⟨f, fd, ps, F, hm, kp, b⟩ := c.ex
  exact pe_listG (pgen_call (dvs := []) F (hr.mono (by omega)) hg hm kp b .nil ha hdb he hpl) never_passes never_stop (hr.mono hk) hgl hmg hv hnm hdb2 he2
def wListG (sp : SpGW) (t : TAW) : TEW := fun ρ S Q => t ρ S fun ws S1 => sp ws S1 fun outs S2 => ∀ p, S2 p = none → Q (.ref p) (put S2 p (.lst outs))
instance le_listG {sp : SpGW} {t : TA} {tw : TAW} [a : LA K B t tw] : LE K B (tListG (tCallG (liftG K sp) [] E0 t)) (wListG sp tw) := ⟨fun σ H ρ S Q Qw hs hh q po =>
  a.l σ H ρ S _ _ hs hh q fun xs H1 ws S1 t1 hh1 r1 q1 => ⟨ws, S1, _, by rw [List.append_nil]; exact r1, hh1, q1, fun vs H2 ws2 S2 t2 hh2 r2 q2 p hp => (po.tk (t1.trans t2)).nlst hp hh2 r2 q2⟩⟩
@[irreducible] def FgG (Q : List W → Sto → Prop) : List W → Sto → Prop := fun ws S => ∃ S', Sub S' S ∧ Q ws S'
theorem FgG_eq (Q : List W → Sto → Prop) (ws : List W) (S : Sto) : FgG Q ws S = ∃ S', Sub S' S ∧ Q ws S' := by unfold FgG; rfl
theorem fgg_here {Q : List W → Sto → Prop} {v : List W} {S : Sto} (h : Q v S) : FgG Q v S := by rw [FgG_eq]; exact ⟨S, Sub.refl S, h⟩
theorem fgg_sub {Q : List W → Sto → Prop} {v : List W} {S S' : Sto} (h : Sub S' S) (q : Q v S') : FgG Q v S := by rw [FgG_eq]; exact ⟨S', h, q⟩
theorem fgg_off {ps : List Addr} {S T : Sto} {Q : List W → Sto → Prop} {v : List W} (h : KpL ps S T) (q : ∀ S', OffL ps S S' → (∀ a ∈ ps, S' a = T a) → Q v S') : FgG Q v T := by
  refine fgg_sub (S' := fun a => if a ∈ ps then T a else S a) (fun a c e => ?_) (q _ (fun a ha => if_neg ha) (fun a ha => if_pos ha))
  have e : (if a ∈ ps then T a else S a) = some c := e
  by_cases ha : a ∈ ps
  · rw [if_pos ha] at e; exact e
  · rw [if_neg ha] at e; exact h a c ha e
/-- a generator def by its body -/
theorem calG {x : Str} {st : Stmt} {N ps : List Str} {k : Nat} {sp : SpGW} (d : DefAt K mg x st ps) (SC : GScope N ps (defScope st))
    (len : ∀ ws S Q, sp ws S Q → ws.length = ps.length)
    (hbody : ∀ (f : Addr) (cdv : Value) (A : Around) (outer : List Env) (s : Shared) (H : Hp) (E : XK) (pn : List (Addr × Obj)), Room k (A.deeper (envOfC x (defScope st) s.heap.objs.size f cdv)) →
      ∃ t tw, GSs (gcxOf P w K mg base N x (defScope st) f cdv A outer s H E pn) (defBody st) t ∧ LGn K H t tw ∧ ∀ ws S Q, sp ws S Q → tw { nx := fun ys _ S' => FgG Q ys S', rt := fun ys v S' => v = .non ∧ FgG Q ys S' } [] (startW N ws) S) :
    CalG P w K mg base (k + 1) x sp := by
  obtain ⟨f, fd, F, hm, b⟩ := d.ex
  obtain ⟨oc, od, kV, doc, pm, an, cdv, ct, osl, rfl, lk, hcd⟩ := id F.ex
  refine ⟨f, _, ps, gfn_of lk hcd SC (fun vs H Q E ⟨ws, S, cw, h1, _, h3, _⟩ => by rw [h1.length]; exact len _ _ _ h3) (fun A outer s H vs Q E pn hr hsp => ?_), hm, F.kp, b⟩
  obtain ⟨ws, S, cw, h1, h2, h3, h4⟩ := hsp
  obtain ⟨t, tw, ht, hl, hq⟩ := hbody f cdv A outer s H E pn hr
  have fin : ∀ ys ws' H' S', Tk H H' → RepL K H' ws' ys → HRep K H' S' → FgG cw ws' S' → Q ys H' := fun ys ws' H' S' t1 hy hh q => by
    rw [FgG_eq] at q
    obtain ⟨S2, sub, q⟩ := q
    exact h4 ys H' ws' S2 t1 (hh.sub sub) hy q
  refine ⟨t, ht, hl.l [] [] (start N vs) H (startW N ws) S _ _ RepL.nil (SRep.init h1) h2 (hq ws S cw h3) ⟨?_, ?_, ?_, ?_⟩⟩
  · exact fun ys ws' σ' H' ρ' S' t1 hy hs hh q => fin ys ws' H' S' t1 hy hh q
  · exact fun _ _ _ _ _ _ _ _ _ _ q => q.elim
  · exact fun _ _ _ _ _ _ _ _ _ _ q => q.elim
  · rintro ys ws' v H' w S' t1 hy hh r ⟨rfl, q⟩
    exact ⟨r, fin ys ws' H' S' t1 hy hh q⟩

end
end Wl
set_option Elab.async false
set_option linter.all false
set_option maxRecDepth 100000
set_option maxHeartbeats 2000000
/-! Dicts as data; dicts of the module. -/
namespace Wl
open PySem PySem.Spec PyProof.Rows L2
variable {K : PySem.W.Frag} {B : Hp}
def keyW : Key → W
  | .inl i => .int i
  | .inr x => .str x
def toKey : W → Option Key
  | .int i => some (.inl i)
  | .str x => some (.inr x)
  | _ => none
theorem toKey_rep {H : Hp} {w : W} {v : V} {k : Key} (r : Rep K H w v) (h : toKey w = some k) : v = kV k ∧ w = keyW k := by
  cases w with
  | int i => cases h; exact ⟨r, rfl⟩
  | str i => cases h; exact ⟨r, rfl⟩
  | _ => cases h
section
variable {κ : Type} [DecidableEq κ]
def valW (kvs : List (κ × W)) (k : κ) : Option W := (kvs.find? fun kv => decide (kv.1 = k)).map (·.2)
def putW (kvs : List (κ × W)) (k : κ) (v : W) : List (κ × W) :=
  if (kvs.any fun kv => decide (kv.1 = k)) = true then kvs.map (fun kv => if kv.1 = k then (kv.1, v) else kv) else kvs ++ [(k, v)]
theorem RepKV.length {H : Hp} : ∀ {ps : List (κ × W)} {ys : List (κ × V)}, RepKV K H ps ys → ys.length = ps.length
  | [], _, h => by cases (show _ = [] from h); rfl
  | p :: ps, _, h => by
    obtain ⟨v, r, rfl, _, h2⟩ := h
    rw [List.length_cons, List.length_cons, RepKV.length h2]
theorem RepKV.val {H : Hp} (k : κ) : ∀ {ps : List (κ × W)} {ys : List (κ × V)}, RepKV K H ps ys → match valW ps k, valV ys k with
    | some w, some v => Rep K H w v
    | none, none => True
    | _, _ => False
  | [], _, h => by cases (show _ = [] from h); exact True.intro
  | p :: ps, _, h => by
    obtain ⟨v, r, rfl, h1, h2⟩ := h
    by_cases e : p.1 = k
    · have a : valW (p :: ps) k = some p.2 := by simp [valW, List.find?_cons, e]
      have b : valV ((p.1, v) :: r) k = some v := valV_pos e
      rw [a, b]
      exact h1
    · have a : valW (p :: ps) k = valW ps k := by simp [valW, List.find?_cons, e]
      have b : valV ((p.1, v) :: r) k = valV r k := valV_neg e
      rw [a, b]
      exact RepKV.val k h2
theorem RepKV.of_some {H : Hp} {k : κ} {ps : List (κ × W)} {ys : List (κ × V)} {w : W} (r : RepKV K H ps ys) (h : valW ps k = some w) : ∃ v, valV ys k = some v ∧ Rep K H w v := by
  have q := r.val k
  rw [h] at q
  cases e : valV ys k with
  | none => rw [e] at q; exact q.elim
  | some v => rw [e] at q; exact ⟨v, rfl, q⟩
theorem RepKV.of_none {H : Hp} {k : κ} {ps : List (κ × W)} {ys : List (κ × V)} (r : RepKV K H ps ys) (h : valW ps k = none) : valV ys k = none := by
  have q := r.val k
  rw [h] at q
  cases e : valV ys k with
  | none => rfl
  | some v => rw [e] at q; exact q.elim
theorem RepKV.isSome {H : Hp} {k : κ} {ps : List (κ × W)} {ys : List (κ × V)} (r : RepKV K H ps ys) : (valV ys k).isSome = (valW ps k).isSome := by
  cases e : valW ps k with
  | none => rw [r.of_none e]; rfl
  | some w => obtain ⟨v, e2, _⟩ := r.of_some e; rw [e2]; rfl
theorem RepKV.any {H : Hp} {k : κ} : ∀ {ps : List (κ × W)} {ys : List (κ × V)}, RepKV K H ps ys → (ys.any fun kv => decide (kv.1 = k)) = ps.any fun kv => decide (kv.1 = k)
  | [], _, h => by cases (show _ = [] from h); rfl
  | p :: ps, _, h => by
    obtain ⟨v, r, rfl, h1, h2⟩ := h
    rw [List.any_cons, List.any_cons, RepKV.any h2]
theorem RepKV.append {H : Hp} : ∀ {ps qs : List (κ × W)} {ys zs : List (κ × V)}, RepKV K H ps ys → RepKV K H qs zs → RepKV K H (ps ++ qs) (ys ++ zs)
  | [], _, _, _, h, g => by cases (show _ = [] from h); exact g
  | p :: ps, _, _, _, h, g => by
    obtain ⟨v, r, rfl, h1, h2⟩ := h
    exact ⟨v, _, rfl, h1, RepKV.append h2 g⟩
theorem RepKV.repl {H : Hp} {k : κ} {w : W} {x : V} (q : Rep K H w x) : ∀ {ps : List (κ × W)} {ys : List (κ × V)}, RepKV K H ps ys → RepKV K H (ps.map fun kv => if kv.1 = k then (kv.1, w) else kv) (ys.map fun kv => if kv.1 = k then (kv.1, x) else kv)
  | [], _, h => by cases (show _ = [] from h); rfl
  | p :: ps, _, h => by
    obtain ⟨v, r, rfl, h1, h2⟩ := h
    by_cases e : p.1 = k
    · refine ⟨x, _, ?_, ?_, RepKV.repl q h2⟩
      · simp [e]
      · simp [e]; exact q
    · refine ⟨v, _, ?_, ?_, RepKV.repl q h2⟩
      · simp [e]
      · simp [e]; exact h1
theorem RepKV.put {H : Hp} {k : κ} {w : W} {x : V} {ps : List (κ × W)} {ys : List (κ × V)} (h : RepKV K H ps ys) (q : Rep K H w x) : RepKV K H (putW ps k w) (putK ys k x) := by
  unfold putW putK
  rw [h.any (k := k)]
  split
  · exact h.repl q
  · exact h.append ⟨x, [], rfl, q, rfl⟩
end
/-! ### dicts of the module -/
def lkW (kvs : List (Str × W)) (z : Str) : Option W := valW kvs z
structure DkAt (K : PySem.W.Frag) (w : World) (a : Addr) (kvs : List (Str × W)) : Prop where
  ex : ∃ es n, KDict K w a es n ∧ ∀ z : Str, ∃ r, PySem.W.nsIn K a z = some r ∧ match lkW kvs z, r with
    | some wd, some u => Wr K wd u
    | none, none => True
    | _, _ => False
/-- told by the written table: each key, each value -/
inductive DkEs (K : PySem.W.Frag) : List (Str × W) → List DictEntry → Prop where
  | nil : DkEs K [] []
  | cons {k : Str} {wd : W} {t : Tok} {hh : Int} {u : Value} {kvs : List (Str × W)} {es : List DictEntry} {e : DictEntry} : e.key = .str k t → e.val = u → e.refKey = false → Wr K wd u → DkEs K kvs es → DkEs K ((k, wd) :: kvs) (e :: es)
theorem DkEs.no_ref {kvs : List (Str × W)} {es : List DictEntry} (h : DkEs K kvs es) : es.any (·.refKey) = false := by
  induction h with
  | nil => rfl
  | cons h1 h2 h3 h4 h5 ih => rw [List.any_cons, h3, ih]; rfl
theorem DkEs.look {kvs : List (Str × W)} {es : List DictEntry} (h : DkEs K kvs es) (z : Str) : match lkW kvs z, (es.find? (·.key.isStr z)).map (·.val) with
    | some wd, some u => Wr K wd u
    | none, none => True
    | _, _ => False := by
  induction h with
  | nil => exact True.intro
  | @cons k wd t hh u kvs es e h1 h2 h3 h4 h5 ih =>
    have ek : e.key.isStr z = decide (k = z) := by
      rw [h1]
      show (k == z) = _
      by_cases q : k = z
      · subst q; simp
      · simp [q]
    by_cases q : k = z
    · have a : lkW ((k, wd) :: kvs) z = some wd := by simp [lkW, valW, List.find?_cons, q]
      have b : ((e :: es).find? (·.key.isStr z)).map (·.val) = some u := by
        rw [List.find?_cons, ek, decide_eq_true q]
        show some e.val = _
        rw [h2]
      rw [a, b]
      exact h4
    · have a : lkW ((k, wd) :: kvs) z = lkW kvs z := by simp [lkW, valW, List.find?_cons, q]
      have b : ((e :: es).find? (·.key.isStr z)).map (·.val) = (es.find? (·.key.isStr z)).map (·.val) := by
        rw [List.find?_cons, ek, decide_eq_false q]
      rw [a, b]
      exact ih
theorem dkAt_of {w : World} {a : Addr} {kvs : List (Str × W)} {es : Array DictEntry} {n : Nat} (hl : K.lookup a = some ⟨.type "dict", none, .dict es n, #[]⟩) (hk : PySem.W.KeysLit w.params es.toList) (low : (a == sysModules) = false) (h : DkEs K kvs es.toList) : DkAt K w a kvs := by
  refine ⟨es, n, ⟨hl, hk, low⟩, fun z => ?_⟩
  have q := h.look z
  refine ⟨(es.toList.find? (·.key.isStr z)).map (·.val), ?_, q⟩
  unfold PySem.W.nsIn
  rw [hl]
  dsimp only
  cases e : es.toList.find? (·.key.isStr z) with
  | some x => rfl
  | none => rw [h.no_ref]; rfl
theorem DkAt.of_some {w : World} {a : Addr} {kvs : List (Str × W)} (d : DkAt K w a kvs) {z : Str} {wd : W} (h : lkW kvs z = some wd) : ∃ es n u v, KDict K w a es n ∧ PySem.W.nsIn K a z = some (some u) ∧ RelV v u ∧ ∀ H, Rep K H wd v := by
  obtain ⟨es, n, kd, hz⟩ := d.ex
  obtain ⟨r, e, m⟩ := hz z
  rw [h] at m
  cases r with
  | none => exact m.elim
  | some u => obtain ⟨v, r, hv⟩ := m; exact ⟨es, n, u, v, kd, e, r, hv⟩
theorem DkAt.isSome {w : World} {a : Addr} {kvs : List (Str × W)} (d : DkAt K w a kvs) (z : Str) : ∃ es n r, KDict K w a es n ∧ PySem.W.nsIn K a z = some r ∧ r.isSome = (lkW kvs z).isSome := by
  obtain ⟨es, n, kd, hz⟩ := d.ex
  obtain ⟨r, e, m⟩ := hz z
  refine ⟨es, n, r, kd, e, ?_⟩
  cases hw : lkW kvs z <;> rw [hw] at m <;> cases r <;> first | rfl | exact m.elim
end Wl
set_option Elab.async false
set_option linter.all false
set_option maxRecDepth 100000
set_option maxHeartbeats 2000000
/-! Dicts over data: keys that are ints or texts; dicts of the module. -/
namespace Wl
open PySem PySem.Spec PyProof.Rows L2
variable {K : PySem.W.Frag} {B : Hp}
/-! ### in -/
def ngB (neg b : Bool) : Bool := if neg then !b else b
def rInB (K : PySem.W.Frag) (w : World) (neg : Bool) : R2 := fun x y H Q => rInA K neg x y H Q ∨ (∃ a o, y = .ref a ∧ DGet H a x o ∧ Q (.bl (ngB neg o.isSome)) H) ∨
  (∃ d es n z r, KDict K w d es n ∧ x = .str z ∧ y = .ref d ∧ PySem.W.nsIn K d z = some r ∧ Q (.bl (ngB neg r.isSome)) H)
theorem k_inB (K : PySem.W.Frag) (w : World) {X : Cx} (hu : X.A.units + 1 < cLine) (hK : X.K = K := by rfl) (hw : X.w = w := by rfl) : OpR X (compareOp .In) (rInB K w false) := by
  subst hK hw
  intro pins s σ H x y v u Q I rx ry h
  rcases h with h | ⟨a, o, e, g, q⟩ | ⟨d, es, n, z, r, kd, e1, e2, e3, q⟩
  · exact op_inA pins s σ H x y v u Q I rx ry h
  · subst e
    obtain rfl : u = Value.ref a := ry
    exact d_in hu I g rx fun s3 I3 => ⟨.bl o.isSome, H, I3, rfl, q⟩
  · exact op_in_kd kd pins s σ H x y v u Q I rx ry ⟨z, r, e1, e2, e3, q⟩
theorem k_notInB (K : PySem.W.Frag) (w : World) {X : Cx} (hu : X.A.units + 1 < cLine) (hK : X.K = K := by rfl) (hw : X.w = w := by rfl) : OpR X (compareOp .NotIn) (rInB K w true) := by
  subst hK hw
  intro pins s σ H x y v u Q I rx ry h
  rcases h with h | ⟨a, o, e, g, q⟩ | ⟨d, es, n, z, r, kd, e1, e2, e3, q⟩
  · exact op_notInA pins s σ H x y v u Q I rx ry h
  · subst e
    obtain rfl : u = Value.ref a := ry
    exact d_notIn hu I g rx fun s3 I3 => ⟨.bl (!o.isSome), H, I3, rfl, q⟩
  · exact op_notIn_kd kd pins s σ H x y v u Q I rx ry ⟨z, r, e1, e2, e3, q⟩
def wInB (K : PySem.W.Frag) (w : World) (neg : Bool) : RW2 := fun x y S Q => match x, y with
  | .str i, .str j => Q (.bl (ngB neg (!(Builtin.Str.occurrences j i 0 j.length 1).isEmpty))) S
  | x, .tup ws => flatW x = true ∧ ws.all flatW = true ∧ Q (.bl (ngB neg (isInW x ws))) S
  | x, .rl ws => flatW x = true ∧ ws.all flatW = true ∧ Q (.bl (ngB neg (isInW x ws))) S
  | x, .ref a => (flatW x = true ∧ ∃ ws, S a = some (.lst ws) ∧ ws.all flatW = true ∧ Q (.bl (ngB neg (isInW x ws))) S) ∨
      (∃ kvs k, S a = some (.dk kvs) ∧ toKey x = some k ∧ Q (.bl (ngB neg (valW kvs k).isSome)) S) ∨
      ∃ kvs z, DkAt K w a kvs ∧ x = .str z ∧ Q (.bl (ngB neg (lkW kvs z).isSome)) S
  | _, _ => False
instance l2_inB {w : World} {neg : Bool} : L2R K (rInB K w neg) (wInB K w neg) := ⟨fun H S x y wx wy Q Qw hh rx ry q po => by
  have old : wIn neg wx wy S Qw → rInB K w neg x y H Q := fun q => .inl (l2_in.l H S x y wx wy Q Qw hh rx ry q po)
  have ref : ∀ {a : Addr}, Rep K H (.ref a) y → ((flatW wx = true ∧ ∃ ws, S a = some (.lst ws) ∧ ws.all flatW = true ∧ Qw (.bl (ngB neg (isInW wx ws))) S) ∨
      (∃ kvs k, S a = some (.dk kvs) ∧ toKey wx = some k ∧ Qw (.bl (ngB neg (valW kvs k).isSome)) S) ∨
      ∃ kvs z, DkAt K w a kvs ∧ wx = .str z ∧ Qw (.bl (ngB neg (lkW kvs z).isSome)) S) → (wy = .ref a) → rInB K w neg x y H Q := fun {a} r q9 ey => by
    rcases q9 with q9 | ⟨kvs, k, e, ek, q9⟩ | ⟨kvs, z, d, ex, q9⟩
    · refine old ?_
      obtain ⟨f, ws, e, g, q9⟩ := q9
      have q8 : wInK wx (.ref a) S fun b => Qw (.bl (if neg then !b else b)) S := by
        cases wx <;> exact ⟨f, ws, e, g, q9⟩
      rw [ey]
      exact q8
    · obtain ⟨ys, h1, h2⟩ := hh _ _ e
      obtain ⟨ev, _⟩ := toKey_rep rx ek
      refine .inr (.inl ⟨a, valV ys k, r, by rw [ev]; exact DGet.k h1, ?_⟩)
      rw [h2.isSome]
      exact po.bl (Tk.refl H) hh q9
    · obtain ⟨es, n, rr, kd, e, ei⟩ := d.isSome z
      rw [ex] at rx
      refine .inr (.inr ⟨a, es, n, z, rr, kd, rx, r, e, ?_⟩)
      rw [ei]
      exact po.bl (Tk.refl H) hh q9
  cases wy with
  | ref a =>
    cases wx <;> exact ref ry q rfl
  | tup ws => cases wx <;> exact old q
  | rl ws => cases wx <;> exact old q
  | str z => cases wx <;> first | exact old q | exact q.elim
  | _ => cases wx <;> exact q.elim⟩
/-! ### d[k] -/
def rIxB (K : PySem.W.Frag) (w : World) : R2 := fun x y H Q => rIx K x y H Q ∨ (∃ a v, x = .ref a ∧ DGet H a y (some v) ∧ Q v H) ∨ rIxD K w x y H Q
theorem ix_dget {X : Cx} (hu : X.A.units + 1 < cLine) : IxR X (fun x y H Q => ∃ a v, x = .ref a ∧ DGet H a y (some v) ∧ Q v H) := by
  intro value slice pins s σ H x y v u Q I rx ry h hs
  obtain ⟨a, z, rfl, g, q⟩ := h
  obtain rfl : v = Value.ref a := rx
  exact tail_any (dict_typeIs I g) PySem.F.slot_dict_getitem.lookup (d_getItem hu I g ry fun w' s3 I3 rw' => ⟨z, H, I3, rw', q⟩) hs
theorem k_ixB (K : PySem.W.Frag) (w : World) {X : Cx} (hu : X.A.units + 1 < cLine) (hK : X.K = K := by rfl) (hw : X.w = w := by rfl) : IxR X (rIxB K w) := by
  subst hK hw
  exact ix_seq.or ((ix_dget hu).or ix_kdict)
def wIxB (K : PySem.W.Frag) (w : World) : RW2 := fun x y S Q => match x, y with
  | .tup ws, .int i => rdAt (atI ws i) S Q
  | .rl ws, .int i => rdAt (atI ws i) S Q
  | .ref a, .int i => (∃ ws, S a = some (.lst ws) ∧ rdAt (atI ws i) S Q) ∨ ∃ kvs, S a = some (.dk kvs) ∧ rdAt (valW kvs (.inl i)) S Q
  | .ref a, .str z => (∃ kvs, S a = some (.dk kvs) ∧ rdAt (valW kvs (.inr z)) S Q) ∨ ∃ kvs, DkAt K w a kvs ∧ rdAt (lkW kvs z) S Q
  | .str z, .int i => z.length ≤ sizeLine ∧ ∃ c, atI z.cps.toList i = some c ∧ Q (.str ⟨#[c]⟩) S
  | _, _ => False
instance l2_ixB {w : World} : L2R K (rIxB K w) (wIxB K w) := ⟨fun H S x y wx wy Q Qw hh rx ry q po => by
  have old : wIx wx wy S Qw → rIxB K w x y H Q := fun q => .inl (l2_ix.l H S x y wx wy Q Qw hh rx ry q po)
  have dk : ∀ {a : Addr} {k : Key} {kvs : List (Key × W)}, x = .ref a → y = kV k → S a = some (.dk kvs) → rdAt (valW kvs k) S Qw → rIxB K w x y H Q := fun {a k kvs} ex ey e q => by
    obtain ⟨wd, e2, q⟩ := rdAt_of q
    obtain ⟨ys, h1, h2⟩ := hh _ _ e
    obtain ⟨v, e3, r⟩ := h2.of_some e2
    exact .inr (.inl ⟨a, v, ex, by rw [ey, ← e3]; exact DGet.k h1, po v H wd S (Tk.refl H) hh r q⟩)
  cases wx with
  | tup ws => cases wy <;> first | exact old q | exact q.elim
  | rl ws => cases wy <;> first | exact old q | exact q.elim
  | str z => cases wy <;> first | exact old q | exact q.elim
  | ref a =>
    cases wy with
    | int i =>
      rcases q with ⟨ws, e, q⟩ | ⟨kvs, e, q⟩
      · exact old ⟨ws, e, q⟩
      · exact dk (k := .inl i) rx ry e q
    | str z =>
      rcases q with ⟨kvs, e, q⟩ | ⟨kvs, d, q⟩
      · exact dk (k := .inr z) rx ry e q
      · obtain ⟨wd, e2, q⟩ := rdAt_of q
        obtain ⟨es, n, u, v, kd, e3, r, hv⟩ := d.of_some e2
        exact .inr (.inr ⟨a, z, v, rx, ry, ⟨es, n, u, kd.at_, kd.lit, e3, r⟩, po v H wd S (Tk.refl H) hh (hv H) q⟩)
    | _ => exact q.elim
  | _ => cases wy <;> exact q.elim⟩
/-! ### d[k] = v -/
def rSetB : V → V → V → Hp → (Hp → Prop) → Prop := fun o i v H Q => rSetL o i v H Q ∨ ∃ a H', o = .ref a ∧ DPut H a i v H' ∧ Q H'
theorem set_B {X : Cx} (hu : X.A.units + 1 < cLine) : PSet X rSetB := by
  intro pins s σ H o i v ov iv u Q I ro ri rv h
  rcases h with h | ⟨a, H', e, g, q⟩
  · exact set_list pins s σ H o i v ov iv u Q I ro ri rv h
  · subst e
    obtain rfl : ov = Value.ref a := ro
    exact d_setItem hu I g ri rv fun s4 I4 => ⟨H', I4, q⟩
def wGSubB (to ti : TEW) : TGW := fun w ρ S Q => to ρ S fun o S1 => ti ρ S1 fun i S2 => match o, i with
  | .ref p, .int k => (∃ ws j, S2 p = some (.lst ws) ∧ ixN ws.length k = some j ∧ Q ρ (put S2 p (.lst (ws.set j w)))) ∨ ∃ kvs, S2 p = some (.dk kvs) ∧ kvs.length < sizeLine ∧ Q ρ (put S2 p (.dk (putW kvs (.inl k) w)))
  | .ref p, .str z => ∃ kvs, S2 p = some (.dk kvs) ∧ kvs.length < sizeLine ∧ Q ρ (put S2 p (.dk (putW kvs (.inr z) w)))
  | _, _ => False
instance lg_subB {to ti : TE} {wo wi : TEW} [a : LE K B to wo] [b : LE K B ti wi] : LG K B (gSub to ti rSetB) (wGSubB wo wi) := ⟨fun v w σ H ρ S Q Qw r hs hh q po =>
  a.l σ H ρ S _ _ hs hh q fun o H1 wo S1 t1 hh1 r1 q1 => b.l σ H1 ρ S1 _ _ (hs.tk t1) hh1 q1 fun i H2 wi S2 t2 hh2 r2 q2 => by
    have ro := Rep.tk t2 _ _ r1
    have rv := Rep.tk (t1.trans t2) _ _ r
    have lst : ∀ {p : Addr} {k : Int} {ws : List W} {j : Nat}, o = .ref p → i = .int k → S2 p = some (.lst ws) → ixN ws.length k = some j → Qw ρ (put S2 p (.lst (ws.set j w))) → rSetB o i v H2 fun H3 => Q σ H3 := fun {p k ws j} eo ei e hj q => by
      obtain ⟨xs, h1, h2⟩ := hh2 _ _ e
      have t : Tk H2 (upd H2 p (.lst (xs.set j v))) := Tk.mut h1 (fun _ z => (by cases z)) (fun _ _ z => (by cases z))
      obtain ⟨t, hm⟩ := hh2.mut (c' := .lst (ws.set j w)) (o := .lst (xs.set j v)) e ⟨_, upd_same, RepL.set (Rep.tk t _ _ rv) j (RepL.tk t _ _ h2)⟩
      exact .inl ⟨_, xs, _, j, eo, ei, h1, by rw [h2.length]; exact hj, po _ _ _ _ ((t1.trans t2).trans t) (hs.tk ((t1.trans t2).trans t)) hm q⟩
    have dk : ∀ {p : Addr} {k : Key} {kvs : List (Key × W)}, o = .ref p → i = kV k → S2 p = some (.dk kvs) → kvs.length < sizeLine → Qw ρ (put S2 p (.dk (putW kvs k w))) → rSetB o i v H2 fun H3 => Q σ H3 := fun {p k kvs} eo ei e hl q => by
      obtain ⟨ys, h1, h2⟩ := hh2 _ _ e
      have t : Tk H2 (upd H2 p (.dK (putK ys k v))) := Tk.mut h1 (fun _ z => (by cases z)) (fun _ _ z => (by cases z))
      obtain ⟨t, hm⟩ := hh2.mut (c' := .dk (putW kvs k w)) (o := .dK (putK ys k v)) e ⟨_, upd_same, RepKV.put (RepKV.tk t _ _ h2) (Rep.tk t _ _ rv)⟩
      exact .inr ⟨p, _, eo, by rw [ei]; exact DPut.k h1 (by rw [h2.length]; exact hl), po _ _ _ _ ((t1.trans t2).trans t) (hs.tk ((t1.trans t2).trans t)) hm q⟩
    cases wo <;> cases wi <;> try exact q2.elim
    · rcases q2 with ⟨ws, j, e, hj, q⟩ | ⟨kvs, e, hl, q⟩
      · exact lst ro r2 e hj q
      · exact dk (k := .inl _) ro r2 e hl q
    · obtain ⟨kvs, e, hl, q⟩ := q2
      exact dk (k := .inr _) ro r2 e hl q⟩
/-! ### displays -/
def wDNew : TEW := fun _ S Q => ∀ p, S p = none → Q (.ref p) (put S p (.dk []))
instance le_dnew : LE K B tDNewK wDNew := ⟨fun σ H ρ S Q Qw hs hh q po p hp => po.ref (Tk.new hp) (hh.new (c := .dk []) hp ⟨[], upd_same, rfl⟩) (q p (hh.fresh hp))⟩
abbrev TPW := StW → Sto → (List (W × W) → Sto → Prop) → Prop
class LPs (K : PySem.W.Frag) (B : Hp) (t : List (TE × TE)) (tw : outParam TPW) : Prop where
  l : ∀ σ H ρ S Q Qw, SRep K B H σ ρ → HRep K H S → tw ρ S Qw → (∀ ps H' qs S', Tk H H' → HRep K H' S' → RepL K H' (qs.map (·.1)) (ps.map (·.1)) → RepL K H' (qs.map (·.2)) (ps.map (·.2)) → Qw qs S' → Q ps H') → tPairs t σ H Q
def wPs0 : TPW := fun _ S Q => Q [] S
def wPsC (tk tv : TEW) (r : TPW) : TPW := fun ρ S Q => tk ρ S fun x S1 => tv ρ S1 fun y S2 => r ρ S2 fun ps S3 => Q ((x, y) :: ps) S3
instance lps_nil : LPs K B [] wPs0 := ⟨fun σ H ρ S Q Qw hs hh q po => po [] H [] S (Tk.refl H) hh (show RepL K H [] [] from rfl) (show RepL K H [] [] from rfl) q⟩
instance lps_cons {tk tv : TE} {r : List (TE × TE)} {wk wv : TEW} {wr : TPW} [a : LE K B tk wk] [b : LE K B tv wv] [c : LPs K B r wr] : LPs K B ((tk, tv) :: r) (wPsC wk wv wr) := ⟨fun σ H ρ S Q Qw hs hh q po =>
  a.l σ H ρ S _ _ hs hh q fun x H1 wx S1 t1 hh1 r1 q1 => b.l σ H1 ρ S1 _ _ (hs.tk t1) hh1 q1 fun y H2 wy S2 t2 hh2 r2 q2 => c.l σ H2 ρ S2 _ _ (hs.tk (t1.trans t2)) hh2 q2 fun ps H3 qs S3 t3 hh3 r3 r4 q3 =>
    po ((x, y) :: ps) H3 ((wx, wy) :: qs) S3 ((t1.trans t2).trans t3) hh3 (RepL.cons (Rep.tk (t2.trans t3) _ _ r1) r3) (RepL.cons (Rep.tk t3 _ _ r2) r4) q3⟩
def keysW : List (W × W) → Option (List (Key × W))
  | [] => some []
  | (k, v) :: ps => match toKey k, keysW ps with
    | some k, some r => some ((k, v) :: r)
    | _, _ => none
def mergeW (kvs more : List (Key × W)) : List (Key × W) := more.foldl (fun acc kv => putW acc kv.1 kv.2) kvs
theorem RepKV.merge {H : Hp} : ∀ {ps : List (Key × W)} {ys : List (Key × V)} {qs : List (Key × W)} {zs : List (Key × V)}, RepKV K H qs zs → RepKV K H ps ys → RepKV K H (mergeW ps qs) (mergeK ys zs)
  | _, _, [], _, h, g => by cases (show _ = [] from h); exact g
  | ps, ys, p :: qs, _, h, g => by
    obtain ⟨v, r, rfl, h1, h2⟩ := h
    exact RepKV.merge (ps := putW ps p.1 p.2) (ys := putK ys p.1 v) h2 (g.put h1)
theorem keysW_rep {H : Hp} : ∀ {qs : List (W × W)} {ps : List (V × V)} {kvs : List (Key × W)}, RepL K H (qs.map (·.1)) (ps.map (·.1)) → RepL K H (qs.map (·.2)) (ps.map (·.2)) → keysW qs = some kvs →
    ∃ ys : List (Key × V), ps = ys.map (fun kv => (kV kv.1, kv.2)) ∧ RepKV K H kvs ys
  | [], ps, kvs, r1, r2, e => by
    cases e
    have : ps.map (·.1) = [] := r1
    cases ps with
    | nil => exact ⟨[], rfl, rfl⟩
    | cons p ps => cases this
  | (k, v) :: qs, ps, kvs, r1, r2, e => by
    cases ps with
    | nil => obtain ⟨x, r, e, _⟩ := r1; cases e
    | cons p ps =>
      obtain ⟨x, r, e1, h1, h2⟩ := r1
      obtain ⟨y, r', e2, h3, h4⟩ := r2
      cases e1
      cases e2
      unfold keysW at e
      split at e
      · rename_i k' r' ek er
        cases e
        obtain ⟨ys, rfl, h5⟩ := keysW_rep h2 h4 er
        obtain ⟨ev, _⟩ := toKey_rep h1 ek
        refine ⟨(k', p.2) :: ys, ?_, p.2, ys, rfl, h3, h5⟩
        rw [List.map_cons]
        show p :: _ = (kV k', p.2) :: _
        rw [← ev]
      · cases e
def wDisp (t : TPW) : TEW := fun ρ S Q => ∀ p, S p = none → t ρ (put S p (.dk [])) fun ps S2 => S2 p = some (.dk []) ∧ ∃ kvs, keysW ps = some kvs ∧ kvs.length ≤ 15 ∧ Q (.ref p) (put S2 p (.dk (mergeW [] kvs)))
theorem RepKV.len' {H : Hp} {ps : List (Key × W)} {ys : List (Key × V)} (h : RepKV K H ps ys) : ys.length = ps.length := h.length
instance le_disp {t : List (TE × TE)} {tw : TPW} [a : LPs K B t tw] : LE K B (tDisp t) (wDisp tw) := ⟨fun σ H ρ S Q Qw hs hh q po p hp => by
  have t0 : Tk H (upd H p (.dK [])) := Tk.new hp
  have hh0 : HRep K (upd H p (.dK [])) (put S p (.dk [])) := hh.new hp ⟨[], upd_same, rfl⟩
  refine a.l σ _ ρ _ _ _ (hs.tk t0) hh0 (q p (hh.fresh hp)) fun ps H2 qs S2 t2 hh2 r1 r2 q2 => ?_
  obtain ⟨e, kvs, ek, hl, q3⟩ := q2
  obtain ⟨ys, h1, h2⟩ := hh2 _ _ e
  cases (show ys = [] from h2)
  obtain ⟨zs, rfl, h3⟩ := keysW_rep r1 r2 ek
  have t : Tk H2 (upd H2 p (.dK (mergeK [] zs))) := Tk.mut h1 (fun _ z => (by cases z)) (fun _ _ z => (by cases z))
  obtain ⟨t, hm⟩ := hh2.mut (c' := .dk (mergeW [] kvs)) (o := .dK (mergeK [] zs)) e ⟨_, upd_same, RepKV.merge (RepKV.tk t _ _ h3) (show RepKV K _ [] [] from rfl)⟩
  exact ⟨h1, zs, rfl, by rw [h3.len']; exact hl, po.ref ((t0.trans t2).trans t) hm q3⟩⟩
/-! ### d.get -/
def wGet1 (td ty : TEW) : TEW := fun ρ S Q => td ρ S fun x S1 => match x with
  | .ref a => (∃ kvs, S1 a = some (.dk kvs)) ∧ ty ρ S1 fun y S2 => ∃ kvs k, S2 a = some (.dk kvs) ∧ toKey y = some k ∧ Q ((valW kvs k).getD .non) S2
  | _ => False
def wGet2 (td ty tx : TEW) : TEW := fun ρ S Q => td ρ S fun x S1 => match x with
  | .ref a => (∃ kvs, S1 a = some (.dk kvs)) ∧ ty ρ S1 fun y S2 => tx ρ S2 fun z S3 => ∃ kvs k, S3 a = some (.dk kvs) ∧ toKey y = some k ∧ Q ((valW kvs k).getD z) S3
  | _ => False
theorem getD_rep {H : Hp} {k : Key} {ps : List (Key × W)} {ys : List (Key × V)} {w : W} {v : V} (r : RepKV K H ps ys) (q : Rep K H w v) : Rep K H ((valW ps k).getD w) ((valV ys k).getD v) := by
  cases e : valW ps k with
  | none => rw [r.of_none e]; exact q
  | some w => obtain ⟨v, e2, r⟩ := r.of_some e; rw [e2]; exact r
instance le_get1 {td ty : TE} {wd wy : TEW} [a : LE K B td wd] [b : LE K B ty wy] : LE K B (tDGet1 td ty) (wGet1 wd wy) := ⟨fun σ H ρ S Q Qw hs hh q po =>
  a.l σ H ρ S _ _ hs hh q fun x H1 wx S1 t1 hh1 r1 q1 => by
    cases wx <;> try exact q1.elim
    rename_i a
    obtain ⟨⟨kvs, e⟩, q1⟩ := q1
    obtain ⟨ys, h1, h2⟩ := hh1 _ _ e
    refine ⟨a, r1, .inl ⟨ys, .inl h1⟩, b.l σ H1 ρ S1 _ _ (hs.tk t1) hh1 q1 fun y H2 wy S2 t2 hh2 r2 q2 => ?_⟩
    obtain ⟨kvs, k, e, ek, q⟩ := q2
    obtain ⟨ys, h1, h2⟩ := hh2 _ _ e
    obtain ⟨ev, _⟩ := toKey_rep r2 ek
    exact ⟨valV ys k, by rw [ev]; exact DGet.k h1, po _ H2 _ S2 (t1.trans t2) hh2 (getD_rep h2 (show Rep K H2 .non .non from rfl)) q⟩⟩
instance le_get2 {td ty tx : TE} {wd wy wx : TEW} [a : LE K B td wd] [b : LE K B ty wy] [c : LE K B tx wx] : LE K B (tDGet2 td ty tx) (wGet2 wd wy wx) := ⟨fun σ H ρ S Q Qw hs hh q po =>
  a.l σ H ρ S _ _ hs hh q fun x H1 wx S1 t1 hh1 r1 q1 => by
    cases wx <;> try exact q1.elim
    rename_i a
    obtain ⟨⟨kvs, e⟩, q1⟩ := q1
    obtain ⟨ys, h1, h2⟩ := hh1 _ _ e
    refine ⟨a, r1, .inl ⟨ys, .inl h1⟩, b.l σ H1 ρ S1 _ _ (hs.tk t1) hh1 q1 fun y H2 wy S2 t2 hh2 r2 q2 => c.l σ H2 ρ S2 _ _ (hs.tk (t1.trans t2)) hh2 q2 fun z H3 wz S3 t3 hh3 r3 q3 => ?_⟩
    obtain ⟨kvs, k, e, ek, q⟩ := q3
    obtain ⟨ys, h1, h2⟩ := hh3 _ _ e
    obtain ⟨ev, _⟩ := toKey_rep (Rep.tk t3 _ _ r2) ek
    exact ⟨valV ys k, by rw [ev]; exact DGet.k h1, po _ H3 _ S3 ((t1.trans t2).trans t3) hh3 (getD_rep h2 r3) q⟩⟩
/-! ### list(range(..)), tuple(range(..)) -/
abbrev TRgW := StW → Sto → (Int → Int → Sto → Prop) → Prop
class LRg (K : PySem.W.Frag) (B : Hp) (t : L2.St → Hp → (Int → Int → Hp → Prop) → Prop) (tw : outParam TRgW) : Prop where
  l : ∀ σ H ρ S Q Qw, SRep K B H σ ρ → HRep K H S → tw ρ S Qw → (∀ a b H' S', Tk H H' → HRep K H' S' → Qw a b S' → Q a b H') → t σ H Q
def wRg1 (ta : TEW) : TRgW := fun ρ S Q => ta ρ S fun x S1 => match x with
  | .int n => Q 0 n S1
  | _ => False
def wRg2 (ta tb : TEW) : TRgW := fun ρ S Q => ta ρ S fun x S1 => tb ρ S1 fun y S2 => match x, y with
  | .int n, .int m => Q n m S2
  | _, _ => False
instance lrg_1 {t : TE} {tw : TEW} [a : LE K B t tw] : LRg K B (tRg1 t) (wRg1 tw) := ⟨fun σ H ρ S Q Qw hs hh q po => a.l σ H ρ S _ _ hs hh q fun x H1 wx S1 t1 hh1 r1 q1 => by
  cases wx <;> try exact q1.elim
  cases (show x = _ from r1)
  exact ⟨_, rfl, po _ _ H1 S1 t1 hh1 q1⟩⟩
instance lrg_2 {t u : TE} {tw uw : TEW} [a : LE K B t tw] [b : LE K B u uw] : LRg K B (tRg2 t u) (wRg2 tw uw) := ⟨fun σ H ρ S Q Qw hs hh q po => a.l σ H ρ S _ _ hs hh q fun x H1 wx S1 t1 hh1 r1 q1 =>
  b.l σ H1 ρ S1 _ _ (hs.tk t1) hh1 q1 fun y H2 wy S2 t2 hh2 r2 q2 => by
    cases wx <;> cases wy <;> try exact q2.elim
    cases (show x = _ from r1)
    cases (show y = _ from r2)
    exact ⟨_, _, rfl, rfl, po _ _ H2 S2 (t1.trans t2) hh2 q2⟩⟩
theorem rgV_rep {H : Hp} (a b : Int) : RepL K H (intsW a (b - a).toNat) (rgV a b) := by
  have e1 : intsW a (b - a).toNat = ((List.range (b - a).toNat).map fun i => a + ((i : Nat) : Int)).map W.int := by unfold intsW; rw [List.map_map]; rfl
  have e2 : rgV a b = ((List.range (b - a).toNat).map fun i => a + ((i : Nat) : Int)).map V.int := by unfold rgV; rw [List.map_map]; rfl
  rw [e1, e2]
  exact RepL.ofInts
def wLstRg (t : TRgW) : TEW := fun ρ S Q => t ρ S fun a b S1 => RgOk a b ∧ ∀ p, S1 p = none → Q (.ref p) (put S1 p (.lst (intsW a (b - a).toNat)))
def wTupRg (t : TRgW) : TEW := fun ρ S Q => t ρ S fun a b S1 => RgOk a b ∧ Q (.tup (intsW a (b - a).toNat)) S1
instance le_lstRg {t : L2.St → Hp → (Int → Int → Hp → Prop) → Prop} {tw : TRgW} [a : LRg K B t tw] : LE K B (tLstRg t) (wLstRg tw) := ⟨fun σ H ρ S Q Qw hs hh q po =>
  a.l σ H ρ S _ _ hs hh q fun x y H1 S1 t1 hh1 q1 => ⟨q1.1, fun p hp => (po.tk t1).nlst hp hh1 (rgV_rep x y) q1.2⟩⟩
instance le_tupRg {t : L2.St → Hp → (Int → Int → Hp → Prop) → Prop} {tw : TRgW} [a : LRg K B t tw] : LE K B (tTupRg t) (wTupRg tw) := ⟨fun σ H ρ S Q Qw hs hh q po =>
  a.l σ H ρ S _ _ hs hh q fun x y H1 S1 t1 hh1 q1 => ⟨q1.1, fun p hp => (po.tk t1).ntup hp hh1 (rgV_rep x y) q1.2⟩⟩
end Wl
set_option Elab.async false
set_option linter.all false
set_option maxRecDepth 100000
set_option maxHeartbeats 2000000
/-! Methods of texts; reversed; comprehensions with a tuple target. -/
namespace Wl
open PySem PySem.Spec PyProof.Rows L2
variable {K : PySem.W.Frag} {B : Hp}
def wS0 (C : Str → Prop) (f : Str → W) : W → List W → Sto → WK → Prop := fun x ws S Q => match x, ws with
  | .str a, [] => C a ∧ Q (f a) S
  | _, _ => False
def wS1 (C : Str → Str → Prop) (f : Str → Str → W) : W → List W → Sto → WK → Prop := fun x ws S Q => match x, ws with
  | .str a, [.str b] => C a b ∧ Q (f a b) S
  | _, _ => False
instance lm_s0s {C : Str → Prop} {f : Str → Str} : LMR K (fun x xs H Q => ∃ a, x = .str a ∧ xs = [] ∧ C a ∧ Q (.str (f a)) H) (wS0 C fun a => .str (f a)) := ⟨fun H S x wx xs ws Q Qw hh rx r q po => by
  unfold wS0 at q
  split at q
  · cases (show x = _ from rx)
    cases (show xs = [] from r)
    exact ⟨_, rfl, rfl, q.1, po.str (Tk.refl H) hh q.2⟩
  · exact q.elim⟩
instance lm_s0b {C : Str → Prop} {f : Str → Bool} : LMR K (fun x xs H Q => ∃ a, x = .str a ∧ xs = [] ∧ C a ∧ Q (.bl (f a)) H) (wS0 C fun a => .bl (f a)) := ⟨fun H S x wx xs ws Q Qw hh rx r q po => by
  unfold wS0 at q
  split at q
  · cases (show x = _ from rx)
    cases (show xs = [] from r)
    exact ⟨_, rfl, rfl, q.1, po.bl (Tk.refl H) hh q.2⟩
  · exact q.elim⟩
def wS1p (f : Str → Str → W) : W → List W → Sto → WK → Prop := fun x ws S Q => match x, ws with
  | .str a, [.str b] => Q (f a b) S
  | _, _ => False
instance lm_s1b {f : Str → Str → Bool} : LMR K (fun x xs H Q => ∃ a b, x = .str a ∧ xs = [.str b] ∧ Q (.bl (f a b)) H) (wS1p fun a b => .bl (f a b)) := ⟨fun H S x wx xs ws Q Qw hh rx r q po => by
  unfold wS1p at q
  split at q
  · cases (show x = _ from rx)
    obtain ⟨y, rfl, ry⟩ := rep1 r
    cases (show y = _ from ry)
    exact ⟨_, _, rfl, rfl, po.bl (Tk.refl H) hh q⟩
  · exact q.elim⟩
instance lm_s1i {f : Str → Str → Int} : LMR K (fun x xs H Q => ∃ a b, x = .str a ∧ xs = [.str b] ∧ Q (.int (f a b)) H) (wS1p fun a b => .int (f a b)) := ⟨fun H S x wx xs ws Q Qw hh rx r q po => by
  unfold wS1p at q
  split at q
  · cases (show x = _ from rx)
    obtain ⟨y, rfl, ry⟩ := rep1 r
    cases (show y = _ from ry)
    exact ⟨_, _, rfl, rfl, po.int (Tk.refl H) hh q⟩
  · exact q.elim⟩
instance lm_s1s {C : Str → Str → Prop} {f : Str → Str → Str} : LMR K (fun x xs H Q => ∃ a b, x = .str a ∧ xs = [.str b] ∧ C a b ∧ Q (.str (f a b)) H) (wS1 C fun a b => .str (f a b)) := ⟨fun H S x wx xs ws Q Qw hh rx r q po => by
  unfold wS1 at q
  split at q
  · cases (show x = _ from rx)
    obtain ⟨y, rfl, ry⟩ := rep1 r
    cases (show y = _ from ry)
    exact ⟨_, _, rfl, rfl, q.1, po.str (Tk.refl H) hh q.2⟩
  · exact q.elim⟩
/-- s.split(t) -/
def wSplit : W → List W → Sto → WK → Prop := fun x ws S Q => match x, ws with
  | .str a, [.str b] => (b.length == 0) = false ∧ a.length + 2 ≤ sizeLine ∧ ∀ p, S p = none → Q (.ref p) (put S p (.lst ((Txt.split a b).map W.str)))
  | _, _ => False
def rSplit1 : V → List V → Hp → VK → Prop := fun x xs H Q => ∃ a b, x = .str a ∧ xs = [.str b] ∧ (b.length == 0) = false ∧ a.length + 2 ≤ sizeLine ∧ ∀ p, H p = none → Q (.ref p) (upd H p (.lst ((Txt.split a b).map V.str)))
theorem mt_split1 {X : Cx} : MtR X "str.split" rSplit1 := fun pins s σ H x xs v us Q I rx rs ⟨a, b, h1, h2, h3, h4, h5⟩ => mt_split pins s σ H x xs v us Q I rx rs ⟨a, b, h1, h2, h3, h4, h5⟩
instance lm_split : LMR K rSplit1 wSplit := ⟨fun H S x wx xs ws Q Qw hh rx r q po => by
  unfold wSplit at q
  split at q
  · cases (show x = _ from rx)
    obtain ⟨y, rfl, ry⟩ := rep1 r
    cases (show y = _ from ry)
    exact ⟨_, _, rfl, rfl, q.1, q.2.1, fun p hp => po.nlst hp hh RepL.ofStrs q.2.2⟩
  · exact q.elim⟩
/-- s.partition(t) -/
def partW (a b : Str) : W := .tup [.str (Txt.partition a b).1, .str (Txt.partition a b).2.1, .str (Txt.partition a b).2.2]
def wPartition : W → List W → Sto → WK → Prop := fun x ws S Q => match x, ws with
  | .str a, [.str b] => (b.length == 0) = false ∧ a.length ≤ sizeLine ∧ Q (partW a b) S
  | _, _ => False
def rPart1 : V → List V → Hp → VK → Prop := fun x xs H Q => ∃ a b, x = .str a ∧ xs = [.str b] ∧ (b.length == 0) = false ∧ a.length ≤ sizeLine ∧ ∀ p, H p = none → Q (.ref p) (upd H p (.tup [.str (Txt.partition a b).1, .str (Txt.partition a b).2.1, .str (Txt.partition a b).2.2]))
theorem mt_part1 {X : Cx} : MtR X "str.partition" rPart1 := fun pins s σ H x xs v us Q I rx rs ⟨a, b, h1, h2, h3, h4, h5⟩ => mt_partition pins s σ H x xs v us Q I rx rs ⟨a, b, h1, h2, h3, h4, h5⟩
instance lm_part : LMR K rPart1 wPartition := ⟨fun H S x wx xs ws Q Qw hh rx r q po => by
  unfold wPartition at q
  split at q
  · cases (show x = _ from rx)
    obtain ⟨y, rfl, ry⟩ := rep1 r
    cases (show y = _ from ry)
    exact ⟨_, _, rfl, rfl, q.1, q.2.1, fun p hp => po.ntup (ws := [.str _, .str _, .str _]) hp hh (.cons rfl (.cons rfl (.one rfl))) q.2.2⟩
  · exact q.elim⟩
/-! ### reversed -/
theorem k_rev (K : PySem.W.Frag) {X : Cx} {tg e : Expr} {ta : TA} {p pos : Pos} (hg : Gl X "reversed") (hm : X.mg "reversed" = none) (ha : PA X [e] ta) (hs : starEach [e] X.env = [(false, eval e X.env)] := by rfl) (hK : X.K = K := by rfl) : PI X tg (.Call (.Name "reversed" p) [e] [] pos) (iRev K ta) := by
  subst hK; exact pi_reversed hg hm ha hs
def keepR (a : Addr) (ws : List W) : Sto → Prop := fun S => S a = some (.lst ws)
theorem src_rev {H1 : Hp} {a : Addr} {n : Nat} {ws : List W} (hn : n = ws.length) : IsSrc K H1 (Itv K a n) ws.reverse (keepR a ws) where
  go := fun i H S t hh ok hi => by
    obtain ⟨xs, h1, h2⟩ := hh _ _ ok
    rw [List.length_reverse] at hi
    refine ⟨by omega, xs, xs[n - 1 - i]'(by rw [h2.length]; omega), SqL.of h1, ?_⟩
    exact List.getElem?_eq_getElem (by rw [h2.length]; omega)
  yld := fun i H S x H' t hh ok hi y => by
    obtain ⟨e, y⟩ := y
    subst e
    obtain ⟨xs, h1, h2⟩ := hh _ _ ok
    rw [List.length_reverse] at hi
    obtain ⟨w, e, r⟩ := h2.get' (y xs (SqL.of h1))
    refine ⟨Tk.refl _, hh, w, ?_, r⟩
    rw [List.getElem?_reverse hi, ← hn]
    exact e
  stop := fun i H S t hh ok hi => by rw [List.length_reverse] at hi; show n ≤ i; omega
def wiRev (ta : TAW) : TIW := fun ρ S R => ta ρ S fun ws S1 => match ws with
  | [.ref a] => ∃ ws, S1 a = some (.lst ws) ∧ R ws.reverse (keepR a ws) S1
  | _ => False
instance li_rev {t : TA} {tw : TAW} [a : LA K B t tw] : LI K B (iRev K t) (wiRev tw) := ⟨fun σ H ρ S R Rw hs hh q po => a.l σ H ρ S _ _ hs hh q fun xs H1 ws S1 t1 hh1 r1 q1 => by
  split at q1
  · obtain ⟨x, rfl, h1⟩ := rep1 r1
    cases (show x = _ from h1)
    obtain ⟨ws, e, q⟩ := q1
    obtain ⟨ys, h2, h3⟩ := hh1 _ _ e
    exact ⟨_, ys, rfl, SqL.of h2, po _ H1 S1 _ _ t1 hh1 (src_rev h3.length) q⟩
  · exact q1.elim⟩
/-! ### comprehensions: any target that only stores -/
section
variable {g : TGW} {tt : TTW} {te : TEW} {vs : List Nat} {ρ : StW} {Q : WK} {ws : List W} {ok : Sto → Prop} {S1 : Sto}
theorem lc_filG (r : W → StW) (p : W → Bool) (f : W → W) (hl : ws.length ≤ 100000) (hok : ∀ (D : Addr) (acc : List W), S1 D = none → ok (put S1 D (.lst acc)))
    (hg : ∀ (i : Nat) (w : W) (S : Sto) (R : StW → Sto → Prop), ws[i]? = some w → R (r w) S → g w (wipeW ρ vs) S R)
    (ht : ∀ (i : Nat) (w : W) (D : Addr) (acc : List W), ws[i]? = some w → S1 D = none → EvW tt (r w) (put S1 D (.lst acc)) (p w))
    (he : ∀ (i : Nat) (w : W) (D : Addr) (acc : List W), ws[i]? = some w → p w = true → S1 D = none → ∀ Q' : WK, Q' (f w) (put S1 D (.lst acc)) → te (r w) (put S1 D (.lst acc)) Q')
    (hd : ∀ (D : Addr), S1 D = none → Q (.ref D) (put S1 D (.lst ((ws.filter p).map f)))) : LcQ g tt te vs ρ Q ws ok S1 := by
  refine lc_q fun D hD => ⟨fun i acc S' => i ≤ ws.length ∧ acc = ((ws.take i).filter p).map f ∧ S' = put S1 D (.lst acc), ⟨Nat.zero_le _, rfl, rfl⟩, ?_, ?_, ?_⟩
  · rintro i acc S' ⟨_, _, rfl⟩
    exact hok D acc hD
  · rintro i w acc S' e ⟨_, ha, rfl⟩
    have hi : i < ws.length := (List.getElem?_eq_some_iff.mp e).1
    have tk : ws.take (i + 1) = ws.take i ++ [w] := by rw [List.take_add_one, e]; rfl
    refine hg i w _ _ e ?_
    refine ht i w D acc e hD _ ⟨fun hb => he i w D acc e hb hD _ ⟨put_same, ?_, ?_⟩, fun hb => ⟨hi, ?_, rfl⟩⟩
    · rw [ha, List.length_map]
      refine Nat.lt_of_le_of_lt (Nat.le_trans (List.length_filter_le _ _) (by rw [List.length_take]; exact Nat.min_le_left _ _)) (Nat.lt_of_lt_of_le (show i < 200000 by omega) (by decide))
    · refine ⟨hi, ?_, put_put⟩
      rw [tk, List.filter_append, List.map_append, ha]
      simp [hb]
    · rw [tk, List.filter_append, List.map_append, ha]
      simp [hb]
  · rintro acc S' ⟨_, ha, rfl⟩
    rw [List.take_of_length_le (Nat.le_refl _)] at ha
    rw [ha]
    exact hd D hD
end
theorem isTy_nd : isTy "NoneType" "dict" = some false := by decide +kernel
theorem isTy_ld : isTy "list" "dict" = some false := by decide +kernel
theorem isTy_sd : isTy "str" "dict" = some false := by decide +kernel
theorem isTy_id : isTy "int" "dict" = some false := by decide +kernel
theorem isTy_bd : isTy "bool" "dict" = some false := by decide +kernel
theorem isTy_db : isTy "dict" "bool" = some false := by decide +kernel
theorem isTy_di : isTy "dict" "int" = some false := by decide +kernel
theorem isTy_ds : isTy "dict" "str" = some false := by decide +kernel
theorem isTy_dt : isTy "dict" "tuple" = some false := by decide +kernel
theorem isTy_dl : isTy "dict" "list" = some false := by decide +kernel
theorem put_none {S : Sto} {a b : Addr} {c : Cell} (h : put S a c b = none) : b ≠ a ∧ S b = none := by
  by_cases e : b = a
  · rw [e, put_same] at h; cases h
  · rw [put_ne e] at h; exact ⟨e, h⟩
theorem evYes {ρ : StW} {S : Sto} : EvW wYes ρ S true := fun Q q => q
end Wl
set_option Elab.async false
set_option linter.all false
set_option maxRecDepth 100000
set_option maxHeartbeats 2000000
/-! Own classes over data: made, their fields, their methods, + and the like, isinstance. -/
namespace Wl
open PySem PySem.Spec PyProof.Rows L2
variable {K : PySem.W.Frag} {B : Hp}
/-! ### fields -/
def putFW (f : Str) (v : W) : List (Str × W) → List (Str × W)
  | [] => [(f, v)]
  | (g, x) :: r => if g = f then (g, v) :: r else (g, x) :: putFW f v r
theorem RepKV.putF {H : Hp} {f : Str} {w : W} {x : V} (q : Rep K H w x) : ∀ {ps : List (Str × W)} {ys : List (Str × V)}, RepKV K H ps ys → RepKV K H (putFW f w ps) (L2.putF f x ys)
  | [], _, h => by
    cases (show _ = [] from h)
    exact ⟨x, [], rfl, q, rfl⟩
  | (g, z) :: ps, _, h => by
    obtain ⟨v, r, rfl, h1, h2⟩ := h
    unfold putFW L2.putF
    by_cases e : g = f
    · rw [if_pos e, if_pos e]
      exact ⟨x, r, rfl, q, h2⟩
    · rw [if_neg e, if_neg e]
      exact ⟨v, _, rfl, h1, RepKV.putF q h2⟩
theorem RepKV.look {H : Hp} {f : Str} : ∀ {ps : List (Str × W)} {ys : List (Str × V)} {w : W}, RepKV K H ps ys → ps.lookup f = some w → ∃ v, ys.lookup f = some v ∧ Rep K H w v
  | [], _, _, h, e => by cases e
  | (g, z) :: ps, _, w, h, e => by
    obtain ⟨v, r, rfl, h1, h2⟩ := h
    unfold List.lookup at e ⊢
    cases q : f == g with
    | true => rw [q] at e; cases e; exact ⟨v, rfl, h1⟩
    | false => rw [q] at e; exact RepKV.look h2 e
theorem RepKV.lookN {H : Hp} {f : Str} : ∀ {ps : List (Str × W)} {ys : List (Str × V)}, RepKV K H ps ys → ps.lookup f = none → ys.lookup f = none
  | [], _, h, e => by cases (show _ = [] from h); rfl
  | (g, z) :: ps, _, h, e => by
    obtain ⟨v, r, rfl, h1, h2⟩ := h
    unfold List.lookup at e ⊢
    cases q : f == g with
    | true => rw [q] at e; cases e
    | false => rw [q] at e; exact RepKV.lookN h2 e
structure FldOk (K : PySem.W.Frag) (C : Addr) (f : Str) : Prop where
  cl : Cls K C
  no : NoAttr K C f
theorem k_fld (K : PySem.W.Frag) {X : Cx} {e : Expr} {f : Str} {pos : Pos} {ta : TE} (he : PE X e ta) (hb : attributeBase e f X.env (eval e X.env) = eval e X.env := by rfl) (hK : X.K = K := by rfl) : PE X (.Attribute e f pos) (tFld K ta f) := by
  subst hK; exact pe_fld he hb
def wFld (K : PySem.W.Frag) (t : TEW) (f : Str) : TEW := fun ρ S Q => t ρ S fun x S1 => match x with
  | .ref a => ∃ C fs v, S1 a = some (.ins C fs) ∧ FldOk K C f ∧ fs.lookup f = some v ∧ Q v S1
  | _ => False
instance le_fld {t : TE} {tw : TEW} {f : Str} [a : LE K B t tw] : LE K B (tFld K t f) (wFld K tw f) := ⟨fun σ H ρ S Q Qw hs hh q po => a.l σ H ρ S _ _ hs hh q fun x H1 wx S1 t1 hh1 r1 q1 => by
  cases wx <;> try exact q1.elim
  cases (show x = _ from r1)
  obtain ⟨C, fs, v, e, ok, l, q⟩ := q1
  obtain ⟨dx, gs, h1, h2⟩ := hh1 _ _ e
  obtain ⟨y, l2, r⟩ := h2.look l
  exact ⟨_, C, dx, gs, y, rfl, h1, ok.cl, ok.no, l2, po y H1 v S1 t1 hh1 r q⟩⟩
def wSFld (K : PySem.W.Frag) (to tv : TEW) (f : Str) : TSW := fun D ρ S => tv ρ S fun y S1 => to ρ S1 fun x S2 => match x with
  | .ref a => ∃ C fs, S2 a = some (.ins C fs) ∧ FldOk K C f ∧ fs.length < 1000 ∧ D.nx ρ (put S2 a (.ins C (putFW f y fs)))
  | _ => False
instance ls_sfld {to tv : TE} {wo wv : TEW} {f : Str} [a : LE K B to wo] [b : LE K B tv wv] : LS K B (sFld K to tv f) (wSFld K wo wv f) := ⟨fun σ H ρ S D Dw hs hh q po =>
  b.l σ H ρ S _ _ hs hh q fun y H1 wy S1 t1 hh1 r1 q1 => a.l σ H1 ρ S1 _ _ (hs.tk t1) hh1 q1 fun x H2 wx S2 t2 hh2 r2 q2 => by
    cases wx <;> try exact q2.elim
    cases (show x = _ from r2)
    rename_i a
    obtain ⟨C, fs, e, ok, hl, q⟩ := q2
    obtain ⟨dx, gs, h1, h2⟩ := hh2 _ _ e
    have t : Tk H2 (upd H2 a (.ins C dx (L2.putF f y gs))) := Tk.mut h1 (fun _ z => (by cases z)) (fun _ _ z => (by cases z))
    obtain ⟨t, hm⟩ := hh2.mut (c' := .ins C (putFW f wy fs)) (o := .ins C dx (L2.putF f y gs)) e ⟨dx, _, upd_same, RepKV.putF (Rep.tk t _ _ (Rep.tk t2 _ _ r1)) (RepKV.tk t _ _ h2)⟩
    exact ⟨a, C, dx, gs, rfl, h1, ok.cl, ok.no, by rw [h2.length]; exact hl, po.nx σ _ ρ _ ((t1.trans t2).trans t) (hs.tk ((t1.trans t2).trans t)) hm q⟩⟩
theorem k_sfld (K : PySem.W.Frag) {X : Cx} {o value : Expr} {f : Str} {tpos pos : Pos} {ta tv : TE} (ho : PE X o ta) (hv : PE X value tv) (hsw : swapsWith value (some (.Attribute o f tpos)) pos.line X.env = pure false := by rfl) (hK : X.K = K := by rfl) : PS X (.Assign [.Attribute o f tpos] value pos) (sFld K ta tv f) := by
  subst hK; exact ps_fld ho hv hsw
/-! ### instances made -/
section
variable {P : Program} {w : World} {mg : Str → Option Value} {base : Heap}
structure CalI (P : Program) (w : World) (K : PySem.W.Frag) (mg : Str → Option Value) (base : Heap) (k : Nat) (C : Addr) (sp : SpW) : Prop where
  ex : ∃ (f : Addr) (fd : FuncData) (ps : List Str), FnOk P w K mg base CX0 k f fd ps (liftSp K sp) ∧ Mk K C f ∧ Binds K fd ps []
structure CalM (P : Program) (w : World) (K : PySem.W.Frag) (mg : Str → Option Value) (base : Heap) (k : Nat) (C : Addr) (m : Str) (sp : SpW) : Prop where
  ex : ∃ (f : Addr) (fd : FuncData) (ps : List Str), FnOk P w K mg base CX0 k f fd ps (liftSp K sp) ∧ Meth K C m f ∧ Binds K fd ps []
theorem CalI.hd {k : Nat} {C : Addr} {sp : SpW} (c : CalI P w K mg base k C sp) : CalI P w K mg base k C (Hd sp) := by rw [Hd_eq]; exact c
theorem CalM.hd {k : Nat} {C : Addr} {m : Str} {sp : SpW} (c : CalM P w K mg base k C m sp) : CalM P w K mg base k C m (Hd sp) := by rw [Hd_eq]; exact c
theorem CalI.mono {j k : Nat} {C : Addr} {sp : SpW} (c : CalI P w K mg base j C sp) (h : j ≤ k) : CalI P w K mg base k C sp := by
  obtain ⟨f, fd, ps, F, r⟩ := c.ex
  exact ⟨f, fd, ps, F.mono h, r⟩
theorem CalM.mono {j k : Nat} {C : Addr} {m : Str} {sp : SpW} (c : CalM P w K mg base j C m sp) (h : j ≤ k) : CalM P w K mg base k C m sp := by
  obtain ⟨f, fd, ps, F, r⟩ := c.ex
  exact ⟨f, fd, ps, F.mono h, r⟩
/-- a method of the text at its class -/
structure MethAt (K : PySem.W.Frag) (C : Addr) (x qual : Str) (st : Stmt) (ps : List Str) : Prop where
  ex : ∃ (f : Addr) (fd : FuncData), Fun K x qual st f fd ∧ Meth K C x f ∧ Binds K fd ps []
theorem fnM {x qual : Str} {st : Stmt} {N ps : List Str} {k : Nat} {sp : SpW} {f : Addr} {fd : FuncData} (F : Fun K x qual st f fd) (SC : FnScope N ps (defScope st))
    (len : ∀ ws S Q, sp ws S Q → ws.length = ps.length)
    (hbody : ∀ (f : Addr) (cdv : Value) (A : Around) (outer : List Env) (s : Shared) (H : Hp) (E : XK), Room k (A.deeper (envOfC qual (defScope st) s.heap.objs.size f cdv)) →
      ∃ t tw, PSs (cxOf CX0 P w K mg base N qual (defScope st) f cdv A outer s H E).nox (defBody st) t ∧ LS K H t tw ∧ ∀ ws S Q, sp ws S Q → tw { nx := fun _ S' => FgI Q .non S', rt := FgI Q } (startW N ws) S) :
    FnOk P w K mg base CX0 (k + 1) f fd ps (liftSp K sp) :=
  F.ok SC (fun vs H Q E ⟨ws, S, Qw, h1, _, h3, _⟩ => by rw [h1.length]; exact len _ _ _ h3) (fun cdv A outer s H vs Q E hr ⟨ws, S, Qw, h1, h2, h3, h4⟩ => by
    obtain ⟨t, tw, ht, hl, hq⟩ := hbody f cdv A outer s H E hr
    refine ⟨t, ht, hl.l _ H (startW N ws) S _ _ (SRep.init h1) h2 (hq ws S Qw h3) ⟨?_, fun _ _ _ _ _ _ _ z => z.elim, fun _ _ _ _ _ _ _ z => z.elim, ?_⟩⟩
    · intro σ' H' ρ' S' t1 _ hh q
      have q : FgI Qw .non S' := q
      rw [FgI_eq] at q
      obtain ⟨S2, sub, q⟩ := q
      exact h4.non t1 (hh.sub sub) q
    · intro v H' w S' t1 hh r q
      have q : FgI Qw w S' := q
      rw [FgI_eq] at q
      obtain ⟨S2, sub, q⟩ := q
      exact h4 v H' w S2 t1 (hh.sub sub) r q)
theorem calM {C : Addr} {x qual : Str} {st : Stmt} {N ps : List Str} {k : Nat} {sp : SpW} (d : MethAt K C x qual st ps) (SC : FnScope N ps (defScope st))
    (len : ∀ ws S Q, sp ws S Q → ws.length = ps.length)
    (hbody : ∀ (f : Addr) (cdv : Value) (A : Around) (outer : List Env) (s : Shared) (H : Hp) (E : XK), Room k (A.deeper (envOfC qual (defScope st) s.heap.objs.size f cdv)) →
      ∃ t tw, PSs (cxOf CX0 P w K mg base N qual (defScope st) f cdv A outer s H E).nox (defBody st) t ∧ LS K H t tw ∧ ∀ ws S Q, sp ws S Q → tw { nx := fun _ S' => FgI Q .non S', rt := FgI Q } (startW N ws) S) :
    CalM P w K mg base (k + 1) C x sp := by
  obtain ⟨f, fd, F, hm, b⟩ := d.ex
  exact ⟨f, fd, ps, fnM F SC len hbody, hm, b⟩
structure InitAt (K : PySem.W.Frag) (C : Addr) (qual : Str) (st : Stmt) (ps : List Str) : Prop where
  ex : ∃ (f : Addr) (fd : FuncData), Fun K "__init__" qual st f fd ∧ Mk K C f ∧ Binds K fd ps []
theorem calI {C : Addr} {qual : Str} {st : Stmt} {N ps : List Str} {k : Nat} {sp : SpW} (d : InitAt K C qual st ps) (SC : FnScope N ps (defScope st))
    (len : ∀ ws S Q, sp ws S Q → ws.length = ps.length)
    (hbody : ∀ (f : Addr) (cdv : Value) (A : Around) (outer : List Env) (s : Shared) (H : Hp) (E : XK), Room k (A.deeper (envOfC qual (defScope st) s.heap.objs.size f cdv)) →
      ∃ t tw, PSs (cxOf CX0 P w K mg base N qual (defScope st) f cdv A outer s H E).nox (defBody st) t ∧ LS K H t tw ∧ ∀ ws S Q, sp ws S Q → tw { nx := fun _ S' => FgI Q .non S', rt := FgI Q } (startW N ws) S) :
    CalI P w K mg base (k + 1) C sp := by
  obtain ⟨f, fd, F, hm, b⟩ := d.ex
  exact ⟨f, fd, ps, fnM F SC len hbody, hm, b⟩
theorem k_make (K : PySem.W.Frag) {X : Cx} {C : Addr} {k j : Nat} {x : Str} {sp : SpW} {p pos : Pos} {e : Expr} {es : List Expr} {t : TA} (c : CalI X.prog X.w K X.mg X.base k C sp) (hm : X.mg x = some (.ref C)) (hr : Room j X.A) (hk : k + 1 ≤ j) (hg : Gl X x) (ha : PA X (e :: es) t)
    (hdb : (x == ("__debug__" : Str)) = false := by decide) (he : starEach (e :: es) X.env = (false, eval e X.env) :: starEach es X.env := by rfl) (hpl : (backTo pos (starEach es X.env)).any (·.1) = false := by rfl) (hK : X.K = K := by rfl) :
    PE X (.Call (.Name x p) (e :: es) [] pos) (tMake C (liftSp K sp) [] E0 t) := by
  subst hK
  obtain ⟨f, fd, ps, F, M, b⟩ := c.ex
  exact pe_make M F (hr.mono hk) hg hm b .nil pass0 ha hdb he hpl
def wMake (C : Addr) (sp : SpW) (t : TAW) : TEW := fun ρ S Q => t ρ S fun ws S1 => ∀ x, S1 x = none → sp (.ref x :: ws) (put S1 x (.ins C [])) fun v S2 => v = .non ∧ Q (.ref x) S2
instance le_make {C : Addr} {sp : SpW} {E : XK} {t : TA} {tw : TAW} [a : LA K B t tw] : LE K B (tMake C (liftSp K sp) [] E t) (wMake C sp tw) := ⟨fun σ H ρ S Q Qw hs hh q po =>
  a.l σ H ρ S _ _ hs hh q fun xs H1 ws S1 t1 hh1 r1 q1 => fun x dx hx hdx ne => by
    have tD : Tk H1 (upd H1 dx (.own x)) := Tk.new hdx
    have hx2 : upd H1 dx (.own x) x = none := by rw [upd_ne (Ne.symm ne)]; exact hx
    have tX : Tk (upd H1 dx (.own x)) (upd (upd H1 dx (.own x)) x (.ins C dx [])) := Tk.new hx2
    have hh2 : HRep K (upd H1 dx (.own x)) S1 := hh1.laid hdx
    have hh3 : HRep K (upd (upd H1 dx (.own x)) x (.ins C dx [])) (put S1 x (.ins C [])) := hh2.new hx2 ⟨dx, [], upd_same, rfl⟩
    refine ⟨.ref x :: ws, put S1 x (.ins C []), _, ?_, hh3, q1 x (hh1.fresh hx), ?_⟩
    · rw [List.append_nil]
      exact .cons rfl (RepL.tk (tD.trans tX) _ _ r1)
    · rintro v H4 wv S4 t4 hh4 r4 ⟨e, q4⟩
      subst e
      exact ⟨r4, po.ref (((t1.trans tD).trans tX).trans t4) hh4 q4⟩⟩
/-! ### methods -/
theorem k_meth (K : PySem.W.Frag) {X : Cx} {C : Addr} {k j : Nat} {m : Str} {sp : SpW} {apos pos : Pos} {o e : Expr} {es : List Expr} {ta : TE} {t : TA} {pl : Sem Bool} (cl : Cls K C) (c : CalM X.prog X.w K X.mg X.base k C m sp) (hr : Room j X.A) (hk : k ≤ j) (ho : PE X o ta) (ha : PA X (e :: es) t)
    (hst : starEach (e :: es) X.env = (false, eval e X.env) :: starEach es X.env := by rfl) (hpl : (backTo pos (starEach es X.env)).any (·.1) = false := by rfl)
    (ht : eval (.Call (.Attribute o m apos) (e :: es) [] pos) X.env = (do
      let ov ← eval o X.env
      standAt apos.atName
      let (f, first) ← holding [ov] (getMethod ov m pl)
      callWith pos f first (backTo pos (starEach (e :: es) X.env)) (backToKw pos (keywordEach [] X.env))) := by rfl) (hK : X.K = K := by rfl) :
    PE X (.Call (.Attribute o m apos) (e :: es) [] pos) (tMeth C m (liftSp K sp) [] E0 ta t) := by
  subst hK
  obtain ⟨f, fd, ps, F, M, b⟩ := c.ex
  exact pe_meth (pl := pl) ho cl M F (hr.mono hk) b .nil pass0 ha hst hpl ht
theorem k_meth0 (K : PySem.W.Frag) {X : Cx} {C : Addr} {k j : Nat} {m : Str} {sp : SpW} {apos pos : Pos} {o : Expr} {ta : TE} {pl : Sem Bool} (cl : Cls K C) (c : CalM X.prog X.w K X.mg X.base k C m sp) (hr : Room j X.A) (hk : k ≤ j) (ho : PE X o ta)
    (ht : eval (.Call (.Attribute o m apos) [] [] pos) X.env = (do
      let ov ← eval o X.env
      standAt apos.atName
      let (f, first) ← holding [ov] (getMethod ov m pl)
      callWith pos f first (backTo pos (starEach [] X.env)) (backToKw pos (keywordEach [] X.env))) := by rfl) (hK : X.K = K := by rfl) :
    PE X (.Call (.Attribute o m apos) [] [] pos) (tMeth C m (liftSp K sp) [] E0 ta tNil) := by
  subst hK
  obtain ⟨f, fd, ps, F, M, b⟩ := c.ex
  exact pe_meth0 (pl := pl) ho cl M F (hr.mono hk) b .nil pass0 ht
def wMeth (C : Addr) (m : Str) (sp : SpW) (to : TEW) (t : TAW) : TEW := fun ρ S Q => to ρ S fun x S1 => match x with
  | .ref a => (∃ fs, S1 a = some (.ins C fs) ∧ fs.lookup m = none) ∧ t ρ S1 fun ws S2 => sp (.ref a :: ws) S2 Q
  | _ => False
instance le_meth {C : Addr} {m : Str} {sp : SpW} {E : XK} {to : TE} {t : TA} {wo : TEW} {tw : TAW} [a : LE K B to wo] [b : LA K B t tw] : LE K B (tMeth C m (liftSp K sp) [] E to t) (wMeth C m sp wo tw) := ⟨fun σ H ρ S Q Qw hs hh q po =>
  a.l σ H ρ S _ _ hs hh q fun x H1 wx S1 t1 hh1 r1 q1 => by
    cases wx <;> try exact q1.elim
    cases (show x = _ from r1)
    rename_i a
    obtain ⟨⟨fs, e, l⟩, q1⟩ := q1
    obtain ⟨dx, gs, h1, h2⟩ := hh1 _ _ e
    exact ⟨a, dx, gs, rfl, h1, h2.lookN l, b.l σ H1 ρ S1 _ _ (hs.tk t1) hh1 q1 fun vs H2 ws S2 t2 hh2 r2 q2 => ⟨.ref a :: ws, S2, Qw, by rw [List.append_nil]; exact .cons rfl r2, hh2, q2, po.tk (t1.trans t2)⟩⟩⟩
/-! ### a + b and the like, by the class's own def -/
structure OwnOp (K : PySem.W.Frag) (C : Addr) : Prop where
  sf : PySem.W.selfFirst K C = true
def rOwnB (C : Addr) (sp : Sp) : R2 := fun x y H Q => ∃ a dx fs b dy gs, x = .ref a ∧ y = .ref b ∧ H a = some (.ins C dx fs) ∧ H b = some (.ins C dy gs) ∧ sp [x, y] H Q E0
theorem op_ownB {X : Cx} {C f : Addr} {fd : FuncData} {ps : List Str} {sp : Sp} {op : Operator} {k : Nat} (F : FnOk X.prog X.w X.K X.mg X.base CX0 k f fd ps sp) (hs : PySem.W.findIn X.K (.ref C) (PySem.dunder op.info.2) = some (some (.ref f))) (hf : PySem.W.isFn X.K (.ref f) = true) (hc : PySem.W.selfFirst X.K C = true)
    (hr : Room k X.A) (hb : Binds X.K fd ps []) : OpR X (binaryOp op) (rOwnB C sp) := by
  intro pins s σ H x y v u Q I rx ry h
  obtain ⟨a, dx, fs, b, dy, gs, rfl, rfl, ha, hb', q⟩ := h
  cases (show v = Value.ref a from rx)
  cases (show u = Value.ref b from ry)
  obtain ⟨mA, J, _⟩ := ins_get I.hok ha
  obtain ⟨mB, J', _⟩ := ins_get I.hok hb'
  obtain ⟨od, J, _⟩ := J.look
  obtain ⟨od', J', _⟩ := J'.look
  obtain ⟨m, hF⟩ := I.fr
  refine PySem.W.binop_K hF I.ok.mod.kin J J'.type hc hs hf ?_
  refine wpAny_mono (run_fn (us := [.ref a, .ref b]) (vs := [.ref a, .ref b]) F hr hb .nil pass0 I (.cons rfl (.cons rfl .nil)) q) (fun w s' z => ?_) fun _ _ x => x
  obtain ⟨z', H', I', rz, qz⟩ := z
  exact SlX.cmpback rz ⟨z', H', I', rz, qz⟩
def rAddO (K : PySem.W.Frag) (C : Addr) (sp : SpW) : R2 := fun x y H Q => rAddB K x y H Q ∨ rOwnB C (liftSp K sp) x y H Q
theorem k_addO (K : PySem.W.Frag) {X : Cx} {C : Addr} {k j : Nat} {sp : SpW} (ow : OwnOp K C) (c : CalM X.prog X.w K X.mg X.base k C "__add__" sp) (hr : Room j X.A) (hk : k ≤ j) (hK : X.K = K := by rfl) : OpR X (binaryOp .Add) (rAddO K C sp) := by
  subst hK
  obtain ⟨f, fd, ps, F, M, b⟩ := c.ex
  exact (k_addB X.K).or (op_ownB F M.at_ M.fn ow.sf (hr.mono hk) b)
def wAddO (C : Addr) (sp : SpW) : RW2 := fun x y S Q => match x, y with
  | .ref a, .ref b => wAddB (.ref a) (.ref b) S Q ∨ ((∃ fs, S a = some (.ins C fs)) ∧ (∃ gs, S b = some (.ins C gs)) ∧ sp [.ref a, .ref b] S Q)
  | x, y => wAddB x y S Q
theorem ownB_rep {H : Hp} {S : Sto} {C : Addr} {sp : SpW} {x y : V} {a b : Addr} {Q : VK} {Qw : WK} (hh : HRep K H S) (rx : Rep K H (.ref a) x) (ry : Rep K H (.ref b) y) (q : (∃ fs, S a = some (.ins C fs)) ∧ (∃ gs, S b = some (.ins C gs)) ∧ sp [.ref a, .ref b] S Qw) (po : PoE K H Q Qw) : rOwnB C (liftSp K sp) x y H Q := by
  obtain ⟨⟨fs, e1⟩, ⟨gs, e2⟩, q⟩ := q
  obtain ⟨dx, xs, h1, _⟩ := hh _ _ e1
  obtain ⟨dy, ys, h2, _⟩ := hh _ _ e2
  exact ⟨a, dx, xs, b, dy, ys, rx, ry, h1, h2, [.ref a, .ref b], S, Qw, .cons rx (.one ry), hh, q, po⟩
instance l2_addO {C : Addr} {sp : SpW} : L2R K (rAddO K C sp) (wAddO C sp) := ⟨fun H S x y wx wy Q Qw hh rx ry q po => by
  have old : wAddB wx wy S Qw → rAddO K C sp x y H Q := fun q => .inl (l2_addB.l H S x y wx wy Q Qw hh rx ry q po)
  cases wx with
  | ref a =>
    cases wy with
    | ref b =>
      rcases q with q | q
      · exact old q
      · exact .inr (ownB_rep hh rx ry q po)
    | _ => exact old q
  | _ => cases wy <;> exact old q⟩
/-! ### isinstance, own classes too -/
structure IsiO (K : PySem.W.Frag) (C : Addr) : Prop where
  cl : Cls K C
  ha : PySem.W.findIn K (.ref C) "__class__" = some (some (.builtin "object.__class__"))
  hn : PySem.W.specialIn K (.builtin "object.__class__") "__get__" = some (some (.builtin "getset_descriptor.__get__"))
  ht : PySem.W.takesIn K (.builtin "object.__class__") = some true
  hm : PySem.W.mroIn K C (.type "object") = some true
def rIsiO (K : PySem.W.Frag) : List V → Hp → VK → Prop := rIsi K
theorem k_isiO (K : PySem.W.Frag) {X : Cx} (hK : X.K = K := by rfl) : CallR X (.builtin "isinstance") (rIsiO K) := by subst hK; exact call_isi
def wIsiO (K : PySem.W.Frag) : RWC := fun ws S Q => match ws with
  | [x, .ty n] => ∃ t b, tyName x S = some t ∧ isTy t n = some b ∧ Q (.bl b) S
  | [.ref a, .ref C] => ∃ D fs b, S a = some (.ins D fs) ∧ IsiO K D ∧ PySem.W.kitOne K (.ref D) (.ref C) = some b ∧ Q (.bl b) S
  | _ => False
instance lc_isiO : LCR K (rIsiO K) (wIsiO K) := ⟨fun H S xs ws Q Qw hh r q po => by
  unfold wIsiO at q
  split at q
  · exact lc_isi.l H S xs _ Q Qw hh r q po
  · obtain ⟨x, y, rfl, h1, h2⟩ := rep2 r
    cases (show x = _ from h1)
    cases (show y = _ from h2)
    obtain ⟨D, fs, b, e, io, k, q⟩ := q
    obtain ⟨dx, gs, h1, _⟩ := hh _ _ e
    exact ⟨_, _, _, _, b, rfl, .own _, .base (.ins h1 io.cl io.ha io.hn io.ht io.hm), k, po.bl (Tk.refl H) hh q⟩
  · exact q.elim⟩
end
end Wl
set_option Elab.async false
set_option linter.all false
set_option maxRecDepth 100000
set_option maxHeartbeats 2000000
/-! sum of lists and tuples. -/
namespace Wl
open PySem PySem.Spec PyProof.Rows L2
variable {K : PySem.W.Frag} {B : Hp}
def rSumT (K : PySem.W.Frag) : List V → Hp → VK → Prop := fun vs H Q => ∃ (a : Addr) (ns : List Int), vs = [V.ref a] ∧ SqT K H a (ns.map V.int) ∧ Q (.int ns.sum) H
theorem cr_sumT {X : Cx} (hc : X.calm = true) : CallR X (.builtin "sum") (rSumT X.K) := by
  intro pins s σ H vs us Q I r h
  obtain ⟨a, ns, rfl, hs, q⟩ := h
  obtain ⟨its, rv, hl, _⟩ := I.tuple hs
  rw [Vals.ref1 r]
  have hi := rv.ints
  obtain ⟨xs, hx⟩ := hi.allInts.items
  have hn : numsOf its.toArray.toList = ns := by rw [show its.toArray.toList = its from rfl, hi.numsOf]
  have hl : s.heap.IsTuple a its.toArray := hl
  rw [hx] at hl hn
  rw [PySem.nums_intItems] at hn
  refine PySem.W.ktm_sumG (I.ok.hd hc) hl fun h' tk t' hk => ⟨.int _, H, I.kept hk, ⟨_, rfl⟩, ?_⟩
  rw [PySem.preSum_eq, List.take_of_length_le (by simp), hn]
  exact q
def rSumA (K : PySem.W.Frag) : List V → Hp → VK → Prop := fun vs H Q => rSum K vs H Q ∨ rSumT K vs H Q
theorem k_sumA (K : PySem.W.Frag) {X : Cx} (hc : X.calm = true) (hK : X.K = K := by rfl) : CallR X (.builtin "sum") (rSumA K) := by
  subst hK
  intro pins s σ H vs us Q I r h
  rcases h with h | h
  · exact cr_sum hc pins s σ H vs us Q I r h
  · exact cr_sumT hc pins s σ H vs us Q I r h
def sumAt (ws : List W) (S : Sto) (Q : WK) : Prop := ∃ ns : List Int, ws = List.map W.int ns ∧ Q (.int ns.sum) S
def wSumA : RWC := fun ws S Q => match ws with
  | [.tup ws] => sumAt ws S Q
  | [.rl ws] => sumAt ws S Q
  | [.ref a] => ∃ ws, S a = some (.lst ws) ∧ sumAt ws S Q
  | _ => False
instance lc_sumA : LCR K (rSumA K) wSumA := ⟨fun H S xs ws Q Qw hh r q po => by
  unfold wSumA at q
  split at q
  · obtain ⟨x, rfl, a, xs, rfl, h1, h2⟩ := rep1 r
    obtain ⟨ns, rfl, q⟩ := q
    rw [h2.ints] at h1
    exact .inr ⟨a, ns, rfl, h1, po.int (Tk.refl H) hh q⟩
  · obtain ⟨x, rfl, a, xs, rfl, h1, h2⟩ := rep1 r
    obtain ⟨ns, rfl, q⟩ := q
    rw [h2.ints] at h1
    exact .inl ⟨a, ns, rfl, h1.sq, po.int (Tk.refl H) hh q⟩
  · obtain ⟨x, rfl, h1⟩ := rep1 r
    cases (show x = _ from h1)
    obtain ⟨ws, e, ns, rfl, q⟩ := q
    obtain ⟨ys, h1, h2⟩ := hh _ _ e
    rw [h2.ints] at h1
    exact .inl ⟨_, ns, rfl, SqL.of h1, po.int (Tk.refl H) hh q⟩
  · exact q.elim⟩
end Wl
set_option Elab.async false
set_option linter.all false
set_option maxRecDepth 100000
set_option maxHeartbeats 4000000
set_option synthInstance.maxHeartbeats 4000000
set_option synthInstance.maxSize 100000
namespace K10
open PySem PySem.Spec PyProof.Rows L2 Wl
local macro_rules | `(tactic| walk_at "w") => `(tactic| (conv => whnf))
/-! what a store holds -/
local macro_rules | `(tactic| walk_at "ne") => `(tactic| first | assumption | (apply Ne.symm; assumption) | exact ne_free (by assumption) (by assumption) | exact (ne_free (by assumption) (by assumption)).symm | exact Pl.ne (by assumption) (by assumption) | exact (Pl.ne (by assumption) (by assumption)).symm)
local macro_rules | `(tactic| walk_at "s") => `(tactic| first
  | exact put_same
  | assumption
  | (refine (put_ne ?_).trans ?_; (· walk_at "ne"); (· walk_at "s")))
/-! a side condition -/
local macro_rules | `(tactic| walk_at "c") => `(tactic| first
  | exact Or.inl (Or.inl ⟨by omega, by omega⟩)
  | exact Or.inl (Or.inr ⟨by omega, by omega⟩)
  | exact Or.inl ⟨by omega, by omega⟩
  | exact Or.inl ⟨rfl, _, by walk_at "s"⟩
  | rfl
  | omega
  | decide
  | exact Nat.le_trans (by omega) sizeLine_ge)
/-! one question is answered, if the answer is plain -/
local macro_rules | `(tactic| walk_at "g1") => `(tactic| first
  | refine ⟨fun _ => ?_, fun h => absurd (show true = false from h) (by decide)⟩
  | refine ⟨fun h => absurd (show false = true from h) Bool.false_ne_true, fun _ => ?_⟩
  | refine ⟨_, by walk_at "s", ?_⟩
  | refine ⟨_, _, by walk_at "s", by walk_at "s", ?_⟩
  | refine ⟨_, by walk_at "s", by simpa using (by omega), ?_⟩
  | refine ⟨_, rfl, ?_⟩
  | refine ⟨_, _, rfl, (by first | exact isTy_tt | exact isTy_ii | exact isTy_ll | exact isTy_ss | exact isTy_ib | exact isTy_tb | exact isTy_ti | exact isTy_ts | exact isTy_tl | exact isTy_lb | exact isTy_li | exact isTy_ls | exact isTy_lt | exact isTy_sb | exact isTy_si | exact isTy_st | exact isTy_sl | exact isTy_is | exact isTy_it | exact isTy_il | exact isTy_bi | exact isTy_bs | exact isTy_bb | exact isTy_nb | exact isTy_ni | exact isTy_ns | exact isTy_nt | exact isTy_nl | exact isTy_bt | exact isTy_bl | exact isTy_nd | exact isTy_td | exact isTy_ld | exact isTy_sd | exact isTy_id | exact isTy_bd | exact isTy_dd | exact isTy_db | exact isTy_di | exact isTy_ds | exact isTy_dt | exact isTy_dl), ?_⟩
  | refine ⟨_, _, tyName_lst (by walk_at "s"), (by first | exact isTy_ll | exact isTy_lb | exact isTy_li | exact isTy_ls | exact isTy_lt), ?_⟩
  | refine if_q ?_
  | refine ⟨by walk_at "c", ?_⟩)
local macro_rules | `(tactic| walk_at "go") => `(tactic| (walk_at "w"; repeat (walk_at "g1"; walk_at "w")))
/-! a branch that cannot be -/
local macro_rules | `(tactic| walk_at "two") => `(tactic| refine ⟨fun h => ?_, fun h => ?_⟩)
section
variable {P : Program} {w : World} {K : PySem.W.Frag} {mg : Str → Option Value} {base : Heap} {ec : Cls}
theorem ok_itm (T : Txt K mg ec) (c__law_take : CalW P w K mg base 1 "_law_take" (Hd spTk)) (c__law_name : CalW P w K mg base 3 "_law_name" (Hd spNm)) (c__law_text : CalW P w K mg base 3 "_law_text" (Hd spTx)) (c__law_marks : CalW P w K mg base 4 "_law_marks" (Hd spMk))
    (di : DefAt K mg "_law_item" s__law_item ["_law_pool_here", "_law_names", "_law_budget", "_law_depth"]) (dp : DefAt K mg "_law_part" s__law_part ["_law_pool_here", "_law_names", "_law_budget", "_law_depth"]) :
    ∀ d : Nat, d ≤ 30 → CalW P w K mg base (5 + 2 * d) "_law_item" (spIt d)
  | 0, _ => ok__law_item T 0 4 (by decide) c__law_take c__law_name c__law_text (((calNever dp sc__law_part).mono (by decide)).imp fun ws S Q h => by
      rw [Hd_eq] at h
      obtain ⟨p, nl, g, N, b0, b1, b2, b3, b4, dep, ys, _, _, _, _, h1, _⟩ := h
      exact absurd h1 (by decide)) di
  | d + 1, h => ok__law_item T (d + 1) (6 + 2 * d) (by omega) c__law_take c__law_name c__law_text ((ok__law_part T d (5 + 2 * d) (by omega) (by omega) c__law_take c__law_name c__law_marks (ok_itm T c__law_take c__law_name c__law_text c__law_marks di dp d (by omega)).hd dp).hd.mono (by omega)) di |>.mono (by omega)
theorem ok_prt (T : Txt K mg ec) (c__law_take : CalW P w K mg base 1 "_law_take" (Hd spTk)) (c__law_name : CalW P w K mg base 3 "_law_name" (Hd spNm)) (c__law_text : CalW P w K mg base 3 "_law_text" (Hd spTx)) (c__law_marks : CalW P w K mg base 4 "_law_marks" (Hd spMk))
    (di : DefAt K mg "_law_item" s__law_item ["_law_pool_here", "_law_names", "_law_budget", "_law_depth"]) (dp : DefAt K mg "_law_part" s__law_part ["_law_pool_here", "_law_names", "_law_budget", "_law_depth"]) (d : Nat) (h : d ≤ 30) : CalW P w K mg base (6 + 2 * d) "_law_part" (spPt (d + 1)) :=
  (ok__law_part T d (5 + 2 * d) (by omega) h c__law_take c__law_name c__law_marks (ok_itm T c__law_take c__law_name c__law_text c__law_marks di dp d h).hd dp).mono (by omega)
end
end K10
set_option Elab.async false
set_option linter.all false
set_option maxRecDepth 100000
set_option maxHeartbeats 4000000
set_option synthInstance.maxHeartbeats 4000000
set_option synthInstance.maxSize 100000
namespace K10
open PySem PySem.Spec PyProof.Rows L2 Wl
local macro_rules | `(tactic| walk_at "w") => `(tactic| (conv => whnf))
/-! what a store holds -/
local macro_rules | `(tactic| walk_at "ne") => `(tactic| first | assumption | (apply Ne.symm; assumption) | exact ne_free (by assumption) (by assumption) | exact (ne_free (by assumption) (by assumption)).symm | exact Pl.ne (by assumption) (by assumption) | exact (Pl.ne (by assumption) (by assumption)).symm)
local macro_rules | `(tactic| walk_at "s") => `(tactic| first
  | exact put_same
  | assumption
  | (refine (put_ne ?_).trans ?_; (· walk_at "ne"); (· walk_at "s")))
/-! a side condition -/
local macro_rules | `(tactic| walk_at "c") => `(tactic| first
  | exact Or.inl (Or.inl ⟨by omega, by omega⟩)
  | exact Or.inl (Or.inr ⟨by omega, by omega⟩)
  | exact Or.inl ⟨by omega, by omega⟩
  | exact Or.inl ⟨rfl, _, by walk_at "s"⟩
  | rfl
  | omega
  | decide
  | exact Nat.le_trans (by omega) sizeLine_ge)
/-! one question is answered, if the answer is plain -/
local macro_rules | `(tactic| walk_at "g1") => `(tactic| first
  | refine ⟨fun _ => ?_, fun h => absurd (show true = false from h) (by decide)⟩
  | refine ⟨fun h => absurd (show false = true from h) Bool.false_ne_true, fun _ => ?_⟩
  | refine ⟨_, by walk_at "s", ?_⟩
  | refine ⟨_, _, by walk_at "s", by walk_at "s", ?_⟩
  | refine ⟨_, by walk_at "s", by simpa using (by omega), ?_⟩
  | refine ⟨_, rfl, ?_⟩
  | refine ⟨_, _, rfl, (by first | exact isTy_tt | exact isTy_ii | exact isTy_ll | exact isTy_ss | exact isTy_ib | exact isTy_tb | exact isTy_ti | exact isTy_ts | exact isTy_tl | exact isTy_lb | exact isTy_li | exact isTy_ls | exact isTy_lt | exact isTy_sb | exact isTy_si | exact isTy_st | exact isTy_sl | exact isTy_is | exact isTy_it | exact isTy_il | exact isTy_bi | exact isTy_bs | exact isTy_bb | exact isTy_nb | exact isTy_ni | exact isTy_ns | exact isTy_nt | exact isTy_nl | exact isTy_bt | exact isTy_bl | exact isTy_nd | exact isTy_td | exact isTy_ld | exact isTy_sd | exact isTy_id | exact isTy_bd | exact isTy_dd | exact isTy_db | exact isTy_di | exact isTy_ds | exact isTy_dt | exact isTy_dl), ?_⟩
  | refine ⟨_, _, tyName_lst (by walk_at "s"), (by first | exact isTy_ll | exact isTy_lb | exact isTy_li | exact isTy_ls | exact isTy_lt), ?_⟩
  | refine if_q ?_
  | refine ⟨by walk_at "c", ?_⟩)
local macro_rules | `(tactic| walk_at "go") => `(tactic| (walk_at "w"; repeat (walk_at "g1"; walk_at "w")))
/-! a branch that cannot be -/
local macro_rules | `(tactic| walk_at "two") => `(tactic| refine ⟨fun h => ?_, fun h => ?_⟩)
section
variable {P : Program} {w : World} {K : PySem.W.Frag} {mg : Str → Option Value} {base : Heap} {ec : Cls}
def natsT (p : List Nat) : W := .tup (p.map fun n : Nat => W.int (n : Int))
def Itm.isPart : Itm → Bool
  | .part _ _ _ => true
  | _ => false
def atP : Itm → List Nat → Option Itm
  | it, [] => some it
  | .part _ _ is, k :: p => match is[k]? with
    | some x => atP x p
    | none => none
  | _, _ :: _ => none
def spIs : SpW := fun ws S Q => ∃ it : Itm, ws = [it.w] ∧ Q (.bl it.isPart) S
theorem is_go {it : Itm} {S : Sto} {Q : WK} (q : Q (.bl it.isPart) S) : Hd spIs [it.w] S Q := Hd.mk ⟨it, rfl, q⟩
theorem ok_is_part (T : Txt K mg ec) (d : DefAt K mg "is_part" s_is_part ["item"]) : CalW P w K mg base 1 "is_part" spIs :=
  calDI d sc_is_part (fun ws S Q ⟨it, e, _⟩ => by rw [e]; rfl) fun f cdv A outer s H E hr => ⟨_, _,
    (pss_one (ps_ret (pe_and (pe_callB (k_isi K) (by rfl) T.b_isinstance (by decide +kernel) (pa_cons (pv 0) (pa_cons (pe_bltn (v := .ty "tuple") (by rfl) T.b_tuple (by decide +kernel) rfl) pa_nil))) (pe_one (pe_cmpR (k_eq K hr.units) (pe_callB (k_len K) (by rfl) T.b_len (by decide +kernel) (pa_cons (pv 0) pa_nil)) pe_int (nomark _)))))), inferInstance, by
    rintro ws S Q ⟨it, rfl, q⟩
    cases it with
    | text x =>
      walk_at "go"
      exact fg_here q
    | lab x =>
      walk_at "go"
      exact fg_here q
    | ref x =>
      walk_at "go"
      exact fg_here q
    | part k ms is =>
      walk_at "go"
      exact fg_here q⟩
mutual
def pthI : Itm → List Nat → List (List Nat × Itm)
  | .text x, pa => [(pa, .text x)]
  | .lab x, pa => [(pa, .lab x)]
  | .ref x, pa => [(pa, .ref x)]
  | .part k ms is, pa => (pa, .part k ms is) :: pthL is pa 0
def pthL : List Itm → List Nat → Nat → List (List Nat × Itm)
  | [], _, _ => []
  | x :: xs, pa, k => pthI x (pa ++ [k]) ++ pthL xs pa (k + 1)
end
def kidsOf : List Itm → List Nat → Nat → List (List Nat × Itm)
  | [], _, _ => []
  | x :: xs, pa, k => (pa ++ [k], x) :: kidsOf xs pa (k + 1)
def pthR (r : List Nat × Itm) : List (List Nat × Itm) := pthI r.2 r.1
def pthRs (rs : List (List Nat × Itm)) : List (List Nat × Itm) := rs.flatMap pthR
theorem pthRs_nil : pthRs [] = [] := rfl
theorem pthRs_cons (r : List Nat × Itm) (rs : List (List Nat × Itm)) : pthRs (r :: rs) = pthR r ++ pthRs rs := by unfold pthRs; rw [List.flatMap_cons]
theorem pthRs_app (a b : List (List Nat × Itm)) : pthRs (a ++ b) = pthRs a ++ pthRs b := by unfold pthRs; rw [List.flatMap_append]
theorem pthL_eq : ∀ (is : List Itm) (pa : List Nat) (k : Nat), pthL is pa k = pthRs (kidsOf is pa k)
  | [], _, _ => by unfold pthL kidsOf; rfl
  | x :: xs, pa, k => by unfold pthL kidsOf; rw [pthRs_cons, pthL_eq xs pa (k + 1)]; rfl
theorem pthR_part (k : Str) (ms : List Str) (is : List Itm) (pa : List Nat) : pthR (pa, .part k ms is) = (pa, .part k ms is) :: pthRs (kidsOf is pa 0) := by
  show pthI _ _ = _
  unfold pthI
  rw [pthL_eq]
theorem pthR_leaf {x : Itm} {pa : List Nat} (h : x.isPart = false) : pthR (pa, x) = [(pa, x)] := by
  show pthI _ _ = _
  cases x with
  | part k ms is => cases h
  | _ => unfold pthI; rfl
theorem kids_len : ∀ (is : List Itm) (pa : List Nat) (k : Nat), (kidsOf is pa k).length = is.length
  | [], _, _ => rfl
  | x :: xs, pa, k => by unfold kidsOf; rw [List.length_cons, List.length_cons, kids_len xs pa (k + 1)]
theorem kids_at : ∀ (is : List Itm) (pa : List Nat) (k i : Nat) (x : Itm), is[i]? = some x → (kidsOf is pa k)[i]? = some (pa ++ [k + i], x)
  | [], _, _, _, _, e => by simp at e
  | y :: ys, pa, k, 0, x, e => by
    simp at e; subst e
    unfold kidsOf; rfl
  | y :: ys, pa, k, i + 1, x, e => by
    unfold kidsOf
    have := kids_at ys pa (k + 1) i x (by simpa using e)
    rw [List.getElem?_cons_succ, this, show k + 1 + i = k + (i + 1) by omega]
def rcnt (r : List Nat × Itm) : Nat := r.2.cnt
def rcnts (rs : List (List Nat × Itm)) : Nat := (rs.map rcnt).sum
theorem rcnts_cons (r : List Nat × Itm) (rs : List (List Nat × Itm)) : rcnts (r :: rs) = r.2.cnt + rcnts rs := by unfold rcnts; rfl
theorem rcnts_nil : rcnts [] = 0 := rfl
theorem rcnts_app (a b : List (List Nat × Itm)) : rcnts (a ++ b) = rcnts a + rcnts b := by unfold rcnts; rw [List.map_append, List.sum_append]
theorem rcnts_kids : ∀ (is : List Itm) (pa : List Nat) (k : Nat), rcnts (kidsOf is pa k) = cnts is
  | [], _, _ => by rw [cnts_nil]; rfl
  | x :: xs, pa, k => by
    unfold kidsOf
    rw [rcnts_cons, cnts_cons, rcnts_kids xs pa (k + 1)]
mutual
theorem pthI_len : ∀ (x : Itm) (pa : List Nat), (pthI x pa).length = x.cnt
  | .text _, _ => by unfold pthI Itm.cnt; rfl
  | .lab _, _ => by unfold pthI Itm.cnt; rfl
  | .ref _, _ => by unfold pthI Itm.cnt; rfl
  | .part k ms is, pa => by
    unfold pthI Itm.cnt
    rw [List.length_cons, pthL_len is pa 0]
    omega
theorem pthL_len : ∀ (is : List Itm) (pa : List Nat) (k : Nat), (pthL is pa k).length = cnts is
  | [], _, _ => by unfold pthL; rw [cnts_nil]; rfl
  | x :: xs, pa, k => by
    unfold pthL
    rw [cnts_cons, List.length_append, pthI_len x, pthL_len xs]
end
theorem pthR_len (r : List Nat × Itm) : (pthR r).length = r.2.cnt := pthI_len r.2 r.1
theorem pthRs_len : ∀ rs : List (List Nat × Itm), (pthRs rs).length = rcnts rs
  | [] => rfl
  | r :: rs => by rw [pthRs_cons, List.length_append, pthR_len, pthRs_len rs, rcnts_cons]
mutual
theorem pthI_at : ∀ (x : Itm) (pa : List Nat) (r : List Nat × Itm), r ∈ pthI x pa → ∃ q, r.1 = pa ++ q ∧ atP x q = some r.2
  | .text y, pa, r, h => by
    unfold pthI at h
    rw [List.mem_singleton] at h
    subst h
    exact ⟨[], by simp, rfl⟩
  | .lab y, pa, r, h => by
    unfold pthI at h
    rw [List.mem_singleton] at h
    subst h
    exact ⟨[], by simp, rfl⟩
  | .ref y, pa, r, h => by
    unfold pthI at h
    rw [List.mem_singleton] at h
    subst h
    exact ⟨[], by simp, rfl⟩
  | .part k ms is, pa, r, h => by
    unfold pthI at h
    rcases List.mem_cons.mp h with h | h
    · subst h
      exact ⟨[], by simp, rfl⟩
    · obtain ⟨i, q, y, e1, e2, e3⟩ := pthL_at is pa 0 r h
      refine ⟨i :: q, by rw [e1, Nat.zero_add], ?_⟩
      unfold atP
      rw [e2]
      exact e3
theorem pthL_at : ∀ (is : List Itm) (pa : List Nat) (k : Nat) (r : List Nat × Itm), r ∈ pthL is pa k → ∃ i q y, r.1 = pa ++ (k + i) :: q ∧ is[i]? = some y ∧ atP y q = some r.2
  | [], _, _, _, h => by unfold pthL at h; cases h
  | x :: xs, pa, k, r, h => by
    unfold pthL at h
    rcases List.mem_append.mp h with h | h
    · obtain ⟨q, e1, e2⟩ := pthI_at x (pa ++ [k]) r h
      exact ⟨0, q, x, by rw [e1]; simp, rfl, e2⟩
    · obtain ⟨i, q, y, e1, e2, e3⟩ := pthL_at xs pa (k + 1) r h
      exact ⟨i + 1, q, y, by rw [e1, show k + 1 + i = k + (i + 1) by omega], by simpa using e2, e3⟩
end
def rowI (r : List Nat × Itm) : W := .tup [natsT r.1, r.2.w]
theorem natsT_app (p : List Nat) (k : Nat) : natsT (p ++ [k]) = .tup (p.map (fun n : Nat => W.int (n : Int)) ++ [W.int (k : Int)]) := by unfold natsT; rw [List.map_append]; rfl
end
end K10
set_option Elab.async false
set_option linter.all false
set_option maxRecDepth 100000
set_option maxHeartbeats 4000000
set_option synthInstance.maxHeartbeats 4000000
set_option synthInstance.maxSize 100000
namespace K10
open PySem PySem.Spec PyProof.Rows L2 Wl
local macro_rules | `(tactic| walk_at "w") => `(tactic| (conv => whnf))
/-! what a store holds -/
local macro_rules | `(tactic| walk_at "ne") => `(tactic| first | assumption | (apply Ne.symm; assumption) | exact ne_free (by assumption) (by assumption) | exact (ne_free (by assumption) (by assumption)).symm | exact Pl.ne (by assumption) (by assumption) | exact (Pl.ne (by assumption) (by assumption)).symm)
local macro_rules | `(tactic| walk_at "s") => `(tactic| first
  | exact put_same
  | assumption
  | (refine (put_ne ?_).trans ?_; (· walk_at "ne"); (· walk_at "s")))
/-! a side condition -/
local macro_rules | `(tactic| walk_at "c") => `(tactic| first
  | exact Or.inl (Or.inl ⟨by omega, by omega⟩)
  | exact Or.inl (Or.inr ⟨by omega, by omega⟩)
  | exact Or.inl ⟨by omega, by omega⟩
  | exact Or.inl ⟨rfl, _, by walk_at "s"⟩
  | rfl
  | omega
  | decide
  | exact Nat.le_trans (by omega) sizeLine_ge)
/-! one question is answered, if the answer is plain -/
local macro_rules | `(tactic| walk_at "g1") => `(tactic| first
  | refine ⟨fun _ => ?_, fun h => absurd (show true = false from h) (by decide)⟩
  | refine ⟨fun h => absurd (show false = true from h) Bool.false_ne_true, fun _ => ?_⟩
  | refine ⟨_, by walk_at "s", ?_⟩
  | refine ⟨_, _, by walk_at "s", by walk_at "s", ?_⟩
  | refine ⟨_, by walk_at "s", by simpa using (by omega), ?_⟩
  | refine ⟨_, rfl, ?_⟩
  | refine ⟨_, _, rfl, (by first | exact isTy_tt | exact isTy_ii | exact isTy_ll | exact isTy_ss | exact isTy_ib | exact isTy_tb | exact isTy_ti | exact isTy_ts | exact isTy_tl | exact isTy_lb | exact isTy_li | exact isTy_ls | exact isTy_lt | exact isTy_sb | exact isTy_si | exact isTy_st | exact isTy_sl | exact isTy_is | exact isTy_it | exact isTy_il | exact isTy_bi | exact isTy_bs | exact isTy_bb | exact isTy_nb | exact isTy_ni | exact isTy_ns | exact isTy_nt | exact isTy_nl | exact isTy_bt | exact isTy_bl | exact isTy_nd | exact isTy_td | exact isTy_ld | exact isTy_sd | exact isTy_id | exact isTy_bd | exact isTy_dd | exact isTy_db | exact isTy_di | exact isTy_ds | exact isTy_dt | exact isTy_dl), ?_⟩
  | refine ⟨_, _, tyName_lst (by walk_at "s"), (by first | exact isTy_ll | exact isTy_lb | exact isTy_li | exact isTy_ls | exact isTy_lt), ?_⟩
  | refine if_q ?_
  | refine ⟨by walk_at "c", ?_⟩)
local macro_rules | `(tactic| walk_at "go") => `(tactic| (walk_at "w"; repeat (walk_at "g1"; walk_at "w")))
/-! a branch that cannot be -/
local macro_rules | `(tactic| walk_at "two") => `(tactic| refine ⟨fun h => ?_, fun h => ?_⟩)
section
variable {P : Program} {w : World} {K : PySem.W.Frag} {mg : Str → Option Value} {base : Heap} {ec : Cls}
/-- of what is waiting -/
def WtOk (m n : Nat) (r : List Nat × Itm) : Prop := ∃ e, ItmOk m e r.2 ∧ r.1.length + e ≤ n
def spWk : SpGW := fun ws S Q => ∃ (it : Itm) (m n : Nat), ws = [it.w] ∧ ItmOk m n it ∧ m ≤ 1000 ∧ n ≤ 60 ∧ it.cnt ≤ 1000 ∧ Q ((pthI it []).map rowI) S
theorem kids_ok {m n e : Nat} {pa : List Nat} {is : List Itm} (h : ∀ i ∈ is, ItmOk m e i) (l : pa.length + (e + 1) ≤ n) : ∀ r ∈ kidsOf is pa 0, WtOk m n r := by
  intro r hr
  obtain ⟨i, hi, rfl⟩ := List.mem_iff_getElem.mp hr
  have hi' : i < is.length := by rw [kids_len] at hi; exact hi
  have e1 := kids_at is pa 0 i is[i] (List.getElem?_eq_getElem hi')
  rw [List.getElem?_eq_getElem hi] at e1
  rw [Option.some.inj e1]
  exact ⟨e, h _ (List.getElem_mem hi'), by show (pa ++ [0 + i]).length + e ≤ n; rw [List.length_append]; show pa.length + 1 + e ≤ n; omega⟩
theorem dropLast_map {α β : Type} (f : α → β) (xs : List α) (x : α) : ((xs ++ [x]).map f).dropLast = xs.map f := by
  rw [List.map_append]; simp
theorem ok_walk (T : Txt K mg ec) (c_is_part : CalW P w K mg base 1 "is_part" (Hd spIs)) (d : DefAt K mg "walk" s_walk ["root"]) : CalG P w K mg base 2 "walk" spWk :=
  calG d sc_walk (fun ws S Q ⟨it, m, n, e, _⟩ => by rw [e]; rfl) fun f cdv A outer s H E pn hr => ⟨_, _,
    (gss_cons (gs_ps (ps_set (i := 1) sc_walk.nd rfl (Or.inl rfl) (pe_lst (pa_cons (pe_tup (pa_cons (pe_tup pa_nil) (pa_cons (pv 0) pa_nil))) pa_nil))))
      (gss_cons (gs_while owns_gcx (k_truth K (pv 1))
       (gss_cons (gs_ps (ps_asg (k_bm0 K PySem.F.plainAttrs_list PySem.F.slot_list_pop PySem.F.type_list_pop mt_pop (pv 1)) (k_gtup K (n := 2) rfl (pgs_cons (pg_name (i := 2) sc_walk.nd rfl (Or.inl rfl)) (pgs_cons (pg_name (i := 3) sc_walk.nd rfl (Or.inl rfl)) pgs_nil)))))
       (gss_cons (gs_yield (pe_tup (pa_cons (pv 2) (pa_cons (pv 3) pa_nil))))
       (gss_pss (pss_one (ps_if (pt_val (k_w K c_is_part hr (by decide) rfl (pa_cons (pv 3) pa_nil)))
         (pss_cons (ps_set (i := 4) sc_walk.nd rfl (Or.inl rfl) (pe_ix (k_ix K) (pv 3) pe_int (fun _ _ => rfl)))
         (pss_one (ps_for owns_gcx rfl (pi_range3 rfl T.b_range (pa_cons (pe_op op_sub (pe_callB (k_len K) (by rfl) T.b_len (by decide +kernel) (pa_cons (pv 4) pa_nil)) pe_int) (pa_cons (pe_un un_neg pe_int) (pa_cons (pe_un un_neg pe_int) pa_nil)))) (pg_name (i := 5) sc_walk.nd rfl (Or.inl rfl))
          (pss_one (ps_expr (k_bm K PySem.F.plainAttrs_list PySem.F.slot_list_append PySem.F.type_list_append mt_append (pv 1) (pa_cons (pe_tup (pa_cons (pe_op (k_addB K) (pv 2) (pe_tup (pa_cons (pv 5) pa_nil))) (pa_cons (pe_ix (k_ix K) (pv 4) (pv 5) (fun _ _ => rfl)) pa_nil))) pa_nil)))))))
         pss_nil))))))
      gss_nil)), inferInstance, by
    rintro ws S Q ⟨it, m, n, rfl, hok, hm, hn, hc, q⟩
    walk_at "w"
    intro L hL
    walk_at "w"
    refine wh_g (fun k ys ρ S' => ∃ (st done : List (List Nat × Itm)) (a2 a3 a4 a5 : Option W), ρ = [some it.w, some (.ref L), a2, a3, a4, a5] ∧ ys = done.map rowI ∧ S' L = some (.lst (st.reverse.map rowI)) ∧ done ++ pthRs st = pthI it [] ∧ k = rcnts st ∧ (∀ r ∈ st, WtOk m n r) ∧ KpL [] S S')
      ⟨_, [([], it)], [], _, _, _, _, rfl, rfl, put_same, ?_, rfl, ?_, (KpL.refl [] S).own hL⟩ ?_
    · show pthRs [([], it)] = _
      rw [pthRs_cons, pthRs_nil, List.append_nil]
      rfl
    · intro r hr
      rw [List.mem_singleton] at hr
      rw [hr]
      exact ⟨n, hok, by show 0 + n ≤ n; omega⟩
    rintro k ys ρ S1 ⟨st, done, a2, a3, a4, a5, rfl, rfl, h1, hd, rfl, ho, k1⟩
    have tot : done.length + rcnts st = it.cnt := by
      rw [← pthRs_len, ← List.length_append, hd, pthI_len]
    walk_at "w"
    refine ⟨_, h1, ?_⟩
    walk_at "w"
    cases st with
    | nil =>
      refine ⟨fun h => absurd (show false = true from h) Bool.false_ne_true, fun _ => ?_⟩
      rw [pthRs_nil, List.append_nil] at hd
      rw [hd]
      refine fgg_off k1 fun S6 f1 f2 => ?_
      rw [show S6 = S from funext fun a => f1 a (by simp)]
      exact q
    | cons r st =>
      refine ⟨fun _ => ?_, fun h => ?_⟩
      · rw [List.reverse_cons] at h1
        obtain ⟨pa, x⟩ := r
        rw [rcnts_cons] at tot
        have cp := cnt_pos x
        have cp : 1 ≤ x.cnt := by cases x <;> (unfold Itm.cnt; omega)
        walk_at "w"
        refine ⟨.inl ⟨rfl, _, h1⟩, ?_⟩
        refine ⟨_, rowI (pa, x), h1, ?_, ?_⟩
        · rw [List.length_map, List.length_append, List.map_append, List.getElem?_append_right (by rw [List.length_map]; simp)]
          simp
        rw [dropLast_map]
        walk_at "w"
        refine ⟨rfl, ?_⟩
        walk_at "w"
        refine ⟨rfl, ?_⟩
        walk_at "w"
        refine ⟨by rw [List.length_map]; exact Nat.lt_of_lt_of_le (show done.length < 1000 by have : (pa, x).2.cnt = x.cnt := rfl; omega) sizeLine_ge, ?_⟩
        walk_at "w"
        refine is_go ?_
        walk_at "w"
        obtain ⟨e, oe, le⟩ := ho (pa, x) List.mem_cons_self
        have ho' : ∀ r ∈ st, WtOk m n r := fun r hr => ho r (List.mem_cons_of_mem _ hr)
        rw [pthRs_cons] at hd
        have k2 : ∀ c, KpL [] S (put S1 L c) := fun c => k1.own hL
        have leaf : x.isPart = false → ∃ m', m' < rcnts ((pa, x) :: st) ∧ ∃ (st' done' : List (List Nat × Itm)) (b2 b3 b4 b5 : Option W), ([some it.w, some (.ref L), some (natsT pa), some x.w, a4, a5] : StW) = [some it.w, some (.ref L), b2, b3, b4, b5] ∧ (done.map rowI ++ [rowI (pa, x)]) = done'.map rowI ∧ (put S1 L (.lst (st.reverse.map rowI))) L = some (.lst (st'.reverse.map rowI)) ∧ done' ++ pthRs st' = pthI it [] ∧ m' = rcnts st' ∧ (∀ r ∈ st', WtOk m n r) ∧ KpL [] S (put S1 L (.lst (st.reverse.map rowI))) := fun hx =>
          ⟨rcnts st, by rw [rcnts_cons]; show _ < x.cnt + _; omega, st, done ++ [(pa, x)], _, _, _, _, rfl, by rw [List.map_append]; rfl, put_same, by rw [← hd, pthR_leaf hx, List.append_assoc], rfl, ho', k2 _⟩
        cases oe with
        | text h => exact ⟨fun h => absurd (show false = true from h) Bool.false_ne_true, fun _ => leaf rfl⟩
        | lab h => exact ⟨fun h => absurd (show false = true from h) Bool.false_ne_true, fun _ => leaf rfl⟩
        | ref h => exact ⟨fun h => absurd (show false = true from h) Bool.false_ne_true, fun _ => leaf rfl⟩
        | @part u kd ms is g1 g2 g3 g4 g5 =>
          refine ⟨fun _ => ?_, fun h => absurd (show true = false from h) (by decide)⟩
          have cn : (Itm.part kd ms is).cnt = 1 + cnts is := by unfold Itm.cnt; rfl
          have cn2 : ((pa, Itm.part kd ms is) : List Nat × Itm).2.cnt = 1 + cnts is := cn
          have kok := kids_ok (pa := pa) (n := n) g5 le
          walk_at "w"
          refine ⟨((is.length : Nat) : Int).toNat, ?_, ?_⟩
          · have := RgC.neg (i := (((itmsW is).length : Nat) : Int) - 1) (j := -1) (by omega) (by rw [itmsW_len]; omega) (by decide) (by decide)
            rw [show ((((itmsW is).length : Nat) : Int) - 1 - -1).toNat = ((is.length : Nat) : Int).toNat by rw [itmsW_len]; omega] at this
            exact this
          refine for_q (fun i ρ' S' => i ≤ is.length ∧ ∃ (b5 : Option W), ρ' = [some it.w, some (.ref L), some (natsT pa), some (Itm.part kd ms is).w, some (.tup (itmsW is)), b5] ∧ S' L = some (.lst ((st.reverse ++ ((kidsOf is pa 0).drop (is.length - i)).reverse).map rowI)) ∧ KpL [] S S')
            ⟨Nat.zero_le _, _, rfl, ?_, k2 _⟩ (fun _ _ _ _ => trivial) ?_ ?_
          · rw [put_same, Nat.sub_zero, List.drop_of_length_le (by rw [kids_len]; exact Nat.le_refl _), List.reverse_nil, List.append_nil]
          · rintro i w ρ' S2 ew ⟨_, b5, rfl, h2, k3⟩
            obtain ⟨hi, rfl⟩ := stepsW_at ew
            have hi : i < is.length := by
              have hi : i < ((is.length : Nat) : Int).toNat := hi
              omega
            have hj : is.length - 1 - i < is.length := by omega
            have ej : is[is.length - 1 - i]? = some is[is.length - 1 - i] := List.getElem?_eq_getElem hj
            have en : (((itmsW is).length : Nat) : Int) - 1 + (i : Nat) * -1 = ((is.length - 1 - i : Nat) : Int) := by rw [itmsW_len]; omega
            walk_at "w"
            refine ⟨.inl ⟨rfl, _, h2⟩, ?_⟩
            walk_at "w"
            refine ⟨by rw [List.length_map]; exact Nat.le_trans (show pa.length + 1 ≤ 1000 by have : ((pa, Itm.part kd ms is) : List Nat × Itm).1.length = pa.length := rfl; omega) sizeLine_ge, ?_⟩
            walk_at "w"
            rw [en, atI_nat (show (itmsW is)[is.length - 1 - i]? = some (is[is.length - 1 - i]).w by rw [itmsW_map, List.getElem?_map, ej]; rfl)]
            walk_at "w"
            have ek := kids_at is pa 0 _ _ ej
            have hk : is.length - 1 - i < (kidsOf is pa 0).length := by rw [kids_len]; exact hj
            have dr : (kidsOf is pa 0).drop (is.length - (i + 1)) = (pa ++ [is.length - 1 - i], is[is.length - 1 - i]) :: (kidsOf is pa 0).drop (is.length - i) := by
              rw [show is.length - (i + 1) = is.length - 1 - i by omega, List.drop_eq_getElem_cons hk, (List.getElem?_eq_some_iff.mp ek).2, show is.length - 1 - i + 1 = is.length - i by omega, Nat.zero_add]
            refine ⟨_, h2, ?_, hi, _, rfl, ?_, k3.own hL⟩
            · rw [List.length_map, List.length_append, List.length_reverse, List.length_reverse, List.length_drop, kids_len]
              have l1 : st.length ≤ rcnts st := by
                have : ∀ q : List (List Nat × Itm), q.length ≤ rcnts q := fun q => by
                  induction q with
                  | nil => exact Nat.zero_le _
                  | cons a q ih => rw [rcnts_cons, List.length_cons]; have := cnt_pos a.2; omega
                exact this st
              exact Nat.lt_of_lt_of_le (show _ < 2000 by omega) (by decide)
            · have er : ∀ y : Itm, rowI (pa ++ [is.length - 1 - i], y) = .tup [.tup (pa.map (fun n : Nat => W.int (n : Int)) ++ [W.int ((is.length - 1 - i : Nat) : Int)]), y.w] := fun y => by
                unfold rowI
                rw [natsT_app]
              rw [put_same, dr, List.reverse_cons, ← List.append_assoc, List.map_append (l₂ := [_]), List.map_cons, List.map_nil, er]
          · rintro ρ' S2 ⟨hi, b5, rfl, h2, k3⟩
            rw [stepsW_len, show is.length - ((is.length : Nat) : Int).toNat = 0 by omega, List.drop_zero] at h2
            refine ⟨rcnts (kidsOf is pa 0 ++ st), by rw [rcnts_app, rcnts_kids, rcnts_cons, cn2]; omega, kidsOf is pa 0 ++ st, done ++ [(pa, Itm.part kd ms is)], _, _, _, _, rfl, by rw [List.map_append]; rfl, ?_, ?_, rfl, ?_, k3⟩
            · rw [List.reverse_append]; exact h2
            · rw [← hd, pthR_part, pthRs_app, List.append_assoc]
              rfl
            · intro r hr
              rcases List.mem_append.mp hr with hr | hr
              · exact kok r hr
              · exact ho' r hr
      · rw [List.reverse_cons, List.map_append] at h
        have h : (!((st.reverse.map rowI ++ [rowI r]).isEmpty)) = false := h
        simp at h⟩
end
end K10
set_option Elab.async false
set_option linter.all false
set_option maxRecDepth 100000
set_option maxHeartbeats 4000000
set_option synthInstance.maxHeartbeats 4000000
set_option synthInstance.maxSize 100000
namespace K10
open PySem PySem.Spec PyProof.Rows L2 Wl
local macro_rules | `(tactic| walk_at "w") => `(tactic| (conv => whnf))
/-! what a store holds -/
local macro_rules | `(tactic| walk_at "ne") => `(tactic| first | assumption | (apply Ne.symm; assumption) | exact ne_free (by assumption) (by assumption) | exact (ne_free (by assumption) (by assumption)).symm | exact Pl.ne (by assumption) (by assumption) | exact (Pl.ne (by assumption) (by assumption)).symm)
local macro_rules | `(tactic| walk_at "s") => `(tactic| first
  | exact put_same
  | assumption
  | (refine (put_ne ?_).trans ?_; (· walk_at "ne"); (· walk_at "s")))
/-! a side condition -/
local macro_rules | `(tactic| walk_at "c") => `(tactic| first
  | exact Or.inl (Or.inl ⟨by omega, by omega⟩)
  | exact Or.inl (Or.inr ⟨by omega, by omega⟩)
  | exact Or.inl ⟨by omega, by omega⟩
  | exact Or.inl ⟨rfl, _, by walk_at "s"⟩
  | rfl
  | omega
  | decide
  | exact Nat.le_trans (by omega) sizeLine_ge)
/-! one question is answered, if the answer is plain -/
local macro_rules | `(tactic| walk_at "g1") => `(tactic| first
  | refine ⟨fun _ => ?_, fun h => absurd (show true = false from h) (by decide)⟩
  | refine ⟨fun h => absurd (show false = true from h) Bool.false_ne_true, fun _ => ?_⟩
  | refine ⟨_, by walk_at "s", ?_⟩
  | refine ⟨_, _, by walk_at "s", by walk_at "s", ?_⟩
  | refine ⟨_, by walk_at "s", by simpa using (by omega), ?_⟩
  | refine ⟨_, rfl, ?_⟩
  | refine ⟨_, _, rfl, (by first | exact isTy_tt | exact isTy_ii | exact isTy_ll | exact isTy_ss | exact isTy_ib | exact isTy_tb | exact isTy_ti | exact isTy_ts | exact isTy_tl | exact isTy_lb | exact isTy_li | exact isTy_ls | exact isTy_lt | exact isTy_sb | exact isTy_si | exact isTy_st | exact isTy_sl | exact isTy_is | exact isTy_it | exact isTy_il | exact isTy_bi | exact isTy_bs | exact isTy_bb | exact isTy_nb | exact isTy_ni | exact isTy_ns | exact isTy_nt | exact isTy_nl | exact isTy_bt | exact isTy_bl | exact isTy_nd | exact isTy_td | exact isTy_ld | exact isTy_sd | exact isTy_id | exact isTy_bd | exact isTy_dd | exact isTy_db | exact isTy_di | exact isTy_ds | exact isTy_dt | exact isTy_dl), ?_⟩
  | refine ⟨_, _, tyName_lst (by walk_at "s"), (by first | exact isTy_ll | exact isTy_lb | exact isTy_li | exact isTy_ls | exact isTy_lt), ?_⟩
  | refine if_q ?_
  | refine ⟨by walk_at "c", ?_⟩)
local macro_rules | `(tactic| walk_at "go") => `(tactic| (walk_at "w"; repeat (walk_at "g1"; walk_at "w")))
/-! a branch that cannot be -/
local macro_rules | `(tactic| walk_at "two") => `(tactic| refine ⟨fun h => ?_, fun h => ?_⟩)
section
variable {P : Program} {w : World} {K : PySem.W.Frag} {mg : Str → Option Value} {base : Heap} {ec : Cls}
def spPs (n : Nat) : SpW := fun ws S Q => ∃ (it : Itm) (m : Nat) (pa : List Nat), ws = [it.w, natsT pa] ∧ ItmOk m n it ∧ m ≤ 1000 ∧ pa.length + n ≤ 60 ∧ it.cnt ≤ 1000 ∧
  ∀ (L : Addr) (S' : Sto), S' L = some (.lst ((pthI it pa).map rowI)) → S L = none → KpL [] S S' → Q (.ref L) S'
theorem ps_step (T : Txt K mg ec) (k n : Nat) (sp' : SpW) (c__law_paths : CalW P w K mg base k "_law_paths" (Hd sp')) (hs : ∀ (u : Nat) (ws : List W) (S : Sto) (Q : WK), n = u + 1 → spPs u ws S Q → sp' ws S Q)
    (d : DefAt K mg "_law_paths" s__law_paths ["_law_item_here", "_law_path"]) : CalW P w K mg base (k + 1) "_law_paths" (spPs n) :=
  calDI d sc__law_paths (fun ws S Q ⟨it, m, pa, e, _⟩ => by rw [e]; rfl) fun f cdv A outer s H E hr => ⟨_, _,
    (pss_cons (ps_set (i := 2) sc__law_paths.nd rfl (Or.inl rfl) (pe_lst (pa_cons (pe_tup (pa_cons (pv 1) (pa_cons (pv 0) pa_nil))) pa_nil)))
      (pss_mid (ps_if (PW.pt (pw_and (pt_val (pe_callB (k_isi K) (by rfl) T.b_isinstance (by decide +kernel) (pa_cons (pv 0) (pa_cons (pe_bltn (v := .ty "tuple") (by rfl) T.b_tuple (by decide +kernel) rfl) pa_nil)))) (pw_and1 (pt_cmpR (k_eq K hr.units) (pe_callB (k_len K) (by rfl) T.b_len (by decide +kernel) (pa_cons (pv 0) pa_nil)) pe_int (nomark _)))))
       (pss_one (ps_for PassesOwn.never rfl (pi_range1 rfl T.b_range (pa_cons (pe_callB (k_len K) (by rfl) T.b_len (by decide +kernel) (pa_cons (pe_ix (k_ix K) (pv 0) pe_int (fun _ _ => rfl)) pa_nil)) pa_nil)) (pg_name (i := 3) sc__law_paths.nd rfl (Or.inl rfl))
        (pss_one (ps_expr (k_bm K PySem.F.plainAttrs_list PySem.F.slot_list_extend PySem.F.type_list_extend mt_extend (pv 2) (pa_cons (k_w K c__law_paths hr (Nat.le_refl _) rfl (pa_cons (pe_ix (k_ix K) (pe_ix (k_ix K) (pv 0) pe_int (fun _ _ => rfl)) (pv 3) (fun _ _ => rfl)) (pa_cons (pe_op (k_addB K) (pv 1) (pe_tup (pa_cons (pv 3) pa_nil))) pa_nil))) pa_nil))))))
       pss_nil)
      (pss_one (ps_ret (pv 2))))), inferInstance, by
    rintro ws S Q ⟨it, m, pa, rfl, h, hm, hpa, hc, q⟩
    walk_at "go"
    intro L hL
    walk_at "go"
    refine mid_q (fun ρ' S' => ∃ (a3 : Option W), ρ' = [some it.w, some (natsT pa), some (.ref L), a3] ∧ S' L = some (.lst ((pthI it pa).map rowI)) ∧ KpL [] S S') ?_ ?_
    rotate_left
    · rintro ρ' S' ⟨a3, rfl, hL1, k1⟩
      walk_at "go"
      exact fg_here (q L S' hL1 hL k1)
    have leaf : it.isPart = false → (put S L (.lst [rowI (pa, it)])) L = some (.lst ((pthI it pa).map rowI)) ∧ KpL [] S (put S L (.lst [rowI (pa, it)])) := fun hx => by
      refine ⟨?_, (KpL.refl [] S).new hL⟩
      rw [put_same, show pthI it pa = _ from pthR_leaf (pa := pa) hx]
      rfl
    walk_at "go"
    cases h with
    | text h =>
      walk_at "go"
      exact leaf rfl
    | lab h =>
      walk_at "go"
      exact leaf rfl
    | ref h =>
      walk_at "go"
      exact leaf rfl
    | @part u kd ms is h1 h2 h3 h4 h5 =>
      have cn : (Itm.part kd ms is).cnt = 1 + cnts is := by unfold Itm.cnt; rfl
      rw [cn] at hc
      walk_at "go"
      refine ⟨by rw [itmsW_len]; omega, ?_⟩
      refine for_q (fun i ρ' S' => ∃ (a3 : Option W), ρ' = [some (Itm.part kd ms is).w, some (natsT pa), some (.ref L), a3] ∧ S' L = some (.lst (((pa, Itm.part kd ms is) :: pthRs ((kidsOf is pa 0).take i)).map rowI)) ∧ KpL [] S S') ⟨_, rfl, ?_, (KpL.refl [] S).new hL⟩ (fun _ _ _ _ => trivial) ?_ ?_
      · rw [put_same]
        rfl
      · rintro i w ρ' S' e ⟨a3, rfl, hL1, k1⟩
        obtain ⟨hi, rfl⟩ := intsW_at e
        have hi : i < is.length := by
          have hi : i < (((itmsW is).length : Nat) : Int).toNat := hi
          rw [itmsW_len] at hi
          omega
        have eb : is[i]? = some is[i] := List.getElem?_eq_getElem hi
        have at1 : atI (itmsW is) (0 + (i : Int)) = some (is[i]).w := by
          rw [Int.zero_add]
          exact atI_nat (by rw [itmsW_map, List.getElem?_map, eb]; rfl)
        have ek := kids_at is pa 0 _ _ eb
        rw [Nat.zero_add] at ek
        have hk : i < (kidsOf is pa 0).length := by rw [kids_len]; exact hi
        have tk : (kidsOf is pa 0).take (i + 1) = (kidsOf is pa 0).take i ++ [(pa ++ [i], is[i])] := by
          rw [List.take_add_one, ek]
          rfl
        have lsum : (pthRs ((kidsOf is pa 0).take (i + 1))).length ≤ cnts is := by
          have e1 : pthRs (kidsOf is pa 0) = pthRs ((kidsOf is pa 0).take (i + 1)) ++ pthRs ((kidsOf is pa 0).drop (i + 1)) := by
            rw [← pthRs_app, List.take_append_drop]
          have e2 : (pthRs (kidsOf is pa 0)).length = cnts is := by rw [pthRs_len, rcnts_kids]
          rw [e1, List.length_append] at e2
          omega
        have l2 : (pthRs ((kidsOf is pa 0).take (i + 1))).length = (pthRs ((kidsOf is pa 0).take i)).length + (is[i]).cnt := by
          rw [tk, pthRs_app, pthRs_cons, pthRs_nil, List.append_nil, List.length_append, pthR_len]
        walk_at "w"
        refine ⟨.inl ⟨rfl, _, hL1⟩, ?_⟩
        walk_at "w"
        rw [at1]
        walk_at "w"
        refine ⟨by rw [List.length_map]; exact Nat.le_trans (show pa.length + 1 ≤ 1000 by omega) sizeLine_ge, ?_⟩
        walk_at "w"
        refine Hd.mk (hs u _ _ _ rfl ⟨is[i], m, pa ++ [i], ?_, h5 _ (List.mem_of_getElem? eb), hm, by rw [List.length_append]; show pa.length + 1 + u ≤ 60; omega, by omega, fun L2 S2 hL2 hf2 k2 => ?_⟩)
        · rw [natsT_app, Int.zero_add]
        walk_at "w"
        refine ⟨_, _, k2 L _ (by simp) hL1, hL2, ?_, _, rfl, ?_, (k1.trans k2).own hL⟩
        · rw [List.length_map, List.length_map, List.length_cons, pthI_len]
          exact Nat.le_trans (show (pthRs ((kidsOf is pa 0).take i)).length + 1 + (is[i]).cnt ≤ 1002 by omega) (by decide)
        · rw [put_same, tk, pthRs_app, pthRs_cons, pthRs_nil, List.append_nil, ← List.cons_append, List.map_append]
          rfl
      · rintro ρ' S' ⟨a3, rfl, hL1, k1⟩
        rw [intsW_len, itmsW_len, List.take_of_length_le (by rw [kids_len]; omega)] at hL1
        refine ⟨_, rfl, ?_, k1⟩
        rw [hL1, ← pthR_part]
        rfl⟩
theorem ok_ps (T : Txt K mg ec) (d : DefAt K mg "_law_paths" s__law_paths ["_law_item_here", "_law_path"]) : ∀ n : Nat, CalW P w K mg base (n + 2) "_law_paths" (spPs n)
  | 0 => ps_step T 1 0 spNever ((calNever d sc__law_paths).hd) (fun u ws S Q e => by cases e) d
  | n + 1 => ps_step T (n + 2) (n + 1) (spPs n) (ok_ps T d n).hd (fun u ws S Q e h => by
      cases e
      exact h) d
theorem atP_ok {m : Nat} : ∀ {p : List Nat} {n : Nat} {it x : Itm}, ItmOk m n it → atP it p = some x → ItmOk m n x ∧ p.length ≤ n
  | [], n, it, x, h, e => by
    have e : some it = some x := by cases it <;> exact e
    cases e
    exact ⟨h, Nat.zero_le _⟩
  | k :: p, n, it, x, h, e => by
    cases h with
    | text h => cases e
    | lab h => cases e
    | ref h => cases e
    | @part u kd ms is h1 h2 h3 h4 h5 =>
      unfold atP at e
      cases hn : is[k]? with
      | none => rw [hn] at e; cases e
      | some y =>
        rw [hn] at e
        obtain ⟨a, b⟩ := atP_ok (h5 y (List.mem_of_getElem? hn)) e
        exact ⟨a.up (by omega), by rw [List.length_cons]; omega⟩
end
end K10
set_option Elab.async false
set_option linter.all false
set_option maxRecDepth 100000
set_option maxHeartbeats 4000000
set_option synthInstance.maxHeartbeats 4000000
set_option synthInstance.maxSize 100000
namespace K10
open PySem PySem.Spec PyProof.Rows L2 Wl
local macro_rules | `(tactic| walk_at "w") => `(tactic| (conv => whnf))
/-! what a store holds -/
local macro_rules | `(tactic| walk_at "ne") => `(tactic| first | assumption | (apply Ne.symm; assumption) | exact ne_free (by assumption) (by assumption) | exact (ne_free (by assumption) (by assumption)).symm | exact Pl.ne (by assumption) (by assumption) | exact (Pl.ne (by assumption) (by assumption)).symm)
local macro_rules | `(tactic| walk_at "s") => `(tactic| first
  | exact put_same
  | assumption
  | (refine (put_ne ?_).trans ?_; (· walk_at "ne"); (· walk_at "s")))
/-! a side condition -/
local macro_rules | `(tactic| walk_at "c") => `(tactic| first
  | exact Or.inl (Or.inl ⟨by omega, by omega⟩)
  | exact Or.inl (Or.inr ⟨by omega, by omega⟩)
  | exact Or.inl ⟨by omega, by omega⟩
  | exact Or.inl ⟨rfl, _, by walk_at "s"⟩
  | rfl
  | omega
  | decide
  | exact Nat.le_trans (by omega) sizeLine_ge)
/-! one question is answered, if the answer is plain -/
local macro_rules | `(tactic| walk_at "g1") => `(tactic| first
  | refine ⟨fun _ => ?_, fun h => absurd (show true = false from h) (by decide)⟩
  | refine ⟨fun h => absurd (show false = true from h) Bool.false_ne_true, fun _ => ?_⟩
  | refine ⟨_, by walk_at "s", ?_⟩
  | refine ⟨_, _, by walk_at "s", by walk_at "s", ?_⟩
  | refine ⟨_, by walk_at "s", by simpa using (by omega), ?_⟩
  | refine ⟨_, rfl, ?_⟩
  | refine ⟨_, _, rfl, (by first | exact isTy_tt | exact isTy_ii | exact isTy_ll | exact isTy_ss | exact isTy_ib | exact isTy_tb | exact isTy_ti | exact isTy_ts | exact isTy_tl | exact isTy_lb | exact isTy_li | exact isTy_ls | exact isTy_lt | exact isTy_sb | exact isTy_si | exact isTy_st | exact isTy_sl | exact isTy_is | exact isTy_it | exact isTy_il | exact isTy_bi | exact isTy_bs | exact isTy_bb | exact isTy_nb | exact isTy_ni | exact isTy_ns | exact isTy_nt | exact isTy_nl | exact isTy_bt | exact isTy_bl | exact isTy_nd | exact isTy_td | exact isTy_ld | exact isTy_sd | exact isTy_id | exact isTy_bd | exact isTy_dd | exact isTy_db | exact isTy_di | exact isTy_ds | exact isTy_dt | exact isTy_dl), ?_⟩
  | refine ⟨_, _, tyName_lst (by walk_at "s"), (by first | exact isTy_ll | exact isTy_lb | exact isTy_li | exact isTy_ls | exact isTy_lt), ?_⟩
  | refine if_q ?_
  | refine ⟨by walk_at "c", ?_⟩)
local macro_rules | `(tactic| walk_at "go") => `(tactic| (walk_at "w"; repeat (walk_at "g1"; walk_at "w")))
/-! a branch that cannot be -/
local macro_rules | `(tactic| walk_at "two") => `(tactic| refine ⟨fun h => ?_, fun h => ?_⟩)
section
variable {P : Program} {w : World} {K : PySem.W.Frag} {mg : Str → Option Value} {base : Heap} {ec : Cls}
/-! how deep, how wide -/
mutual
def Itm.dep : Itm → Nat
  | .text _ => 0 | .lab _ => 0 | .ref _ => 0
  | .part _ _ is => 1 + deps is
def deps : List Itm → Nat
  | [] => 0
  | i :: is => max i.dep (deps is)
end
mutual
def Itm.wid : Itm → Nat
  | .text _ => 0 | .lab _ => 0 | .ref _ => 0
  | .part _ _ is => max is.length (wids is)
def wids : List Itm → Nat
  | [] => 0
  | i :: is => max i.wid (wids is)
end
theorem deps_cons (i : Itm) (a : List Itm) : deps (i :: a) = max i.dep (deps a) := by simp only [deps]
theorem deps_nil : deps [] = 0 := by simp only [deps]
theorem deps_app : ∀ a b : List Itm, deps (a ++ b) = max (deps a) (deps b)
  | [], b => by rw [List.nil_append, deps_nil]; omega
  | i :: a, b => by rw [List.cons_append, deps_cons, deps_cons, deps_app a b]; omega
theorem wids_cons (i : Itm) (a : List Itm) : wids (i :: a) = max i.wid (wids a) := by simp only [wids]
theorem wids_nil : wids [] = 0 := by simp only [wids]
theorem wids_app : ∀ a b : List Itm, wids (a ++ b) = max (wids a) (wids b)
  | [], b => by rw [List.nil_append, wids_nil]; omega
  | i :: a, b => by rw [List.cons_append, wids_cons, wids_cons, wids_app a b]; omega
def szW (d : Int) (it : Itm) : Cell := .lst [.int it.cnt, .int it.chars, .int (d - 1 + it.dep), .int it.refs, .int it.wid]
def spSz (n : Nat) : SpW := fun ws S Q => ∃ (it : Itm) (m : Nat) (d : Int), ws = [it.w, .int d] ∧ ItmOk m n it ∧ m ≤ 1000 ∧ ∀ L S', S' L = some (szW d it) → S L = none → KpL [] S S' → Q (.ref L) S'
def five (a0 a1 a2 a3 a4 : Int) (k : Int) : Int := if k = 0 then a0 else if k = 1 then a1 else if k = 2 then a2 else if k = 3 then a3 else a4
theorem five_at {a0 a1 a2 a3 a4 : Int} {k : Int} (h0 : 0 ≤ k) (h1 : k < 5) : atI [W.int a0, W.int a1, W.int a2, W.int a3, W.int a4] k = some (.int (five a0 a1 a2 a3 a4 k)) := by
  obtain ⟨j, rfl⟩ : ∃ j : Nat, k = (j : Int) := ⟨k.toNat, by omega⟩
  match j, h1 with
  | 0, _ => exact atI_nat (j := 0) rfl
  | 1, _ => exact atI_nat (j := 1) rfl
  | 2, _ => exact atI_nat (j := 2) rfl
  | 3, _ => exact atI_nat (j := 3) rfl
  | 4, _ => exact atI_nat (j := 4) rfl
def fiveF (a0 a1 a2 a3 a4 b0 b1 b2 b3 b4 : Int) : W → W
  | .int k => .int (five a0 a1 a2 a3 a4 k + five b0 b1 b2 b3 b4 k)
  | w => w
theorem five_map (a0 a1 a2 a3 a4 b0 b1 b2 b3 b4 : Int) : (intsW 0 (5 : Int).toNat).map (fiveF a0 a1 a2 a3 a4 b0 b1 b2 b3 b4) = [.int (a0 + b0), .int (a1 + b1), .int (a2 + b2), .int (a3 + b3), .int (a4 + b4)] := by rfl
theorem sz_step (T : Txt K mg ec) (k n : Nat) (sp' : SpW) (c__law_sizes : CalW P w K mg base k "_law_sizes" (Hd sp')) (hs : ∀ (u : Nat) (ws : List W) (S : Sto) (Q : WK), n = u + 1 → spSz u ws S Q → sp' ws S Q)
    (d : DefAt K mg "_law_sizes" s__law_sizes ["_law_item_here", "_law_depth"]) : CalW P w K mg base (k + 1) "_law_sizes" (spSz n) :=
  calDI d sc__law_sizes (fun ws S Q ⟨it, m, dd, e, _⟩ => by rw [e]; rfl) fun f cdv A outer s H E hr => ⟨_, _,
    (pss_cons (ps_if (pt_val (pe_callB (k_isi K) (by rfl) T.b_isinstance (by decide +kernel) (pa_cons (pv 0) (pa_cons (pe_bltn (v := .ty "str") (by rfl) T.b_str (by decide +kernel) rfl) pa_nil))))
       (pss_one (ps_ret (pe_lst (pa_cons pe_int (pa_cons (pe_callB (k_len K) (by rfl) T.b_len (by decide +kernel) (pa_cons (pv 0) pa_nil)) (pa_cons (pe_op op_sub (pv 1) pe_int) (pa_cons pe_int (pa_cons pe_int pa_nil))))))))
       pss_nil)
      (pss_cons (ps_if (pt_cmpR (k_eq K hr.units) (pe_callB (k_len K) (by rfl) T.b_len (by decide +kernel) (pa_cons (pv 0) pa_nil)) pe_int (nomark _))
       (pss_one (ps_ret (pe_lst (pa_cons pe_int (pa_cons pe_int (pa_cons (pe_op op_sub (pv 1) pe_int) (pa_cons (pe_callTy call_int1 (by rfl) T.b_int (by decide +kernel) (pa_cons (pe_cmpR (k_eq K hr.units) (pe_ix (k_ix K) (pv 0) pe_int (fun _ _ => rfl)) pe_str (nomark _)) pa_nil)) (pa_cons pe_int pa_nil))))))))
       pss_nil)
      (pss_cons (ps_set (i := 2) sc__law_sizes.nd rfl (Or.inr rfl) (pe_lst (pa_cons pe_int (pa_cons pe_int (pa_cons (pv 1) (pa_cons pe_int (pa_cons (pe_callB (k_len K) (by rfl) T.b_len (by decide +kernel) (pa_cons (pe_ix (k_ix K) (pv 0) pe_int (fun _ _ => rfl)) pa_nil)) pa_nil)))))))
      (pss_cons (ps_for PassesOwn.never rfl (k_any K (pe_ix (k_ix K) (pv 0) pe_int (fun _ _ => rfl))) (pg_name (i := 3) sc__law_sizes.nd rfl (Or.inl rfl))
       (pss_cons (ps_set (i := 4) sc__law_sizes.nd rfl (Or.inr rfl) (k_w K c__law_sizes hr (Nat.le_refl _) rfl (pa_cons (pv 3) (pa_cons (pe_op (k_addB K) (pv 1) pe_int) pa_nil))))
       (pss_cons (ps_setLc (i := 5) (own := [("_law_k", 6)]) rfl sc__law_sizes.nd rfl rfl (sw_true rfl rfl rfl (by decide +kernel)) (pi_range1 rfl T.b_range (pa_cons pe_int pa_nil)) (blkOk_by (own := [("_law_k", 6)]) (N := ["_law_item_here", "_law_depth", "_law_sizes_here", "_law_one", "_law_more", "_law_total", "_law_k"]) (sc := defScope s__law_sizes) (by decide +kernel)) (fun _ _ _ _ _ => (pg_name (i := 6) sc__law_sizes.nd rfl (Or.inl rfl))) (fun _ _ _ _ _ => pts_nil) (fun _ _ _ _ _ => (pe_op (k_addB K) (pe_ix (k_ix K) (pv 2) (pv 6) (fun _ _ => rfl)) (pe_ix (k_ix K) (pv 4) (pv 6) (fun _ _ => rfl)))))
       (pss_cons (ps_asg (pe_callB (call_max2 rfl) (by rfl) T.b_max (by decide +kernel) (pa_cons (pe_callTy call_int1 (by rfl) T.b_int (by decide +kernel) (pa_cons (pe_ix (k_ix K) (pv 2) pe_int (fun _ _ => rfl)) pa_nil)) (pa_cons (pe_ix (k_ix K) (pv 4) pe_int (fun _ _ => rfl)) pa_nil))) (pg_sub (pv 5) pe_int set_list))
       (pss_cons (ps_asg (pe_callB (call_max2 rfl) (by rfl) T.b_max (by decide +kernel) (pa_cons (pe_callTy call_int1 (by rfl) T.b_int (by decide +kernel) (pa_cons (pe_ix (k_ix K) (pv 2) pe_int (fun _ _ => rfl)) pa_nil)) (pa_cons (pe_ix (k_ix K) (pv 4) pe_int (fun _ _ => rfl)) pa_nil))) (pg_sub (pv 5) pe_int set_list))
       (pss_one (ps_set (i := 2) sc__law_sizes.nd rfl (Or.inr rfl) (pv 5))))))))
      (pss_one (ps_ret (pv 2))))))), inferInstance, by
    rintro ws S Q ⟨it, m, dd, rfl, h, hm, q⟩
    walk_at "w"
    cases h with
    | text h =>
      rename_i x
      refine ⟨_, _, rfl, isTy_ss, ?_⟩
      have lx : x.length ≤ sizeLine := by rw [← tl_len]; exact Nat.le_trans h.2.1 (Nat.le_trans (by decide) sizeLine_ge)
      walk_at "go"
      intro L hL
      refine fg_here (q L _ ?_ hL ((KpL.refl [] S).own hL))
      rw [put_same]
      show some (Cell.lst [_, _, .int (dd - 1), _, _]) = some (Cell.lst [_, .int ((tl x).length : Nat), .int (dd - 1 + ((0 : Nat) : Int)), _, _])
      rw [tl_len, show dd - 1 + ((0 : Nat) : Int) = dd - 1 by omega]
      rfl
    | lab h =>
      refine ⟨_, _, rfl, isTy_ts, ?_⟩
      walk_at "go"
      rw [show decide (("#" : Str) = "@") = false by decide +kernel]
      walk_at "go"
      intro L hL
      refine fg_here (q L _ ?_ hL ((KpL.refl [] S).own hL))
      rw [put_same]
      show some (Cell.lst [_, _, .int (dd - 1), _, _]) = some (Cell.lst [_, _, .int (dd - 1 + ((0 : Nat) : Int)), _, _])
      rw [show dd - 1 + ((0 : Nat) : Int) = dd - 1 by omega]
      rfl
    | ref h =>
      refine ⟨_, _, rfl, isTy_ts, ?_⟩
      walk_at "go"
      rw [show decide (("@" : Str) = "@") = true by decide +kernel]
      walk_at "go"
      intro L hL
      refine fg_here (q L _ ?_ hL ((KpL.refl [] S).own hL))
      rw [put_same]
      show some (Cell.lst [_, _, .int (dd - 1), _, _]) = some (Cell.lst [_, _, .int (dd - 1 + ((0 : Nat) : Int)), _, _])
      rw [show dd - 1 + ((0 : Nat) : Int) = dd - 1 by omega]
      rfl
    | @part u kd ms is h1 h2 h3 h4 h5 =>
      refine ⟨_, _, rfl, isTy_ts, ?_⟩
      walk_at "go"
      intro L hL
      walk_at "w"
      rw [itmsW_len]
      refine for_q (fun i ρ' S' => i ≤ is.length ∧ ∃ (M : Addr) (a3 a4 a5 a6 : Option W), ρ' = [some (Itm.part kd ms is).w, some (.int dd), some (.ref M), a3, a4, a5, a6] ∧ S M = none ∧ KpL [] S S' ∧
          S' M = some (.lst [.int ((1 + cnts (is.take i) : Nat) : Int), .int (charss (is.take i)), .int (dd + deps (is.take i)), .int (refss (is.take i)), .int ((max is.length (wids (is.take i)) : Nat) : Int)]))
        ⟨Nat.zero_le _, L, _, _, _, _, rfl, hL, (KpL.refl [] S).own hL, ?_⟩ (fun _ _ _ _ => trivial) ?_ ?_
      · rw [put_same, List.take_zero, cnts_nil, charss_nil, deps_nil, refss_nil, wids_nil, Nat.max_zero, show dd + ((0 : Nat) : Int) = dd by omega]
        rfl
      · rintro i w ρ' S' e ⟨hi, M, a3, a4, a5, a6, rfl, hM, k1, hM1⟩
        rw [itmsW_map] at e
        obtain ⟨x, ex, rfl⟩ : ∃ x, is[i]? = some x ∧ Itm.w x = w := by
          rw [List.getElem?_map] at e
          cases hc : is[i]? with
          | none => rw [hc] at e; cases e
          | some x => rw [hc] at e; exact ⟨x, rfl, Option.some.inj e⟩
        have hi' : i < is.length := (List.getElem?_eq_some_iff.mp ex).1
        have tk : is.take (i + 1) = is.take i ++ [x] := by rw [List.take_add_one, ex]; rfl
        walk_at "w"
        refine Hd.mk (hs u _ _ _ rfl ⟨x, m, dd + 1, rfl, h5 x (List.mem_of_getElem? ex), hm, fun R S2 hR hRf k2 => ?_⟩)
        walk_at "w"
        have hM2 := k2 M _ (by simp) hM1
        refine ⟨by omega, by omega, ?_⟩
        have ed : dd + 1 - 1 + (x.dep : Int) = dd + x.dep := by omega
        have hR2 : S2 R = some (.lst [.int x.cnt, .int x.chars, .int (dd + x.dep), .int x.refs, .int x.wid]) := by rw [hR, ← ed]; rfl
        generalize hwid : (max is.length (wids (is.take i)) : Nat) = wid at hM2
        have hMR : R ≠ M := ne_free hM1 hRf
        refine lc_map (fiveF ((1 + cnts (is.take i) : Nat) : Int) (charss (is.take i)) (dd + deps (is.take i)) (refss (is.take i)) wid x.cnt x.chars (dd + x.dep) x.refs x.wid) (by rw [intsW_len]; decide) (fun _ _ _ => trivial) ?_ ?_
        · intro j wv D acc ej hD Q' q'
          obtain ⟨hj, rfl⟩ := intsW_at ej
          have hj : j < 5 := hj
          walk_at "w"
          refine ⟨_, (put_ne (ne_free hM2 hD).symm).trans hM2, rdAt_ok (five_at (by omega) (by omega)) ?_⟩
          walk_at "w"
          refine ⟨_, (put_ne (ne_free hR2 hD).symm).trans hR2, rdAt_ok (five_at (by omega) (by omega)) ?_⟩
          exact q'
        intro D hD
        rw [five_map]
        have hDM : D ≠ M := ne_free hM2 hD
        have hDR : D ≠ R := ne_free hR2 hD
        have hDS : S D = none := k1.free (k2.free hD (by simp)) (by simp)
        walk_at "w"
        refine ⟨_, (put_ne hDM.symm).trans hM2, rdAt_ok (atI_nat (j := 2) rfl) ?_⟩
        walk_at "w"
        refine ⟨_, (put_ne hDR.symm).trans hR2, rdAt_ok (atI_nat (j := 2) rfl) ?_⟩
        walk_at "w"
        refine ⟨_, 2, put_same, rfl, ?_⟩
        rw [put_put]
        walk_at "w"
        refine ⟨_, (put_ne hDM.symm).trans hM2, rdAt_ok (atI_nat (j := 4) rfl) ?_⟩
        walk_at "w"
        refine ⟨_, (put_ne hDR.symm).trans hR2, rdAt_ok (atI_nat (j := 4) rfl) ?_⟩
        walk_at "w"
        refine ⟨_, 4, put_same, rfl, ?_⟩
        rw [put_put]
        refine ⟨hi', D, _, _, _, _, rfl, hDS, (k1.trans k2).own hDS, ?_⟩
        rw [put_same, tk, cnts_app, charss_app, deps_app, refss_app, wids_app, cnts_cons, charss_cons, deps_cons, refss_cons, wids_cons, cnts_nil, charss_nil, deps_nil, refss_nil, wids_nil]
        have m1 : (if (dd : Int) + x.dep > dd + deps (is.take i) then dd + (x.dep : Int) else dd + deps (is.take i)) = dd + ((max (deps (is.take i)) (max x.dep 0) : Nat) : Int) := by
          split <;> omega
        have m2 : (if (x.wid : Int) > (wid : Int) then (x.wid : Int) else (wid : Int)) = ((max is.length (max (wids (is.take i)) (max x.wid 0)) : Nat) : Int) := by
          split <;> omega
        rw [← m1, ← m2]
        show some (Cell.lst [.int _, .int _, .int _, .int _, .int _]) = some (Cell.lst [.int _, .int _, .int _, .int _, .int _])
        congr 3
        refine congrArg W.int ?_
        omega
      · rintro ρ' S' ⟨hi, M, a3, a4, a5, a6, rfl, hM, k1, hM1⟩
        rw [itmsW_len, List.take_of_length_le (Nat.le_refl _)] at hM1
        walk_at "w"
        refine fg_here (q M S' ?_ hM k1)
        rw [hM1]
        unfold szW
        have e1 : (Itm.part kd ms is).cnt = 1 + cnts is := by simp only [Itm.cnt]
        have e2 : (Itm.part kd ms is).chars = charss is := by simp only [Itm.chars]
        have e3 : (Itm.part kd ms is).dep = 1 + deps is := by simp only [Itm.dep]
        have e4 : (Itm.part kd ms is).refs = refss is := by simp only [Itm.refs]
        have e5 : (Itm.part kd ms is).wid = max is.length (wids is) := by simp only [Itm.wid]
        rw [e1, e2, e3, e4, e5, show dd - 1 + ((1 + deps is : Nat) : Int) = dd + deps is by omega]⟩
theorem ok_sz (T : Txt K mg ec) (d : DefAt K mg "_law_sizes" s__law_sizes ["_law_item_here", "_law_depth"]) : ∀ n : Nat, CalW P w K mg base (n + 2) "_law_sizes" (spSz n)
  | 0 => sz_step T 1 0 spNever ((calNever d sc__law_sizes).hd) (fun u ws S Q e => by cases e) d
  | n + 1 => sz_step T (n + 2) (n + 1) (spSz n) (ok_sz T d n).hd (fun u ws S Q e h => by
      cases e
      exact h) d
def fivB (b0 b1 b2 b3 b4 : Bool) (k : Int) : Bool := if k = 0 then b0 else if k = 1 then b1 else if k = 2 then b2 else if k = 3 then b3 else b4
def fivP (b0 b1 b2 b3 b4 : Bool) : W → Bool
  | .int k => fivB b0 b1 b2 b3 b4 k
  | _ => false
theorem fivP_len (b0 b1 b2 b3 b4 : Bool) : decide (((((intsW 0 (5 : Int).toNat).filter (fivP b0 b1 b2 b3 b4)).map (fun x : W => x)).length : Int) = 0) = (!b0 && !b1 && !b2 && !b3 && !b4) := by
  cases b0 <;> cases b1 <;> cases b2 <;> cases b3 <;> cases b4 <;> rfl
theorem fiv_lt {a0 a1 a2 a3 a4 b0 b1 b2 b3 b4 k : Int} : decide (five b0 b1 b2 b3 b4 k < five a0 a1 a2 a3 a4 k) = fivB (decide (b0 < a0)) (decide (b1 < a1)) (decide (b2 < a2)) (decide (b3 < a3)) (decide (b4 < a4)) k := by
  unfold five fivB
  split
  · rfl
  split
  · rfl
  split
  · rfl
  split
  · rfl
  · rfl
theorem not_lt_nat (n : Nat) (m : Nat) (b : Int) (h : b = (m : Int)) : (!decide (b < (n : Int))) = decide (n ≤ m) := by
  rw [h]
  by_cases g : n ≤ m
  · rw [decide_eq_true g, decide_eq_false (by omega)]; rfl
  · rw [decide_eq_false g, decide_eq_true (by omega)]; rfl
def bdI (it : Itm) : Bool := decide (it.cnt ≤ 60) && decide (it.chars ≤ 400) && decide (it.dep ≤ 6) && decide (it.refs ≤ 3) && decide (it.wid ≤ 12)
def spLe : SpW := fun ws S Q => ∃ (it : Itm) (m : Nat), ws = [it.w] ∧ ItmOk m 20 it ∧ m ≤ 1000 ∧ Q (.bl (bdI it)) S
theorem ok__law_let (T : Txt K mg ec) (c__law_sizes : CalW P w K mg base 22 "_law_sizes" (Hd (spSz 20))) (d : DefAt K mg "_law_let" s__law_let ["_law_root"]) : CalW P w K mg base 23 "_law_let" spLe :=
  calDI d sc__law_let (fun ws S Q ⟨it, m, e, _⟩ => by rw [e]; rfl) fun f cdv A outer s H E hr => ⟨_, _,
    (pss_cons (ps_set (i := 1) sc__law_let.nd rfl (Or.inr rfl) (k_w K c__law_sizes hr (by decide) rfl (pa_cons (pv 0) (pa_cons pe_int pa_nil))))
      (pss_cons (ps_set (i := 2) sc__law_let.nd rfl (Or.inr rfl) (pe_lst (pa_cons pe_int (pa_cons pe_int (pa_cons pe_int (pa_cons pe_int (pa_cons pe_int pa_nil)))))))
      (pss_one (ps_ret (pe_cmpR (k_eq K hr.units) (pe_callB (k_len K) (by rfl) T.b_len (by decide +kernel) (pa_cons (pe_lc (own := [("_law_k", 3)]) rfl sc__law_let.nd (pi_range1 rfl T.b_range (pa_cons pe_int pa_nil)) (blkOk_by (own := [("_law_k", 3)]) (N := ["_law_root", "_law_sizes_here", "_law_bounds", "_law_k"]) (sc := defScope s__law_let) (by decide +kernel)) (fun _ _ _ _ _ => (pg_name (i := 3) sc__law_let.nd rfl (Or.inl rfl))) (fun _ _ _ _ _ => (pts_one (pt_cmpR op_gtA (pe_ix (k_ix K) (pv 1) (pv 3) (fun _ _ => rfl)) (pe_ix (k_ix K) (pv 2) (pv 3) (fun _ _ => rfl)) (nomark _)))) (fun _ _ _ _ _ => (pv 3))) pa_nil)) pe_int (nomark _)))))), inferInstance, by
    rintro ws S Q ⟨it, m, rfl, h, hm, q⟩
    walk_at "w"
    refine Hd.mk ⟨it, m, 1, rfl, h, hm, fun L S2 hL hf k2 => ?_⟩
    walk_at "w"
    intro B hB
    walk_at "w"
    refine ⟨by omega, by omega, ?_⟩
    have hL2 : put S2 B (.lst [.int 60, .int 400, .int 6, .int 3, .int 12]) L = some (.lst [.int it.cnt, .int it.chars, .int (1 - 1 + it.dep), .int it.refs, .int it.wid]) := (put_ne (ne_free hL hB).symm).trans hL
    rw [show (1 : Int) - 1 + (it.dep : Int) = it.dep by omega] at hL2
    have hBS : S B = none := k2.free hB (by simp)
    refine lc_fil (fivP (decide ((60 : Int) < it.cnt)) (decide ((400 : Int) < it.chars)) (decide ((6 : Int) < it.dep)) (decide ((3 : Int) < it.refs)) (decide ((12 : Int) < it.wid))) (fun x => x) (by rw [intsW_len]; decide) (fun _ _ _ => trivial) ?_ ?_ ?_
    · intro j wv D acc ej hD Q' q'
      obtain ⟨hj, rfl⟩ := intsW_at ej
      have hj : j < 5 := hj
      walk_at "w"
      refine ⟨_, (put_ne (ne_free hL2 hD).symm).trans hL2, rdAt_ok (five_at (by omega) (by omega)) ?_⟩
      walk_at "w"
      refine ⟨_, (put_ne (ne_free put_same hD).symm).trans put_same, rdAt_ok (five_at (by omega) (by omega)) ?_⟩
      rw [show fivP (decide ((60 : Int) < it.cnt)) (decide ((400 : Int) < it.chars)) (decide ((6 : Int) < it.dep)) (decide ((3 : Int) < it.refs)) (decide ((12 : Int) < it.wid)) (.int (0 + (j : Int))) = _ from fiv_lt.symm] at q'
      exact q'
    · intro j wv D acc ej _ hD Q' q'
      obtain ⟨hj, rfl⟩ := intsW_at ej
      exact q'
    · intro D hD
      walk_at "w"
      refine ⟨_, put_same, ?_⟩
      have k3 := ((k2.own (c := .lst [.int 60, .int 400, .int 6, .int 3, .int 12]) hBS).new (c := .lst (((intsW 0 (5 : Int).toNat).filter (fivP (decide ((60 : Int) < it.cnt)) (decide ((400 : Int) < it.chars)) (decide ((6 : Int) < it.dep)) (decide ((3 : Int) < it.refs)) (decide ((12 : Int) < it.wid)))).map (fun x => x))) hD)
      refine fg_off (ps := []) k3 fun S6 f1 f2 => ?_
      rw [show S6 = S from funext fun x => f1 x (by simp)]
      refine Eq.mp (congrArg (fun b => Q (.bl b) S) ?_) q
      refine Eq.symm ((fivP_len _ _ _ _ _).trans ?_)
      rw [not_lt_nat it.cnt 60 60 rfl, not_lt_nat it.chars 400 400 rfl, not_lt_nat it.dep 6 6 rfl, not_lt_nat it.refs 3 3 rfl, not_lt_nat it.wid 12 12 rfl]
      rfl⟩
end
end K10
set_option Elab.async false
set_option linter.all false
set_option maxRecDepth 100000
set_option maxHeartbeats 4000000
set_option synthInstance.maxHeartbeats 4000000
set_option synthInstance.maxSize 100000
namespace K10
open PySem PySem.Spec PyProof.Rows L2 Wl
local macro_rules | `(tactic| walk_at "w") => `(tactic| (conv => whnf))
/-! what a store holds -/
local macro_rules | `(tactic| walk_at "ne") => `(tactic| first | assumption | (apply Ne.symm; assumption) | exact ne_free (by assumption) (by assumption) | exact (ne_free (by assumption) (by assumption)).symm | exact Pl.ne (by assumption) (by assumption) | exact (Pl.ne (by assumption) (by assumption)).symm)
local macro_rules | `(tactic| walk_at "s") => `(tactic| first
  | exact put_same
  | assumption
  | (refine (put_ne ?_).trans ?_; (· walk_at "ne"); (· walk_at "s")))
/-! a side condition -/
local macro_rules | `(tactic| walk_at "c") => `(tactic| first
  | exact Or.inl (Or.inl ⟨by omega, by omega⟩)
  | exact Or.inl (Or.inr ⟨by omega, by omega⟩)
  | exact Or.inl ⟨by omega, by omega⟩
  | exact Or.inl ⟨rfl, _, by walk_at "s"⟩
  | rfl
  | omega
  | decide
  | exact Nat.le_trans (by omega) sizeLine_ge)
/-! one question is answered, if the answer is plain -/
local macro_rules | `(tactic| walk_at "g1") => `(tactic| first
  | refine ⟨fun _ => ?_, fun h => absurd (show true = false from h) (by decide)⟩
  | refine ⟨fun h => absurd (show false = true from h) Bool.false_ne_true, fun _ => ?_⟩
  | refine ⟨_, by walk_at "s", ?_⟩
  | refine ⟨_, _, by walk_at "s", by walk_at "s", ?_⟩
  | refine ⟨_, by walk_at "s", by simpa using (by omega), ?_⟩
  | refine ⟨_, rfl, ?_⟩
  | refine ⟨_, _, rfl, (by first | exact isTy_tt | exact isTy_ii | exact isTy_ll | exact isTy_ss | exact isTy_ib | exact isTy_tb | exact isTy_ti | exact isTy_ts | exact isTy_tl | exact isTy_lb | exact isTy_li | exact isTy_ls | exact isTy_lt | exact isTy_sb | exact isTy_si | exact isTy_st | exact isTy_sl | exact isTy_is | exact isTy_it | exact isTy_il | exact isTy_bi | exact isTy_bs | exact isTy_bb | exact isTy_nb | exact isTy_ni | exact isTy_ns | exact isTy_nt | exact isTy_nl | exact isTy_bt | exact isTy_bl | exact isTy_nd | exact isTy_td | exact isTy_ld | exact isTy_sd | exact isTy_id | exact isTy_bd | exact isTy_dd | exact isTy_db | exact isTy_di | exact isTy_ds | exact isTy_dt | exact isTy_dl), ?_⟩
  | refine ⟨_, _, tyName_lst (by walk_at "s"), (by first | exact isTy_ll | exact isTy_lb | exact isTy_li | exact isTy_ls | exact isTy_lt), ?_⟩
  | refine if_q ?_
  | refine ⟨by walk_at "c", ?_⟩)
local macro_rules | `(tactic| walk_at "go") => `(tactic| (walk_at "w"; repeat (walk_at "g1"; walk_at "w")))
/-! a branch that cannot be -/
local macro_rules | `(tactic| walk_at "two") => `(tactic| refine ⟨fun h => ?_, fun h => ?_⟩)
section
variable {P : Program} {w : World} {K : PySem.W.Frag} {mg : Str → Option Value} {base : Heap} {ec : Cls}
theorem lc_filD {α : Type} (F : α → W) (rs : List α) (r : α → StW) (p : α → Bool) (f : α → W) {g : TGW} {tt : TTW} {te : TEW} {vs : List Nat} {ρ : StW} {Q : WK} {ok : Sto → Prop} {S1 : Sto} (hl : rs.length ≤ 100000) (hok : ∀ (D : Addr) (acc : List W), S1 D = none → ok (put S1 D (.lst acc)))
    (hg : ∀ (x : α) (S : Sto) (R : StW → Sto → Prop), x ∈ rs → R (r x) S → g (F x) (wipeW ρ vs) S R)
    (ht : ∀ (x : α) (D : Addr) (acc : List W), x ∈ rs → S1 D = none → EvW tt (r x) (put S1 D (.lst acc)) (p x))
    (he : ∀ (x : α) (D : Addr) (acc : List W), x ∈ rs → p x = true → S1 D = none → ∀ Q' : WK, Q' (f x) (put S1 D (.lst acc)) → te (r x) (put S1 D (.lst acc)) Q')
    (hd : ∀ (D : Addr), S1 D = none → Q (.ref D) (put S1 D (.lst ((rs.filter p).map f)))) : LcQ g tt te vs ρ Q (rs.map F) ok S1 := by
  refine lc_q fun D hD => ⟨fun i acc S' => i ≤ rs.length ∧ acc = ((rs.take i).filter p).map f ∧ S' = put S1 D (.lst acc), ⟨Nat.zero_le _, rfl, rfl⟩, ?_, ?_, ?_⟩
  · rintro i acc S' ⟨_, _, rfl⟩
    exact hok D acc hD
  · rintro i w acc S' e ⟨_, ha, rfl⟩
    obtain ⟨x, ex, rfl⟩ : ∃ x, rs[i]? = some x ∧ F x = w := by
      rw [List.getElem?_map] at e
      cases hc : rs[i]? with
      | none => rw [hc] at e; cases e
      | some x => rw [hc] at e; exact ⟨x, rfl, Option.some.inj e⟩
    have hm := List.mem_of_getElem? ex
    have hi : i < rs.length := (List.getElem?_eq_some_iff.mp ex).1
    have tk : rs.take (i + 1) = rs.take i ++ [x] := by rw [List.take_add_one, ex]; rfl
    refine hg x _ _ hm ?_
    refine ht x D acc hm hD _ ⟨fun hb => he x D acc hm hb hD _ ⟨put_same, ?_, ?_⟩, fun hb => ⟨hi, ?_, rfl⟩⟩
    · rw [ha, List.length_map]
      refine Nat.lt_of_le_of_lt (Nat.le_trans (List.length_filter_le _ _) (by rw [List.length_take]; exact Nat.min_le_left _ _)) (Nat.lt_of_lt_of_le (show i < 200000 by omega) (by decide))
    · refine ⟨hi, ?_, put_put⟩
      rw [tk, List.filter_append, List.map_append, ha]
      simp [hb]
    · rw [tk, List.filter_append, List.map_append, ha]
      simp [hb]
  · rintro acc S' ⟨_, ha, rfl⟩
    rw [List.length_map, List.take_of_length_le (Nat.le_refl _)] at ha
    rw [ha]
    exact hd D hD
def Itm.isText : Itm → Bool
  | .text _ => true
  | _ => false
def Itm.isRef : Itm → Bool
  | .ref _ => true
  | _ => false
def Itm.tlen : Itm → Nat
  | .text x => (tl x).length
  | _ => 0
def Itm.own : Itm → Nat
  | .part _ _ is => is.length
  | _ => 0
mutual
theorem chI : ∀ (x : Itm) (pa : List Nat), (((pthI x pa).filter fun r => r.2.isText).map fun r => r.2.tlen).sum = x.chars
  | .text _, _ => by simp [pthI, Itm.chars, Itm.isText, Itm.tlen]
  | .lab _, _ => by simp [pthI, Itm.chars, Itm.isText]
  | .ref _, _ => by simp [pthI, Itm.chars, Itm.isText]
  | .part k ms is, pa => by
    have := chL is pa 0
    rw [show pthI (.part k ms is) pa = (pa, .part k ms is) :: pthL is pa 0 by simp [pthI], List.filter_cons, if_neg (show ¬ (Itm.part k ms is).isText = true from Bool.false_ne_true), this]
    simp [Itm.chars]
theorem chL : ∀ (is : List Itm) (pa : List Nat) (k : Nat), (((pthL is pa k).filter fun r => r.2.isText).map fun r => r.2.tlen).sum = charss is
  | [], _, _ => by simp [pthL, charss]
  | x :: xs, pa, k => by
    have h1 := chI x (pa ++ [k])
    have h2 := chL xs pa (k + 1)
    simp [pthL, charss, h1, h2]
end
mutual
theorem rfI : ∀ (x : Itm) (pa : List Nat), ((pthI x pa).filter fun r => r.2.isRef).length = x.refs
  | .text _, _ => by simp [pthI, Itm.refs, Itm.isRef]
  | .lab _, _ => by simp [pthI, Itm.refs, Itm.isRef]
  | .ref _, _ => by simp [pthI, Itm.refs, Itm.isRef]
  | .part k ms is, pa => by
    have := rfL is pa 0
    rw [show pthI (.part k ms is) pa = (pa, .part k ms is) :: pthL is pa 0 by simp [pthI], List.filter_cons, if_neg (show ¬ (Itm.part k ms is).isRef = true from Bool.false_ne_true), this]
    simp [Itm.refs]
theorem rfL : ∀ (is : List Itm) (pa : List Nat) (k : Nat), ((pthL is pa k).filter fun r => r.2.isRef).length = refss is
  | [], _, _ => by simp [pthL, refss]
  | x :: xs, pa, k => by
    have h1 := rfI x (pa ++ [k])
    have h2 := rfL xs pa (k + 1)
    simp [pthL, refss, h1, h2]
end
theorem dec_and (p q : Prop) [Decidable p] [Decidable q] [Decidable (p ∧ q)] : decide (p ∧ q) = (decide p && decide q) := by
  by_cases hp : p <;> by_cases hq : q <;> simp [hp, hq]
mutual
theorem wdI (m : Nat) : ∀ (x : Itm) (pa : List Nat), ((pthI x pa).filter fun r => r.2.isPart).all (fun r => decide (r.2.own ≤ m)) = decide (x.wid ≤ m)
  | .text _, _ => by simp [pthI, Itm.wid, Itm.isPart]
  | .lab _, _ => by simp [pthI, Itm.wid, Itm.isPart]
  | .ref _, _ => by simp [pthI, Itm.wid, Itm.isPart]
  | .part k ms is, pa => by
    have := wdL m is pa 0
    rw [show pthI (.part k ms is) pa = (pa, .part k ms is) :: pthL is pa 0 by simp [pthI], List.filter_cons, if_pos (show (Itm.part k ms is).isPart = true from rfl), List.all_cons, this, ← dec_and]
    refine decide_eq_decide.mpr ?_
    show is.length ≤ m ∧ wids is ≤ m ↔ (Itm.part k ms is).wid ≤ m
    rw [show (Itm.part k ms is).wid = max is.length (wids is) by simp [Itm.wid]]
    omega
theorem wdL (m : Nat) : ∀ (is : List Itm) (pa : List Nat) (k : Nat), ((pthL is pa k).filter fun r => r.2.isPart).all (fun r => decide (r.2.own ≤ m)) = decide (wids is ≤ m)
  | [], _, _ => by simp [pthL, wids]
  | x :: xs, pa, k => by
    have h1 := wdI m x (pa ++ [k])
    have h2 := wdL m xs pa (k + 1)
    rw [show pthL (x :: xs) pa k = pthI x (pa ++ [k]) ++ pthL xs pa (k + 1) by simp [pthL], List.filter_append, List.all_append, h1, h2, ← dec_and]
    refine decide_eq_decide.mpr ?_
    rw [wids_cons]
    omega
end
mutual
theorem dpI (m : Nat) : ∀ (x : Itm) (pa : List Nat), ((pthI x pa).filter fun r => r.2.isPart).all (fun r => decide (r.1.length < m)) = decide (x.dep = 0 ∨ pa.length + x.dep ≤ m)
  | .text _, _ => by simp [pthI, Itm.dep, Itm.isPart]
  | .lab _, _ => by simp [pthI, Itm.dep, Itm.isPart]
  | .ref _, _ => by simp [pthI, Itm.dep, Itm.isPart]
  | .part k ms is, pa => by
    have := dpL m is pa 0
    rw [show pthI (.part k ms is) pa = (pa, .part k ms is) :: pthL is pa 0 by simp [pthI], List.filter_cons, if_pos (show (Itm.part k ms is).isPart = true from rfl), List.all_cons, this, ← dec_and]
    refine decide_eq_decide.mpr ?_
    show pa.length < m ∧ (deps is = 0 ∨ pa.length + 1 + deps is ≤ m) ↔ _
    rw [show (Itm.part k ms is).dep = 1 + deps is by simp [Itm.dep]]
    omega
theorem dpL (m : Nat) : ∀ (is : List Itm) (pa : List Nat) (k : Nat), ((pthL is pa k).filter fun r => r.2.isPart).all (fun r => decide (r.1.length < m)) = decide (deps is = 0 ∨ pa.length + 1 + deps is ≤ m)
  | [], _, _ => by simp [pthL, deps]
  | x :: xs, pa, k => by
    have h1 := dpI m x (pa ++ [k])
    have h2 := dpL m xs pa (k + 1)
    rw [List.length_append] at h1
    rw [show pthL (x :: xs) pa k = pthI x (pa ++ [k]) ++ pthL xs pa (k + 1) by simp [pthL], List.filter_append, List.all_append, h1, h2, ← dec_and]
    refine decide_eq_decide.mpr ?_
    rw [deps_cons]
    show (x.dep = 0 ∨ pa.length + 1 + x.dep ≤ m) ∧ _ ↔ _
    omega
end
end
end K10
set_option Elab.async false
set_option linter.all false
set_option maxRecDepth 100000
set_option maxHeartbeats 4000000
set_option synthInstance.maxHeartbeats 4000000
set_option synthInstance.maxSize 100000
namespace K10
open PySem PySem.Spec PyProof.Rows L2 Wl
local macro_rules | `(tactic| walk_at "w") => `(tactic| (conv => whnf))
/-! what a store holds -/
local macro_rules | `(tactic| walk_at "ne") => `(tactic| first | assumption | (apply Ne.symm; assumption) | exact ne_free (by assumption) (by assumption) | exact (ne_free (by assumption) (by assumption)).symm | exact Pl.ne (by assumption) (by assumption) | exact (Pl.ne (by assumption) (by assumption)).symm)
local macro_rules | `(tactic| walk_at "s") => `(tactic| first
  | exact put_same
  | assumption
  | (refine (put_ne ?_).trans ?_; (· walk_at "ne"); (· walk_at "s")))
/-! a side condition -/
local macro_rules | `(tactic| walk_at "c") => `(tactic| first
  | exact Or.inl (Or.inl ⟨by omega, by omega⟩)
  | exact Or.inl (Or.inr ⟨by omega, by omega⟩)
  | exact Or.inl ⟨by omega, by omega⟩
  | exact Or.inl ⟨rfl, _, by walk_at "s"⟩
  | rfl
  | omega
  | decide
  | exact Nat.le_trans (by omega) sizeLine_ge)
/-! one question is answered, if the answer is plain -/
local macro_rules | `(tactic| walk_at "g1") => `(tactic| first
  | refine ⟨fun _ => ?_, fun h => absurd (show true = false from h) (by decide)⟩
  | refine ⟨fun h => absurd (show false = true from h) Bool.false_ne_true, fun _ => ?_⟩
  | refine ⟨_, by walk_at "s", ?_⟩
  | refine ⟨_, _, by walk_at "s", by walk_at "s", ?_⟩
  | refine ⟨_, by walk_at "s", by simpa using (by omega), ?_⟩
  | refine ⟨_, rfl, ?_⟩
  | refine ⟨_, _, rfl, (by first | exact isTy_tt | exact isTy_ii | exact isTy_ll | exact isTy_ss | exact isTy_ib | exact isTy_tb | exact isTy_ti | exact isTy_ts | exact isTy_tl | exact isTy_lb | exact isTy_li | exact isTy_ls | exact isTy_lt | exact isTy_sb | exact isTy_si | exact isTy_st | exact isTy_sl | exact isTy_is | exact isTy_it | exact isTy_il | exact isTy_bi | exact isTy_bs | exact isTy_bb | exact isTy_nb | exact isTy_ni | exact isTy_ns | exact isTy_nt | exact isTy_nl | exact isTy_bt | exact isTy_bl | exact isTy_nd | exact isTy_td | exact isTy_ld | exact isTy_sd | exact isTy_id | exact isTy_bd | exact isTy_dd | exact isTy_db | exact isTy_di | exact isTy_ds | exact isTy_dt | exact isTy_dl), ?_⟩
  | refine ⟨_, _, tyName_lst (by walk_at "s"), (by first | exact isTy_ll | exact isTy_lb | exact isTy_li | exact isTy_ls | exact isTy_lt), ?_⟩
  | refine if_q ?_
  | refine ⟨by walk_at "c", ?_⟩)
local macro_rules | `(tactic| walk_at "go") => `(tactic| (walk_at "w"; repeat (walk_at "g1"; walk_at "w")))
/-! a branch that cannot be -/
local macro_rules | `(tactic| walk_at "two") => `(tactic| refine ⟨fun h => ?_, fun h => ?_⟩)
section
variable {P : Program} {w : World} {K : PySem.W.Frag} {mg : Str → Option Value} {base : Heap} {ec : Cls}
theorem name_not_at {k : Str} (h : NameOk k) : decide (k = ("@" : Str)) = false := by
  refine decide_eq_false fun e => ?_
  have := h.2.2 64 (by rw [e]; decide +kernel)
  revert this
  decide
theorem sum_cast {α : Type} (f : α → Nat) : ∀ l : List α, (l.map fun x => (f x : Int)).sum = ((l.map f).sum : Nat)
  | [] => rfl
  | x :: l => by
    rw [List.map_cons, List.map_cons, List.sum_cons, List.sum_cons, sum_cast f l]
    omega
def spWb : SpW := fun ws S Q => ∃ (it : Itm) (m n : Nat), ws = [it.w] ∧ ItmOk m n it ∧ m ≤ 1000 ∧ n ≤ 60 ∧ it.cnt ≤ 1000 ∧ Q (.bl (bdI it)) S
theorem ok_within_bounds (T : Txt K mg ec) (c_is_part : CalW P w K mg base 1 "is_part" (Hd spIs)) (c_walk : CalG P w K mg base 2 "walk" (HdG spWk)) (d : DefAt K mg "within_bounds" s_within_bounds ["root"]) : CalW P w K mg base 6 "within_bounds" spWb :=
  have c_is_part := c_is_part.mono (k := 5) (by decide)
  calDI d sc_within_bounds (fun ws S Q ⟨it, m, n, e, _⟩ => by rw [e]; rfl) fun f cdv A outer s H E hr => ⟨_, _,
    (pss_cons (ps_set (i := 1) sc_within_bounds.nd rfl (Or.inl rfl) (k_listG K c_walk hr (by decide) rfl rfl T.b_list (by decide +kernel) (pa_cons (pv 0) pa_nil)))
      (pss_cons (ps_setLc (i := 2) (own := [("path", 3), ("item", 4)]) rfl sc_within_bounds.nd rfl rfl (sw_true rfl rfl rfl (by decide +kernel)) (k_any K (pv 1)) (blkOk_by (own := [("path", 3), ("item", 4)]) (N := ["root", "rows", "parts", "path", "item", "texts", "references", "part", "text"]) (sc := defScope s_within_bounds) (by decide +kernel)) (fun _ _ _ _ _ => (k_gtup K (n := 2) rfl (pgs_cons (pg_name (i := 3) sc_within_bounds.nd rfl (Or.inl rfl)) (pgs_cons (pg_name (i := 4) sc_within_bounds.nd rfl (Or.inl rfl)) pgs_nil)))) (fun _ _ _ _ _ => (pts_one (pt_val (k_w K c_is_part hr (by decide) rfl (pa_cons (pv 4) pa_nil))))) (fun _ _ _ _ _ => (pe_tup (pa_cons (pv 3) (pa_cons (pv 4) pa_nil)))))
      (pss_cons (ps_setLc (i := 5) (own := [("path", 3), ("item", 4)]) rfl sc_within_bounds.nd rfl rfl (sw_true rfl rfl rfl (by decide +kernel)) (k_any K (pv 1)) (blkOk_by (own := [("path", 3), ("item", 4)]) (N := ["root", "rows", "parts", "path", "item", "texts", "references", "part", "text"]) (sc := defScope s_within_bounds) (by decide +kernel)) (fun _ _ _ _ _ => (k_gtup K (n := 2) rfl (pgs_cons (pg_name (i := 3) sc_within_bounds.nd rfl (Or.inl rfl)) (pgs_cons (pg_name (i := 4) sc_within_bounds.nd rfl (Or.inl rfl)) pgs_nil)))) (fun _ _ _ _ _ => (pts_one (pt_val (pe_callB (k_isi K) (by rfl) T.b_isinstance (by decide +kernel) (pa_cons (pv 4) (pa_cons (pe_bltn (v := .ty "str") (by rfl) T.b_str (by decide +kernel) rfl) pa_nil)))))) (fun _ _ _ _ _ => (pv 4)))
      (pss_cons (ps_setLc (i := 6) (own := [("path", 3), ("item", 4)]) rfl sc_within_bounds.nd rfl rfl (sw_true rfl rfl rfl (by decide +kernel)) (k_any K (pv 1)) (blkOk_by (own := [("path", 3), ("item", 4)]) (N := ["root", "rows", "parts", "path", "item", "texts", "references", "part", "text"]) (sc := defScope s_within_bounds) (by decide +kernel)) (fun _ _ _ _ _ => (k_gtup K (n := 2) rfl (pgs_cons (pg_name (i := 3) sc_within_bounds.nd rfl (Or.inl rfl)) (pgs_cons (pg_name (i := 4) sc_within_bounds.nd rfl (Or.inl rfl)) pgs_nil)))) (fun _ _ _ _ _ => (pts_one (PW.pt (pw_and (pt_not (pt_val (pe_callB (k_isi K) (by rfl) T.b_isinstance (by decide +kernel) (pa_cons (pv 4) (pa_cons (pe_bltn (v := .ty "str") (by rfl) T.b_str (by decide +kernel) rfl) pa_nil))))) (pw_and1 (pt_cmpR (k_eq K hr.units) (pe_ix (k_ix K) (pv 4) pe_int (fun _ _ => rfl)) pe_str (nomark _))))))) (fun _ _ _ _ _ => (pv 4)))
      (pss_one (ps_ret (pe_and (pe_cmpR op_leA (pe_callB (k_len K) (by rfl) T.b_len (by decide +kernel) (pa_cons (pv 1) pa_nil)) (k_gl K T.m_MOST_ITEMS rfl) (nomark _)) (pe_and (pe_callB (k_all K rfl) (by rfl) T.b_all (by decide +kernel) (pa_cons (pe_lc (own := [("path", 3), ("part", 7)]) rfl sc_within_bounds.nd (k_any K (pv 2)) (blkOk_by (own := [("path", 3), ("part", 7)]) (N := ["root", "rows", "parts", "path", "item", "texts", "references", "part", "text"]) (sc := defScope s_within_bounds) (by decide +kernel)) (fun _ _ _ _ _ => (k_gtup K (n := 2) rfl (pgs_cons (pg_name (i := 3) sc_within_bounds.nd rfl (Or.inl rfl)) (pgs_cons (pg_name (i := 7) sc_within_bounds.nd rfl (Or.inl rfl)) pgs_nil)))) (fun _ _ _ _ _ => pts_nil) (fun _ _ _ _ _ => (pe_cmpR op_leA (pe_callB (k_len K) (by rfl) T.b_len (by decide +kernel) (pa_cons (pe_ix (k_ix K) (pv 7) pe_int (fun _ _ => rfl)) pa_nil)) (k_gl K T.m_MOST_ITEMS_OF_A_PART rfl) (nomark _)))) pa_nil)) (pe_and (pe_cmpR op_leA (pe_callB (k_sumA K rfl) (by rfl) T.b_sum (by decide +kernel) (pa_cons (pe_lc (own := [("text", 8)]) rfl sc_within_bounds.nd (k_any K (pv 5)) (blkOk_by (own := [("text", 8)]) (N := ["root", "rows", "parts", "path", "item", "texts", "references", "part", "text"]) (sc := defScope s_within_bounds) (by decide +kernel)) (fun _ _ _ _ _ => (pg_name (i := 8) sc_within_bounds.nd rfl (Or.inl rfl))) (fun _ _ _ _ _ => pts_nil) (fun _ _ _ _ _ => (pe_callB (k_len K) (by rfl) T.b_len (by decide +kernel) (pa_cons (pv 8) pa_nil)))) pa_nil)) (k_gl K T.m_MOST_TEXT rfl) (nomark _)) (pe_and (pe_callB (k_all K rfl) (by rfl) T.b_all (by decide +kernel) (pa_cons (pe_lc (own := [("path", 3), ("part", 7)]) rfl sc_within_bounds.nd (k_any K (pv 2)) (blkOk_by (own := [("path", 3), ("part", 7)]) (N := ["root", "rows", "parts", "path", "item", "texts", "references", "part", "text"]) (sc := defScope s_within_bounds) (by decide +kernel)) (fun _ _ _ _ _ => (k_gtup K (n := 2) rfl (pgs_cons (pg_name (i := 3) sc_within_bounds.nd rfl (Or.inl rfl)) (pgs_cons (pg_name (i := 7) sc_within_bounds.nd rfl (Or.inl rfl)) pgs_nil)))) (fun _ _ _ _ _ => pts_nil) (fun _ _ _ _ _ => (pe_cmpR op_ltA (pe_callB (k_len K) (by rfl) T.b_len (by decide +kernel) (pa_cons (pv 3) pa_nil)) (k_gl K T.m_MOST_DEPTH rfl) (nomark _)))) pa_nil)) (pe_one (pe_cmpR op_leA (pe_callB (k_len K) (by rfl) T.b_len (by decide +kernel) (pa_cons (pv 6) pa_nil)) (k_gl K T.m_MOST_REFERENCES rfl) (nomark _))))))))))))), inferInstance, by
    rintro ws S Q ⟨it, m, n, rfl, hok, hm, hn, hc, q⟩
    walk_at "w"
    refine HdG.mk ⟨it, m, n, rfl, hok, hm, hn, hc, ?_⟩
    intro G hG
    have hlen := pthI_len it []
    have rok : ∀ r ∈ pthI it [], ItmOk m n r.2 := fun r hr => by
      obtain ⟨q, e1, e2⟩ := pthI_at it [] r hr
      exact (atP_ok hok e2).1
    have plen : ∀ r ∈ pthI it [], r.1.length ≤ n := fun r hr => by
      obtain ⟨q, e1, e2⟩ := pthI_at it [] r hr
      rw [List.nil_append] at e1
      rw [e1]
      exact (atP_ok hok e2).2
    have d1 := chI it []
    have d2 := rfI it []
    have d3 := wdI 12 it []
    have d4 := dpI 6 it []
    generalize pthI it [] = R at hlen rok d1 d2 d3 d4 plen
    walk_at "w"
    refine ⟨_, put_same, ?_⟩
    refine lc_filD rowI R (fun x => [some it.w, some (.ref G), none, some (natsT x.1), some x.2.w, none, none, none, none]) (fun x => x.2.isPart) rowI (by omega) (fun D acc hD => (put_ne (ne_free put_same hD).symm).trans put_same) ?_ ?_ ?_ ?_
    · intro x S1 R1 hx q'
      walk_at "w"
      refine ⟨rfl, ?_⟩
      walk_at "w"
      exact ⟨rfl, q'⟩
    · intro x D acc hx hD Q' q'
      walk_at "w"
      exact is_go q'
    · intro x D acc hx hp hD Q' q'
      walk_at "w"
      exact q'
    intro P1 hP1
    have g1 : ∀ c, put (put S G (.lst (R.map rowI))) P1 c G = some (.lst (R.map rowI)) := fun c => (put_ne (ne_free put_same hP1).symm).trans put_same
    walk_at "w"
    refine ⟨_, g1 _, ?_⟩
    refine lc_filD rowI R (fun x => [some it.w, some (.ref G), some (.ref P1), some (natsT x.1), some x.2.w, none, none, none, none]) (fun x => x.2.isText) (fun x => x.2.w) (by omega) (fun D acc hD => (put_ne (ne_free (g1 _) hD).symm).trans (g1 _)) ?_ ?_ ?_ ?_
    · intro x S1 R1 hx q'
      walk_at "w"
      refine ⟨rfl, ?_⟩
      walk_at "w"
      exact ⟨rfl, q'⟩
    · intro x D acc hx hD Q' q'
      have hx := rok x hx
      walk_at "w"
      obtain ⟨pa, y⟩ := x
      cases hx with
      | text h =>
        refine ⟨_, _, rfl, isTy_ss, ?_⟩
        exact q'
      | lab h =>
        refine ⟨_, _, rfl, isTy_ts, ?_⟩
        exact q'
      | ref h =>
        refine ⟨_, _, rfl, isTy_ts, ?_⟩
        exact q'
      | part h1 h2 h3 h4 h5 =>
        refine ⟨_, _, rfl, isTy_ts, ?_⟩
        exact q'
    · intro x D acc hx hp hD Q' q'
      walk_at "w"
      exact q'
    intro P2 hP2
    have g2 : ∀ c c', put (put (put S G (.lst (R.map rowI))) P1 c) P2 c' G = some (.lst (R.map rowI)) := fun c c' => (put_ne (ne_free (g1 _) hP2).symm).trans (g1 _)
    walk_at "w"
    refine ⟨_, g2 _ _, ?_⟩
    refine lc_filD rowI R (fun x => [some it.w, some (.ref G), some (.ref P1), some (natsT x.1), some x.2.w, some (.ref P2), none, none, none]) (fun x => x.2.isRef) (fun x => x.2.w) (by omega) (fun D acc hD => (put_ne (ne_free (g2 _ _) hD).symm).trans (g2 _ _)) ?_ ?_ ?_ ?_
    · intro x S1 R1 hx q'
      walk_at "w"
      refine ⟨rfl, ?_⟩
      walk_at "w"
      exact ⟨rfl, q'⟩
    · intro x D acc hx hD Q' q'
      have hx := rok x hx
      obtain ⟨pa, y⟩ := x
      walk_at "w"
      cases hx with
      | text h =>
        refine ⟨_, _, rfl, isTy_ss, ?_⟩
        exact ⟨fun h => absurd (show false = true from h) Bool.false_ne_true, fun _ => q'⟩
      | lab h =>
        refine ⟨_, _, rfl, isTy_ts, ?_⟩
        refine ⟨fun _ => ?_, fun h => absurd (show true = false from h) (by decide)⟩
        walk_at "w"
        rw [show decide (("#" : Str) = "@") = false by decide +kernel]
        exact q'
      | ref h =>
        refine ⟨_, _, rfl, isTy_ts, ?_⟩
        refine ⟨fun _ => ?_, fun h => absurd (show true = false from h) (by decide)⟩
        walk_at "w"
        rw [show decide (("@" : Str) = "@") = true by decide +kernel]
        exact q'
      | part h1 h2 h3 h4 h5 =>
        refine ⟨_, _, rfl, isTy_ts, ?_⟩
        refine ⟨fun _ => ?_, fun h => absurd (show true = false from h) (by decide)⟩
        walk_at "w"
        rw [name_not_at h1]
        exact q'
    · intro x D acc hx hp hD Q' q'
      walk_at "w"
      exact q'
    intro P3 hP3
    walk_at "w"
    generalize hS : put (put (put (put S G _) P1 _) P2 _) P3 _ = S4
    have gG : S4 G = some (.lst (R.map rowI)) := by rw [← hS]; exact (put_ne (ne_free (g2 _ _) hP3).symm).trans (g2 _ _)
    have p12 : P2 ≠ P1 := ne_free put_same hP2
    have gP1 : S4 P1 = some (.lst ((R.filter fun x => x.2.isPart).map rowI)) := by
      rw [← hS]
      have e2 := (put_ne (S := put (put S G (.lst (R.map rowI))) P1 (.lst ((R.filter fun x => x.2.isPart).map rowI))) (c := .lst ((R.filter fun x => x.2.isText).map fun x => x.2.w)) p12.symm).trans put_same
      exact (put_ne (ne_free e2 hP3).symm).trans e2
    have gP2 : S4 P2 = some (.lst ((R.filter fun x => x.2.isText).map fun x => x.2.w)) := by
      rw [← hS]
      exact (put_ne (ne_free put_same hP3).symm).trans put_same
    have gP3 : S4 P3 = some (.lst ((R.filter fun x => x.2.isRef).map fun x => x.2.w)) := by rw [← hS, put_same]
    have k4 : KpL [] S S4 := by
      rw [← hS]
      exact ((((KpL.refl [] S).new hG).new hP1).new hP2).new hP3
    clear hS g2 g1 hP3 hP2 hP1 hG
    have fin : ∀ (b : Bool) S5, KpL [] S S5 → b = bdI it → FgI Q (.bl b) S5 := fun b S5 k5 e => by
      refine fg_off (ps := []) k5 fun S6 f1 f2 => ?_
      rw [show S6 = S from funext fun x => f1 x (by simp), e]
      exact q
    refine ⟨_, gG, ?_⟩
    walk_at "w"
    have e1 : decide (((R.map rowI).length : Int) ≤ 60) = decide (it.cnt ≤ 60) := decide_eq_decide.mpr (by rw [List.length_map, hlen]; omega)
    have eB : bdI it = (decide (it.cnt ≤ 60) && decide (it.chars ≤ 400) && decide (it.dep ≤ 6) && decide (it.refs ≤ 3) && decide (it.wid ≤ 12)) := rfl
    have ft : ∀ {α : Type} (l : List α), l.filter (fun _ => true) = l := fun l => List.filter_eq_self.mpr (fun _ _ => rfl)
    refine ⟨fun h => ?_, fun h => fin false S4 k4 (by rw [eB, ← e1, show decide (((R.map rowI).length : Int) ≤ 60) = false from h]; simp)⟩
    rw [← e1, show decide (((R.map rowI).length : Int) ≤ 60) = true from h] at eB
    have lf : (R.filter fun x => x.2.isPart).length ≤ 100000 := Nat.le_trans (List.length_filter_le _ _) (by omega)
    have lt' : (R.filter fun x => x.2.isText).length ≤ 100000 := Nat.le_trans (List.length_filter_le _ _) (by omega)
    walk_at "w"
    refine ⟨_, gP1, ?_⟩
    refine lc_filD rowI _ (fun x => [some it.w, some (.ref G), some (.ref P1), some (natsT x.1), none, some (.ref P2), some (.ref P3), some x.2.w, none]) (fun _ => true) (fun x => .bl (decide (x.2.own ≤ 12))) lf (fun D acc hD => (put_ne (ne_free gP1 hD).symm).trans gP1) ?_ ?_ ?_ ?_
    · intro x S1 R1 hx q'
      walk_at "w"
      refine ⟨rfl, ?_⟩
      walk_at "w"
      exact ⟨rfl, q'⟩
    · intro x D acc hx hD Q' q'
      exact q'
    · intro x D acc hx hp hD Q' q'
      have hx := (List.mem_filter.mp hx).2
      obtain ⟨pa, y⟩ := x
      cases y with
      | part k ms is =>
        walk_at "w"
        rw [itmsW_len]
        refine Eq.mp (congrArg (fun b => Q' (.bl b) _) ?_) q'
        exact decide_eq_decide.mpr ⟨fun h => Int.ofNat_le.mpr h, fun h => Int.ofNat_le.mp h⟩
      | _ => exact absurd hx Bool.false_ne_true
    intro A1 hA1
    rw [ft]
    walk_at "w"
    refine ⟨_, ((R.filter fun x => x.2.isPart).map fun x => decide (x.2.own ≤ 12)), rfl, by rw [put_same, List.map_map]; rfl, ?_⟩
    have e5 : (((R.filter fun x => x.2.isPart).map fun x => decide (x.2.own ≤ 12)).all id) = decide (it.wid ≤ 12) := by rw [← d3, List.all_map]; rfl
    rw [e5]
    have k5 := k4.new (c := .lst ((R.filter fun x => x.2.isPart).map (fun x => W.bl (decide (x.2.own ≤ 12))))) hA1
    have n5 : ∀ a c, S4 a = some c → put S4 A1 (.lst ((R.filter fun x => x.2.isPart).map (fun x => W.bl (decide (x.2.own ≤ 12))))) a = some c := fun a c e => (put_ne (ne_free e hA1).symm).trans e
    refine ⟨fun h => ?_, fun h => fin false _ k5 (by rw [eB, show decide (it.wid ≤ 12) = false from h]; simp)⟩
    rw [show decide (it.wid ≤ 12) = true from h] at eB
    have gP1 := n5 _ _ gP1
    have gP2 := n5 _ _ gP2
    have gP3 := n5 _ _ gP3
    clear n5
    generalize put S4 A1 _ = S5 at k5 gP1 gP2 gP3
    walk_at "w"
    refine ⟨_, gP2, ?_⟩
    refine lc_filD (fun x : List Nat × Itm => x.2.w) _ (fun x => [some it.w, some (.ref G), some (.ref P1), none, none, some (.ref P2), some (.ref P3), none, some x.2.w]) (fun _ => true) (fun x => .int (x.2.tlen : Int)) lt' (fun D acc hD => (put_ne (ne_free gP2 hD).symm).trans gP2) ?_ ?_ ?_ ?_
    · intro x S1 R1 hx q'
      walk_at "w"
      exact q'
    · intro x D acc hx hD Q' q'
      exact q'
    · intro x D acc hx hp hD Q' q'
      have hxr := rok x (List.mem_filter.mp hx).1
      have hx := (List.mem_filter.mp hx).2
      obtain ⟨pa, y⟩ := x
      cases y with
      | text y =>
        walk_at "w"
        cases hxr with
        | text h =>
          have ly : y.length ≤ sizeLine := by rw [← tl_len]; exact Nat.le_trans h.2.1 (Nat.le_trans (by decide) sizeLine_ge)
          refine ⟨ly, ?_⟩
          rw [← tl_len]
          exact q'
      | _ => exact absurd hx Bool.false_ne_true
    intro A2 hA2
    rw [ft]
    walk_at "w"
    refine ⟨_, put_same, ((R.filter fun x => x.2.isText).map fun x => (x.2.tlen : Int)), by rw [List.map_map]; rfl, ?_⟩
    rw [sum_cast, d1]
    have e2 : decide ((it.chars : Int) ≤ 400) = decide (it.chars ≤ 400) := decide_eq_decide.mpr (by omega)
    have k6 := k5.new (c := .lst ((R.filter fun x => x.2.isText).map (fun x => W.int (x.2.tlen : Int)))) hA2
    have n6 : ∀ a c, S5 a = some c → put S5 A2 (.lst ((R.filter fun x => x.2.isText).map (fun x => W.int (x.2.tlen : Int)))) a = some c := fun a c e => (put_ne (ne_free e hA2).symm).trans e
    refine ⟨fun h => ?_, fun h => fin false _ k6 (by rw [eB, ← e2, show decide ((it.chars : Int) ≤ 400) = false from h]; simp)⟩
    rw [← e2, show decide ((it.chars : Int) ≤ 400) = true from h] at eB
    have gP1 := n6 _ _ gP1
    have gP3 := n6 _ _ gP3
    clear n6
    generalize put S5 A2 _ = S6 at k6 gP1 gP3
    walk_at "w"
    refine ⟨_, gP1, ?_⟩
    refine lc_filD rowI _ (fun x => [some it.w, some (.ref G), some (.ref P1), some (natsT x.1), none, some (.ref P2), some (.ref P3), some x.2.w, none]) (fun _ => true) (fun x => .bl (decide (x.1.length < 6))) lf (fun D acc hD => (put_ne (ne_free gP1 hD).symm).trans gP1) ?_ ?_ ?_ ?_
    · intro x S1 R1 hx q'
      walk_at "w"
      refine ⟨rfl, ?_⟩
      walk_at "w"
      exact ⟨rfl, q'⟩
    · intro x D acc hx hD Q' q'
      exact q'
    · intro x D acc hx hp hD Q' q'
      walk_at "w"
      rw [List.length_map]
      refine Eq.mp (congrArg (fun b => Q' (.bl b) _) ?_) q'
      exact decide_eq_decide.mpr ⟨fun h => Int.ofNat_lt.mpr h, fun h => Int.ofNat_lt.mp h⟩
    intro A3 hA3
    rw [ft]
    walk_at "w"
    refine ⟨_, ((R.filter fun x => x.2.isPart).map fun x => decide (x.1.length < 6)), rfl, by rw [put_same, List.map_map]; rfl, ?_⟩
    have e3 : (((R.filter fun x => x.2.isPart).map fun x => decide (x.1.length < 6)).all id) = decide (it.dep ≤ 6) := by
      rw [List.all_map]
      refine Eq.trans d4 (decide_eq_decide.mpr ?_)
      show it.dep = 0 ∨ 0 + it.dep ≤ 6 ↔ _
      omega
    rw [e3]
    have k7 := k6.new (c := .lst ((R.filter fun x => x.2.isPart).map (fun x => W.bl (decide (x.1.length < 6))))) hA3
    have n7 : ∀ a c, S6 a = some c → put S6 A3 (.lst ((R.filter fun x => x.2.isPart).map (fun x => W.bl (decide (x.1.length < 6))))) a = some c := fun a c e => (put_ne (ne_free e hA3).symm).trans e
    refine ⟨fun h => ?_, fun h => fin false _ k7 (by rw [eB, show decide (it.dep ≤ 6) = false from h]; simp)⟩
    rw [show decide (it.dep ≤ 6) = true from h] at eB
    have gP3 := n7 _ _ gP3
    clear n7
    generalize put S6 A3 _ = S7 at k7 gP3
    walk_at "w"
    refine ⟨_, gP3, ?_⟩
    walk_at "w"
    rw [List.length_map, d2]
    refine fin _ S7 k7 ?_
    rw [eB]
    have e4 : decide ((it.refs : Int) ≤ 3) = decide (it.refs ≤ 3) := decide_eq_decide.mpr (by omega)
    show decide ((it.refs : Int) ≤ 3) = _
    rw [e4]
    simp⟩
end
end K10
set_option Elab.async false
set_option linter.all false
set_option maxRecDepth 100000
set_option maxHeartbeats 4000000
set_option synthInstance.maxHeartbeats 4000000
set_option synthInstance.maxSize 100000
namespace K10
open PySem PySem.Spec PyProof.Rows L2 Wl
local macro_rules | `(tactic| walk_at "w") => `(tactic| (conv => whnf))
/-! what a store holds -/
local macro_rules | `(tactic| walk_at "ne") => `(tactic| first | assumption | (apply Ne.symm; assumption) | exact ne_free (by assumption) (by assumption) | exact (ne_free (by assumption) (by assumption)).symm | exact Pl.ne (by assumption) (by assumption) | exact (Pl.ne (by assumption) (by assumption)).symm)
local macro_rules | `(tactic| walk_at "s") => `(tactic| first
  | exact put_same
  | assumption
  | (refine (put_ne ?_).trans ?_; (· walk_at "ne"); (· walk_at "s")))
/-! a side condition -/
local macro_rules | `(tactic| walk_at "c") => `(tactic| first
  | exact Or.inl (Or.inl ⟨by omega, by omega⟩)
  | exact Or.inl (Or.inr ⟨by omega, by omega⟩)
  | exact Or.inl ⟨by omega, by omega⟩
  | exact Or.inl ⟨rfl, _, by walk_at "s"⟩
  | rfl
  | omega
  | decide
  | exact Nat.le_trans (by omega) sizeLine_ge)
/-! one question is answered, if the answer is plain -/
local macro_rules | `(tactic| walk_at "g1") => `(tactic| first
  | refine ⟨fun _ => ?_, fun h => absurd (show true = false from h) (by decide)⟩
  | refine ⟨fun h => absurd (show false = true from h) Bool.false_ne_true, fun _ => ?_⟩
  | refine ⟨_, by walk_at "s", ?_⟩
  | refine ⟨_, _, by walk_at "s", by walk_at "s", ?_⟩
  | refine ⟨_, by walk_at "s", by simpa using (by omega), ?_⟩
  | refine ⟨_, rfl, ?_⟩
  | refine ⟨_, _, rfl, (by first | exact isTy_tt | exact isTy_ii | exact isTy_ll | exact isTy_ss | exact isTy_ib | exact isTy_tb | exact isTy_ti | exact isTy_ts | exact isTy_tl | exact isTy_lb | exact isTy_li | exact isTy_ls | exact isTy_lt | exact isTy_sb | exact isTy_si | exact isTy_st | exact isTy_sl | exact isTy_is | exact isTy_it | exact isTy_il | exact isTy_bi | exact isTy_bs | exact isTy_bb | exact isTy_nb | exact isTy_ni | exact isTy_ns | exact isTy_nt | exact isTy_nl | exact isTy_bt | exact isTy_bl | exact isTy_nd | exact isTy_td | exact isTy_ld | exact isTy_sd | exact isTy_id | exact isTy_bd | exact isTy_dd | exact isTy_db | exact isTy_di | exact isTy_ds | exact isTy_dt | exact isTy_dl), ?_⟩
  | refine ⟨_, _, tyName_lst (by walk_at "s"), (by first | exact isTy_ll | exact isTy_lb | exact isTy_li | exact isTy_ls | exact isTy_lt), ?_⟩
  | refine if_q ?_
  | refine ⟨by walk_at "c", ?_⟩)
local macro_rules | `(tactic| walk_at "go") => `(tactic| (walk_at "w"; repeat (walk_at "g1"; walk_at "w")))
/-! a branch that cannot be -/
local macro_rules | `(tactic| walk_at "two") => `(tactic| refine ⟨fun h => ?_, fun h => ?_⟩)
section
variable {P : Program} {w : World} {K : PySem.W.Frag} {mg : Str → Option Value} {base : Heap} {ec : Cls}
structure Gs (p nl : Addr) (N M : Int) (S : Sto) : Prop where
  hp : Pl S p N
  hn : ∃ ys : List Str, S nl = some (.lst (ys.map W.str)) ∧ (∀ y ∈ ys, NameOk y) ∧ (ys.length : Int) ≤ M
theorem Gs.mono {p nl : Addr} {N M N' M' : Int} {S : Sto} (h : Gs p nl N M S) (a : N ≤ N') (b : M ≤ M') : Gs p nl N' M' S := by
  obtain ⟨ys, e1, e2, e3⟩ := h.hn
  exact ⟨h.hp.mono a, ys, e1, e2, by omega⟩
theorem Gs.ne {p nl : Addr} {N M : Int} {S : Sto} (h : Gs p nl N M S) : nl ≠ p := by
  obtain ⟨ys, e1, _⟩ := h.hn
  exact pool_names h.hp e1
theorem Gs.eq {p nl : Addr} {N M : Int} {S S' : Sto} (h : Gs p nl N M S) (a : S' p = S p) (b : S' nl = S nl) : Gs p nl N M S' := by
  obtain ⟨ys, e1, e2, e3⟩ := h.hn
  exact ⟨h.hp.eq a, ys, b.trans e1, e2, e3⟩
theorem Gs.fp {p nl d : Addr} {N M : Int} {S : Sto} (h : Gs p nl N M S) (hd : S d = none) : d ≠ p := h.hp.ne hd
theorem Gs.fn {p nl d : Addr} {N M : Int} {S : Sto} (h : Gs p nl N M S) (hd : S d = none) : d ≠ nl := by
  obtain ⟨ys, e1, _⟩ := h.hn
  exact ne_free e1 hd
theorem Gs.put {p nl d : Addr} {N M : Int} {S : Sto} {c : Cell} (h : Gs p nl N M S) (a : d ≠ p) (b : d ≠ nl) : Gs p nl N M (put S d c) := h.eq (put_ne a.symm) (put_ne b.symm)
theorem gs_take {p nl : Addr} {N M many : Int} {S : Sto} {Q : WK} (h : Gs p nl N M S) (hN : N < 2 ^ 30) (h0 : 0 < many) (h1 : many ≤ 1000) (q : ∀ r S', 0 ≤ r → r < many → Gs p nl (N + 1) M S' → OffL [p, nl] S S' → Q (.int r) S') : Hd spTk [.ref p, .int many] S Q := by
  refine tk_go h.hp (by omega) h0 (by omega) fun r S' r0 r1 p1 o1 => ?_
  obtain ⟨ys, e1, e2, e3⟩ := h.hn
  exact q r S' r0 r1 ⟨p1, ys, (o1 nl (notin1 h.ne)).trans e1, e2, e3⟩ (fun a ha => o1 a fun z => ha (by rw [List.mem_singleton] at z; rw [z]; exact List.mem_cons_self))
theorem gs_name {p nl : Addr} {N M : Int} {S : Sto} {Q : WK} (h : Gs p nl N M S) (hN : N < 2 ^ 30) (hM : M < 2 ^ 20) (q : ∀ x S', NameOk x → Gs p nl (N + 20) (M + 1) S' → OffL [p, nl] S S' → Q (.str x) S') : Hd spNm [.ref p, .ref nl] S Q := by
  obtain ⟨ys, e1, e2, e3⟩ := h.hn
  refine nm_go h.hp (by omega) e1 e2 (by omega) fun x S' hx p1 n1 o1 => ?_
  refine q x S' hx ⟨p1, ys ++ [x], n1, fun y hy => ?_, by rw [List.length_append]; show ((ys.length + 1 : Nat) : Int) ≤ _; omega⟩ o1
  rcases List.mem_append.mp hy with h' | h'
  · exact e2 y h'
  · rw [List.mem_singleton] at h'; rw [h']; exact hx
theorem gs_marks {p nl : Addr} {N M : Int} {S : Sto} {Q : WK} (h : Gs p nl N M S) (hN : N < 2 ^ 30) (hM : M < 2 ^ 20) (q : ∀ ms S', MarksOk ms → ms.length ≤ 3 → Gs p nl (N + 61) (M + 3) S' → OffL [p, nl] S S' → Q (.tup (ms.map W.str)) S') : Hd spMk [.ref p, .ref nl] S Q := by
  obtain ⟨ys, e1, e2, e3⟩ := h.hn
  refine mk_go h.hp (by omega) e1 e2 (by omega) fun ms zs S' hx l1 l2 hz p1 n1 o1 => ?_
  refine q ms S' hx l1 ⟨p1, ys ++ zs, n1, fun y hy => ?_, by rw [List.length_append]; omega⟩ o1
  rcases List.mem_append.mp hy with h' | h'
  · exact e2 y h'
  · exact hz y h'
theorem gs_prose {p nl : Addr} {N M many : Int} {S : Sto} {Q : WK} (h : Gs p nl N M S) (hN : N < 2 ^ 30) (h0 : 1 ≤ many) (h1 : many ≤ 60) (q : ∀ x S', TextOk x → Gs p nl (N + 60) M S' → OffL [p, nl] S S' → Q (.str x) S') : Hd spPr [.ref p, .int many] S Q := by
  refine pr_go h.hp (by omega) (by omega) (by omega) fun x S' lx hx p1 o1 => ?_
  obtain ⟨ys, e1, e2, e3⟩ := h.hn
  exact q x S' ⟨by omega, by omega, hx⟩ ⟨p1.mono (by omega), ys, (o1 nl (notin1 h.ne)).trans e1, e2, e3⟩ (fun a ha => o1 a fun z => ha (by rw [List.mem_singleton] at z; rw [z]; exact List.mem_cons_self))
theorem offT {ps : List Addr} {S T U : Sto} (h : OffL ps S T) (g : OffL ps T U) : OffL ps S U := fun a ha => (g a ha).trans (h a ha)
/-- a leaf -/
structure LfOk (it : Itm) : Prop where
  ok : ∀ m d, ItmOk m d it
  c1 : it.cnt = 1
def spLf : SpW := fun ws S Q => ∃ (p nl : Addr) (N M : Int), ws = [.ref p, .ref nl] ∧ Gs p nl N M S ∧ N < 2 ^ 29 ∧ M < 2 ^ 19 ∧ ∀ it S', LfOk it → Gs p nl (N + 100) (M + 1) S' → OffL [p, nl] S S' → Q it.w S'
theorem lf_go {p nl : Addr} {N M : Int} {S : Sto} {Q : WK} (h : Gs p nl N M S) (hN : N < 2 ^ 29) (hM : M < 2 ^ 19) (q : ∀ it S', LfOk it → Gs p nl (N + 100) (M + 1) S' → OffL [p, nl] S S' → Q it.w S') : Hd spLf [.ref p, .ref nl] S Q := Hd.mk ⟨p, nl, N, M, rfl, h, hN, hM, q⟩
theorem ok__law_leaf (T : Txt K mg ec) (c__law_take : CalW P w K mg base 1 "_law_take" (Hd spTk)) (c__law_name : CalW P w K mg base 3 "_law_name" (Hd spNm)) (c__law_prose : CalW P w K mg base 2 "_law_prose" (Hd spPr)) (d : DefAt K mg "_law_leaf" s__law_leaf ["_law_pool_here", "_law_names"]) : CalW P w K mg base 4 "_law_leaf" spLf :=
  have c__law_take := c__law_take.mono (k := 3) (by decide)
  have c__law_prose := c__law_prose.mono (k := 3) (by decide)
  calDI d sc__law_leaf (fun ws S Q ⟨p, nl, N, M, e, _⟩ => by rw [e]; rfl) fun f cdv A outer s H E hr => ⟨_, _,
    (pss_cons (ps_if (pt_cmpR (k_eq K hr.units) (k_w K c__law_take hr (by decide) rfl (pa_cons (pv 0) (pa_cons pe_int pa_nil))) pe_int (nomark _))
       (pss_one (ps_ret (pe_tup (pa_cons pe_str (pa_cons (k_w K c__law_name hr (by decide) rfl (pa_cons (pv 0) (pa_cons (pv 1) pa_nil))) pa_nil)))))
       pss_nil)
      (pss_one (ps_ret (k_w K c__law_prose hr (by decide) rfl (pa_cons (pv 0) (pa_cons pe_int pa_nil)))))), inferInstance, by
    rintro ws S Q ⟨p, nl, N, M, rfl, h, hN, hM, q⟩
    walk_at "w"
    refine gs_take h (by omega) (by decide) (by decide) fun r S1 r0 r1 h1 o1 => ?_
    walk_at "w"
    refine ⟨fun _ => ?_, fun _ => ?_⟩
    · walk_at "w"
      refine gs_name h1 (by omega) (by omega) fun x S2 hx h2 o2 => ?_
      exact fg_here (q (.lab x) S2 ⟨fun _ _ => .lab hx, rfl⟩ (h2.mono (by omega) (by omega)) (offT o1 o2))
    · walk_at "w"
      refine gs_prose h1 (by omega) (by decide) (by decide) fun x S2 hx h2 o2 => ?_
      exact fg_here (q (.text x) S2 ⟨fun _ _ => .text hx, rfl⟩ (h2.mono (by omega) (by omega)) (offT o1 o2))⟩
def spWr : SpW := fun ws S Q => ∃ (p nl : Addr) (N M : Int) (it : Itm) (m d many : Nat), ws = [.ref p, .ref nl, it.w, .int many] ∧ Gs p nl N M S ∧ N < 2 ^ 29 ∧ M < 2 ^ 19 ∧ many ≤ 10 ∧ 1 ≤ m ∧ ItmOk m d it ∧ ∀ it' S', ItmOk m (d + many) it' → it'.cnt = it.cnt + many → Gs p nl (N + 20 * many) (M + many) S' → OffL [p, nl] S S' → Q it'.w S'
theorem wr_go {p nl : Addr} {N M : Int} {it : Itm} {m d many : Nat} {S : Sto} {Q : WK} (h : Gs p nl N M S) (hN : N < 2 ^ 29) (hM : M < 2 ^ 19) (hm : many ≤ 10) (h1 : 1 ≤ m) (ok : ItmOk m d it) (q : ∀ it' S', ItmOk m (d + many) it' → it'.cnt = it.cnt + many → Gs p nl (N + 20 * many) (M + many) S' → OffL [p, nl] S S' → Q it'.w S') : Hd spWr [.ref p, .ref nl, it.w, .int many] S Q := Hd.mk ⟨p, nl, N, M, it, m, d, many, rfl, h, hN, hM, hm, h1, ok, q⟩
theorem marks_nil : MarksOk [] := ⟨(fun _ h => by cases h), List.Pairwise.nil⟩
theorem part_one {m d : Nat} {x : Str} {is : List Itm} (hx : NameOk x) (hl : is.length ≤ m) (h : ∀ i ∈ is, ItmOk m d i) : ItmOk m (d + 1) (.part x [] is) := .part hx marks_nil (Nat.zero_le _) hl h
theorem one_mem {P : Itm → Prop} {x : Itm} (h : P x) : ∀ i ∈ [x], P i := fun i hi => by rw [List.mem_singleton] at hi; rw [hi]; exact h
theorem part_cnt (k : Str) (ms : List Str) (is : List Itm) : (Itm.part k ms is).cnt = 1 + cnts is := by simp only [Itm.cnt]
theorem ok__law_wrapped (T : Txt K mg ec) (c__law_name : CalW P w K mg base 3 "_law_name" (Hd spNm)) (d : DefAt K mg "_law_wrapped" s__law_wrapped ["_law_pool_here", "_law_names", "_law_item_here", "_law_many"]) : CalW P w K mg base 4 "_law_wrapped" spWr :=
  calDI d sc__law_wrapped (fun ws S Q ⟨p, nl, N, M, it, m, d, many, e, _⟩ => by rw [e]; rfl) fun f cdv A outer s H E hr => ⟨_, _,
    (pss_cons (ps_for PassesOwn.never rfl (pi_range1 rfl T.b_range (pa_cons (pv 3) pa_nil)) (pg_name (i := 4) sc__law_wrapped.nd rfl (Or.inl rfl))
       (pss_one (ps_set (i := 2) sc__law_wrapped.nd rfl (Or.inl rfl) (pe_tup (pa_cons (k_w K c__law_name hr (by decide) rfl (pa_cons (pv 0) (pa_cons (pv 1) pa_nil))) (pa_cons (pe_tup pa_nil) (pa_cons (pe_tup (pa_cons (pv 2) pa_nil)) pa_nil)))))))
      (pss_one (ps_ret (pv 2)))), inferInstance, by
    rintro ws S Q ⟨p, nl, N, M, it, m, d, many, rfl, h, hN, hM, hm, hm1, ok, q⟩
    walk_at "w"
    refine ⟨by omega, by omega, ?_⟩
    refine for_q (fun i ρ' S' => i ≤ many ∧ ∃ (it' : Itm) (a4 : Option W), ρ' = [some (.ref p), some (.ref nl), some it'.w, some (.int many), a4] ∧ ItmOk m (d + i) it' ∧ it'.cnt = it.cnt + i ∧ Gs p nl (N + 20 * i) (M + i) S' ∧ OffL [p, nl] S S')
      ⟨Nat.zero_le _, it, _, rfl, ok, rfl, h.mono (by omega) (by omega), fun _ _ => rfl⟩ (fun _ _ _ _ => trivial) ?_ ?_
    · rintro i w ρ' S' e ⟨_, it', a4, rfl, ok', hc, h1, o1⟩
      obtain ⟨hi, rfl⟩ := intsW_at e
      have hi : i < many := by
        have hi : i < ((many : Nat) : Int).toNat := hi
        omega
      walk_at "w"
      refine gs_name h1 (by omega) (by omega) fun x S2 hx h2 o2 => ?_
      refine ⟨hi, .part x [] [it'], _, rfl, part_one hx hm1 (one_mem ok'), ?_, h2.mono (by omega) (by omega), offT o1 o2⟩
      rw [part_cnt, cnts_cons, cnts_nil, hc]
      omega
    · rintro ρ' S' ⟨_, it', a4, rfl, ok', hc, h1, o1⟩
      rw [intsW_len, show ((many : Nat) : Int).toNat = many by omega] at ok' hc h1
      walk_at "w"
      exact fg_here (q it' S' ok' hc h1 o1)⟩
end
end K10
set_option Elab.async false
set_option linter.all false
set_option maxRecDepth 100000
set_option maxHeartbeats 4000000
set_option synthInstance.maxHeartbeats 4000000
set_option synthInstance.maxSize 100000
namespace K10
open PySem PySem.Spec PyProof.Rows L2 Wl
local macro_rules | `(tactic| walk_at "w") => `(tactic| (conv => whnf))
/-! what a store holds -/
local macro_rules | `(tactic| walk_at "ne") => `(tactic| first | assumption | (apply Ne.symm; assumption) | exact ne_free (by assumption) (by assumption) | exact (ne_free (by assumption) (by assumption)).symm | exact Pl.ne (by assumption) (by assumption) | exact (Pl.ne (by assumption) (by assumption)).symm)
local macro_rules | `(tactic| walk_at "s") => `(tactic| first
  | exact put_same
  | assumption
  | (refine (put_ne ?_).trans ?_; (· walk_at "ne"); (· walk_at "s")))
/-! a side condition -/
local macro_rules | `(tactic| walk_at "c") => `(tactic| first
  | exact Or.inl (Or.inl ⟨by omega, by omega⟩)
  | exact Or.inl (Or.inr ⟨by omega, by omega⟩)
  | exact Or.inl ⟨by omega, by omega⟩
  | exact Or.inl ⟨rfl, _, by walk_at "s"⟩
  | rfl
  | omega
  | decide
  | exact Nat.le_trans (by omega) sizeLine_ge)
/-! one question is answered, if the answer is plain -/
local macro_rules | `(tactic| walk_at "g1") => `(tactic| first
  | refine ⟨fun _ => ?_, fun h => absurd (show true = false from h) (by decide)⟩
  | refine ⟨fun h => absurd (show false = true from h) Bool.false_ne_true, fun _ => ?_⟩
  | refine ⟨_, by walk_at "s", ?_⟩
  | refine ⟨_, _, by walk_at "s", by walk_at "s", ?_⟩
  | refine ⟨_, by walk_at "s", by simpa using (by omega), ?_⟩
  | refine ⟨_, rfl, ?_⟩
  | refine ⟨_, _, rfl, (by first | exact isTy_tt | exact isTy_ii | exact isTy_ll | exact isTy_ss | exact isTy_ib | exact isTy_tb | exact isTy_ti | exact isTy_ts | exact isTy_tl | exact isTy_lb | exact isTy_li | exact isTy_ls | exact isTy_lt | exact isTy_sb | exact isTy_si | exact isTy_st | exact isTy_sl | exact isTy_is | exact isTy_it | exact isTy_il | exact isTy_bi | exact isTy_bs | exact isTy_bb | exact isTy_nb | exact isTy_ni | exact isTy_ns | exact isTy_nt | exact isTy_nl | exact isTy_bt | exact isTy_bl | exact isTy_nd | exact isTy_td | exact isTy_ld | exact isTy_sd | exact isTy_id | exact isTy_bd | exact isTy_dd | exact isTy_db | exact isTy_di | exact isTy_ds | exact isTy_dt | exact isTy_dl), ?_⟩
  | refine ⟨_, _, tyName_lst (by walk_at "s"), (by first | exact isTy_ll | exact isTy_lb | exact isTy_li | exact isTy_ls | exact isTy_lt), ?_⟩
  | refine if_q ?_
  | refine ⟨by walk_at "c", ?_⟩)
local macro_rules | `(tactic| walk_at "go") => `(tactic| (walk_at "w"; repeat (walk_at "g1"; walk_at "w")))
/-! a branch that cannot be -/
local macro_rules | `(tactic| walk_at "two") => `(tactic| refine ⟨fun h => ?_, fun h => ?_⟩)
section
variable {P : Program} {w : World} {K : PySem.W.Frag} {mg : Str → Option Value} {base : Heap} {ec : Cls}
theorem cnts_leafs : ∀ its : List Itm, (∀ x ∈ its, LfOk x) → cnts its = its.length
  | [], _ => by rw [cnts_nil]; rfl
  | x :: its, h => by
    rw [cnts_cons, (h x List.mem_cons_self).c1, cnts_leafs its fun y hy => h y (List.mem_cons_of_mem _ hy), List.length_cons]
    omega
theorem lc_leaf {p nl : Addr} {N M : Int} {te : TEW} {vs : List Nat} {ρ : StW} {Q : WK} {ws : List W} {ok : Sto → Prop} {S1 : Sto} {j : Nat} (h : Gs p nl N M S1) (hN : N < 2 ^ 28) (hM : M < 2 ^ 18) (hl : ws.length ≤ 100) (hok : ∀ S', ok S')
    (he : ∀ (w : W) S' (Q' : WK), Hd spLf [.ref p, .ref nl] S' Q' → te ((wipeW ρ vs).set j (some w)) S' Q')
    (hd : ∀ (D : Addr) (its : List Itm) S', its.length = ws.length → (∀ x ∈ its, LfOk x) → Gs p nl (N + 100 * ws.length) (M + ws.length) S' → S' D = some (.lst (its.map Itm.w)) → S1 D = none → KpL [p, nl] S1 S' → Q (.ref D) S') : LcQ (wName j) wYes te vs ρ Q ws ok S1 := by
  refine lc_q fun D hD => ⟨fun i acc S' => ∃ its : List Itm, acc = its.map Itm.w ∧ its.length = i ∧ i ≤ ws.length ∧ (∀ x ∈ its, LfOk x) ∧ Gs p nl (N + 100 * (i : Int)) (M + (i : Int)) S' ∧ S' D = some (.lst acc) ∧ KpL [p, nl] S1 S',
    ⟨[], rfl, rfl, Nat.zero_le _, (fun _ h => by cases h), (h.put (h.fp hD) (h.fn hD)).mono (by omega) (by omega), put_same, (KpL.refl _ S1).own hD⟩, fun _ _ S' _ => hok S', ?_, ?_⟩
  · rintro i w acc S' e ⟨its, rfl, hi, _, hls, g1, hD', k⟩
    have hiw : i < ws.length := (List.getElem?_eq_some_iff.mp e).1
    refine ⟨fun _ => ?_, fun h => absurd h (by decide)⟩
    refine he w S' _ (lf_go g1 (by omega) (by omega) fun it S2 hit g2 o2 => ?_)
    have hDp : D ≠ p := h.fp hD
    have hDn : D ≠ nl := h.fn hD
    have hD2 : S2 D = some (.lst (its.map Itm.w)) := (o2 D (notin2 hDp hDn)).trans hD'
    refine ⟨hD2, by rw [List.length_map, hi]; exact Nat.lt_of_lt_of_le (show i < 1000 by omega) sizeLine_ge, its ++ [it], by rw [List.map_append]; rfl, by rw [List.length_append, hi]; rfl, hiw, ?_, (g2.put hDp hDn).mono (by omega) (by omega), put_same, (k.trans o2.kp).own hD⟩
    intro x hx
    rcases List.mem_append.mp hx with h' | h'
    · exact hls x h'
    · rw [List.mem_singleton] at h'; rw [h']; exact hit
  · rintro acc S' ⟨its, rfl, hi, _, hls, g1, hD', k⟩
    exact hd D its S' hi hls g1 hD' hD k
theorem cnt2_part {it : Itm} (h : 2 ≤ it.cnt) : it.isPart = true := by
  cases it with
  | part => rfl
  | _ => unfold Itm.cnt at h; omega
def spFu : SpW := fun ws S Q => ∃ (p nl : Addr) (N M sh : Int), ws = [.ref p, .ref nl, .int sh] ∧ Gs p nl N M S ∧ N < 2 ^ 20 ∧ M < 2 ^ 17 ∧ -1 ≤ sh ∧ sh ≤ 2 ∧ ∀ it S', ItmOk 40 20 it → it.cnt ≤ 251 → it.isPart = true → Q it.w S'
theorem fu_go {p nl : Addr} {N M sh : Int} {S : Sto} {Q : WK} (h : Gs p nl N M S) (hN : N < 2 ^ 20) (hM : M < 2 ^ 17) (h0 : -1 ≤ sh) (h1 : sh ≤ 2) (q : ∀ it S', ItmOk 40 20 it → it.cnt ≤ 251 → it.isPart = true → Q it.w S') : Hd spFu [.ref p, .ref nl, .int sh] S Q := Hd.mk ⟨p, nl, N, M, sh, rfl, h, hN, hM, h0, h1, q⟩
theorem ok__law_full_row (T : Txt K mg ec) (c__law_take : CalW P w K mg base 1 "_law_take" (Hd spTk)) (c__law_name : CalW P w K mg base 3 "_law_name" (Hd spNm)) (c__law_marks : CalW P w K mg base 4 "_law_marks" (Hd spMk)) (c__law_leaf : CalW P w K mg base 4 "_law_leaf" (Hd spLf)) (c__law_wrapped : CalW P w K mg base 4 "_law_wrapped" (Hd spWr)) (d : DefAt K mg "_law_full_row" s__law_full_row ["_law_pool_here", "_law_names", "_law_shift"]) : CalW P w K mg base 5 "_law_full_row" spFu :=
  have c__law_take := c__law_take.mono (k := 4) (by decide)
  have c__law_name := c__law_name.mono (k := 4) (by decide)
  calDI d sc__law_full_row (fun ws S Q ⟨p, nl, N, M, sh, e, _⟩ => by rw [e]; rfl) fun f cdv A outer s H E hr => ⟨_, _,
    (pss_cons (ps_set (i := 3) sc__law_full_row.nd rfl (Or.inl rfl) (pe_callTy (k_tuple K) (by rfl) T.b_tuple (by decide +kernel) (pa_cons (pe_lc (own := [("_law_k", 4)]) rfl sc__law_full_row.nd (pi_range1 rfl T.b_range (pa_cons (pe_op (k_addB K) pe_int (pv 2)) pa_nil)) (blkOk_by (own := [("_law_k", 4)]) (N := ["_law_pool_here", "_law_names", "_law_shift", "_law_row", "_law_k", "_law_part_here"]) (sc := defScope s__law_full_row) (by decide +kernel)) (fun _ _ _ _ _ => (pg_name (i := 4) sc__law_full_row.nd rfl (Or.inl rfl))) (fun _ _ _ _ _ => pts_nil) (fun _ _ _ _ _ => (k_w K c__law_leaf hr (by decide) rfl (pa_cons (pv 0) (pa_cons (pv 1) pa_nil))))) pa_nil)))
      (pss_cons (ps_set (i := 5) sc__law_full_row.nd rfl (Or.inl rfl) (pe_tup (pa_cons (k_w K c__law_name hr (by decide) rfl (pa_cons (pv 0) (pa_cons (pv 1) pa_nil))) (pa_cons (k_w K c__law_marks hr (by decide) rfl (pa_cons (pv 0) (pa_cons (pv 1) pa_nil))) (pa_cons (pv 3) pa_nil)))))
      (pss_one (ps_ret (k_w K c__law_wrapped hr (by decide) rfl (pa_cons (pv 0) (pa_cons (pv 1) (pa_cons (pv 5) (pa_cons (k_w K c__law_take hr (by decide) rfl (pa_cons (pv 0) (pa_cons pe_int pa_nil))) pa_nil))))))))), inferInstance, by
    rintro ws S Q ⟨p, nl, N, M, sh, rfl, h, hN, hM, s0, s1, q⟩
    walk_at "w"
    refine ⟨by omega, by omega, ?_⟩
    refine lc_leaf h (by omega) (by omega) (by rw [intsW_len]; omega) (fun _ => trivial) ?_ ?_
    · intro w S' Q' q'
      walk_at "w"
      exact q'
    intro D its S1 hl hls g1 hD hD0 k1
    rw [intsW_len] at hl g1
    walk_at "w"
    refine ⟨_, hD, ?_⟩
    walk_at "w"
    refine gs_name g1 (by omega) (by omega) fun x S2 hx g2 o2 => ?_
    walk_at "w"
    refine gs_marks g2 (by omega) (by omega) fun ms S3 hms lms g3 o3 => ?_
    walk_at "w"
    refine gs_take g3 (by omega) (by decide) (by decide) fun r S4 r0 r1 g4 o4 => ?_
    have hit : ItmOk 40 1 (.part x ms its) := .part hx hms lms (by omega) fun y hy => (hls y hy).ok _ _
    have hcn : (Itm.part x ms its).cnt = 1 + its.length := by rw [part_cnt, cnts_leafs its hls]
    obtain ⟨r, rfl⟩ : ∃ r' : Nat, r = (r' : Int) := ⟨r.toNat, by omega⟩
    rw [show W.tup [.str x, .tup (ms.map W.str), .tup (its.map Itm.w)] = (Itm.part x ms its).w by rw [← itmsW_map]; rfl]
    refine wr_go g4 (by omega) (by omega) (by omega) (by decide) hit fun it' S5 ok' hc g5 o5 => ?_
    exact fg_here (q it' S5 (ok'.up (by omega)) (by rw [hc, hcn]; omega) (cnt2_part (by rw [hc, hcn]; omega)))⟩
theorem ok__law_full_count (T : Txt K mg ec) (c__law_take : CalW P w K mg base 1 "_law_take" (Hd spTk)) (c__law_name : CalW P w K mg base 3 "_law_name" (Hd spNm)) (c__law_leaf : CalW P w K mg base 4 "_law_leaf" (Hd spLf)) (d : DefAt K mg "_law_full_count" s__law_full_count ["_law_pool_here", "_law_names", "_law_shift"]) : CalW P w K mg base 5 "_law_full_count" spFu :=
  have c__law_take := c__law_take.mono (k := 4) (by decide)
  have c__law_name := c__law_name.mono (k := 4) (by decide)
  calDI d sc__law_full_count (fun ws S Q ⟨p, nl, N, M, sh, e, _⟩ => by rw [e]; rfl) fun f cdv A outer s H E hr => ⟨_, _,
    (pss_cons (ps_set (i := 3) sc__law_full_count.nd rfl (Or.inl rfl) (k_w K c__law_take hr (by decide) rfl (pa_cons (pv 0) (pa_cons pe_int pa_nil))))
      (pss_cons (ps_set (i := 4) sc__law_full_count.nd rfl (Or.inl rfl) (pe_lst pa_nil))
      (pss_cons (ps_for PassesOwn.never rfl (pi_range1 rfl T.b_range (pa_cons pe_int pa_nil)) (pg_name (i := 5) sc__law_full_count.nd rfl (Or.inl rfl))
       (pss_cons (ps_set (i := 6) sc__law_full_count.nd rfl (Or.inl rfl) (pe_op op_sub pe_int (pe_op op_mulA (pe_op op_sub pe_int (pv 2)) (pe_callTy call_int1 (by rfl) T.b_int (by decide +kernel) (pa_cons (pe_cmpR (k_eq K hr.units) (pv 5) (pv 3) (nomark _)) pa_nil)))))
       (pss_cons (ps_set (i := 7) sc__law_full_count.nd rfl (Or.inl rfl) (pe_callTy (k_tuple K) (by rfl) T.b_tuple (by decide +kernel) (pa_cons (pe_lc (own := [("_law_j", 8)]) rfl sc__law_full_count.nd (pi_range1 rfl T.b_range (pa_cons (pv 6) pa_nil)) (blkOk_by (own := [("_law_j", 8)]) (N := ["_law_pool_here", "_law_names", "_law_shift", "_law_odd", "_law_rows", "_law_k", "_law_many", "_law_row", "_law_j"]) (sc := defScope s__law_full_count) (by decide +kernel)) (fun _ _ _ _ _ => (pg_name (i := 8) sc__law_full_count.nd rfl (Or.inl rfl))) (fun _ _ _ _ _ => pts_nil) (fun _ _ _ _ _ => (k_w K c__law_leaf hr (by decide) rfl (pa_cons (pv 0) (pa_cons (pv 1) pa_nil))))) pa_nil)))
       (pss_one (ps_expr (k_bm K PySem.F.plainAttrs_list PySem.F.slot_list_append PySem.F.type_list_append mt_append (pv 4) (pa_cons (pe_tup (pa_cons (k_w K c__law_name hr (by decide) rfl (pa_cons (pv 0) (pa_cons (pv 1) pa_nil))) (pa_cons (pe_tup pa_nil) (pa_cons (pv 7) pa_nil)))) pa_nil)))))))
      (pss_one (ps_ret (pe_tup (pa_cons (k_w K c__law_name hr (by decide) rfl (pa_cons (pv 0) (pa_cons (pv 1) pa_nil))) (pa_cons (pe_tup pa_nil) (pa_cons (pe_callTy (k_tuple K) (by rfl) T.b_tuple (by decide +kernel) (pa_cons (pv 4) pa_nil)) pa_nil))))))))), inferInstance, by
    rintro ws S Q ⟨p, nl, N, M, sh, rfl, h, hN, hM, s0, s1, q⟩
    walk_at "w"
    refine gs_take h (by omega) (by decide) (by decide) fun od S1 od0 od1 g1 o1 => ?_
    walk_at "w"
    intro L hL
    have g2 := g1.put (c := .lst []) (g1.fp hL) (g1.fn hL)
    have hLp := g1.fp hL
    have hLn := g1.fn hL
    walk_at "w"
    refine ⟨by omega, by omega, ?_⟩
    refine for_q (fun i ρ' S' => i ≤ 5 ∧ ∃ (its : List Itm) (a5 a6 a7 a8 : Option W), ρ' = [some (.ref p), some (.ref nl), some (.int sh), some (.int od), some (.ref L), a5, a6, a7, a8] ∧ its.length = i ∧ (∀ x ∈ its, ItmOk 40 1 x) ∧ cnts its ≤ 16 * i ∧ S' L = some (.lst (its.map Itm.w)) ∧ Gs p nl (N + 1 + 2000 * i) (M + 20 * i) S')
      ⟨Nat.zero_le _, [], _, _, _, _, rfl, rfl, (fun _ h => by cases h), by rw [cnts_nil]; omega, put_same, g2.mono (by omega) (by omega)⟩ (fun _ _ _ _ => trivial) ?_ ?_
    · rintro i w ρ' S' e ⟨_, its, a5, a6, a7, a8, rfl, hi, hits, hcn, hL1, g3⟩
      obtain ⟨hi', rfl⟩ := intsW_at e
      have hi' : i < 5 := hi'
      walk_at "w"
      generalize hb : (if decide ((0 : Int) + (i : Int) = od) = true then (1 : Int) else 0) = b
      have b01 : b = 0 ∨ b = 1 := by rw [← hb]; split <;> simp
      refine ⟨.inl (.inl ⟨by omega, by omega⟩), ?_⟩
      walk_at "w"
      have mb : 1 ≤ 12 - (6 - sh) * b ∧ 12 - (6 - sh) * b ≤ 14 := by
        rcases b01 with rfl | rfl <;> omega
      generalize 12 - (6 - sh) * b = mn at mb
      refine ⟨by omega, by omega, ?_⟩
      refine lc_leaf g3 (by omega) (by omega) (by rw [intsW_len]; omega) (fun _ => trivial) ?_ ?_
      · intro w S' Q' q'
        walk_at "w"
        exact q'
      intro D lf S2 hl hls g4 hD hD0 k4
      rw [intsW_len] at hl g4
      have hDL : D ≠ L := ne_free hL1 hD0
      have hL2 := k4 L _ (notin2 hLp hLn) hL1
      walk_at "w"
      refine ⟨_, hD, ?_⟩
      walk_at "w"
      refine ⟨.inl ⟨rfl, _, hL2⟩, ?_⟩
      refine gs_name g4 (by omega) (by omega) fun x S3 hx g5 o5 => ?_
      walk_at "w"
      have hL3 := (o5 L (notin2 hLp hLn)).trans hL2
      refine ⟨_, hL3, ?_, hi', its ++ [.part x [] lf], _, _, _, _, rfl, by rw [List.length_append, hi]; rfl, ?_, ?_, ?_, (g5.put hLp hLn).mono (by omega) (by omega)⟩
      · rw [List.length_map, hi]; exact Nat.lt_of_lt_of_le (show i < 1000 by omega) sizeLine_ge
      · intro y hy
        rcases List.mem_append.mp hy with h' | h'
        · exact hits y h'
        · rw [List.mem_singleton] at h'; rw [h']; exact part_one hx (by omega) fun z hz => (hls z hz).ok _ _
      · rw [cnts_app, cnts_cons, cnts_nil, part_cnt, cnts_leafs lf hls]; omega
      · rw [put_same, List.map_append]
        show some (Cell.lst (its.map Itm.w ++ [.tup [.str x, .tup [], .tup (lf.map Itm.w)]])) = some (Cell.lst (its.map Itm.w ++ [.tup [.str x, .tup [], .tup (itmsW lf)]]))
        rw [itmsW_map]
    · rintro ρ' S' ⟨_, its, a5, a6, a7, a8, rfl, hi, hits, hcn, hL1, g3⟩
      rw [intsW_len] at hi hcn g3
      walk_at "w"
      refine gs_name g3 (by omega) (by omega) fun x S3 hx g5 o5 => ?_
      walk_at "w"
      refine ⟨_, (o5 L (notin2 hLp hLn)).trans hL1, ?_⟩
      rw [← itmsW_map]
      exact fg_here (q (Itm.part x [] its) S3 ((part_one hx (by rw [hi]; decide) hits).up (by decide)) (by rw [part_cnt]; have : (5 : Int).toNat = 5 := rfl; omega) rfl)⟩
theorem ok__law_full_prose (T : Txt K mg ec) (c__law_take : CalW P w K mg base 1 "_law_take" (Hd spTk)) (c__law_name : CalW P w K mg base 3 "_law_name" (Hd spNm)) (c__law_prose : CalW P w K mg base 2 "_law_prose" (Hd spPr)) (c__law_wrapped : CalW P w K mg base 4 "_law_wrapped" (Hd spWr)) (d : DefAt K mg "_law_full_prose" s__law_full_prose ["_law_pool_here", "_law_names", "_law_shift"]) : CalW P w K mg base 5 "_law_full_prose" spFu :=
  have c__law_take := c__law_take.mono (k := 4) (by decide)
  have c__law_name := c__law_name.mono (k := 4) (by decide)
  have c__law_prose := c__law_prose.mono (k := 4) (by decide)
  calDI d sc__law_full_prose (fun ws S Q ⟨p, nl, N, M, sh, e, _⟩ => by rw [e]; rfl) fun f cdv A outer s H E hr => ⟨_, _,
    (pss_cons (ps_set (i := 3) sc__law_full_prose.nd rfl (Or.inl rfl) (k_w K c__law_take hr (by decide) rfl (pa_cons (pv 0) (pa_cons pe_int pa_nil))))
      (pss_cons (ps_set (i := 4) sc__law_full_prose.nd rfl (Or.inl rfl) (pe_lst pa_nil))
      (pss_cons (ps_for PassesOwn.never rfl (pi_range1 rfl T.b_range (pa_cons pe_int pa_nil)) (pg_name (i := 5) sc__law_full_prose.nd rfl (Or.inl rfl))
       (pss_cons (ps_set (i := 6) sc__law_full_prose.nd rfl (Or.inl rfl) (k_w K c__law_prose hr (by decide) rfl (pa_cons (pv 0) (pa_cons (pe_op op_sub pe_int (pe_op op_mulA (pe_op op_sub pe_int (pv 2)) (pe_callTy call_int1 (by rfl) T.b_int (by decide +kernel) (pa_cons (pe_cmpR (k_eq K hr.units) (pv 5) (pv 3) (nomark _)) pa_nil)))) pa_nil))))
       (pss_one (ps_expr (k_bm K PySem.F.plainAttrs_list PySem.F.slot_list_append PySem.F.type_list_append mt_append (pv 4) (pa_cons (k_w K c__law_wrapped hr (by decide) rfl (pa_cons (pv 0) (pa_cons (pv 1) (pa_cons (pv 6) (pa_cons (k_w K c__law_take hr (by decide) rfl (pa_cons (pv 0) (pa_cons pe_int pa_nil))) pa_nil))))) pa_nil))))))
      (pss_one (ps_ret (pe_tup (pa_cons (k_w K c__law_name hr (by decide) rfl (pa_cons (pv 0) (pa_cons (pv 1) pa_nil))) (pa_cons (pe_tup pa_nil) (pa_cons (pe_callTy (k_tuple K) (by rfl) T.b_tuple (by decide +kernel) (pa_cons (pv 4) pa_nil)) pa_nil))))))))), inferInstance, by
    rintro ws S Q ⟨p, nl, N, M, sh, rfl, h, hN, hM, s0, s1, q⟩
    walk_at "w"
    refine gs_take h (by omega) (by decide) (by decide) fun od S1 od0 od1 g1 o1 => ?_
    walk_at "w"
    intro L hL
    have g2 := g1.put (c := .lst []) (g1.fp hL) (g1.fn hL)
    have hLp := g1.fp hL
    have hLn := g1.fn hL
    walk_at "w"
    refine ⟨by omega, by omega, ?_⟩
    refine for_q (fun i ρ' S' => i ≤ 7 ∧ ∃ (its : List Itm) (a5 a6 : Option W), ρ' = [some (.ref p), some (.ref nl), some (.int sh), some (.int od), some (.ref L), a5, a6] ∧ its.length = i ∧ (∀ x ∈ its, ItmOk 40 3 x) ∧ cnts its ≤ 3 * i ∧ S' L = some (.lst (its.map Itm.w)) ∧ Gs p nl (N + 1 + 2000 * i) (M + 20 * i) S')
      ⟨Nat.zero_le _, [], _, _, rfl, rfl, (fun _ h => by cases h), by rw [cnts_nil]; omega, put_same, g2.mono (by omega) (by omega)⟩ (fun _ _ _ _ => trivial) ?_ ?_
    · rintro i w ρ' S' e ⟨_, its, a5, a6, rfl, hi, hits, hcn, hL1, g3⟩
      obtain ⟨hi', rfl⟩ := intsW_at e
      have hi' : i < 7 := hi'
      walk_at "w"
      generalize hb : (if decide ((0 : Int) + (i : Int) = od) = true then (1 : Int) else 0) = b
      have b01 : b = 0 ∨ b = 1 := by rw [← hb]; split <;> simp
      refine ⟨.inl (.inl ⟨by omega, by omega⟩), ?_⟩
      walk_at "w"
      have mb : 1 ≤ 60 - (20 - sh) * b ∧ 60 - (20 - sh) * b ≤ 60 := by
        rcases b01 with rfl | rfl <;> omega
      generalize 60 - (20 - sh) * b = mn at mb
      refine gs_prose g3 (by omega) (by omega) (by omega) fun t S2 ht g4 o4 => ?_
      have hL2 := (o4 L (notin2 hLp hLn)).trans hL1
      walk_at "w"
      refine ⟨.inl ⟨rfl, _, hL2⟩, ?_⟩
      refine gs_take g4 (by omega) (by decide) (by decide) fun r S3 r0 r1 g5 o5 => ?_
      obtain ⟨r, rfl⟩ : ∃ r' : Nat, r = (r' : Int) := ⟨r.toNat, by omega⟩
      refine wr_go (it := .text t) (m := 40) (d := 0) g5 (by omega) (by omega) (by omega) (by decide) (.text ht) fun it' S4 ok' hc g6 o6 => ?_
      walk_at "w"
      have hL4 := (o6 L (notin2 hLp hLn)).trans ((o5 L (notin2 hLp hLn)).trans hL2)
      have hc : it'.cnt = 1 + r := hc
      refine ⟨_, hL4, ?_, hi', its ++ [it'], _, _, rfl, by rw [List.length_append, hi]; rfl, ?_, ?_, ?_, (g6.put hLp hLn).mono (by omega) (by omega)⟩
      · rw [List.length_map, hi]; exact Nat.lt_of_lt_of_le (show i < 1000 by omega) sizeLine_ge
      · intro y hy
        rcases List.mem_append.mp hy with h' | h'
        · exact hits y h'
        · rw [List.mem_singleton] at h'; rw [h']; exact ok'.up (by omega)
      · rw [cnts_app, cnts_cons, cnts_nil]; omega
      · rw [put_same, List.map_append]
        rfl
    · rintro ρ' S' ⟨_, its, a5, a6, rfl, hi, hits, hcn, hL1, g3⟩
      rw [intsW_len] at hi hcn g3
      walk_at "w"
      refine gs_name g3 (by omega) (by omega) fun x S3 hx g5 o5 => ?_
      walk_at "w"
      refine ⟨_, (o5 L (notin2 hLp hLn)).trans hL1, ?_⟩
      rw [← itmsW_map]
      exact fg_here (q (Itm.part x [] its) S3 ((part_one hx (by rw [hi]; decide) hits).up (by decide)) (by rw [part_cnt]; have : (7 : Int).toNat = 7 := rfl; omega) rfl)⟩
theorem ok__law_full_refs (T : Txt K mg ec) (c__law_take : CalW P w K mg base 1 "_law_take" (Hd spTk)) (c__law_name : CalW P w K mg base 3 "_law_name" (Hd spNm)) (c__law_leaf : CalW P w K mg base 4 "_law_leaf" (Hd spLf)) (c__law_wrapped : CalW P w K mg base 4 "_law_wrapped" (Hd spWr)) (d : DefAt K mg "_law_full_refs" s__law_full_refs ["_law_pool_here", "_law_names", "_law_shift"]) : CalW P w K mg base 5 "_law_full_refs" spFu :=
  have c__law_take := c__law_take.mono (k := 4) (by decide)
  have c__law_name := c__law_name.mono (k := 4) (by decide)
  calDI d sc__law_full_refs (fun ws S Q ⟨p, nl, N, M, sh, e, _⟩ => by rw [e]; rfl) fun f cdv A outer s H E hr => ⟨_, _,
    (pss_cons (ps_set (i := 3) sc__law_full_refs.nd rfl (Or.inl rfl) (pe_lst pa_nil))
      (pss_cons (ps_for PassesOwn.never rfl (pi_range1 rfl T.b_range (pa_cons (pe_op (k_addB K) pe_int (pv 2)) pa_nil)) (pg_name (i := 4) sc__law_full_refs.nd rfl (Or.inl rfl))
       (pss_cons (ps_set (i := 5) sc__law_full_refs.nd rfl (Or.inl rfl) (k_w K c__law_name hr (by decide) rfl (pa_cons (pv 0) (pa_cons (pv 1) pa_nil))))
       (pss_cons (ps_expr (k_bm K PySem.F.plainAttrs_list PySem.F.slot_list_append PySem.F.type_list_append mt_append (pv 3) (pa_cons (k_w K c__law_wrapped hr (by decide) rfl (pa_cons (pv 0) (pa_cons (pv 1) (pa_cons (pe_tup (pa_cons pe_str (pa_cons (pv 5) pa_nil))) (pa_cons (k_w K c__law_take hr (by decide) rfl (pa_cons (pv 0) (pa_cons pe_int pa_nil))) pa_nil))))) pa_nil)))
       (pss_one (ps_expr (k_bm K PySem.F.plainAttrs_list PySem.F.slot_list_append PySem.F.type_list_append mt_append (pv 3) (pa_cons (k_w K c__law_leaf hr (by decide) rfl (pa_cons (pv 0) (pa_cons (pv 1) pa_nil))) pa_nil)))))))
      (pss_one (ps_ret (pe_tup (pa_cons (k_w K c__law_name hr (by decide) rfl (pa_cons (pv 0) (pa_cons (pv 1) pa_nil))) (pa_cons (pe_tup pa_nil) (pa_cons (pe_callTy (k_tuple K) (by rfl) T.b_tuple (by decide +kernel) (pa_cons (pv 3) pa_nil)) pa_nil)))))))), inferInstance, by
    rintro ws S Q ⟨p, nl, N, M, sh, rfl, h, hN, hM, s0, s1, q⟩
    walk_at "w"
    intro L hL
    have g2 := h.put (c := .lst []) (h.fp hL) (h.fn hL)
    have hLp := h.fp hL
    have hLn := h.fn hL
    walk_at "w"
    refine ⟨by omega, by omega, ?_⟩
    refine for_q (fun i ρ' S' => i ≤ 5 ∧ ∃ (its : List Itm) (a4 a5 : Option W), ρ' = [some (.ref p), some (.ref nl), some (.int sh), some (.ref L), a4, a5] ∧ its.length = 2 * i ∧ (∀ x ∈ its, ItmOk 40 3 x) ∧ cnts its ≤ 5 * i ∧ S' L = some (.lst (its.map Itm.w)) ∧ Gs p nl (N + 1 + 2000 * i) (M + 20 * i) S')
      ⟨Nat.zero_le _, [], _, _, rfl, rfl, (fun _ h => by cases h), by rw [cnts_nil]; omega, put_same, g2.mono (by omega) (by omega)⟩ (fun _ _ _ _ => trivial) ?_ ?_
    · rintro i w ρ' S' e ⟨_, its, a4, a5, rfl, hi, hits, hcn, hL1, g3⟩
      obtain ⟨hi', rfl⟩ := intsW_at e
      have hi' : i < 5 := by omega
      walk_at "w"
      refine gs_name g3 (by omega) (by omega) fun x S2 hx g4 o4 => ?_
      have hL2 := (o4 L (notin2 hLp hLn)).trans hL1
      walk_at "w"
      refine ⟨.inl ⟨rfl, _, hL2⟩, ?_⟩
      refine gs_take g4 (by omega) (by decide) (by decide) fun r S3 r0 r1 g5 o5 => ?_
      obtain ⟨r, rfl⟩ : ∃ r' : Nat, r = (r' : Int) := ⟨r.toNat, by omega⟩
      refine wr_go (it := .ref x) (m := 40) (d := 0) g5 (by omega) (by omega) (by omega) (by decide) (.ref hx) fun it' S4 ok' hc g6 o6 => ?_
      have hL4 := (o6 L (notin2 hLp hLn)).trans ((o5 L (notin2 hLp hLn)).trans hL2)
      have hc : it'.cnt = 1 + r := hc
      refine ⟨_, hL4, by rw [List.length_map, hi]; exact Nat.lt_of_lt_of_le (show 2 * i < 1000 by omega) sizeLine_ge, ?_⟩
      have g7 := g6.put (c := .lst (its.map Itm.w ++ [it'.w])) hLp hLn
      walk_at "w"
      refine ⟨.inl ⟨rfl, _, put_same⟩, ?_⟩
      refine lf_go g7 (by omega) (by omega) fun lf S5 hlf g8 o8 => ?_
      refine ⟨_, (o8 L (notin2 hLp hLn)).trans put_same, ?_, hi', its ++ [it', lf], _, _, rfl, by rw [List.length_append, hi]; rfl, ?_, ?_, ?_, (g8.put hLp hLn).mono (by omega) (by omega)⟩
      · rw [List.length_append, List.length_map, hi]; exact Nat.lt_of_lt_of_le (show 2 * i + 1 < 1000 by omega) sizeLine_ge
      · intro y hy
        rcases List.mem_append.mp hy with h' | h'
        · exact hits y h'
        · rcases List.mem_cons.mp h' with h' | h'
          · rw [h']; exact ok'.up (by omega)
          · rw [List.mem_singleton] at h'; rw [h']; exact hlf.ok _ _
      · rw [cnts_app, cnts_cons, cnts_cons, cnts_nil, hlf.c1]; omega
      · rw [put_same, List.map_append, List.append_assoc]
        rfl
    · rintro ρ' S' ⟨h5, its, a4, a5, rfl, hi, hits, hcn, hL1, g3⟩
      generalize (intsW 0 (3 + sh).toNat).length = k at h5 hi hcn g3
      walk_at "w"
      refine gs_name g3 (by omega) (by omega) fun x S3 hx g5 o5 => ?_
      walk_at "w"
      refine ⟨_, (o5 L (notin2 hLp hLn)).trans hL1, ?_⟩
      rw [← itmsW_map]
      exact fg_here (q (Itm.part x [] its) S3 ((part_one hx (by omega) hits).up (by decide)) (by rw [part_cnt]; omega) rfl)⟩
theorem ok__law_full_depth (T : Txt K mg ec) (c__law_take : CalW P w K mg base 1 "_law_take" (Hd spTk)) (c__law_name : CalW P w K mg base 3 "_law_name" (Hd spNm)) (c__law_marks : CalW P w K mg base 4 "_law_marks" (Hd spMk)) (c__law_leaf : CalW P w K mg base 4 "_law_leaf" (Hd spLf)) (d : DefAt K mg "_law_full_depth" s__law_full_depth ["_law_pool_here", "_law_names", "_law_shift"]) : CalW P w K mg base 5 "_law_full_depth" spFu :=
  have c__law_take := c__law_take.mono (k := 4) (by decide)
  have c__law_name := c__law_name.mono (k := 4) (by decide)
  calDI d sc__law_full_depth (fun ws S Q ⟨p, nl, N, M, sh, e, _⟩ => by rw [e]; rfl) fun f cdv A outer s H E hr => ⟨_, _,
    (pss_cons (ps_set (i := 3) sc__law_full_depth.nd rfl (Or.inl rfl) (pe_tup (pa_cons (k_w K c__law_name hr (by decide) rfl (pa_cons (pv 0) (pa_cons (pv 1) pa_nil))) (pa_cons (k_w K c__law_marks hr (by decide) rfl (pa_cons (pv 0) (pa_cons (pv 1) pa_nil))) (pa_cons (pe_tup pa_nil) pa_nil)))))
      (pss_mid (ps_if (pt_cmpR (k_eq K hr.units) (k_w K c__law_take hr (by decide) rfl (pa_cons (pv 0) (pa_cons pe_int pa_nil))) pe_int (nomark _))
       (pss_one (ps_set (i := 3) sc__law_full_depth.nd rfl (Or.inl rfl) (pe_tup (pa_cons (pe_ix (k_ix K) (pv 3) pe_int (fun _ _ => rfl)) (pa_cons (pe_ix (k_ix K) (pv 3) pe_int (fun _ _ => rfl)) (pa_cons (pe_tup (pa_cons (k_w K c__law_leaf hr (by decide) rfl (pa_cons (pv 0) (pa_cons (pv 1) pa_nil))) pa_nil)) pa_nil))))))
       pss_nil)
      (pss_cons (ps_for PassesOwn.never rfl (pi_range1 rfl T.b_range (pa_cons (pe_op (k_addB K) pe_int (pv 2)) pa_nil)) (pg_name (i := 4) sc__law_full_depth.nd rfl (Or.inl rfl))
       (pss_cons (ps_set (i := 5) sc__law_full_depth.nd rfl (Or.inl rfl) (pe_tup (pa_cons (pv 3) pa_nil)))
       (pss_mid (ps_if (pt_cmpR (k_eq K hr.units) (k_w K c__law_take hr (by decide) rfl (pa_cons (pv 0) (pa_cons pe_int pa_nil))) pe_int (nomark _))
        (pss_one (ps_set (i := 5) sc__law_full_depth.nd rfl (Or.inl rfl) (pe_tup (pa_cons (k_w K c__law_leaf hr (by decide) rfl (pa_cons (pv 0) (pa_cons (pv 1) pa_nil))) (pa_cons (pv 3) pa_nil)))))
        pss_nil)
       (pss_one (ps_set (i := 3) sc__law_full_depth.nd rfl (Or.inl rfl) (pe_tup (pa_cons (k_w K c__law_name hr (by decide) rfl (pa_cons (pv 0) (pa_cons (pv 1) pa_nil))) (pa_cons (pe_tup pa_nil) (pa_cons (pv 5) pa_nil)))))))))
      (pss_one (ps_ret (pv 3)))))), inferInstance, by
    rintro ws S Q ⟨p, nl, N, M, sh, rfl, h, hN, hM, s0, s1, q⟩
    walk_at "w"
    refine gs_name h (by omega) (by omega) fun x S1 hx g1 o1 => ?_
    walk_at "w"
    refine gs_marks g1 (by omega) (by omega) fun ms S2 hms lms g2 o2 => ?_
    walk_at "w"
    refine mid_q (fun ρ' S' => ∃ (it : Itm) (a4 a5 : Option W), ρ' = [some (.ref p), some (.ref nl), some (.int sh), some it.w, a4, a5] ∧ ItmOk 40 1 it ∧ it.cnt ≤ 2 ∧ it.isPart = true ∧ Gs p nl (N + 300) (M + 6) S') ?_ ?_
    · refine gs_take g2 (by omega) (by decide) (by decide) fun r S3 r0 r1 g3 o3 => ?_
      walk_at "w"
      refine ⟨fun _ => ?_, fun _ => ?_⟩
      · walk_at "w"
        refine lf_go g3 (by omega) (by omega) fun lf S4 hlf g4 o4 => ?_
        refine ⟨.part x ms [lf], _, _, rfl, .part hx hms lms (show 1 ≤ 40 by decide) (one_mem (hlf.ok _ _)), ?_, rfl, g4.mono (by omega) (by omega)⟩
        rw [part_cnt, cnts_cons, cnts_nil, hlf.c1]
        omega
      · refine ⟨.part x ms [], _, _, rfl, .part hx hms lms (by decide) (fun _ h => by cases h), ?_, rfl, g3.mono (by omega) (by omega)⟩
        rw [part_cnt, cnts_nil]
        omega
    · rintro ρ' S3 ⟨it, a4, a5, rfl, ok, hc, ip, g3⟩
      walk_at "w"
      refine ⟨by omega, by omega, ?_⟩
      refine for_q (fun i ρ' S' => i ≤ 7 ∧ ∃ (it : Itm) (a4 a5 : Option W), ρ' = [some (.ref p), some (.ref nl), some (.int sh), some it.w, a4, a5] ∧ ItmOk 40 (1 + i) it ∧ it.cnt ≤ 2 + 2 * i ∧ it.isPart = true ∧ Gs p nl (N + 300 + 200 * i) (M + 6 + 4 * i) S')
        ⟨Nat.zero_le _, it, _, _, rfl, ok, hc, ip, g3.mono (by omega) (by omega)⟩ (fun _ _ _ _ => trivial) ?_ ?_
      · rintro i w ρ' S' e ⟨_, it, a4, a5, rfl, ok, hc, ip, g4⟩
        obtain ⟨hi', rfl⟩ := intsW_at e
        have hi' : i < 7 := by omega
        walk_at "w"
        refine mid_q (fun ρ' S5 => ∃ (its : List Itm) (a4 : Option W), ρ' = [some (.ref p), some (.ref nl), some (.int sh), some it.w, a4, some (.tup (itmsW its))] ∧ its.length ≤ 2 ∧ (∀ x ∈ its, ItmOk 40 (1 + i) x) ∧ cnts its ≤ it.cnt + 1 ∧ Gs p nl (N + 300 + 200 * i + 110) (M + 6 + 4 * i + 2) S5) ?_ ?_
        · refine gs_take g4 (by omega) (by decide) (by decide) fun r S5 r0 r1 g5 o5 => ?_
          walk_at "w"
          refine ⟨fun _ => ?_, fun _ => ?_⟩
          · walk_at "w"
            refine lf_go g5 (by omega) (by omega) fun lf S6 hlf g6 o6 => ?_
            refine ⟨[lf, it], _, rfl, (show 2 ≤ 2 by decide), ?_, by rw [cnts_cons, cnts_cons, cnts_nil, hlf.c1]; omega, g6.mono (by omega) (by omega)⟩
            intro y hy
            rcases List.mem_cons.mp hy with h' | h'
            · rw [h']; exact hlf.ok _ _
            · rw [List.mem_singleton] at h'; rw [h']; exact ok
          · exact ⟨[it], _, rfl, (show 1 ≤ 2 by decide), one_mem ok, by rw [cnts_cons, cnts_nil]; omega, g5.mono (by omega) (by omega)⟩
        · rintro ρ' S5 ⟨its, a4, rfl, hil, hits, hcn, g5⟩
          walk_at "w"
          refine gs_name g5 (by omega) (by omega) fun x S6 hx g6 o6 => ?_
          refine ⟨hi', .part x [] its, _, _, rfl, ?_, by rw [part_cnt]; omega, rfl, g6.mono (by omega) (by omega)⟩
          have := part_one hx (show its.length ≤ 40 by omega) hits
          rw [show 1 + (i + 1) = 1 + i + 1 by omega]
          exact this
      · rintro ρ' S' ⟨h7, it, a4, a5, rfl, ok, hc, ip, g4⟩
        generalize (intsW 0 (5 + sh).toNat).length = k at h7 ok hc g4
        walk_at "w"
        exact fg_here (q it S' (ok.up (by omega)) (by omega) ip)⟩
end
end K10
set_option Elab.async false
set_option linter.all false
set_option maxRecDepth 100000
set_option maxHeartbeats 2000000
/-! keyword-only parameters, static methods. -/
namespace Wl
open PySem PySem.Spec PyProof.Rows L2
variable {K : PySem.W.Frag} {B : Hp}
/-- a default -/
inductive KC where
  | i (n : Int) | s (x : Str)
def KC.v : KC → V
  | .i n => .int n
  | .s x => .str x
def KC.w : KC → W
  | .i n => .int n
  | .s x => .str x
theorem KC.rep {H : Hp} : ∀ c : KC, Rep K H c.w c.v
  | .i _ => rfl
  | .s _ => rfl
theorem KC.reps {H : Hp} : ∀ cs : List KC, RepL K H (cs.map KC.w) (cs.map KC.v)
  | [] => .nil
  | c :: cs => .cons c.rep (KC.reps cs)
inductive KwAll (K : PySem.W.Frag) (D : Addr) : List (Str × KC) → Prop where
  | nil : KwAll K D []
  | cons {x : Str} {c : KC} {u : Value} {l : List (Str × KC)} : PySem.W.nsIn K D x = some (some u) → RelV c.v u → KwAll K D l → KwAll K D ((x, c) :: l)
theorem kwAll_mem {D : Addr} {l : List (Str × KC)} (h : KwAll K D l) : ∀ q ∈ l.map (fun q => (q.1, q.2.v)), ∃ u, PySem.W.nsIn K D q.1 = some (some u) ∧ RelV q.2 u := by
  induction h with
  | nil => exact fun q hq => by cases hq
  | cons e r _ ih =>
    intro q hq
    rcases List.mem_cons.mp hq with hq | hq
    · rw [hq]; exact ⟨_, e, r⟩
    · exact ih q hq
section
variable {P : Program} {w : World} {mg : Str → Option Value} {base : Heap}
structure InitK (K : PySem.W.Frag) (C : Addr) (qual : Str) (st : Stmt) (kws : List (Str × KC)) : Prop where
  ex : ∃ (f : Addr) (fd : FuncData), FunD K "__init__" qual (defArgs st) (defBody st) (defScope st) [] (kws.map fun q => (q.1, q.2.v)) f fd ∧ Mk K C f
/-- C(n values, k = v for the names ks), ms the defaults that are taken -/
structure CalK (P : Program) (w : World) (K : PySem.W.Frag) (mg : Str → Option Value) (base : Heap) (k : Nat) (C : Addr) (n : Nat) (ks : List Str) (ms : List KC) (sp : SpW) : Prop where
  ex : ∃ (f : Addr) (fd : FuncData) (ps : List Str) (g : List Value → List Value → List Value), FnOk P w K mg base CX0 k f fd ps (liftSp K sp) ∧ Mk K C f ∧ KBn K fd ps (n + 1) ks g (fun vs zs => vs ++ ms.map KC.v ++ zs)
theorem CalK.hd {k : Nat} {C : Addr} {n : Nat} {ks : List Str} {ms : List KC} {sp : SpW} (c : CalK P w K mg base k C n ks ms sp) : CalK P w K mg base k C n ks ms (Hd sp) := by rw [Hd_eq]; exact c
theorem CalK.mono {j k : Nat} {C : Addr} {n : Nat} {ks : List Str} {ms : List KC} {sp : SpW} (c : CalK P w K mg base j C n ks ms sp) (h : j ≤ k) : CalK P w K mg base k C n ks ms sp := by
  obtain ⟨f, fd, ps, g, F, r⟩ := c.ex
  exact ⟨f, fd, ps, g, F.mono h, r⟩
theorem fun_of' {x qual : Str} {st : Stmt} {f : Addr} {fd : FuncData} {kws : List (Str × V)} (F : FunD K x qual (defArgs st) (defBody st) (defScope st) [] kws f fd) : Fun K x qual st f fd := by
  obtain ⟨oc, od, dV, kV, doc, pm, an, cdv, ct, osl, e, l, c, hd, _⟩ := F.ex
  rcases hd with ⟨_, e2⟩ | ⟨e2, _⟩
  · subst e2
    exact ⟨⟨oc, od, kV, doc, pm, an, cdv, ct, osl, e, l, c⟩, F.kp⟩
  · exact absurd rfl e2
def wMakeK (C : Addr) (n m : Nat) (sp : SpW) (ms : List KC) (t tk : TAW) : TEW := fun ρ S Q => t ρ S fun ws S1 => tk ρ S1 fun xs S2 => ws.length = n ∧ xs.length = m ∧ ∀ x, S2 x = none →
  sp (.ref x :: ws ++ ms.map KC.w ++ xs) (put S2 x (.ins C [])) fun v S3 => v = .non ∧ Q (.ref x) S3
def tMakeKK (C : Addr) (n m : Nat) (sp : Sp) (ms : List KC) (E : XK) (t tk : TA) : TE := tMakeK C n m sp (fun vs zs => vs ++ ms.map KC.v ++ zs) E t tk
theorem k_makeK (K : PySem.W.Frag) {X : Cx} {C : Addr} {k j n : Nat} {ks : List Str} {ms : List KC} {x : Str} {sp : SpW} {p pos : Pos} {e : Expr} {es : List Expr} {kws : List Keyword} {t tk : TA} (c : CalK X.prog X.w K X.mg X.base k C n ks ms sp) (hm : X.mg x = some (.ref C)) (hr : Room j X.A) (hk : k + 1 ≤ j) (hg : Gl X x) (ha : PA X (e :: es) t) (hkw : PK X kws tk)
    (hall : (backToKw pos (keywordEach kws X.env)).all (·.1.isSome) = true := by rfl) (hks : (backToKw pos (keywordEach kws X.env)).filterMap (·.1) = ks := by rfl) (hdb : (x == ("__debug__" : Str)) = false := by decide)
    (he : starEach (e :: es) X.env = (false, eval e X.env) :: starEach es X.env := by rfl) (hpl : ((backTo pos (starEach (e :: es) X.env)).any (·.1) || (backToKw pos (keywordEach kws X.env)).any (·.1.isNone)) = false := by rfl) (hK : X.K = K := by rfl) :
    PE X (.Call (.Name x p) (e :: es) kws pos) (tMakeKK C n ks.length (liftSp K sp) ms E0 t tk) := by
  subst hK
  obtain ⟨f, fd, ps, g, F, M, b⟩ := c.ex
  exact pe_makeK M F (hr.mono hk) hg hm b pass0 ha hkw hall hks hdb he hpl
instance le_makeK {C : Addr} {n m : Nat} {ms : List KC} {sp : SpW} {E : XK} {t tk : TA} {tw tkw : TAW} [a : LA K B t tw] [b : LA K B tk tkw] : LE K B (tMakeKK C n m (liftSp K sp) ms E t tk) (wMakeK C n m sp ms tw tkw) := ⟨fun σ H ρ S Q Qw hs hh q po =>
  a.l σ H ρ S _ _ hs hh q fun xs H1 ws S1 t1 hh1 r1 q1 => b.l σ H1 ρ S1 _ _ (hs.tk t1) hh1 q1 fun zs H2 us S2 t2 hh2 r2 ⟨l1, l2, q2⟩ => ⟨by rw [r1.length]; exact l1, by rw [r2.length]; exact l2, fun x dx hx hdx ne => by
    have tD : Tk H2 (upd H2 dx (.own x)) := Tk.new hdx
    have hx2 : upd H2 dx (.own x) x = none := by rw [upd_ne (Ne.symm ne)]; exact hx
    have tX : Tk (upd H2 dx (.own x)) (upd (upd H2 dx (.own x)) x (.ins C dx [])) := Tk.new hx2
    have hh3 : HRep K (upd H2 dx (.own x)) S2 := hh2.laid hdx
    have hh4 : HRep K (upd (upd H2 dx (.own x)) x (.ins C dx [])) (put S2 x (.ins C [])) := hh3.new hx2 ⟨dx, [], upd_same, rfl⟩
    refine ⟨.ref x :: ws ++ ms.map KC.w ++ us, put S2 x (.ins C []), _, ?_, hh4, q2 x (hh2.fresh hx), ?_⟩
    · exact RepL.append (RepL.append (.cons rfl (RepL.tk ((t2.trans tD).trans tX) _ _ r1)) (KC.reps ms)) (RepL.tk (tD.trans tX) _ _ r2)
    · rintro v H4 wv S4 t4 hh4 r4 ⟨e, q4⟩
      subst e
      exact ⟨r4, po.ref ((((t1.trans t2).trans tD).trans tX).trans t4) hh4 q4⟩⟩⟩
/-! ### static methods -/
structure CStat (K : PySem.W.Frag) (C : Addr) (m : Str) (g : Addr) : Prop where
  rd : PySem.W.readsIn K C (.type "type") = true
  ga : PySem.W.specialIn K (.ref C) "__getattribute__" = some (some (.builtin "type.__getattribute__"))
  sm : ∃ (p : Addr) (rest : List Value), PySem.W.findCls K (.ref C) (.type "type") m = some (.get (.builtin "staticmethod.__get__") (.ref p) .none (.ref C)) ∧ PySem.W.recIn K p "staticmethod" = some (.ref g :: rest)
  kp : PySem.W.keepIn K (.ref g) = true
structure StatAt (K : PySem.W.Frag) (C : Addr) (x qual : Str) (st : Stmt) (ps : List Str) : Prop where
  ex : ∃ (f : Addr) (fd : FuncData), Fun K x qual st f fd ∧ CStat K C x f ∧ Binds K fd ps []
structure CalS (P : Program) (w : World) (K : PySem.W.Frag) (mg : Str → Option Value) (base : Heap) (k : Nat) (C : Addr) (m : Str) (sp : SpW) : Prop where
  ex : ∃ (f : Addr) (fd : FuncData) (ps : List Str), FnOk P w K mg base CX0 k f fd ps (liftSp K sp) ∧ CStat K C m f ∧ Binds K fd ps []
theorem CalS.hd {k : Nat} {C : Addr} {m : Str} {sp : SpW} (c : CalS P w K mg base k C m sp) : CalS P w K mg base k C m (Hd sp) := by rw [Hd_eq]; exact c
theorem CalS.mono {j k : Nat} {C : Addr} {m : Str} {sp : SpW} (c : CalS P w K mg base j C m sp) (h : j ≤ k) : CalS P w K mg base k C m sp := by
  obtain ⟨f, fd, ps, F, r⟩ := c.ex
  exact ⟨f, fd, ps, F.mono h, r⟩
theorem getsm_ok {X : Cx} {pins : List (Addr × Obj)} {σ : L2.St} {H : Hp} {s : Shared} {C g : Addr} {m : Str} {A : Around} {E : Value → Shared → Prop} {pl : Sem Bool} {Q : Value × List Value → Shared → Prop} (I : Inv X pins σ H s) (c : CStat X.K C m g)
    (h : ∀ s', Inv X pins σ H s' → Q (.ref g, []) s') : wpAny (model X.prog X.w) A (getMethod (.ref C) m pl) Q E s := by
  obtain ⟨p, rest, e1, e2⟩ := c.sm
  refine PySem.W.method_cls I.kIn c.ga ?_
  refine PySem.W.cls_bind I.kIn c.rd e1 ?_
  refine wpAny_call (PySem.W.sm_get (s := { s with toks := s.toks + 1 }) I.kIn e2 (PySem.W.handed_on rfl ?_))
  exact h _ (I.tok _)
def tStat (C : Addr) (sp : Sp) (E : XK) (ta : TE) (t : TA) : TE := fun σ H Q => ta σ H fun x H1 => x = .ref C ∧ t σ H1 fun vs H2 => sp vs H2 Q E
theorem k_stat (K : PySem.W.Frag) {X : Cx} {C : Addr} {k j : Nat} {m : Str} {sp : SpW} {apos pos : Pos} {o e : Expr} {es : List Expr} {ta : TE} {t : TA} {pl : Sem Bool} (c : CalS X.prog X.w K X.mg X.base k C m sp) (hr : Room j X.A) (hk : k ≤ j) (ho : PE X o ta) (ha : PA X (e :: es) t)
    (hst : starEach (e :: es) X.env = (false, eval e X.env) :: starEach es X.env := by rfl) (hpl : (backTo pos (starEach es X.env)).any (·.1) = false := by rfl)
    (ht : eval (.Call (.Attribute o m apos) (e :: es) [] pos) X.env = (do
      let ov ← eval o X.env
      standAt apos.atName
      let (f, first) ← holding [ov] (getMethod ov m pl)
      callWith pos f first (backTo pos (starEach (e :: es) X.env)) (backToKw pos (keywordEach [] X.env))) := by rfl) (hK : X.K = K := by rfl) :
    PE X (.Call (.Attribute o m apos) (e :: es) [] pos) (tStat C (liftSp K sp) E0 ta t) := by
  subst hK
  obtain ⟨f, fd, ps, F, c, b⟩ := c.ex
  refine ⟨fun pins s σ H Q I h => ?_⟩
  refine PySem.W.methodCall_KW (pl := pl) (thn (ho.run pins s σ H _ I h) fun u s1 ⟨x, H1, I1, rx, ex, q⟩ => ?_) ht
  subst ex
  obtain rfl : u = Value.ref C := rx
  refine getsm_ok I1 c fun s2 I2 => ?_
  refine PySem.W.callWith_K (first := []) (h₀ := X.base) I.ok.mod.kin c.kp (thn (ha.run pos pins s2 σ H1 _ I2 q) fun us s3 ⟨vs, H2, I3, r, q2⟩ => ⟨I3.kIn, ?_⟩) hst hpl
  exact run_fn (us := us) (vs := vs) F (hr.mono hk) b .nil pass0 I3 r (by rw [List.append_nil]; exact q2)
def wStat (C : Addr) (sp : SpW) (to : TEW) (t : TAW) : TEW := fun ρ S Q => to ρ S fun x S1 => x = .ref C ∧ t ρ S1 fun ws S2 => sp ws S2 Q
instance le_stat {C : Addr} {sp : SpW} {E : XK} {to : TE} {t : TA} {wo : TEW} {tw : TAW} [a : LE K B to wo] [b : LA K B t tw] : LE K B (tStat C (liftSp K sp) E to t) (wStat C sp wo tw) := ⟨fun σ H ρ S Q Qw hs hh q po =>
  a.l σ H ρ S _ _ hs hh q fun x H1 wx S1 t1 hh1 r1 ⟨e, q1⟩ => by
    subst e
    exact ⟨r1, b.l σ H1 ρ S1 _ _ (hs.tk t1) hh1 q1 fun vs H2 ws S2 t2 hh2 r2 q2 => ⟨ws, S2, Qw, r2, hh2, q2, po.tk (t1.trans t2)⟩⟩⟩
theorem calS {C : Addr} {x qual : Str} {st : Stmt} {N ps : List Str} {k : Nat} {sp : SpW} (d : StatAt K C x qual st ps) (SC : FnScope N ps (defScope st))
    (len : ∀ ws S Q, sp ws S Q → ws.length = ps.length)
    (hbody : ∀ (f : Addr) (cdv : Value) (A : Around) (outer : List Env) (s : Shared) (H : Hp) (E : XK), Room k (A.deeper (envOfC qual (defScope st) s.heap.objs.size f cdv)) →
      ∃ t tw, PSs (cxOf CX0 P w K mg base N qual (defScope st) f cdv A outer s H E).nox (defBody st) t ∧ LS K H t tw ∧ ∀ ws S Q, sp ws S Q → tw { nx := fun _ S' => FgI Q .non S', rt := FgI Q } (startW N ws) S) :
    CalS P w K mg base (k + 1) C x sp := by
  obtain ⟨f, fd, F, hm, b⟩ := d.ex
  exact ⟨f, fd, ps, fnM F SC len hbody, hm, b⟩
/-- ms: the keyword-only names that lack, ks: those that are told, in their order -/
theorem calK {C : Addr} {qual : Str} {st : Stmt} {N ps : List Str} {k : Nat} {sp : SpW} {kws : List (Str × KC)} (d : InitK K C qual st kws) (SC : FnScope N ps (defScope st))
    (len : ∀ ws S Q, sp ws S Q → ws.length = ps.length)
    (hbody : ∀ (f : Addr) (cdv : Value) (A : Around) (outer : List Env) (s : Shared) (H : Hp) (E : XK), Room k (A.deeper (envOfC qual (defScope st) s.heap.objs.size f cdv)) →
      ∃ t tw, PSs (cxOf CX0 P w K mg base N qual (defScope st) f cdv A outer s H E).nox (defBody st) t ∧ LS K H t tw ∧ ∀ ws S Q, sp ws S Q → tw { nx := fun _ S' => FgI Q .non S', rt := FgI Q } (startW N ws) S)
    (n : Nat) (ks : List Str) (ms : List (Str × KC)) (hk : kws ≠ []) (hms : ∀ q ∈ ms, q ∈ kws)
    (h : ∀ (D : Addr) (doc pm : Value) (an : Option Addr) (cdv ct : Value) (us mv ws : List Value), us.length = n + 1 → mv.length = ms.length → ws.length = ks.length →
      KwChain D ((ms.map (·.1)).zip mv) (bindArgs (PySem.W.fnOf "__init__" qual (defArgs st) (defBody st) (defScope st) .none (.ref D) doc pm an cdv ct) ⟨us, ks.zip ws⟩) (ps.zip (us ++ mv ++ ws))) :
    CalK P w K mg base (k + 1) C n ks (ms.map (·.2)) sp := by
  obtain ⟨f, fd, F, hm⟩ := d.ex
  obtain ⟨mv, b⟩ := F.kbinds0 (ps := ps) (n + 1) ks (ms.map fun q => (q.1, q.2.v)) (fun us mv ws => us ++ mv ++ ws) (fun e => hk (List.map_eq_nil_iff.mp e))
    (fun q hq => by
      obtain ⟨r, hr, rfl⟩ := List.mem_map.mp hq
      exact List.mem_map.mpr ⟨r, hms r hr, rfl⟩) (fun r1 r2 r3 => Vals.append (Vals.append r1 r2) r3)
    (fun D doc pm an cdv ct us mv ws l1 l2 l3 => by
      have := h D doc pm an cdv ct us mv ws l1 (by rw [l2, List.length_map]) l3
      rw [List.map_map]
      exact this)
  refine ⟨f, fd, ps, (fun us ws => us ++ mv ++ ws), fnM (fun_of' F) SC len hbody, hm, ?_⟩
  rw [List.map_map] at b
  rw [List.map_map]
  exact b
end
end Wl
set_option Elab.async false
set_option linter.all false
set_option maxRecDepth 100000
set_option maxHeartbeats 2000000
/-! keyword arguments in any order. -/
namespace Wl
open PySem PySem.Spec PyProof.Rows L2
variable {K : PySem.W.Frag} {B : Hp}
def pickL {α : Type} (ix : List Nat) (l : List α) : List α := ix.filterMap fun i => l[i]?
theorem pickL_rep {H : Hp} : ∀ (ix : List Nat) {ws : List W} {xs : List V}, RepL K H ws xs → RepL K H (pickL ix ws) (pickL ix xs)
  | [], _, _, _ => .nil
  | i :: ix, ws, xs, h => by
    unfold pickL
    rw [List.filterMap_cons, List.filterMap_cons]
    cases e : ws[i]? with
    | none =>
      have e2 : xs[i]? = none := by rw [List.getElem?_eq_none_iff, h.length]; exact List.getElem?_eq_none_iff.mp e
      rw [e2]
      exact pickL_rep ix h
    | some w =>
      obtain ⟨x, e2, r⟩ := h.get e
      rw [e2]
      exact .cons r (pickL_rep ix h)
theorem Vals.get' : ∀ {vs : List V} {us : List Value} {i : Nat}, Vals vs us → (∀ v, vs[i]? = some v → ∃ u, us[i]? = some u ∧ RelV v u) ∧ (vs[i]? = none → us[i]? = none)
  | [], _, _, .nil => ⟨(fun v e => by cases e), fun _ => rfl⟩
  | _ :: _, _, 0, .cons r t => ⟨(fun v e => by cases e; exact ⟨_, rfl, r⟩), (fun e => by cases e)⟩
  | _ :: _, _, i + 1, .cons r t => Vals.get' (i := i) t
theorem pickL_vals : ∀ (ix : List Nat) {vs : List V} {us : List Value}, Vals vs us → Vals (pickL ix vs) (pickL ix us)
  | [], _, _, _ => .nil
  | i :: ix, vs, us, h => by
    unfold pickL
    rw [List.filterMap_cons, List.filterMap_cons]
    cases e : vs[i]? with
    | none =>
      rw [(Vals.get' h).2 e]
      exact pickL_vals ix h
    | some v =>
      obtain ⟨u, e2, r⟩ := (Vals.get' h).1 v e
      rw [e2]
      exact .cons r (pickL_vals ix h)
section
variable {P : Program} {w : World} {mg : Str → Option Value} {base : Heap}
/-- C(n values, k = v for the names ks), ms the defaults that are taken, ix: where each parameter stands in values, defaults, told ones -/
structure CalJ (P : Program) (w : World) (K : PySem.W.Frag) (mg : Str → Option Value) (base : Heap) (k : Nat) (C : Addr) (n : Nat) (ks : List Str) (ms : List KC) (ix : List Nat) (sp : SpW) : Prop where
  ex : ∃ (f : Addr) (fd : FuncData) (ps : List Str) (g : List Value → List Value → List Value), FnOk P w K mg base CX0 k f fd ps (liftSp K sp) ∧ Mk K C f ∧ KBn K fd ps (n + 1) ks g (fun vs zs => pickL ix (vs ++ ms.map KC.v ++ zs))
theorem CalJ.hd {k : Nat} {C : Addr} {n : Nat} {ks : List Str} {ms : List KC} {ix : List Nat} {sp : SpW} (c : CalJ P w K mg base k C n ks ms ix sp) : CalJ P w K mg base k C n ks ms ix (Hd sp) := by rw [Hd_eq]; exact c
theorem CalJ.mono {j k : Nat} {C : Addr} {n : Nat} {ks : List Str} {ms : List KC} {ix : List Nat} {sp : SpW} (c : CalJ P w K mg base j C n ks ms ix sp) (h : j ≤ k) : CalJ P w K mg base k C n ks ms ix sp := by
  obtain ⟨f, fd, ps, g, F, r⟩ := c.ex
  exact ⟨f, fd, ps, g, F.mono h, r⟩
def wMakeJ (C : Addr) (n m : Nat) (sp : SpW) (ms : List KC) (ix : List Nat) (t tk : TAW) : TEW := fun ρ S Q => t ρ S fun ws S1 => tk ρ S1 fun xs S2 => ws.length = n ∧ xs.length = m ∧ ∀ x, S2 x = none →
  sp (pickL ix (.ref x :: ws ++ ms.map KC.w ++ xs)) (put S2 x (.ins C [])) fun v S3 => v = .non ∧ Q (.ref x) S3
def tMakeJ (C : Addr) (n m : Nat) (sp : Sp) (ms : List KC) (ix : List Nat) (E : XK) (t tk : TA) : TE := tMakeK C n m sp (fun vs zs => pickL ix (vs ++ ms.map KC.v ++ zs)) E t tk
theorem k_makeJ (K : PySem.W.Frag) {X : Cx} {C : Addr} {k j n : Nat} {ks : List Str} {ms : List KC} {ix : List Nat} {x : Str} {sp : SpW} {p pos : Pos} {e : Expr} {es : List Expr} {kws : List Keyword} {t tk : TA} (c : CalJ X.prog X.w K X.mg X.base k C n ks ms ix sp) (hm : X.mg x = some (.ref C)) (hr : Room j X.A) (hk : k + 1 ≤ j) (hg : Gl X x) (ha : PA X (e :: es) t) (hkw : PK X kws tk)
    (hall : (backToKw pos (keywordEach kws X.env)).all (·.1.isSome) = true := by rfl) (hks : (backToKw pos (keywordEach kws X.env)).filterMap (·.1) = ks := by rfl) (hdb : (x == ("__debug__" : Str)) = false := by decide)
    (he : starEach (e :: es) X.env = (false, eval e X.env) :: starEach es X.env := by rfl) (hpl : ((backTo pos (starEach (e :: es) X.env)).any (·.1) || (backToKw pos (keywordEach kws X.env)).any (·.1.isNone)) = false := by rfl) (hK : X.K = K := by rfl) :
    PE X (.Call (.Name x p) (e :: es) kws pos) (tMakeJ C n ks.length (liftSp K sp) ms ix E0 t tk) := by
  subst hK
  obtain ⟨f, fd, ps, g, F, M, b⟩ := c.ex
  exact pe_makeK M F (hr.mono hk) hg hm b pass0 ha hkw hall hks hdb he hpl
instance le_makeJ {C : Addr} {n m : Nat} {ms : List KC} {ix : List Nat} {sp : SpW} {E : XK} {t tk : TA} {tw tkw : TAW} [a : LA K B t tw] [b : LA K B tk tkw] : LE K B (tMakeJ C n m (liftSp K sp) ms ix E t tk) (wMakeJ C n m sp ms ix tw tkw) := ⟨fun σ H ρ S Q Qw hs hh q po =>
  a.l σ H ρ S _ _ hs hh q fun xs H1 ws S1 t1 hh1 r1 q1 => b.l σ H1 ρ S1 _ _ (hs.tk t1) hh1 q1 fun zs H2 us S2 t2 hh2 r2 ⟨l1, l2, q2⟩ => ⟨by rw [r1.length]; exact l1, by rw [r2.length]; exact l2, fun x dx hx hdx ne => by
    have tD : Tk H2 (upd H2 dx (.own x)) := Tk.new hdx
    have hx2 : upd H2 dx (.own x) x = none := by rw [upd_ne (Ne.symm ne)]; exact hx
    have tX : Tk (upd H2 dx (.own x)) (upd (upd H2 dx (.own x)) x (.ins C dx [])) := Tk.new hx2
    have hh3 : HRep K (upd H2 dx (.own x)) S2 := hh2.laid hdx
    have hh4 : HRep K (upd (upd H2 dx (.own x)) x (.ins C dx [])) (put S2 x (.ins C [])) := hh3.new hx2 ⟨dx, [], upd_same, rfl⟩
    refine ⟨pickL ix (.ref x :: ws ++ ms.map KC.w ++ us), put S2 x (.ins C []), _, ?_, hh4, q2 x (hh2.fresh hx), ?_⟩
    · exact pickL_rep ix (RepL.append (RepL.append (.cons rfl (RepL.tk ((t2.trans tD).trans tX) _ _ r1)) (KC.reps ms)) (RepL.tk (tD.trans tX) _ _ r2))
    · rintro v H4 wv S4 t4 hh4 r4 ⟨e, q4⟩
      subst e
      exact ⟨r4, po.ref ((((t1.trans t2).trans tD).trans tX).trans t4) hh4 q4⟩⟩⟩
theorem calJ {C : Addr} {qual : Str} {st : Stmt} {N ps : List Str} {k : Nat} {sp : SpW} {kws : List (Str × KC)} (d : InitK K C qual st kws) (SC : FnScope N ps (defScope st))
    (len : ∀ ws S Q, sp ws S Q → ws.length = ps.length)
    (hbody : ∀ (f : Addr) (cdv : Value) (A : Around) (outer : List Env) (s : Shared) (H : Hp) (E : XK), Room k (A.deeper (envOfC qual (defScope st) s.heap.objs.size f cdv)) →
      ∃ t tw, PSs (cxOf CX0 P w K mg base N qual (defScope st) f cdv A outer s H E).nox (defBody st) t ∧ LS K H t tw ∧ ∀ ws S Q, sp ws S Q → tw { nx := fun _ S' => FgI Q .non S', rt := FgI Q } (startW N ws) S)
    (n : Nat) (ks : List Str) (ms : List (Str × KC)) (ix : List Nat) (hk : kws ≠ []) (hms : ∀ q ∈ ms, q ∈ kws)
    (h : ∀ (D : Addr) (doc pm : Value) (an : Option Addr) (cdv ct : Value) (us mv ws : List Value), us.length = n + 1 → mv.length = ms.length → ws.length = ks.length →
      KwChain D ((ms.map (·.1)).zip mv) (bindArgs (PySem.W.fnOf "__init__" qual (defArgs st) (defBody st) (defScope st) .none (.ref D) doc pm an cdv ct) ⟨us, ks.zip ws⟩) (ps.zip (pickL ix (us ++ mv ++ ws)))) :
    CalJ P w K mg base (k + 1) C n ks (ms.map (·.2)) ix sp := by
  obtain ⟨f, fd, F, hm⟩ := d.ex
  obtain ⟨mv, b⟩ := F.kbinds0 (ps := ps) (n + 1) ks (ms.map fun q => (q.1, q.2.v)) (fun us mv ws => pickL ix (us ++ mv ++ ws)) (fun e => hk (List.map_eq_nil_iff.mp e))
    (fun q hq => by
      obtain ⟨r, hr, rfl⟩ := List.mem_map.mp hq
      exact List.mem_map.mpr ⟨r, hms r hr, rfl⟩) (fun r1 r2 r3 => pickL_vals ix (Vals.append (Vals.append r1 r2) r3))
    (fun D doc pm an cdv ct us mv ws l1 l2 l3 => by
      have := h D doc pm an cdv ct us mv ws l1 (by rw [l2, List.length_map]) l3
      rw [List.map_map]
      exact this)
  refine ⟨f, fd, ps, (fun us ws => pickL ix (us ++ mv ++ ws)), fnM (fun_of' F) SC len hbody, hm, ?_⟩
  rw [List.map_map] at b
  rw [List.map_map]
  exact b
end
end Wl
set_option Elab.async false
set_option linter.all false
set_option maxRecDepth 100000
set_option maxHeartbeats 2000000
/-! list.clear over data. -/
namespace Wl
open PySem PySem.Spec PyProof.Rows L2
variable {K : PySem.W.Frag} {B : Hp}
def wClear : W → List W → Sto → WK → Prop := fun x ws S Q => match x, ws with
  | .ref l, [] => ∃ xs, S l = some (.lst xs) ∧ Q .non (put S l (.lst []))
  | _, _ => False
instance lm_clear : LMR K rClear wClear := ⟨fun H S x wx xs ws Q Qw hh rx r q po => by
  unfold wClear at q
  split at q
  · cases (show x = _ from rx)
    cases (show xs = [] from r)
    obtain ⟨zs, e, q⟩ := q
    obtain ⟨vs, h1, h2⟩ := hh _ _ e
    have t : Tk H (upd H _ (.lst [])) := Tk.mut h1 (fun _ z => (by cases z)) (fun _ _ z => (by cases z))
    obtain ⟨t, hm⟩ := hh.mut (c' := .lst []) (o := .lst []) e ⟨[], upd_same, .nil⟩
    exact ⟨_, vs, rfl, rfl, h1, po.non t hm q⟩
  · exact q.elim⟩
end Wl
set_option Elab.async false
set_option linter.all false
set_option maxRecDepth 100000
set_option maxHeartbeats 2000000
/-! enumerate(t), t a tuple, over data. -/
namespace Wl
open PySem PySem.Spec PyProof.Rows L2
variable {K : PySem.W.Frag} {B : Hp}
set_option maxHeartbeats 4000000 in
/-- enumerate(v), whatever v's iterator is -/
theorem en_new {v : Value} {ob : Obj} {Hh : Heap → Prop} (G : Begins v ob Hh) :
    Meets (Builtin.«enumerate.__new__» ⟨[.type "enumerate", v], []⟩) (fun _ R st => Hh st.heap ∧
      R (.ok (.ret (.ref (st.heap.push ob).objs.size))) { st with heap := (st.heap.push ob).push { cls := .type "enumerate", data := .fields #[.none, .bool false, .ref st.heap.objs.size, rawInt 0, .none, .none] } }) :=
  .of_wp fun P w A R st hst => by
    obtain ⟨hp, gl, dp, tk, os⟩ := st
    obtain ⟨hh, hr⟩ := hst
    have known := sub_enumerate
    have begun : ∀ {A' : Around} {E : Value → Shared → Prop} {Q : Value → Shared → Prop}, Q (.ref hp.objs.size) ⟨hp.push ob, gl, dp, tk, os⟩ → wpAny (model P w) A' (pyIter v) Q E ⟨hp, gl, dp, tk, os⟩ :=
      fun q => G.iter P w _ _ ⟨hp, gl, dp, tk, os⟩ _ hh q
    wp_walk using begun
    refine wpAny_stack_any (fun fr => wpAny_pure ?_)
    split
    · rename_i c _ _ _ _ _
      cases (c == Value.type "enumerate") <;> (wp_walk using begun; exact ⟨_, rfl, hr⟩)
    · (wp_walk using begun; exact ⟨_, rfl, hr⟩)
section
variable {P : Program} {w : World} {A : Around} {E : Value → Shared → Prop} {s : Shared}
theorem en_call {v : Value} {ob : Obj} {Hh : Heap → Prop} {Q : Value → Shared → Prop} (G : Begins v ob Hh) (hh : Hh s.heap)
    (fin : ∀ g, IsEnum g (s.heap.objs.size + 1) s.heap.objs.size 0 .none → g.get? s.heap.objs.size = some ob → g.objs.size = s.heap.objs.size + 2 → (∀ b o, s.heap.get? b = some o → g.get? b = some o) → Q (.ref (s.heap.objs.size + 1)) { s with heap := g }) :
    wpAny (model P w) A (call (.type "enumerate") [v]) Q E s := by
  refine callType_new F.called_enumerate (by decide) (F.typeCall_enumerate_1 _) (F.newCall_enumerate_1 _) (fun x => F.args_object_init_2 x _) F.entry_enumerate_new (en_new G) ⟨hh, ?_⟩
  have z1 : (s.heap.push ob).objs.size = s.heap.objs.size + 1 := Heap.size_push ..
  have z2 := Heap.get?_push_size (s.heap.push ob) (o := { cls := .type "enumerate", data := .fields #[.none, .bool false, .ref s.heap.objs.size, rawInt 0, .none, .none] }) rfl
  show _ ∧ _
  rw [z1] at z2 ⊢
  exact ⟨⟨_, z2, rfl⟩, fin _ z2 (Heap.get?_push_of_some _ (Heap.get?_push_size _ G.free)) (by rw [Heap.size_push, z1]) fun b o x => Heap.get?_push_of_some _ (Heap.get?_push_of_some _ x)⟩
end
/-- the tuple at a, each item in a new pair -/
def ItEn (K : PySem.W.Frag) (a : Addr) : It where
  go := fun i H => ∃ (xs : List V) (x : V), SqT K H a xs ∧ xs[i]? = some x
  yld := fun i H v H' => ∃ T x, v = .ref T ∧ H T = none ∧ H' = upd H T (.tup [.int (i : Nat), x]) ∧ ∀ xs, SqT K H a xs → xs[i]? = some x
  stop := fun i H => ∃ xs : List V, SqT K H a xs ∧ xs.length ≤ i
theorem turn_en {P : Program} {w : World} {K : PySem.W.Frag} {elts : List Expr} {kk : Nat} {tpos : Pos} (a e it : Addr) : Turn P w K (.Tuple elts kk tpos) (ItEn K a) [e, it] e (fun i h => (∃ old, IsEnum h e it (i : Nat) old) ∧ h.IsTupleIter it a i ∧ e ≠ it) where
  mem := by simp
  obj := by
    rintro i h ⟨⟨old, en⟩, ⟨o, ho, _, hd⟩, _⟩ b hb
    rcases (by simpa using hb : b = e ∨ b = it) with z | z <;> rw [z]
    · exact ⟨_, en, fun v q => nomatch q⟩
    · exact ⟨o, ho, fun v q => by rw [hd] at q; cases q⟩
  keep := by
    rintro i h h' ⟨⟨old, en⟩, ti, ne⟩ k
    exact ⟨⟨old, k e (by simp) _ en⟩, ti.at fun o q => k it (by simp) o q, ne⟩
  item := by
    intro X hP hw hK hc i pins s σ H E I hf st hg
    subst hP hw hK
    obtain ⟨⟨old, en⟩, ti, ne⟩ := st
    obtain ⟨xs, x, hq, hx⟩ := hg
    obtain ⟨its, rv, tp, _⟩ := I.tuple hq
    have tp : s.heap.IsTuple a its.toArray := tp
    obtain ⟨u, hu, ru⟩ := rv.get hx
    obtain ⟨o1, ho1, hc1, _⟩ := id tp
    obtain ⟨o2, ho2, hc2, _⟩ := id ti
    have cls_ne : ∀ {b : Addr} {o : Obj} {n : String}, s.heap.get? b = some o → o.cls = .type n → ("tuple" == n) = false → a ≠ b := fun {b o n} hb hn ht z => by
      rw [z, hb] at ho1
      rw [← Option.some.inj ho1, hn] at hc1
      rw [Value.type.inj hc1] at ht
      simp at ht
    have ae : a ≠ e := cls_ne en rfl (by decide)
    have ai : a ≠ it := cls_ne ho2 hc2 (by decide)
    have le : e < s.heap.objs.size := Heap.lt_size en
    have li : it < s.heap.objs.size := Heap.lt_size ho2
    have hlt : i < its.toArray.size := by
      have := (List.getElem?_eq_some_iff.mp hu).1
      simpa using this
    refine wpAny_pyNext_enum_itemD (Draws.tuple (show X.A.in1.handled = none from I.ok.hd hc) it a ai its.toArray) en ⟨ti, tp⟩ hlt ne (by simp [ne, Ne.symm ae]) fun y g tk hy ho ti2 hT hz hk => ?_
    have ey : y = u := by
      have hy : its.toArray[i]? = some y := hy
      rw [List.getElem?_toArray, hu] at hy
      exact (Option.some.inj hy).symm
    subst ey
    refine ⟨_, rfl, wpAny_letOwnedTupleGo_enum (s := { s with heap := g, toks := tk + 1 }) ho fun g2 en2 sb => ?_⟩
    have hT2 : g2.get? s.heap.objs.size = some { cls := .type "tuple", data := .seq #[.int i tk, y] } := (sb.2 _ (Nat.ne_of_gt le)).trans hT
    have made : ObjOk X.prog X.w (upd H s.heap.objs.size (.tup [.int (i : Nat), x])) g2 s.heap.objs.size (.tup [.int (i : Nat), x]) := ⟨by show 2 ≤ sizeLine; decide, [.int i tk, y], .cons ⟨_, rfl⟩ (.cons ru .nil), _, hT2, rfl, _, rfl⟩
    have I1 : Inv X pins σ (upd H s.heap.objs.size (.tup [.int (i : Nat), x])) { s with heap := g2, toks := tk + 1 } :=
      I.turnedNew (ch := [e, it]) (fun b ob hb q => (sb.2 b (fun z => hb (by simp [z]))).trans (hk b ob (fun z => hb (by simp [z])) (fun z => hb (by simp [z])) q)) hf (Nat.le_refl _) made
    refine ⟨.ref s.heap.objs.size, _, I1, rfl, ⟨_, x, rfl, I.hok.fresh (Nat.le_refl _), rfl, fun ys hy => by rw [I.tuple_inj hy hq]; exact hx⟩, ⟨⟨y, by rw [show ((i + 1 : Nat) : Int) = (i : Int) + 1 by omega]; exact en2⟩, ti2.1.at fun o q => (sb.2 it (Ne.symm ne)).trans q, ne⟩, fun b hb => ?_⟩
    have lb : b < s.heap.objs.size := by rcases (by simpa using hb : b = e ∨ b = it) with z | z <;> rw [z] <;> assumption
    rw [upd_ne (Nat.ne_of_lt lb)]
    exact (hf b hb).1
  done := by
    intro X hP hw hK hc i pins s σ H E I hf st hg
    subst hP hw hK
    obtain ⟨⟨old, en⟩, ti, ne⟩ := st
    obtain ⟨xs, hq, hx⟩ := hg
    obtain ⟨its, rv, tp, _⟩ := I.tuple hq
    have tp : s.heap.IsTuple a its.toArray := tp
    have none : its.toArray[i]? = none := by
      rw [List.getElem?_toArray]
      exact List.getElem?_eq_none (by rw [← rv.length]; exact hx)
    have D : Draws X.prog X.w X.A.in1 it [it, a] 0 (fun _ _ => False) (fun j h => h.IsTupleIter it a (i + j) ∧ h.IsTuple a its.toArray) := by
      refine ⟨fun j h q => ?_, fun j h h' q k => ⟨q.1.at fun o z => k it (by simp) o z, q.2.at fun o z => k a (by simp) o z⟩, fun j _ _ _ z => absurd z (Nat.not_lt_zero _), fun st Q' E' q hE => ?_⟩
      · obtain ⟨o, ho, _⟩ := q.1
        exact ⟨o, ho⟩
      · exact wpAny_nextOf_tuple_end (show X.A.in1.handled = _ from I.ok.hd hc) q.1 q.2 none hE
    obtain ⟨f0, f1, f2, f3, f4, f5⟩ := hf it (by simp)
    exact wpAny_pyNext_enum_endD D en ⟨ti, tp⟩ fun g eb => ⟨rfl, I.turned (t' := s.toks) (fun b o hb q => eb b o hb q) f0 f1 f3 f4 f5⟩
  self := fun A i s Q E ⟨⟨_, en⟩, _⟩ h => wpAny_pyIter_enum en h
def iEn (K : PySem.W.Frag) (ta : TA) : TI := fun σ H R => ta σ H fun vs H1 => ∃ a xs, vs = [.ref a] ∧ SqT K H1 a xs ∧ R (ItEn K a) H1
theorem k_enum (K : PySem.W.Frag) {X : Cx} {e : Expr} {ta : TA} {p pos tpos : Pos} {elts : List Expr} {kk : Nat} (hg : Gl X "enumerate") (hm : X.mg "enumerate" = none) (ha : PA X [e] ta) (hs : starEach [e] X.env = [(false, eval e X.env)] := by rfl) (hK : X.K = K := by rfl) :
    PI X (.Tuple elts kk tpos) (.Call (.Name "enumerate" p) [e] [] pos) (iEn K ta) := by
  subst hK
  refine ⟨fun pins s σ H R I h => Call_ (ld_blt I hg hm boot_enumerate (PyProof.Rows.callWith_type1 (thn (ha.run pos pins s σ H _ I h) fun us s1 ⟨vs, H1, I1, r1, a, xs, ex, hq, q⟩ => ?_) hs rfl))⟩
  subst ex
  cases r1 with
  | cons r rr =>
    cases rr
    cases r
    obtain ⟨its, rv, tp, _⟩ := I1.tuple hq
    have tp : s1.heap.IsTuple a its.toArray := tp
    refine en_call (begins_tuple a its.toArray) tp fun g en hi hz hk => wpAny_pyIter_enum en ?_
    have I2 : Inv X pins σ H1 { s1 with heap := g } := I1.kept (t' := s1.toks) hk
    refine ⟨s1.heap.objs.size + 1, [s1.heap.objs.size + 1, s1.heap.objs.size], _, _, H1, rfl, I2, turn_en a (s1.heap.objs.size + 1) s1.heap.objs.size, ⟨⟨.none, en⟩, ⟨_, hi, rfl, rfl⟩, Nat.succ_ne_self _⟩, fun b hb => ?_, q⟩
    have le : s1.heap.objs.size ≤ b := (by simpa using hb : b = s1.heap.objs.size + 1 ∨ b = s1.heap.objs.size).elim (fun z => z ▸ Nat.le_succ _) fun z => z ▸ Nat.le_refl _
    exact I1.fpOk le (I1.hok.fresh le)
/-- the items with their numbers -/
def enW (ws : List W) : List W := (List.range ws.length).map fun i => .tup [.int (i : Nat), (ws[i]?).getD .non]
theorem enW_at {ws : List W} {i : Nat} {w : W} (h : (enW ws)[i]? = some w) : ∃ x, ws[i]? = some x ∧ w = .tup [.int (i : Nat), x] := by
  unfold enW at h
  rw [List.getElem?_map] at h
  by_cases hi : i < ws.length
  · rw [List.getElem?_range hi] at h
    refine ⟨ws[i], List.getElem?_eq_getElem hi, ?_⟩
    have h : W.tup [.int (i : Nat), (ws[i]?).getD .non] = w := Option.some.inj h
    rw [List.getElem?_eq_getElem hi] at h
    exact h.symm
  · rw [List.getElem?_eq_none (by rw [List.length_range]; omega)] at h
    cases h
theorem enW_len (ws : List W) : (enW ws).length = ws.length := by unfold enW; rw [List.length_map, List.length_range]
theorem src_en {H1 : Hp} {a : Addr} {xs : List V} {ws : List W} (h : SqT K H1 a xs) (r : RepL K H1 ws xs) : IsSrc K H1 (ItEn K a) (enW ws) anyS where
  go := fun i H S t hh ok hi => by
    rw [enW_len] at hi
    exact ⟨xs, xs[i]'(by rw [r.length]; exact hi), t.sqt h, by simp [r.length, hi]⟩
  yld := fun i H S x H' t hh ok hi y => by
    rw [enW_len] at hi
    obtain ⟨T, z, rfl, hT, rfl, hz⟩ := y
    obtain ⟨w, ew, rw'⟩ := (RepL.tk t _ _ r).get' (hz xs (t.sqt h))
    have tn : Tk H (upd H T (.tup [.int (i : Nat), z])) := Tk.new hT
    refine ⟨tn, hh.laid hT, .tup [.int (i : Nat), w], ?_, ⟨T, _, rfl, SqT.of upd_same, RepL.tk tn _ _ (.cons rfl (.one rw'))⟩⟩
    unfold enW
    rw [List.getElem?_map, List.getElem?_range hi]
    show some (W.tup [.int (i : Nat), (ws[i]?).getD .non]) = _
    rw [ew]
    rfl
  stop := fun i H S t hh ok hi => by
    rw [enW_len] at hi
    exact ⟨xs, t.sqt h, by rw [r.length]; exact hi⟩
def wiEn (ta : TAW) : TIW := fun ρ S R => ta ρ S fun ws S1 => match ws with
  | [.tup ws] => R (enW ws) anyS S1
  | _ => False
instance li_en {t : TA} {tw : TAW} [a : LA K B t tw] : LI K B (iEn K t) (wiEn tw) := ⟨fun σ H ρ S R Rw hs hh q po => a.l σ H ρ S _ _ hs hh q fun xs H1 ws S1 t1 hh1 r1 q1 => by
  split at q1
  · obtain ⟨x, rfl, h1⟩ := rep1 r1
    obtain ⟨p, ys, rfl, h2, h3⟩ := h1
    exact ⟨_, ys, rfl, h2, po _ H1 S1 _ _ t1 hh1 (src_en h2 h3) q1⟩
  · exact q1.elim⟩
end Wl
set_option Elab.async false
set_option linter.all false
set_option maxRecDepth 100000
set_option maxHeartbeats 2000000
/-! yield from a list; comprehensions with two for; tuples of ints compared. -/
namespace Wl
open PySem PySem.Spec PyProof.Rows L2 GenW
variable {K : PySem.W.Frag} {B : Hp}
section
variable {P : Program} {w : World} {A : Around} {E : Value → Shared → Prop} {s : Shared} {it l : Addr} {i : Nat} {items : Array Value}
/-- the special method of a list's iterator, an item is left -/
theorem ln_item {x : Value} {Q : Option Value → Shared → Prop} (ho : s.heap.get? it = some (GNX.itObj l i)) (hl : s.heap.IsList l items) (hx : items[i]? = some x) (hQ : ∀ g, g.get? it = some (GNX.itObj l (i + 1)) → Heap.SameBut it s.heap g → Q (some x) { s with heap := g }) :
    wpAny (model P w) A (callSpecial? (.ref it) "__next__") Q E s := by
  have ty : s.heap.IsListIter it l i := ⟨_, ho, rfl, rfl⟩
  exact wpAny_callSpecial?_slot (name := Str.ofString "__next__") ty.typeIs slot_listiter_next (wpAny_call_entry slot_listiter_next ty.typeIs entry_listiter_next (GNX.next_item ho hl hx fun g e sb => hQ g e sb) (args_listiter_next _))
/-- nothing is left: the exception carries no value -/
theorem ln_end {Q : Option Value → Shared → Prop} (hh : A.handled = none) (ho : s.heap.get? it = some (GNX.itObj l i)) (hl : s.heap.IsList l items) (hx : items[i]? = none) (hE : ∀ e g, StopX e g → Heap.ExtBut it s.heap g → E e { s with heap := g }) :
    wpAny (model P w) A (callSpecial? (.ref it) "__next__") Q E s := by
  have ty : s.heap.IsListIter it l i := ⟨_, ho, rfl, rfl⟩
  refine wpAny_callSpecial?_slot (name := Str.ofString "__next__") ty.typeIs slot_listiter_next (wpAny_call_entry slot_listiter_next ty.typeIs entry_listiter_next ?_ (args_listiter_next _))
  obtain ⟨ol, hol, _, nl, dl⟩ := hl
  refine (show wpAny _ _ (field (.ref it) 0 >>= _) _ _ s from wpAny_bind (wpAny_field ho rfl (x := .ref l) rfl ?_))
  refine (show wpAny _ _ (if (Value.ref l == Value.none) = true then _ else _) _ _ s from ?_)
  rw [if_neg (show (Value.ref l == Value.none) ≠ true from fun z => nomatch z)]
  refine (show wpAny _ _ (field (.ref it) 1 >>= _) _ _ s from wpAny_bind (wpAny_field ho rfl (x := .int i 0) rfl ?_))
  refine (show wpAny _ _ (seqItems? (.ref l) >>= _) _ _ s from wpAny_bind (wpAny_seqItems hol dl ?_))
  simp only [hx, Int.toNat_natCast]
  refine wpAny_bind (wpAny_rule (wpAny_bind (wpAny_setField ho rfl (by simp [GNX.itObj]) ?_)))
  refine (show wpAny _ _ (newExc (.type "StopIteration") [] >>= _) _ _ _ from wpAny_bind ?_)
  simp only [newTuple, newExc]
  refine wpAny_bind (wpAny_newObj_type (wpAny_bind (m := firstArgMember _ _) (wpAny_of_eq (a := Value.none) (by first | rfl | (simp only [firstArgMember]; rfl)) (wpAny_newObj_type ?_ (by size_fits)))) (by size_fits))
  simp only [raiseNew]
  refine wpAny_bind (wpAny_handled ?_)
  have h1 : A.in1.handled = none := hh
  rw [h1]
  refine (show wpAny _ _ (throw _) _ _ _ from wpAny_throw (hE _ _ ⟨_, _, _, rfl, Heap.get?_push_size _ rfl, rfl, rfl, ?_⟩ (((Heap.SameBut.update ..).extBut.push _).push _)))
  first
    | rfl
    | (rw [Array.getElem?_append_left (by decide)]; rfl)
end
/-! ### yield from a list -/
def tYl (te : TE) : TYf := fun σ H Q => te σ H fun x H1 => ∃ a xs, x = .ref a ∧ H1 a = some (.lst xs) ∧ Q xs H1
theorem yf_l {X : Cx} {e : Expr} {te : TE} (he : PE X e te) : YfE X e (tYl te) := ⟨fun pins s σ H Q I h => thn (he.run pins s σ H _ I h) fun v s1 ⟨x, H1, I1, r1, a, xs, ex, ha, hq⟩ => by
  subst ex
  cases (show v = Value.ref a from r1)
  obtain ⟨its, rits, pl, _⟩ := I1.list (SqL.of ha)
  have hl : s1.heap.IsList a its.toArray := pl.isList
  have grow : ∀ b o, s1.heap.get? b = some o → (s1.heap.push (GNX.itObj a 0)).get? b = some o := fun b o z => Heap.get?_push_of_some _ z
  have lt : ∀ b o, s1.heap.get? b = some o → b ≠ s1.heap.objs.size := fun b o z => Nat.ne_of_lt (Heap.lt_size z)
  have ne : a ≠ s1.heap.objs.size := by
    obtain ⟨o, ho, _⟩ := id hl
    exact lt a o ho
  refine ⟨"list", hl.typeIs, by decide, wpAny_pyIter_list hl ⟨s1.heap.objs.size, H1, xs, fun j h => h.get? s1.heap.objs.size = some (GNX.itObj a j) ∧ h.IsList a its.toArray, rfl, I1.kept (t' := s1.toks) grow, .inr I1.sz, Nat.ne_of_gt I1.lt, ?_, I1.hok.fresh (Nat.le_refl _), fun p hp => lt p.1 _ (I1.pin p hp).1,
    ⟨Heap.get?_push_size _ rfl, hl.push _⟩, ⟨⟨"list_iterator", fun j h q => ⟨_, q.1, rfl⟩, by rw [typeLookup_type, builtinLookup_eq_fast]; kernel_rfl, by decide⟩, fun j h h' q hk => ?_, fun A' j x s2 Q' E' hA hx q hQ => ?_, fun A' s2 Q' E' hA q hE => ?_⟩, hq⟩⟩
  · intro y c hy
    obtain ⟨v, o, ho, _⟩ := I1.cell y c hy
    exact lt c o ho
  · obtain ⟨q1, o2, ho2, r2⟩ := q
    exact ⟨hk _ _ (.inl rfl) q1, o2, hk _ o2 (.inr (by rw [ha]; exact fun z => by cases z)) ho2, r2⟩
  · obtain ⟨u, hu, ru⟩ := rits.get hx
    exact ln_item q.1 q.2 (x := u) (by simpa using hu) fun g q1 hs => hQ u g s2.toks ru ⟨q1, q.2.extBut hs.extBut ne⟩ fun b o hb eb => hs.extBut b o hb eb
  · refine ln_end hA q.1 q.2 ?_ fun e g hS hk => hE e g s2.toks hS fun b o hb eb => hk b o hb eb
    rw [List.getElem?_toArray]
    exact List.getElem?_eq_none (Nat.le_of_eq rits.length.symm)⟩
def wGFrom (te : TEW) : TGnW := fun D ys ρ S => te ρ S fun x S1 => match x with
  | .ref a => ∃ ws, S1 a = some (.lst ws) ∧ ys.length + ws.length ≤ sizeLine ∧ D.nx (ys ++ ws) ρ S1
  | _ => False
instance lgn_from {te : TE} {we : TEW} [a : LE K B te we] : LGn K B (tGFrom (tYl te)) (wGFrom we) := ⟨fun ys ws σ H ρ S D Dw hy hs hh q po =>
  a.l σ H ρ S _ _ hs hh q fun x H1 wx S1 t1 hh1 r1 q1 => by
    split at q1
    · cases (show x = _ from r1)
      obtain ⟨ws', e, hz, q⟩ := q1
      obtain ⟨xs, h1, h2⟩ := hh1 _ _ e
      exact ⟨_, xs, rfl, h1, by rw [hy.length, h2.length]; exact hz, po.nx _ _ σ H1 ρ S1 t1 ((RepL.tk t1 _ _ hy).append h2) (hs.tk t1) hh1 q⟩
    · exact q1.elim⟩
/-! ### tuples of ints compared -/
def wLtT : RW2 := fun x y S Q => match x, y with
  | .tup xs, .tup ys => ∃ ns ms : List Int, xs = ns.map W.int ∧ ys = ms.map W.int ∧ Q (.bl (HT.lexLt ns ms)) S
  | _, _ => False
theorem k_ltT (K : PySem.W.Frag) {X : Cx} (hu : X.A.units + 64 < cLine) (hK : X.K = K := by rfl) : OpR X (compareOp .Lt) (rLtT K) := by subst hK; exact op_ltT (by omega)
instance l2_ltT : L2R K (rLtT K) wLtT := ⟨fun H S x y wx wy Q Qw hh rx ry q po => by
  unfold wLtT at q
  split at q
  · obtain ⟨a, xs, rfl, h1, h2⟩ := rx
    obtain ⟨b, ys, rfl, h3, h4⟩ := ry
    obtain ⟨ns, ms, rfl, rfl, q⟩ := q
    rw [h2.ints] at h1
    rw [h4.ints] at h3
    exact ⟨a, b, ns, ms, rfl, rfl, h1, h3, po.bl (Tk.refl H) hh q⟩
  · exact q.elim⟩
/-! ### comprehensions with two for -/
@[irreducible] def Lc2Q (g : TGW) (tt : TTW) (wi1 : TIW) (g1 : TGW) (tt1 : TTW) (te : TEW) (vs vs1 : List Nat) (ρ : StW) (Q : WK) (ws : List W) (ok : Sto → Prop) (S1 : Sto) : Prop := ∀ D, S1 D = none → ∃ P : Nat → List W → Sto → Prop, P 0 [] (put S1 D (.lst [])) ∧
  (∀ i acc S', P i acc S' → ok S') ∧
  (∀ i w acc S', ws[i]? = some w → P i acc S' → g w (wipeW ρ vs) S' fun ρ2 S2 => tt ρ2 S2 fun b S3 => (b = true → wi1 ρ2 S3 fun ws1 ok1 S4 => ∃ P1 : Nat → List W → Sto → Prop, P1 0 acc S4 ∧
    (∀ j acc1 S', P1 j acc1 S' → ok1 S') ∧
    (∀ j w1 acc1 S', ws1[j]? = some w1 → P1 j acc1 S' → g1 w1 (wipeW ρ2 vs1) S' fun ρ3 S5 => tt1 ρ3 S5 fun b1 S6 =>
      (b1 = true → te ρ3 S6 fun y S7 => S7 D = some (.lst acc1) ∧ acc1.length < sizeLine ∧ P1 (j + 1) (acc1 ++ [y]) (put S7 D (.lst (acc1 ++ [y])))) ∧ (b1 = false → P1 (j + 1) acc1 S6)) ∧
    ∀ acc1 S', P1 ws1.length acc1 S' → P (i + 1) acc1 S') ∧ (b = false → P (i + 1) acc S3)) ∧
  ∀ acc S', P ws.length acc S' → Q (.ref D) S'
def wLc2 (wi : TIW) (g : TGW) (tt : TTW) (wi1 : TIW) (g1 : TGW) (tt1 : TTW) (te : TEW) (vs vs1 : List Nat) : TEW := fun ρ S Q => wi ρ S fun ws ok S1 => Lc2Q g tt wi1 g1 tt1 te vs vs1 ρ Q ws ok S1
instance le_lc2 {wi wi1 : TI} {g g1 : TG} {tt tt1 : TT} {te : TE} {vs vs1 : List Nat} {ww ww1 : TIW} {gw gw1 : TGW} {tw tw1 : TTW} {ew : TEW} [h : LI K B wi ww] [b : LG K B g gw] [gg : GW g vs] [c : LT K B tt tw] [h1 : LI K B wi1 ww1] [b1 : LG K B g1 gw1] [gg1 : GW g1 vs1] [c1 : LT K B tt1 tw1] [a : LE K B te ew] :
    LE K B (tLc2 wi g tt wi1 g1 tt1 te vs vs1) (wLc2 ww gw tw ww1 gw1 tw1 ew vs vs1) := ⟨fun σ H ρ S Q Qw hs hh q po => by
  refine h.l σ H ρ S _ _ hs hh q fun J H1 S1 ws ok t1 hh1 src hD => fun D hDn => ?_
  unfold Lc2Q at hD
  obtain ⟨P, p0, pok, pst, pend⟩ := hD D (hh1.fresh hDn)
  have tD : Tk H1 (upd H1 D (.lst [])) := Tk.new hDn
  have hhD : HRep K (upd H1 D (.lst [])) (put S1 D (.lst [])) := hh1.new hDn ⟨[], upd_same, rfl⟩
  refine ⟨fun i m H' => m = ws.length - i ∧ i ≤ ws.length ∧ ∃ acc S', Tk H1 H' ∧ HRep K H' S' ∧ P i acc S', ⟨ws.length, by simp, Nat.zero_le _, [], _, tD, hhD, p0⟩, ?_⟩
  rintro i m H2 ⟨rfl, hi, acc, S2, t2, hh2, p2⟩
  by_cases hlt : i < ws.length
  · refine .inr ⟨src.go i H2 S2 t2 hh2 (pok _ _ _ p2) hlt, fun H' => ∃ acc S', Tk H1 H' ∧ HRep K H' S' ∧ P (i + 1) acc S', fun H' z => ⟨ws.length - (i + 1), by omega, rfl, hlt, z⟩, fun x H3 y => ?_⟩
    obtain ⟨t3, hh3, w, e, r⟩ := src.yld i H2 S2 x H3 t2 hh2 (pok _ _ _ p2) hlt y
    refine gg.l x σ H3 _ ?_
    have hs3 : SRep K B H3 (wipe σ vs) (wipeW ρ vs) := srep_wipe (hs.tk ((t1.trans t2).trans t3)) vs
    refine b.l x w (wipe σ vs) H3 (wipeW ρ vs) S2 _ _ r hs3 hh3 (pst i w acc S2 e p2) fun σ4 H4 ρ4 S4 t4 hs4 hh4 q4 => ?_
    refine c.l σ4 H4 ρ4 S4 _ _ hs4 hh4 q4 fun bb H5 S5 t5 hh5 q5 => ?_
    have t15 := ((t2.trans t3).trans t4).trans t5
    cases bb with
    | false =>
      rw [if_neg Bool.false_ne_true]
      exact ⟨acc, S5, t15, hh5, q5.2 rfl⟩
    | true =>
      rw [if_pos rfl]
      refine h1.l σ4 H5 ρ4 S5 _ _ (hs4.tk t5) hh5 (q5.1 rfl) fun J1 H6 S6 ws1 ok1 t6 hh6 src1 hP => ?_
      obtain ⟨P1, p10, p1ok, p1st, p1end⟩ := hP
      refine ⟨fun j k H' => k = ws1.length - j ∧ j ≤ ws1.length ∧ ∃ acc1 S', Tk H6 H' ∧ HRep K H' S' ∧ P1 j acc1 S', ⟨ws1.length, by simp, Nat.zero_le _, acc, S6, Tk.refl _, hh6, p10⟩, ?_⟩
      rintro j k H7 ⟨rfl, hj, acc1, S7, t7, hh7, p7⟩
      by_cases hjt : j < ws1.length
      · refine .inr ⟨src1.go j H7 S7 t7 hh7 (p1ok _ _ _ p7) hjt, fun H' => ∃ acc1 S', Tk H6 H' ∧ HRep K H' S' ∧ P1 (j + 1) acc1 S', fun H' z => ⟨ws1.length - (j + 1), by omega, rfl, hjt, z⟩, fun x1 H8 y1 => ?_⟩
        obtain ⟨t8, hh8, w1, e1, r1⟩ := src1.yld j H7 S7 x1 H8 t7 hh7 (p1ok _ _ _ p7) hjt y1
        refine gg1.l x1 σ4 H8 _ ?_
        have hs8 : SRep K B H8 (wipe σ4 vs1) (wipeW ρ4 vs1) := srep_wipe (hs4.tk (((t5.trans t6).trans t7).trans t8)) vs1
        refine b1.l x1 w1 (wipe σ4 vs1) H8 (wipeW ρ4 vs1) S7 _ _ r1 hs8 hh8 (p1st j w1 acc1 S7 e1 p7) fun σ9 H9 ρ9 S9 t9 hs9 hh9 q9 => ?_
        refine c1.l σ9 H9 ρ9 S9 _ _ hs9 hh9 q9 fun b2 H10 S10 t10 hh10 q10 => ?_
        have t710 := ((t7.trans t8).trans t9).trans t10
        cases b2 with
        | false =>
          rw [if_neg Bool.false_ne_true]
          exact ⟨acc1, S10, t710, hh10, q10.2 rfl⟩
        | true =>
          rw [if_pos rfl]
          refine a.l σ9 H10 ρ9 S10 _ _ (hs9.tk t10) hh10 (q10.1 rfl) fun z H11 wz S11 t11 hh11 r11 ⟨eD, hl, q11⟩ => ?_
          obtain ⟨vs', k1, k2⟩ := hh11 _ _ eD
          have t : Tk H11 (upd H11 D (.lst (vs' ++ [z]))) := Tk.mut k1 (fun _ z => (by cases z)) (fun _ _ z => (by cases z))
          obtain ⟨t, hm⟩ := hh11.mut (c' := .lst (acc1 ++ [wz])) (o := .lst (vs' ++ [z])) eD ⟨_, upd_same, (RepL.tk t _ _ k2).append (.one (Rep.tk t _ _ r11))⟩
          exact ⟨vs', k1, by rw [k2.length]; exact hl, _, _, (t710.trans t11).trans t, hm, q11⟩
      · have e : j = ws1.length := by omega
        subst e
        exact .inl ⟨src1.stop _ H7 S7 t7 hh7 (p1ok _ _ _ p7) (Nat.le_refl _), acc1, S7, (t15.trans t6).trans t7, hh7, p1end _ _ p7⟩
  · have e : i = ws.length := by omega
    subst e
    exact .inl ⟨src.stop _ H2 S2 t2 hh2 (pok _ _ _ p2) (Nat.le_refl _), po.ref (t1.trans t2) hh2 (pend _ _ p2)⟩⟩
theorem lc2_q {g : TGW} {tt : TTW} {wi1 : TIW} {g1 : TGW} {tt1 : TTW} {te : TEW} {vs vs1 : List Nat} {ρ : StW} {Q : WK} {ws : List W} {ok : Sto → Prop} {S1 : Sto} (h : ∀ D, S1 D = none → ∃ P : Nat → List W → Sto → Prop, P 0 [] (put S1 D (.lst [])) ∧
  (∀ i acc S', P i acc S' → ok S') ∧
  (∀ i w acc S', ws[i]? = some w → P i acc S' → g w (wipeW ρ vs) S' fun ρ2 S2 => tt ρ2 S2 fun b S3 => (b = true → wi1 ρ2 S3 fun ws1 ok1 S4 => ∃ P1 : Nat → List W → Sto → Prop, P1 0 acc S4 ∧
    (∀ j acc1 S', P1 j acc1 S' → ok1 S') ∧
    (∀ j w1 acc1 S', ws1[j]? = some w1 → P1 j acc1 S' → g1 w1 (wipeW ρ2 vs1) S' fun ρ3 S5 => tt1 ρ3 S5 fun b1 S6 =>
      (b1 = true → te ρ3 S6 fun y S7 => S7 D = some (.lst acc1) ∧ acc1.length < sizeLine ∧ P1 (j + 1) (acc1 ++ [y]) (put S7 D (.lst (acc1 ++ [y])))) ∧ (b1 = false → P1 (j + 1) acc1 S6)) ∧
    ∀ acc1 S', P1 ws1.length acc1 S' → P (i + 1) acc1 S') ∧ (b = false → P (i + 1) acc S3)) ∧
  ∀ acc S', P ws.length acc S' → Q (.ref D) S') : Lc2Q g tt wi1 g1 tt1 te vs vs1 ρ Q ws ok S1 := by unfold Lc2Q; exact h
end Wl
set_option Elab.async false
set_option linter.all false
set_option maxRecDepth 100000
set_option maxHeartbeats 2000000
/-! dict(d), list(d) over data. -/
namespace Wl
open PySem PySem.Spec PyProof.Rows L2
variable {K : PySem.W.Frag} {B : Hp} {w : World}
/-- a written dict of the module, in its order -/
structure DcAt (K : PySem.W.Frag) (w : World) (a : Addr) (kvs : List (Str × W)) : Prop where
  ex : ∃ es n, KDict K w a es n ∧ DkEs K kvs es.toList
  nd : (kvs.map (·.1)).Nodup
  sz : kvs.length ≤ sizeLine
theorem dcAt_of {a : Addr} {kvs : List (Str × W)} {es : Array DictEntry} {n : Nat} (hl : K.lookup a = some ⟨.type "dict", none, .dict es n, #[]⟩) (hk : PySem.W.KeysLit w.params es.toList) (low : (a == sysModules) = false) (h : DkEs K kvs es.toList) (nd : (kvs.map (·.1)).Nodup) (sz : kvs.length ≤ sizeLine) : DcAt K w a kvs :=
  ⟨⟨es, n, ⟨hl, hk, low⟩, h⟩, nd, sz⟩
def skW (kvs : List (Str × W)) : List (Key × W) := kvs.map fun kv => (.inr kv.1, kv.2)
/-- a dict of the module whose entries are told by xs -/
structure CpAt (K : PySem.W.Frag) (w : World) (a : Addr) (xs : List (Key × V)) : Prop where
  low : (a == sysModules) = false
  sz : xs.length ≤ sizeLine
  at_ : ∀ (P : Program) (h : Heap), K.In h → ∃ vs, KV xs vs ∧ h.DictOf (mixKind P w) a vs
theorem DkEs.told {kvs : List (Str × W)} {es : List DictEntry} (h : DkEs K kvs es) : ∃ (xs : List (Key × V)) (vs : List (Key × Value)), KV xs vs ∧ (∀ P : Program, Pairs (mixKind P w) es vs) ∧ xs.length = kvs.length ∧ vs.map (·.1) = kvs.map (fun kv => (Sum.inr kv.1 : Key)) ∧ ∀ H, RepKV K H (skW kvs) xs := by
  induction h with
  | nil => exact ⟨[], [], .nil, fun _ => .nil, rfl, rfl, fun _ => rfl⟩
  | @cons k wd t hh u kvs es e h1 h2 h3 h4 h5 ih =>
    obtain ⟨xs, vs, r1, r2, r3, r4, r5⟩ := ih
    obtain ⟨v, hv, rv⟩ := h4
    refine ⟨(.inr k, v) :: xs, (.inr k, u) :: vs, .cons ⟨rfl, hv⟩ r1, fun P => .cons ?_ h2 (r2 P), by rw [List.length_cons, r3, List.length_cons], by rw [List.map_cons, r4]; rfl, fun H => ⟨v, xs, rfl, rv H, r5 H⟩⟩
    rw [h1]
    show Value.isStrOf k (.str k t) = true
    exact decide_eq_true rfl
theorem DcAt.cp {a : Addr} {kvs : List (Str × W)} (d : DcAt K w a kvs) : ∃ xs : List (Key × V), CpAt K w a xs ∧ ∀ H, RepKV K H (skW kvs) xs := by
  obtain ⟨es, n, D, E⟩ := d.ex
  obtain ⟨xs, vs, r1, r2, r3, r4, r5⟩ := E.told (w := w)
  refine ⟨xs, ⟨D.low, by rw [r3]; exact d.sz, fun P h hK => ⟨vs, r1, _, es, n, hK _ _ D.at_, ⟨rfl, rfl, rfl⟩, rfl, fun e he => ?_, r2 P, ?_⟩⟩, r5⟩
  · obtain ⟨x, t, e1, e2⟩ := D.lit.all e (Array.mem_toList_iff.mpr he)
    refine ⟨.inr x, ?_, e2⟩
    rw [e1]
    show Value.isStrOf x (.str x t) = true
    exact decide_eq_true rfl
  · rw [r4]
    have e : kvs.map (fun kv => (Sum.inr kv.1 : Key)) = (kvs.map (·.1)).map Sum.inr := by rw [List.map_map]; rfl
    rw [e]
    exact d.nd.map _ fun a b h q => h (Sum.inr.inj q)
def rDictA (K : PySem.W.Frag) (w : World) : List V → Hp → VK → Prop := fun xs H Q => ∃ (a : Addr) (kvs : List (Key × V)), xs = [.ref a] ∧ (Rd H a (.dK kvs) ∨ CpAt K w a kvs) ∧ ∀ p, H p = none → Q (.ref p) (upd H p (.dK kvs))
theorem k_dictA (K : PySem.W.Frag) (w : World) {X : Cx} (hK : X.K = K := by rfl) (hw : X.w = w := by rfl) : CallR X (.type "dict") (rDictA K w) := by
  subst hK hw
  intro pins s σ H vs us Q I r h
  obtain ⟨a, kvs, rfl, hd, q⟩ := h
  rw [Vals.ref1 r]
  rcases hd with hd | hd
  · exact d_copyOf I hd fun p s' hp I' => ⟨.ref p, _, I', rfl, q p hp⟩
  · obtain ⟨vs, rel, dd⟩ := hd.at_ X.prog s.heap I.kIn
    refine kt_call_dict hd.low dd (by rw [← rel.length]; exact hd.sz) fun g dd' hs => ⟨.ref s.heap.objs.size, _, I.laid (a := s.heap.objs.size) (o := .dK kvs) (t' := s.toks) (fun b z hz => (hs.2 b (Nat.ne_of_lt (Heap.lt_size hz))).trans (Heap.get?_push_of_some _ hz)) (Nat.le_refl _) (dk_new hd.sz (beq_eq_false_iff_ne.mpr (Ne.symm (Nat.ne_of_lt I.big))) rel dd'), rfl, q _ (I.hok.fresh (Nat.le_refl _))⟩
def wDictA (K : PySem.W.Frag) (w : World) : RWC := fun ws S Q => match ws with
  | [.ref a] => (∃ kvs, S a = some (.dk kvs) ∧ ∀ p, S p = none → Q (.ref p) (put S p (.dk kvs))) ∨ ∃ ks, DcAt K w a ks ∧ ∀ p, S p = none → Q (.ref p) (put S p (.dk (skW ks)))
  | _ => False
instance lc_dictA : LCR K (rDictA K w) (wDictA K w) := ⟨fun H S xs ws Q Qw hh r q po => by
  unfold wDictA at q
  split at q
  · obtain ⟨x, rfl, rx⟩ := rep1 r
    cases (show x = _ from rx)
    rcases q with ⟨kvs, e, q⟩ | ⟨ks, d, q⟩
    · obtain ⟨ys, h1, h2⟩ := hh _ _ e
      exact ⟨_, ys, rfl, .inl (Rd.of h1), fun p hp => po.ref (Tk.new hp) (hh.new (c := .dk kvs) hp ⟨ys, upd_same, RepKV.tk (Tk.new hp) _ _ h2⟩) (q p (hh.fresh hp))⟩
    · obtain ⟨ys, c, h2⟩ := d.cp
      exact ⟨_, ys, rfl, .inr c, fun p hp => po.ref (Tk.new hp) (hh.new (c := .dk (skW ks)) hp ⟨ys, upd_same, h2 _⟩) (q p (hh.fresh hp))⟩
  · exact q.elim⟩
/-! ### list(d) -/
def rListB (K : PySem.W.Frag) : List V → Hp → VK → Prop := fun xs H Q => rListA K xs H Q ∨ ∃ p kvs, xs = [.ref p] ∧ H p = some (.dK kvs) ∧ ∀ q, H q = none → Q (.ref q) (upd H q (.lst (kvs.map fun kv => kV kv.1)))
theorem k_listB (K : PySem.W.Frag) {X : Cx} (hc : X.calm = true) (hK : X.K = K := by rfl) : CallR X (.type "list") (rListB K) := by
  subst hK
  intro pins s σ H vs us Q I r h
  rcases h with h | h
  · exact call_list_of pins s σ H vs us Q I r h
  · exact call_list_dK hc pins s σ H vs us Q I r h
def wListB : RWC := fun ws S Q => match ws with
  | [.ref a] => (∃ ws, S a = some (.lst ws) ∧ ∀ p, S p = none → Q (.ref p) (put S p (.lst ws))) ∨ ∃ kvs, S a = some (.dk kvs) ∧ ∀ p, S p = none → Q (.ref p) (put S p (.lst (kvs.map fun kv => keyW kv.1)))
  | ws => wList ws S Q
theorem keys_rep {H : Hp} : ∀ {kvs : List (Key × W)} {ys : List (Key × V)}, RepKV K H kvs ys → RepL K H (kvs.map fun kv => keyW kv.1) (ys.map fun kv => kV kv.1)
  | [], _, rfl => .nil
  | (.inl k, x) :: kvs, _, ⟨v, r, rfl, _, h⟩ => .cons rfl (keys_rep h)
  | (.inr k, x) :: kvs, _, ⟨v, r, rfl, _, h⟩ => .cons rfl (keys_rep h)
instance lc_listB : LCR K (rListB K) wListB := ⟨fun H S xs ws Q Qw hh r q po => by
  unfold wListB at q
  split at q
  · rcases q with q | ⟨kvs, e, q⟩
    · exact .inl (lc_list.l H S xs _ Q Qw hh r (by unfold wList; exact q) po)
    · obtain ⟨x, rfl, rx⟩ := rep1 r
      cases (show x = _ from rx)
      obtain ⟨ys, h1, h2⟩ := hh _ _ e
      exact .inr ⟨_, ys, rfl, h1, fun p hp => po.nlst hp hh (keys_rep h2) q⟩
  · exact .inl (lc_list.l H S xs _ Q Qw hh r q po)⟩
end Wl
set_option Elab.async false
set_option linter.all false
set_option maxRecDepth 100000
set_option maxHeartbeats 2000000
/-! try: .. except C as e: .. over data; isinstance of the error that the suite holds. -/
namespace Wl
open PySem PySem.Spec PyProof.Rows L2
variable {K : PySem.W.Frag} {B : Hp}
theorem SRep.gone {H : Hp} {σ : L2.St} {ρ : StW} (h : SRep K B H σ ρ) (i : Nat) : SRep K B H (σ.set i none) (ρ.set i none) := ⟨h.bs, by rw [List.length_set, List.length_set, h.len], fun j z e => by
  by_cases q : i = j
  · subst q
    by_cases hl : i < ρ.length
    · rw [List.getElem?_set_self hl] at e
      cases e
    · rw [List.getElem?_eq_none (by rw [List.length_set]; omega)] at e
      cases e
  · rw [List.getElem?_set_ne q] at e ⊢
    exact h.at_ j z e⟩
/-- behind the suite the name of the error is gone -/
abbrev goneD (i : Nat) (D : Ends) : Ends := { nx := fun σ' H' => D.nx (σ'.set i none) H', rt := D.rt, bk := fun σ' H' => D.bk (σ'.set i none) H', ct := fun σ' H' => D.ct (σ'.set i none) H' }
abbrev goneW (i : Nat) (D : EndsW) : EndsW := { nx := fun σ' H' => D.nx (σ'.set i none) H', rt := D.rt, bk := fun σ' H' => D.bk (σ'.set i none) H', ct := fun σ' H' => D.ct (σ'.set i none) H' }
theorem PoD.gone {H : Hp} {D : Ends} {Dw : EndsW} (h : PoD K B H D Dw) (i : Nat) : PoD K B H (goneD i D) (goneW i Dw) :=
  ⟨fun σ' H' ρ' S' t hs => h.nx _ H' _ S' t (hs.gone i), fun σ' H' ρ' S' t hs => h.bk _ H' _ S' t (hs.gone i), fun σ' H' ρ' S' t hs => h.ct _ H' _ S' t (hs.gone i), h.rt⟩
def tTryAs (K : PySem.W.Frag) (c : Value) (i : Nat) (tb : WX → TS) (ts : Addr → Value → Option Addr → TS) (Wout : WX) (tbw : XW → TSW) (_ : HbW K tb tbw) : TS := fun D σ H => tWeak tb (wAs K c i ts Wout D) D σ H
def wTryAs (K : PySem.W.Frag) (c : Value) (i : Nat) (tb : XW → TSW) (ts : Addr → Value → Option Addr → TSW) (Xout : XW) : TSW := fun D ρ S =>
  tb (fun ex ρ' S' => ∃ b, PySem.W.exmOne K ex.cls c = some b ∧ (b = true → ∀ a d, S' a = none → (ex.fs = [] → d = none) → ts a ex.cls d (goneW i D) (ρ'.set i (some (.ref a))) S') ∧ (b = false → Xout ex ρ' S')) D ρ S
instance ls_tryAs {c : Value} {i : Nat} {tb : WX → TS} {ts : Addr → Value → Option Addr → TS} {Wout : WX} {tbw : XW → TSW} {hb : HbW K tb tbw} {tsw : Addr → Value → Option Addr → TSW} {Xout : XW} [px : PX K B Wout Xout]
    [hsu : ∀ a cls d, LS K B (ts a cls d) (tsw a cls d)] : LS K B (tTryAs K c i tb ts Wout tbw hb) (wTryAs K c i tbw tsw Xout) := ⟨fun σ H ρ S D Dw hs hh q po => by
  refine ⟨Wc K H (fun ex ρ' S' => ∃ b, PySem.W.exmOne K ex.cls c = some b ∧ (b = true → ∀ a d, S' a = none → (ex.fs = [] → d = none) → tsw a ex.cls d (goneW i Dw) (ρ'.set i (some (.ref a))) S') ∧ (b = false → Xout ex ρ' S')), ?_, ?_⟩
  · rintro cls d σ' H' ⟨ex, ρ', S', hs', hh', r, b, e1, e2, e3⟩
    have rc := r.1
    have rd := r.2
    refine ⟨b, by rw [rc]; exact e1, fun hbt a ha => ?_, fun hbf => px.l cls d σ' H' ex ρ' S' (hs'.rebase hs.bs) hh' r (e3 hbf)⟩
    have hna : S' a = none := by
      cases q : S' a with
      | none => rfl
      | some c0 =>
        have z := hh' a c0 q
        cases c0 with
        | lst ys => obtain ⟨x, z, _⟩ := z; rw [ha] at z; cases z
        | dk ys => obtain ⟨x, z, _⟩ := z; rw [ha] at z; cases z
        | ins C0 fs0 => obtain ⟨x, gs, z, _⟩ := z; rw [ha] at z; cases z
    have hdn : ex.fs = [] → d = none := by
      rcases rd with ⟨h1, _⟩ | ⟨h1, _⟩
      · exact fun _ => h1
      · exact fun z => absurd z h1
    rw [rc]
    exact (hsu a ex.cls d).l (σ'.set i (some (.ref a))) H' (ρ'.set i (some (.ref a))) S' (goneD i D) (goneW i Dw) ((hs'.rebase hs.bs).set i rfl) hh' (e2 hbt a d hna hdn) ((po.tk hs'.bs).gone i)
  · exact (hb H _).l σ H ρ S D Dw hs.top hh q (po.rebase hs.bs)⟩
theorem ps_tryAs (K : PySem.W.Frag) {X : Cx} {x n : Str} {c : Value} {i : Nat} {body suite : List Stmt} {b₀ : Stmt} {np pos pos' : Pos} {tb : WX → TS} {ts : Addr → Value → Option Addr → TS} {Wout : WX} {tbw : XW → TSW} (hs : X.stack = X.env :: X.outer) (hf : X.env.frame = some X.env.locals)
    (hN : X.N.Nodup) (hi : X.N[i]? = some n) (hln : X.env.kindOf n = some .local) (hc : Names X x c) (tk : Takes X Wout)
    (hb : ∀ (W : WX) (pn : List (Addr × Obj)) (xe : Value → Shared → Prop), Takes (X.tr pn xe) W → PassesOwn (model X.prog X.w) X.A X.env xe → PSs (X.tr pn xe) body (tb W))
    (hsu : ∀ (a : Addr) (oe : Obj) (cls : Value) (d : Option Addr) (pn : List (Addr × Obj)), Zc cls d oe → (∃ vs, oe.data = .fields vs) → PSs (X.suite a ((a, oe) :: pn)) (b₀ :: suite) (ts a cls d)) (hbw : HbW K tb tbw) (hK : X.K = K := by rfl) :
    PS X (.Try body [.ExceptHandler (some (.Name x np)) (some n) (b₀ :: suite) pos'] [] [] pos) (tTryAs K c i tb ts Wout tbw hbw) := by
  subst hK
  exact ps_try_as (tb := tWeak tb) hs hf hN hi hln hc tk (fun W pn xe tkb pob => pss_weak tkb fun W' tk' => hb W' pn xe tk' pob) hsu

/-! ### isinstance(e, C), isinstance(e, (C, ..)) -/
def rIsEW (K : PySem.W.Frag) (cls : Value) (d : Option Addr) (a : Addr) : List V → Hp → VK → Prop := fun xs H Q => ∃ (D : Addr) (c : V) (b : Bool), cls = .ref D ∧ d = none ∧ ExcC K D ∧ xs = [.ref a, c] ∧
  ((∃ cv, ClsV c cv ∧ PySem.W.kitOne K (.ref D) cv = some b) ∨ (∃ tp cs us, c = .ref tp ∧ SqT K H tp cs ∧ Paired ClsV cs us ∧ PySem.W.kitAny K (.ref D) us = some b)) ∧ Q (.bl b) H
theorem k_isE (K : PySem.W.Frag) {X : Cx} {a : Addr} {oe : Obj} {cls : Value} {d : Option Addr} {pn : List (Addr × Obj)} (hz : Zc cls d oe) (hf : ∃ vs, oe.data = .fields vs) (hK : X.K = K := by rfl) : CallR (X.suite a ((a, oe) :: pn)) (.builtin "isinstance") (rIsEW K cls d a) := by
  subst hK
  intro pins s σ H xs us Q I r h
  obtain ⟨D, c, b, rfl, rfl, C, rfl, h, q⟩ := h
  cases r with
  | cons rx rr =>
    cases rr with
    | cons rt rr =>
      cases rr
      cases rx
      obtain ⟨hget, _⟩ := I.pin (a, oe) (List.mem_append.mpr (.inl List.mem_cons_self))
      obtain ⟨vs, hv⟩ := hf
      have J : PySem.W.InstAt s.heap a oe D none := by
        obtain ⟨oc, od, oda, osl⟩ := oe
        obtain ⟨h1, h2⟩ := hz
        dsimp only at h1 h2 hv
        subst h1 h2 hv
        exact ⟨hget, rfl, rfl, trivial⟩
      have Z := PySem.W.handS_kitx_exc (x := a) (ox := oe) C.hg C.hk C.hs C.hd C.ha C.hn C.ht C.hm
      rcases h with ⟨cv, k, e⟩ | ⟨tp, cs, ws, rfl, hT, k, e⟩
      · have ec := k.eq rt
        subst ec
        exact PySem.W.kia_one Z I.kIn J e (fun z => nomatch z) fun tk => ⟨.bl b, H, I.kept (t' := tk) fun _ _ z => z, rfl, q⟩
      · cases (show _ = Value.ref tp from rt)
        obtain ⟨its, rv, ⟨o, h1, h2, n, h3⟩, _⟩ := I.tuple hT
        have e3 := ClsV.all k rv
        subst e3
        obtain ⟨oc, od, dt, sl⟩ := o
        simp only at h2 h3
        subst h2 h3
        exact PySem.W.kia_tup Z I.kIn J h1 e (fun z => nomatch z) fun tk => ⟨.bl b, H, I.kept (t' := tk) fun _ _ z => z, rfl, q⟩
/-- a class as data -/
def clsW : W → Option Value
  | .ref C => some (.ref C)
  | .ty n => some (.type n)
  | _ => none
def clsWs : List W → Option (List Value)
  | [] => some []
  | x :: xs => match clsW x, clsWs xs with
    | some u, some us => some (u :: us)
    | _, _ => none
theorem clsW_rep {H : Hp} {x : W} {v : V} {u : Value} (r : Rep K H x v) (e : clsW x = some u) : ClsV v u := by
  cases x <;> first | cases e | skip
  · cases (show v = _ from r); exact .ty _
  · cases (show v = _ from r); exact .own _
theorem clsWs_rep {H : Hp} : ∀ {xs : List W} {vs : List V} {us : List Value}, RepL K H xs vs → clsWs xs = some us → Paired ClsV vs us
  | [], _, _, r, e => by
    cases (show _ = [] from r); cases e; exact .nil
  | x :: xs, _, _, r, e => by
    obtain ⟨v, vs, rfl, h1, h2⟩ := r
    unfold clsWs at e
    split at e
    · rename_i u us e1 e2
      cases e
      exact .cons (clsW_rep h1 e1) (clsWs_rep h2 e2)
    · cases e
def wIsE (K : PySem.W.Frag) (cls : Value) (d : Option Addr) (a : Addr) : RWC := fun ws S Q => match ws with
  | [.ref a', .tup cs] => a' = a ∧ d = none ∧ ∃ D us b, cls = .ref D ∧ ExcC K D ∧ clsWs cs = some us ∧ PySem.W.kitAny K (.ref D) us = some b ∧ Q (.bl b) S
  | [.ref a', c] => a' = a ∧ d = none ∧ ∃ D u b, cls = .ref D ∧ ExcC K D ∧ clsW c = some u ∧ PySem.W.kitOne K (.ref D) u = some b ∧ Q (.bl b) S
  | _ => False
instance lc_isE {cls : Value} {d : Option Addr} {a : Addr} : LCR K (rIsEW K cls d a) (wIsE K cls d a) := ⟨fun H S xs ws Q Qw hh r q po => by
  unfold wIsE at q
  split at q
  · obtain ⟨x, y, rfl, h1, h2⟩ := rep2 r
    cases (show x = _ from h1)
    obtain ⟨p, vs, rfl, h3, h4⟩ := h2
    obtain ⟨rfl, rfl, D, us, b, rfl, C, e1, e2, q⟩ := q
    exact ⟨D, _, b, rfl, rfl, C, rfl, .inr ⟨p, vs, us, rfl, h3, clsWs_rep h4 e1, e2⟩, po.bl (Tk.refl H) hh q⟩
  · obtain ⟨x, y, rfl, h1, h2⟩ := rep2 r
    cases (show x = _ from h1)
    obtain ⟨rfl, rfl, D, u, b, rfl, C, e1, e2, q⟩ := q
    exact ⟨D, _, b, rfl, rfl, C, rfl, .inl ⟨u, clsW_rep h2 e1, e2⟩, po.bl (Tk.refl H) hh q⟩
  · exact q.elim⟩
end Wl
set_option Elab.async false
set_option linter.all false
set_option maxRecDepth 100000
set_option maxHeartbeats 2000000
/-! chains of three, try with several clauses, a call of a local that holds a def that may raise. -/
namespace Wl
open PySem PySem.Spec PyProof.Rows L2
variable {K : PySem.W.Frag} {B : Hp}
/-! ### a o1 b o2 c o3 d -/
def tChain3 (r1 r2 r3 : R2) (ta tb tc td : TE) : TE := fun σ H Q => ta σ H fun x H1 => tb σ H1 fun y H2 => r1 x y H2 fun z H3 => ∃ k, z = .bl k ∧
  (if k = true then tc σ H3 fun w H4 => r2 y w H4 fun z2 H5 => ∃ k2, z2 = .bl k2 ∧ (if k2 = true then td σ H5 fun u H6 => r3 w u H6 Q else Q (.bl false) H5) else Q (.bl false) H3)
theorem pe_chain3 {X : Cx} {a b c d : Expr} {ta tb tc td : TE} {pos : Pos} {o1 o2 o3 : CmpOp} {r1 r2 r3 : R2} (h1 : OpR X (compareOp o1) r1) (h2 : OpR X (compareOp o2) r2) (h3 : OpR X (compareOp o3) r3) (ha : PE X a ta) (hb : PE X b tb) (hc : PE X c tc) (hd : PE X d td)
    (hm : lastMarks [o1, o2, o3] [b, c, d] = false := by with_unfolding_all rfl) : PE X (.Compare a [o1, o2, o3] [b, c, d] pos) (tChain3 r1 r2 r3 ta tb tc td) := by
  refine ⟨fun pins s σ H Q I h => ?_⟩
  refine Compare_chain (thn (ha.run pins s σ H _ I h) fun v s1 ⟨x, H1, I1, e1, q1⟩ => chain_link (thn (hb.run pins s1 σ H1 _ I1 q1) fun u s2 ⟨y, H2, I2, e2, q2⟩ =>
    thn (h1 pins s2 σ H2 x y v u _ I2 e1 e2 q2) fun d s3 ⟨z, H3, I3, e3, k, e, q3⟩ => ?_)) hm
  subst e
  cases e3
  refine wpAny_truthy_bool ?_
  cases k with
  | false => exact ite_ff ⟨.bl false, H3, I3, rfl, q3⟩
  | true =>
    refine ite_tt (chain_link (thn (hc.run pins s3 σ H3 _ I3 q3) fun u' s4 ⟨w', H4, I4, e4, q4⟩ => thn (h2 pins s4 σ H4 y w' u u' _ I4 e2 e4 q4) fun d' s5 ⟨z2, H5, I5, e5, k2, e', q5⟩ => ?_))
    subst e'
    cases e5
    refine wpAny_truthy_bool ?_
    cases k2 with
    | false => exact ite_ff ⟨.bl false, H5, I5, rfl, q5⟩
    | true => exact ite_tt (chain_last (thn (hd.run pins s5 σ H5 _ I5 q5) fun u2 s6 ⟨z', H6, I6, e6, q6⟩ => h3 pins s6 σ H6 w' z' u' u2 Q I6 e4 e6 q6))
theorem pt_chain3 {X : Cx} {a b c d : Expr} {ta tb tc td : TE} {pos : Pos} {o1 o2 o3 : CmpOp} {r1 r2 r3 : R2} (h1 : OpR X (compareOp o1) r1) (h2 : OpR X (compareOp o2) r2) (h3 : OpR X (compareOp o3) r3) (ha : PE X a ta) (hb : PE X b tb) (hc : PE X c tc) (hd : PE X d td)
    (hm : lastMarks [o1, o2, o3] [b, c, d] = false := by with_unfolding_all rfl) : PT X (.Compare a [o1, o2, o3] [b, c, d] pos) (tTest (tChain3 r1 r2 r3 ta tb tc td)) := by
  refine ⟨fun pins s σ H Q I h => ?_⟩
  refine isTrue_chain (thn (ha.run pins s σ H _ I h) fun v s1 ⟨x, H1, I1, e1, q1⟩ => test_link (thn (hb.run pins s1 σ H1 _ I1 q1) fun u s2 ⟨y, H2, I2, e2, q2⟩ =>
    thn (h1 pins s2 σ H2 x y v u _ I2 e1 e2 q2) fun d s3 ⟨z, H3, I3, e3, k, e, q3⟩ => ?_)) hm
  subst e
  cases e3
  refine wpAny_truthy_bool ?_
  cases k with
  | false =>
    obtain ⟨k', e', q'⟩ := q3
    cases e'
    exact ite_ff ⟨H3, I3, q'⟩
  | true =>
    refine ite_tt (test_link (thn (hc.run pins s3 σ H3 _ I3 q3) fun u' s4 ⟨w', H4, I4, e4, q4⟩ => thn (h2 pins s4 σ H4 y w' u u' _ I4 e2 e4 q4) fun d' s5 ⟨z2, H5, I5, e5, k2, e', q5⟩ => ?_))
    subst e'
    cases e5
    refine wpAny_truthy_bool ?_
    cases k2 with
    | false =>
      obtain ⟨k', e', q'⟩ := q5
      cases e'
      exact ite_ff ⟨H5, I5, q'⟩
    | true =>
      refine ite_tt (test_last (thn (hd.run pins s5 σ H5 _ I5 q5) fun u2 s6 ⟨z', H6, I6, e6, q6⟩ => thn (h3 pins s6 σ H6 w' z' u' u2 _ I6 e4 e6 q6) fun d' s7 ⟨z7, H7, I7, r7, k7, e7, q7⟩ => ?_))
      subst e7
      cases r7
      exact wpAny_truthy_bool ⟨H7, I7, q7⟩
def wChain3 (r1 r2 r3 : RW2) (ta tb tc td : TEW) : TEW := fun ρ S Q => ta ρ S fun x S1 => tb ρ S1 fun y S2 => r1 x y S2 fun z S3 => match z with
  | .bl k => (k = true → tc ρ S3 fun w S4 => r2 y w S4 fun z2 S5 => match z2 with
    | .bl k2 => (k2 = true → td ρ S5 fun u S6 => r3 w u S6 Q) ∧ (k2 = false → Q (.bl false) S5)
    | _ => False) ∧ (k = false → Q (.bl false) S3)
  | _ => False
instance le_chain3 {r1 r2 r3 : R2} {ta tb tc td : TE} {rw1 rw2 rw3 : RW2} {wa wb wc wd : TEW} [h1 : L2R K r1 rw1] [h2 : L2R K r2 rw2] [h3 : L2R K r3 rw3] [a : LE K B ta wa] [b : LE K B tb wb] [c : LE K B tc wc] [d : LE K B td wd] : LE K B (tChain3 r1 r2 r3 ta tb tc td) (wChain3 rw1 rw2 rw3 wa wb wc wd) := ⟨fun σ H ρ S Q Qw hs hh q po =>
  a.l σ H ρ S _ _ hs hh q fun x H1 wx S1 t1 hh1 e1 q1 => b.l σ H1 ρ S1 _ _ (hs.tk t1) hh1 q1 fun y H2 wy S2 t2 hh2 e2 q2 =>
    h1.l H2 S2 x y wx wy _ _ hh2 (Rep.tk t2 _ _ e1) e2 q2 fun z H3 wz S3 t3 hh3 e3 q3 => by
      cases wz <;> try exact q3.elim
      rename_i k
      cases (show z = _ from e3)
      refine ⟨k, rfl, ?_⟩
      have t03 := (t1.trans t2).trans t3
      cases k with
      | true =>
        rw [if_pos rfl]
        refine c.l σ H3 ρ S3 _ _ (hs.tk t03) hh3 (q3.1 rfl) fun w H4 ww S4 t4 hh4 e4 q4 => h2.l H4 S4 y w wy ww _ _ hh4 (Rep.tk (t3.trans t4) _ _ e2) e4 q4 fun z2 H5 wz2 S5 t5 hh5 e5 q5 => ?_
        cases wz2 <;> try exact q5.elim
        rename_i k2
        cases (show z2 = _ from e5)
        refine ⟨k2, rfl, ?_⟩
        have t05 := (t03.trans t4).trans t5
        cases k2 with
        | true =>
          rw [if_pos rfl]
          exact d.l σ H5 ρ S5 _ _ (hs.tk t05) hh5 (q5.1 rfl) fun u H6 wu S6 t6 hh6 e6 q6 => h3.l H6 S6 w u ww wu Q Qw hh6 (Rep.tk (t5.trans t6) _ _ e4) e6 q6 (po.tk (t05.trans t6))
        | false =>
          rw [if_neg Bool.false_ne_true]
          exact po.bl t05 hh5 (q5.2 rfl)
      | false =>
        rw [if_neg Bool.false_ne_true]
        exact po.bl t03 hh3 (q3.2 rfl)⟩

/-! ### try: .. except C1: .. except C2: .. -/
abbrev HsL := List (Value × (Addr → Value → Option Addr → TS))
abbrev HsW := List (Value × TSW)
class LHs (K : PySem.W.Frag) (l : HsL) (lw : outParam HsW) : Prop where
  l : ∀ {B : Hp} {Wout : WX} {Xout : XW} {D : Ends} {Dw : EndsW} {cls : Value} {d : Option Addr} {σ : L2.St} {H H0 : Hp} {ex : Ex} {ρ : StW} {S : Sto}, PX K B Wout Xout → PoD K B H0 D Dw → Tk H0 H → SRep K B H σ ρ → HRep K H S → RepX K H ex cls d →
    (lw.foldr (fun (h : Value × TSW) (X : XW) => (fun ex ρ S => ∃ b, PySem.W.exmOne K ex.cls h.1 = some b ∧ (b = true → h.2 Dw ρ S) ∧ (b = false → X ex ρ S) : XW)) Xout) ex ρ S → wMany K Wout D l cls d σ H
instance lhs_nil : LHs K [] [] := ⟨fun px po t hs hh r q => px.l _ _ _ _ _ _ _ hs hh r q⟩
instance lhs_cons {c : Value} {ts : Addr → Value → Option Addr → TS} {l : HsL} {tsw : TSW} {lw : HsW} [hsu : ∀ (B : Hp) a cls d, LS K B (ts a cls d) tsw] [r : LHs K l lw] : LHs K ((c, ts) :: l) ((c, tsw) :: lw) :=
  ⟨fun {B Wout Xout D Dw cls d σ H H0 ex ρ S} px po t hs hh rx q => by
    obtain ⟨b, e1, e2, e3⟩ := q
    refine ⟨b, by rw [rx.1]; exact e1, fun hb a ha => (hsu B a cls d).l σ H ρ S D Dw hs hh (e2 hb) (po.tk t), fun hb => r.l px po t hs hh rx (e3 hb)⟩⟩
def tTryM (K : PySem.W.Frag) (l : HsL) (tb : WX → TS) (Wout : WX) (tbw : XW → TSW) (_ : HbW K tb tbw) : TS := fun D σ H => tWeak tb (wMany K Wout D l) D σ H
def wTryM (K : PySem.W.Frag) (lw : HsW) (tb : XW → TSW) (Xout : XW) : TSW := fun D ρ S =>
  tb (lw.foldr (fun (h : Value × TSW) (X : XW) => (fun ex ρ S => ∃ b, PySem.W.exmOne K ex.cls h.1 = some b ∧ (b = true → h.2 D ρ S) ∧ (b = false → X ex ρ S) : XW)) Xout) D ρ S
instance ls_tryM {l : HsL} {lw : HsW} {tb : WX → TS} {Wout : WX} {tbw : XW → TSW} {hb : HbW K tb tbw} {Xout : XW} [px : PX K B Wout Xout] [hl : LHs K l lw] : LS K B (tTryM K l tb Wout tbw hb) (wTryM K lw tbw Xout) := ⟨fun σ H ρ S D Dw hs hh q po => by
  refine ⟨Wc K H _, ?_, (hb H _).l σ H ρ S D Dw hs.top hh q (po.rebase hs.bs)⟩
  rintro cls d σ' H' ⟨ex, ρ', S', hs', hh', r, q'⟩
  exact hl.l px po hs'.bs (hs'.rebase hs.bs) hh' r q'⟩
theorem ps_tryM (K : PySem.W.Frag) {X : Cx} {body : List Stmt} {h₀ : ExceptHandler} {hds : List ExceptHandler} {l : HsL} {pos : Pos} {tb : WX → TS} {Wout : WX} {tbw : XW → TSW} (hs : X.stack = X.env :: X.outer) (hf : X.env.frame = some X.env.locals) (tk : Takes X Wout)
    (hb : ∀ (W : WX) (pn : List (Addr × Obj)) (xe : Value → Shared → Prop), Takes (X.tr pn xe) W → PassesOwn (model X.prog X.w) X.A X.env xe → PSs (X.tr pn xe) body (tb W))
    (hh : HdsOk X (h₀ :: hds) l) (hbw : HbW K tb tbw) (hK : X.K = K := by rfl) : PS X (.Try body (h₀ :: hds) [] [] pos) (tTryM K l tb Wout tbw hbw) := by
  subst hK
  exact ps_try_many (tb := tWeak tb) hs hf tk (fun W pn xe tkb pob => pss_weak tkb fun W' tk' => hb W' pn xe tk' pob) hh

/-! ### a call of a local -/
structure HeldX (P : Program) (w : World) (K : PySem.W.Frag) (mg : Str → Option Value) (base : Heap) (k : Nat) (f : Addr) (sp : SpX) : Prop where
  ex : ∃ (fd : FuncData) (ps : List Str), FnOk P w K mg base (L2.CX P w) k f fd ps (liftX K sp) ∧ PySem.W.keepIn K (.ref f) = true ∧ Binds K fd ps []
theorem CalX.held {P : Program} {w : World} {mg : Str → Option Value} {base : Heap} {k j : Nat} {x : Str} {sp : SpX} {f : Addr} (c : CalX P w K mg base k x sp) (hm : mg x = some (.ref f)) (h : k ≤ j) : HeldX P w K mg base j f sp := by
  obtain ⟨f', fd, ps, F, hm', kp, b⟩ := c.ex
  rw [hm] at hm'
  cases hm'
  exact ⟨fd, ps, F.mono h, kp, b⟩
def tCallXV (K : PySem.W.Frag) (HX : Addr → SpX → Prop) (i : Nat) (W : WX) (t : TA) : TE := fun σ H Q => ∃ f sp, σ[i]? = some (some (.ref f)) ∧ HX f sp ∧ t σ H fun vs H1 => liftX K sp vs H1 Q (WE W σ)
theorem k_xv (K : PySem.W.Frag) {X : Cx} {W : WX} {k i : Nat} {x : Str} {p pos : Pos} {e : Expr} {es : List Expr} {t : TA} (tk : Takes X W) (hr : Room k X.A) (hN : X.N[i]? = some x) (hv : Vis X.env.scope x) (ha : PA X (e :: es) t)
    (hdb : (x == ("__debug__" : Str)) = false := by decide) (hcd : (x == ("__classdict__" : Str)) = false := by decide) (he : starEach (e :: es) X.env = (false, eval e X.env) :: starEach es X.env := by rfl) (hpl : (backTo pos (starEach es X.env)).any (·.1) = false := by rfl) (hK : X.K = K := by rfl) :
    PE X (.Call (.Name x p) (e :: es) [] pos) (tCallXV K (HeldX X.prog X.w K X.mg X.base k) i W t) := by
  subst hK
  refine ⟨fun pins s σ H Q I h => ?_⟩
  obtain ⟨f, sp, hs, HX, ht⟩ := h
  obtain ⟨fd, ps, F, hk, hb⟩ := HX.ex
  refine wpAny_Call_Name_kw (thn ((pe_var (pos := p) hN hv hdb hcd).run pins s σ H (fun v H1 => v = .ref f ∧ H1 = H) I ⟨.ref f, hs, rfl, rfl⟩) fun u s1 ⟨v, H1, I1, r1, q1⟩ => ?_)
  obtain ⟨rfl, rfl⟩ := q1
  cases r1
  refine PySem.W.callWith_K (h₀ := X.base) I.ok.mod.kin hk (thn (ha.run pos pins s1 σ _ _ I1 ht) fun us s2 ⟨vs, H2, I2, r, q⟩ => ⟨I2.kIn, ?_⟩) he hpl
  exact run_fnS F hr hb (passAt tk σ) I2 r q
def wCallXV (HX : Addr → SpX → Prop) (i : Nat) (Xw : XW) (t : TAW) : TEW := fun ρ S Q => ∃ f sp, ρ[i]? = some (some (.ref f)) ∧ HX f sp ∧ t ρ S fun ws S1 => sp ws S1 Q fun ex S2 => Xw ex ρ S2
instance le_callXV {HX : Addr → SpX → Prop} {i : Nat} {W : WX} {Xw : XW} {t : TA} {tw : TAW} [px : PX K B W Xw] [a : LA K B t tw] : LE K B (tCallXV K HX i W t) (wCallXV HX i Xw tw) := ⟨fun σ H ρ S Q Qw hs hh q po => by
  obtain ⟨f, sp, e, hx, q⟩ := q
  obtain ⟨v, e1, r1⟩ := hs.at_ i _ e
  cases (show v = _ from r1)
  exact ⟨f, sp, e1, hx, a.l σ H ρ S _ _ hs hh q fun xs H1 ws S1 t1 hh1 r1 q1 => ⟨ws, S1, Qw, _, r1, hh1, q1, po.tk t1, fun cls d H' ex S' t hh' r q' => px.l cls d σ H' ex ρ S' (hs.tk (t1.trans t)) hh' r q'⟩⟩⟩
theorem wr_ref {a : Addr} : Wr K (.ref a) (.ref a) := ⟨.ref a, rfl, fun _ => rfl⟩
end Wl
set_option Elab.async false
set_option linter.all false
set_option maxRecDepth 100000
set_option maxHeartbeats 2000000
/-! max(xs, default=d) over ints. -/
namespace Wl
open PySem PySem.Spec PyProof.Rows L2
variable {K : PySem.W.Frag} {B : Hp}
def rMaxDf (K : PySem.W.Frag) : List V → List V → Hp → VK → Prop := fun vs zs H Q => ∃ (a : Addr) (ns : List Int) (d : V), vs = [V.ref a] ∧ zs = [d] ∧ SqL K H a (ns.map V.int) ∧ (ns = [] → Q d H) ∧ ∀ m, m ∈ ns → (∀ y, y ∈ ns → y ≤ m) → Q (.int m) H
theorem maxOf_int : ∀ (ys : List Int) (y : Int), (PySem.W.maxOf y ys ∈ y :: ys) ∧ ∀ z, z ∈ y :: ys → z ≤ PySem.W.maxOf y ys
  | [], y => ⟨List.mem_cons_self, fun z hz => by rw [List.mem_singleton.mp hz]; exact Int.le_refl _⟩
  | x :: ys, y => by
    have e : PySem.W.maxOf y (x :: ys) = PySem.W.maxOf (if y < x then x else y) ys := by
      show PySem.W.maxOf (if decide (y < x) = true then x else y) ys = _
      simp only [decide_eq_true_eq]
    rw [e]
    obtain ⟨h1, h2⟩ := maxOf_int ys (if y < x then x else y)
    have h3 := h2 _ List.mem_cons_self
    refine ⟨?_, fun z hz => ?_⟩
    · rcases List.mem_cons.mp h1 with h | h
      · rw [h]
        split
        · exact List.mem_cons_of_mem _ List.mem_cons_self
        · exact List.mem_cons_self
      · exact List.mem_cons_of_mem _ (List.mem_cons_of_mem _ h)
    · have h4 : y ≤ (if y < x then x else y) ∧ x ≤ (if y < x then x else y) := by split <;> omega
      rcases List.mem_cons.mp hz with h | h
      · rw [h]; exact Int.le_trans h4.1 h3
      · rcases List.mem_cons.mp h with h | h
        · rw [h]; exact Int.le_trans h4.2 h3
        · exact h2 z (List.mem_cons_of_mem _ h)
theorem ck_maxD {X : Cx} {j : Nat} (hr : Room j X.A) : CallRK X (.builtin "max") [Str.ofString "default"] (rMaxDf X.K) := by
  intro pins s σ H xs zs us ws Q I r1 r2 h
  obtain ⟨a, ns, d, rfl, rfl, hs, h0, q⟩ := h
  obtain ⟨its, rv, hl, _⟩ := I.list hs
  rw [Vals.ref1 r1]
  cases r2 with
  | cons rd t =>
  cases t
  rename_i dv
  show wpAny _ _ (call (.builtin "max") [.ref a] [(Str.ofString "default", dv)]) _ _ s
  refine PySem.W.max_list_datum_default hr.hd hl.isList (PySem.W.HoldAll.of_ints rv.ints) (by have := hr.un; show X.A.units + 1 + 0 < cLine; omega) (fun e h' tk hk => ?_) fun y ys i v h' tk e hi hv hk => ?_
  · exact ⟨d, H, I.kept hk, rd, h0 e⟩
  · obtain ⟨m1, m2⟩ := maxOf_int ys y
    obtain ⟨as, hv⟩ := hv
    cases hv with
    | int _ t => exact ⟨.int _, H, I.kept hk, ⟨t, rfl⟩, q _ (by rw [e]; exact m1) (by rw [e]; exact m2)⟩
def wMaxDf (t tk : TAW) : TEW := fun ρ S Q => t ρ S fun ws S1 => tk ρ S1 fun zs S2 => match ws, zs with
  | [.ref a], [d] => ∃ ns : List Int, S2 a = some (.lst (ns.map W.int)) ∧ (ns = [] → Q d S2) ∧ ∀ m, m ∈ ns → (∀ y, y ∈ ns → y ≤ m) → Q (.int m) S2
  | _, _ => False
theorem k_maxD (K : PySem.W.Frag) {X : Cx} {j : Nat} {x : Str} {p pos : Pos} {e : Expr} {es : List Expr} {kws : List Keyword} {t tk : TA} (hr : Room j X.A) (hg : Gl X x) (hm : X.mg x = none) (hv : bootBuiltins x = some (.builtin "max")) (ha : PA X (e :: es) t) (hkw : PK X kws tk) (hn : x ≠ "__name__" := by decide) (hdb : (x == ("__debug__" : Str)) = false := by decide)
    (he : backTo pos (starEach (e :: es) X.env) = (false, eval e X.env) :: backTo pos (starEach es X.env) := by rfl) (hpl : (backTo pos (starEach (e :: es) X.env)).any (·.1) = false := by rfl)
    (hall : (backToKw pos (keywordEach kws X.env)).all (·.1.isSome) = true := by rfl) (hnone : (backToKw pos (keywordEach kws X.env)).any (·.1.isNone) = false := by rfl) (hks : (backToKw pos (keywordEach kws X.env)).filterMap (·.1) = [Str.ofString "default"] := by rfl) (hK : X.K = K := by rfl) :
    PE X (.Call (.Name x p) (e :: es) kws pos) (tCKw (rMaxDf K) t tk) := by
  subst hK
  exact pe_callBK (ck_maxD hr) hg hm hv ha hkw hn hdb he hpl hall hnone hks
instance le_maxD {t tk : TA} {tw tkw : TAW} [a : LA K B t tw] [b : LA K B tk tkw] : LE K B (tCKw (rMaxDf K) t tk) (wMaxDf tw tkw) := ⟨fun σ H ρ S Q Qw hs hh q po =>
  a.l σ H ρ S _ _ hs hh q fun xs H1 ws S1 t1 hh1 r1 q1 => b.l σ H1 ρ S1 _ _ (hs.tk t1) hh1 q1 fun zs H2 us S2 t2 hh2 r2 q2 => by
    split at q2
    · rename_i a d
      obtain ⟨x, rfl, h1⟩ := rep1 r1
      cases (show x = _ from h1)
      obtain ⟨dv, rfl, h2⟩ := rep1 r2
      obtain ⟨ns, hl, h0, hm⟩ := q2
      obtain ⟨ys, h3, h4⟩ := hh2 _ _ hl
      rw [h4.ints] at h3
      exact ⟨_, ns, dv, rfl, rfl, SqL.of h3, fun e => po dv H2 _ S2 (t1.trans t2) hh2 h2 (h0 e), fun m m1 m2 => po.int (t1.trans t2) hh2 (hm m m1 m2)⟩
    · exact q2.elim⟩
end Wl
set_option Elab.async false
set_option linter.all false
set_option maxRecDepth 100000
set_option maxHeartbeats 4000000
/-! a tuple times an int. -/
namespace Wl
open PySem PySem.Spec PyProof.Rows L2
variable {K : PySem.W.Frag} {B : Hp}
theorem tuple_mul1 (l : Addr) (items : Array Value) (n : Nat) (dd : Option Addr) (sl : Array (Option Value)) (u : Tok) (c1 : (items.isEmpty || (1 : Int) == 1) = true) :
    Meets (Builtin.«tuple.__mul__» ⟨[.ref l, .int 1 u], []⟩) (fun _ R s => s.heap.get? l = some { cls := .type "tuple", dict := dd, data := .seq items n, slots := sl } ∧
      R (.ok (.ret (Value.ref l))) s) :=
  .of_wp fun prog w A R s h => by
    obtain ⟨hp, g, d, tk, os⟩ := s
    obtain ⟨hl, h⟩ := h
    have f1 := AutoSeq1.idx_int
    wp_walk using wpAny_loadPart' hl
    repeat (first
      | (refine wpAny_ite_false (decide_eq_false (by decide)) ?_; wp_walk using wpAny_loadPart' hl)
      | (refine wpAny_ite_true (decide_eq_true (by rw [c1])) ?_; wp_walk using wpAny_loadPart' hl))
    exact ⟨_, rfl, h⟩
theorem tuple_mul0 (l : Addr) (items : Array Value) (n : Nat) (dd : Option Addr) (sl : Array (Option Value)) (x : Int) (u : Tok) (c0 : (decide (x < -(2 ^ 63)) || decide (x ≥ 2 ^ 63)) = false) (c1 : (items.isEmpty || x == 1) = false) (c2 : (decide (x ≤ 0) || items.isEmpty) = true) :
    Meets (Builtin.«tuple.__mul__» ⟨[.ref l, .int x u], []⟩) (fun _ R s => s.heap.get? l = some { cls := .type "tuple", dict := dd, data := .seq items n, slots := sl } ∧
      R (.ok (.ret (Value.ref s.heap.objs.size))) { s with heap := s.heap.push { cls := Value.type "tuple", data := Data.seq #[] }, toks := s.toks }) :=
  .of_wp fun prog w A R s h => by
    obtain ⟨hp, g, d, tk, os⟩ := s
    obtain ⟨hl, h⟩ := h
    have f1 := AutoSeq1.idx_int
    wp_walk using wpAny_loadPart' hl
    repeat (first
      | (refine wpAny_ite_false (decide_eq_false (by rw [c0]; exact Bool.false_ne_true)) ?_; wp_walk using wpAny_loadPart' hl)
      | (refine wpAny_ite_false (decide_eq_false (by rw [c1]; exact Bool.false_ne_true)) ?_; wp_walk using wpAny_loadPart' hl)
      | (refine wpAny_ite_true (decide_eq_true (by rw [c2])) ?_; wp_walk using wpAny_loadPart' hl))
    exact ⟨_, rfl, h⟩
/-- a tuple times a small number -/
def rRepN (K : PySem.W.Frag) : R2 := fun x y H Q => ∃ l k xs, x = .ref l ∧ y = .int k ∧ SqT K H l xs ∧ xs ≠ [] ∧ 0 ≤ k ∧ k ≤ 1000 ∧ xs.length ≤ 1000 ∧ (k = 1 → Q (.ref l) H) ∧ (k ≠ 1 → ∀ p, H p = none → Q (.ref p) (upd H p (.tup (List.replicate k.toNat xs).flatten)))
theorem op_repN {X : Cx} : OpR X (binaryOp .Mult) (rRepN X.K) := by
  intro pins s σ H x y v u Q I rx ry h
  obtain ⟨l, k, xs, rfl, rfl, hT, hne, h1, h2, hz, q1, q⟩ := h
  by_cases h2k : 2 ≤ k
  · exact op_repT pins s σ H _ _ v u Q I rx ry ⟨l, k, xs, rfl, rfl, hT, hne, h2k, h2, hz, q (by omega)⟩
  cases rx
  obtain ⟨t, rfl⟩ := ry
  obtain ⟨its, r, ⟨⟨cls, dd, data, sl⟩, ho, hc, n, hd⟩, hs⟩ := I.tuple hT
  simp only at hc hd
  subst hc hd
  have hle : its.length = xs.length := r.length.symm
  have hn : its ≠ [] := fun e => hne (by
    rw [e] at hle
    exact List.eq_nil_of_length_eq_zero hle.symm)
  have hi : its.toArray.isEmpty = false := by
    cases its with
    | nil => exact absurd rfl hn
    | cons a b => rfl
  obtain rfl | rfl : k = 0 ∨ k = 1 := by omega
  · refine PySem.wpAny_binaryOp_repeat_ref (T := "tuple") (U := "int") (by decide) ⟨_, ho, rfl⟩ (fun s' => typeIs_int s' 0 t) noFill_tuple_mul F.fills_int_mul F.slot_int_rmul repeat_tuple F.slot_int_index.lookup
      (call_meets F.slot_int_rmul (typeIs_int s 0 t) F.entry_int_rmul (F.args_int_rmul_2 _ _) (int_rmul_tuple 0 t l its.toArray n dd sl)
        ⟨ho, rfl, ⟨_, ho, rfl⟩, call_meets F.slot_tuple_mul ⟨_, ho, rfl⟩ F.entry_tuple_mul (F.args_tuple_mul_2 _ _) (tuple_mul0 l its.toArray n dd sl 0 t (by decide) (by rw [hi]; rfl) (by rfl)) ⟨ho, ?_⟩⟩)
    refine ⟨.ref s.heap.objs.size, _, I.laid (t' := s.toks) (o := .tup []) (fun b ob q => Heap.get?_push_of_some _ q) (Nat.le_refl _) ?_, rfl, q (by decide) _ (I.hok.fresh (Nat.le_refl _))⟩
    exact ⟨by decide, [], .nil, IsTup.new _ _⟩
  · refine PySem.wpAny_binaryOp_repeat_ref (T := "tuple") (U := "int") (by decide) ⟨_, ho, rfl⟩ (fun s' => typeIs_int s' 1 t) noFill_tuple_mul F.fills_int_mul F.slot_int_rmul repeat_tuple F.slot_int_index.lookup
      (call_meets F.slot_int_rmul (typeIs_int s 1 t) F.entry_int_rmul (F.args_int_rmul_2 _ _) (int_rmul_tuple 1 t l its.toArray n dd sl)
        ⟨ho, rfl, ⟨_, ho, rfl⟩, call_meets F.slot_tuple_mul ⟨_, ho, rfl⟩ F.entry_tuple_mul (F.args_tuple_mul_2 _ _) (tuple_mul1 l its.toArray n dd sl t (by rw [hi]; rfl)) ⟨ho, ?_⟩⟩)
    exact ⟨.ref l, H, I, rfl, q1 rfl⟩
theorem RepL.rep {H : Hp} {ws : List W} {xs : List V} (r : RepL K H ws xs) : ∀ n : Nat, RepL K H (List.replicate n ws).flatten (List.replicate n xs).flatten
  | 0 => .nil
  | n + 1 => by
    rw [List.replicate_succ, List.replicate_succ, List.flatten_cons, List.flatten_cons]
    exact RepL.append r (RepL.rep r n)
theorem k_repN (K : PySem.W.Frag) {X : Cx} (hK : X.K = K := by rfl) : OpR X (binaryOp .Mult) (rRepN K) := by
  subst hK
  exact op_repN
def wRepN : RW2 := fun x y S Q => match x, y with
  | .tup ws, .int k => ws ≠ [] ∧ 0 ≤ k ∧ k ≤ 1000 ∧ ws.length ≤ 1000 ∧ Q (.tup (List.replicate k.toNat ws).flatten) S
  | _, _ => False
instance l2_repN : L2R K (rRepN K) wRepN := ⟨fun H S x y wx wy Q Qw hh rx ry q po => by
  unfold wRepN at q
  split at q
  · rename_i ws k
    obtain ⟨hne, h0, h1, hl, q⟩ := q
    obtain ⟨a, xs, rfl, hT, r⟩ := rx
    cases (show y = _ from ry)
    have hlen := r.length
    refine ⟨a, k, xs, rfl, rfl, hT, fun e => hne (by rw [e] at hlen; exact List.eq_nil_of_length_eq_zero (by rw [← hlen]; rfl)), h0, h1, by omega, fun e => ?_, fun _ p hp => ?_⟩
    · subst e
      have e2 : (List.replicate (1 : Int).toNat ws).flatten = ws := by
        show (List.replicate 1 ws).flatten = ws
        rw [List.replicate_succ, List.replicate_zero, List.flatten_cons, List.flatten_nil, List.append_nil]
      rw [e2] at q
      exact po.tup (Tk.refl H) hh hT r q
    · exact po.ntup hp hh (RepL.rep r k.toNat) q
  · exact q.elim⟩
end Wl
set_option Elab.async false
set_option linter.all false
set_option maxRecDepth 100000
set_option maxHeartbeats 4000000
/-! sorted(set(xs)) of a list of ints; d.setdefault(k, x). -/
namespace Wl
open PySem PySem.Spec PyProof.Rows L2
section
variable {P : Program} {w : World} {A : Around} {E : Value → Shared → Prop} {s : Shared}
abbrev bareSet (w : World) : Obj := { cls := .type "set", dict := none, data := .set #[] 0 (.fresh 0 0 (!w.params.followText "set-order")) }
/-- what `set(xs)` leaves behind when its list is walked -/
abbrev Filled (w : World) (s : Shared) (ns : List Int) (s' : Shared) : Prop :=
  ∃ h' tk c, s' = { s with heap := h', toks := tk } ∧ SetR w h' s.heap.objs.size (fun j => decide (j ∈ ns)) c ∧ c ≤ ns.length ∧ ∀ b o, s.heap.get? b = some o → h'.get? b = some o
theorem fill_list {l : Addr} {items : Array Value} (ns : List Int) (hh : A.handled = none) (hl : s.heap.IsList l items) (hit : IntsAre items.toList ns) (hb : ns.length + 1 < scanBound) :
    codeAny (model P w) A (.call (.builtin "set.__init__") ⟨[.ref s.heap.objs.size, .ref l], []⟩) (wants (fun r s₂ => r = .none ∧ Filled w s ns s₂) E) { s with heap := s.heap.push (bareSet w) } := by
  have hsz : items.size = ns.length := by
    have q := IntsAre.length hit
    rw [Array.length_toList] at q
    exact q
  have hS : (s.heap.push (bareSet w)).get? s.heap.objs.size = some (bareSet w) := Heap.get?_push_size _ rfl
  have hT : Shared.TypeIs { s with heap := s.heap.push (bareSet w) } (.ref s.heap.objs.size) "set" := ⟨_, hS, rfl⟩
  refine codeAny_call_builtin PySem.F.called_set.init.plain PySem.F.entry_set_init (check_set_init_1 hT ?_)
  obtain ⟨⟨ocls, odict, odata, oslots⟩, hol, hcl, nl, hdl⟩ := hl
  dsimp only at hcl hdl
  subst hcl hdl
  have hol' : (s.heap.push (bareSet w)).get? l = some { cls := .type "list", dict := odict, data := .seq items nl, slots := oslots } := Heap.get?_push_of_some _ hol
  have h1 := PySem.F.sub_list_set
  have h2 := PySem.F.sub_list_frozenset
  have h3 : (Value.type "list" == Value.type "dict") = false := by decide
  have hl1 : (s.heap.push (bareSet w)).IsList l items := ⟨_, hol', rfl, nl, rfl⟩
  unfold Builtin.«set.__init__» noKeywords Builtin.Frozenset.updateFrom
  generalize hPI : pyIter = PI
  wp_walk
  subst hPI
  refine wpAny_pyIter_list hl1 (wpAny_bind (wpAny_runValue ?_))
  have hlS : l < s.heap.objs.size := Heap.lt_size hol
  have hz : (s.heap.push (bareSet w)).objs.size = s.heap.objs.size + 1 := Heap.size_push ..
  have hh3 : A.in1.in1.handled = none := by simp [hh]
  have hne : l ≠ (s.heap.push (bareSet w)).objs.size := by rw [hz]; exact Nat.ne_of_lt (Nat.lt_succ_of_lt hlS)
  have hSf : s.heap.objs.size ∉ [(s.heap.push (bareSet w)).objs.size, l] := by
    rw [hz]
    simp only [List.mem_cons, List.not_mem_nil, or_false, not_or]
    exact ⟨Nat.ne_of_lt (Nat.lt_succ_self _), Nat.ne_of_gt hlS⟩
  refine set_update_ints ((Walks.list hh3 (s.heap.push (bareSet w)).objs.size l hne items).toS) s.heap.objs.size hSf ns hsz hb (fun i v hv => ?_) items.size 0 _ (by omega) (Nat.zero_le _)
    ⟨⟨_, Heap.get?_push_size _ rfl, rfl, rfl⟩, hl1.push _⟩ ?_ ?_
  case refine_2 =>
    have hg : ((s.heap.push (bareSet w)).push { cls := .type "list_iterator", data := .fields #[.ref l, .int 0 0] }).get? s.heap.objs.size = some (bareSet w) := Heap.get?_push_of_some _ hS
    exact ⟨0, Nat.le_refl 0, setR_new_at hg⟩
  · have hi : i < ns.length := by rw [← hsz]; exact (Array.getElem?_eq_some_iff.mp hv).1
    obtain ⟨t, e⟩ := PyProof.Rows.IntsAre.int_at hit i v (by rw [Array.getElem?_toList]; exact hv)
    exact ⟨ns[i], t, List.getElem?_eq_getElem hi, by rw [e, List.getD_eq_getElem?_getD, List.getElem?_eq_getElem hi]; rfl⟩
  · rintro ⟨h', g2, d', tk', os'⟩ c' hm hc' hS'
    obtain rfl : g2 = s.gens := hm.gens
    obtain rfl : d' = s.drawn := hm.drawn
    obtain rfl : os' = s.os := hm.os
    refine wpAny_pure ?_
    show wpAny _ _ (ret Value.none) _ _ _
    refine wpAny_pure ⟨rfl, h', tk', c', rfl, hS', by omega, fun b o e => ?_⟩
    have hb0 : b < s.heap.objs.size := Heap.lt_size e
    exact hm.heap b o (by rw [hz]; simp only [List.mem_cons, List.not_mem_nil, or_false, not_or]; exact ⟨Nat.ne_of_lt hb0, Nat.ne_of_lt (Nat.lt_succ_of_lt hb0)⟩) (Heap.get?_push_of_some _ (Heap.get?_push_of_some _ e))
theorem set_of_list {l : Addr} {items : Array Value} (ns : List Int) {Q : Value → Shared → Prop} (hh : A.handled = none) (hl : s.heap.IsList l items) (hit : IntsAre items.toList ns) (hb : ns.length + 1 < scanBound)
    (h : ∀ s', Filled w s ns s' → Q (.ref s.heap.objs.size) s') : wpAny (model P w) A (call (.type "set") [.ref l]) Q E s := by
  obtain ⟨c, tl, hmro⟩ := PySem.F.called_set.mro
  have hmade := PySem.F.called_set.made
  have hsub := PySem.F.called_set.sub
  refine wpAny_call (codeAny_of_tree ?_)
  show wpAny _ _ (callAny (.type "set") _) _ _ _
  refine wpAny_pure ⟨Code.quiet_builtin _ (by decide +kernel), codeAny_builtin PySem.F.entry_type_call ?_⟩
  rw [Around.under_plain (weight_type_call_type "set" [.ref l] []) rfl]
  have h1 := PySem.F.called_set.notType
  have h2 := PySem.F.called_set.canCreate
  have hct := PySem.F.typeCall_set_1 (.ref l)
  repeat (any_goals (first | assumption | wp_step))
  refine codeAny_mono (code_set_led1 (P := P) (.ref l) (E := E) (Q₁ := fun obj s₁ => obj = .ref s.heap.objs.size ∧ s₁ = { s with heap := s.heap.push (bareSet w) }) ⟨rfl, rfl⟩) fun r s₁ hr => ?_
  cases r with
  | error e => exact hr
  | ok f =>
    cases f with
    | ret obj =>
      obtain ⟨rfl, rfl⟩ := hr
      have hS : (s.heap.push (bareSet w)).get? s.heap.objs.size = some (bareSet w) := Heap.get?_push_size _ rfl
      have hT : Shared.TypeIs { s with heap := s.heap.push (bareSet w) } (.ref s.heap.objs.size) "set" := ⟨_, hS, rfl⟩
      have hli := PySem.F.called_set.init.lookup
      have hbi := PySem.F.called_set.init.bind (.ref s.heap.objs.size)
      repeat (any_goals (first | assumption | wp_step))
      refine codeAny_mono (fill_list (P := P) (E := E) ns (A := _) (by simp [hh]) hl hit hb) fun r₂ s₂ hr₂ => ?_
      cases r₂ with
      | error e => exact hr₂
      | ok f₂ =>
        cases f₂ with
        | ret r =>
          obtain ⟨rfl, f⟩ := hr₂
          repeat (any_goals (first | assumption | wp_step))
          exact h _ f
        | _ => exact hr₂.elim
    | _ => exact hr.elim
end
/-! ### sorted(set(xs)) -/
def rSetI (K : PySem.W.Frag) (w : World) : List V → Hp → VK → Prop := fun vs H Q => ∃ (l : Addr) (ns : List Int), vs = [V.ref l] ∧ SqL K H l (ns.map V.int) ∧ ns.length < 64 ∧
  ∀ a n, H a = none → n ≤ ns.length → Q (.ref a) (upd H a (SetO w a (fun j => decide (j ∈ ns)) n))
theorem cr_setI {X : Cx} (hc : X.calm = true) : CallR X (.type "set") (rSetI X.K X.w) := by
  intro pins s σ H xs us Q I r h
  obtain ⟨l, ns, rfl, hl, hf, q⟩ := h
  rw [Vals.ref1 r]
  obtain ⟨its, rv, pl, hz⟩ := I.list hl
  have hn : H s.heap.objs.size = none := I.hok.fresh (Nat.le_refl _)
  refine set_of_list (P := X.prog) (w := X.w) ns (I.ok.hd hc) pl.isList (by simpa using ints_of_vals rv) (by unfold scanBound; omega) fun s' ⟨h', tk, c, e, R, hc', k⟩ => ?_
  rw [e]
  exact ⟨.ref s.heap.objs.size, upd H s.heap.objs.size (SetO X.w s.heap.objs.size (fun j => decide (j ∈ ns)) c), I.laid (t' := tk) k (Nat.le_refl _) (setO_new R), rfl, q _ _ hn hc'⟩
/-- the reading: the list's ints, each once, rising -/
def wSortSet (tw : TAW) : TEW := fun ρ S Q => tw ρ S fun ws S1 => match ws with
  | [.ref l] => ∃ ns : List Int, S1 l = some (.lst (ns.map W.int)) ∧ ns.length < 64 ∧ ∀ (ys : List Int) p, ys.Pairwise (· < ·) → (∀ k, k ∈ ys ↔ k ∈ ns) → S1 p = none → Q (.ref p) (put S1 p (.lst (ys.map W.int)))
  | _ => False
variable {K : PySem.W.Frag} {B : Hp}
instance le_sortSet {w : World} {t : TA} {tw : TAW} [a : LA K B t tw] : LE K B (tCB (rSortedSet w) (tCons (tCB (rSetI K w) t) tNil)) (wSortSet tw) := ⟨fun σ H ρ S Q Qw hs hh q po =>
  a.l σ H ρ S _ _ hs hh q fun xs H1 ws S1 t1 hh1 r1 q1 => by
    split at q1
    · rename_i l
      obtain ⟨x, rfl, h1⟩ := rep1 r1
      cases (show x = _ from h1)
      obtain ⟨ns, e, hl, q⟩ := q1
      obtain ⟨vs, g1, g2⟩ := hh1 _ _ e
      have g3 := g2.ints
      subst g3
      refine ⟨l, ns, rfl, SqL.of g1, hl, fun p n hp hn => ⟨p, _, n, rfl, upd_same, by omega, fun ys p2 h1 h2 h3 hp2 => ?_⟩⟩
      have t2 : Tk H1 (upd H1 p (SetO w p (fun j => decide (j ∈ ns)) n)) := Tk.new hp
      exact ((po.tk t1).tk t2).nlst hp2 (hh1.laid hp) RepL.ofInts fun p hp => q ys p h1 (fun k => by rw [h2]; simp) hp
    · exact q1.elim⟩
theorem k_sortSet (K : PySem.W.Frag) (w : World) {X : Cx} {e : Expr} {ta : TA} {p p2 pos pos2 : Pos} (hc : X.calm = true) (hg : Gl X "sorted") (hm : X.mg "sorted" = none) (hg2 : Gl X "set") (hm2 : X.mg "set" = none) (ha : PA X [e] ta)
    (hs : starEach [.Call (.Name "set" p2) [e] [] pos2] X.env = [(false, eval (.Call (.Name "set" p2) [e] [] pos2) X.env)] := by rfl) (hs2 : starEach [e] X.env = [(false, eval e X.env)] := by rfl) (hK : X.K = K := by rfl) (hw : X.w = w := by rfl) :
    PE X (.Call (.Name "sorted" p) [.Call (.Name "set" p2) [e] [] pos2] [] pos) (tCB (rSortedSet w) (tCons (tCB (rSetI K w) ta) tNil)) := by
  subst hK hw
  exact pe_callB (cr_sortedSet hc) hg hm rfl (pa_cons (pe_callTy (cr_setI hc) hg2 hm2 rfl ha (he := hs2)) pa_nil (hs := hs)) (he := hs)
/-! ### d.setdefault(k, x) -/
def wSetd (to tk tx : TEW) : TEW := fun ρ S Q => to ρ S fun x S1 => match x with
  | .ref a => (∃ kvs, S1 a = some (.dk kvs)) ∧ tk ρ S1 fun y S2 => tx ρ S2 fun z S3 => ∃ kvs k, S3 a = some (.dk kvs) ∧ toKey y = some k ∧ kvs.length < sizeLine ∧
      (∀ v, valW kvs k = some v → Q v S3) ∧ (valW kvs k = none → Q z (put S3 a (.dk (putW kvs k z))))
  | _ => False
instance le_setd {td ty tx : TE} {wd wy wx : TEW} [a : LE K B td wd] [b : LE K B ty wy] [c : LE K B tx wx] : LE K B (tDSetd td ty tx) (wSetd wd wy wx) := ⟨fun σ H ρ S Q Qw hs hh q po =>
  a.l σ H ρ S _ _ hs hh q fun x H1 wx S1 t1 hh1 r1 q1 => by
    cases wx <;> try exact q1.elim
    rename_i a
    obtain ⟨⟨kvs, e⟩, q1⟩ := q1
    obtain ⟨ys, h1, h2⟩ := hh1 _ _ e
    refine ⟨a, r1, .inl ⟨ys, .inl h1⟩, b.l σ H1 ρ S1 _ _ (hs.tk t1) hh1 q1 fun y H2 wy S2 t2 hh2 r2 q2 => c.l σ H2 ρ S2 _ _ (hs.tk (t1.trans t2)) hh2 q2 fun z H3 wz S3 t3 hh3 r3 q3 => ?_⟩
    obtain ⟨kvs, k, e, ek, hl, q, q0⟩ := q3
    obtain ⟨ys, h1, h2⟩ := hh3 _ _ e
    obtain ⟨ev, _⟩ := toKey_rep (Rep.tk t3 _ _ r2) ek
    have po' := po.tk ((t1.trans t2).trans t3)
    refine ⟨ys, k, h1, ev, by rw [h2.length]; exact hl, fun v hv => ?_, fun hn => ?_⟩
    · cases ew : valW kvs k with
      | none => rw [h2.of_none ew] at hv; cases hv
      | some wv =>
        obtain ⟨v', e1, e2⟩ := h2.of_some ew
        rw [e1] at hv
        cases hv
        exact po' v H3 wv S3 (Tk.refl H3) hh3 e2 (q wv ew)
    · have t : Tk H3 (upd H3 a (.dK (putK ys k z))) := Tk.mut h1 (fun _ z => (by cases z)) (fun _ _ z => (by cases z))
      obtain ⟨t, hm⟩ := hh3.mut (c' := .dk (putW kvs k wz)) (o := .dK (putK ys k z)) e ⟨_, upd_same, RepKV.put (RepKV.tk t _ _ h2) (Rep.tk t _ _ r3)⟩
      exact po' z _ wz _ t hm (Rep.tk t _ _ r3) (q0 (by
        cases ew : valW kvs k with
        | none => rfl
        | some wv =>
          obtain ⟨v', e1, e2⟩ := h2.of_some ew
          rw [e1] at hn
          cases hn))⟩
/-! ### != where one side may be None and the other a list -/
def rNeN (K : PySem.W.Frag) : R2 := rNeA K
theorem k_neN (K : PySem.W.Frag) {X : Cx} (hu : X.A.units + 64 < cLine) (hK : X.K = K := by rfl) : OpR X (compareOp .NotEq) (rNeN K) := by subst hK; exact op_neA hu
def wNeN : RW2 := fun x y S Q => match x, y with
  | .non, .ref b => ∃ ys, S b = some (.lst ys) ∧ shW (.rl ys) ∧ Q (.bl true) S
  | .ref a, .non => ∃ xs, S a = some (.lst xs) ∧ shW (.rl xs) ∧ Q (.bl true) S
  | x, y => wNe x y S Q
theorem dp_lst {H : Hp} {S : Sto} {a : Addr} {ys : List W} {v : V} (hh : HRep K H S) (e : S a = some (.lst ys)) (h : datW (.rl ys) = true) (r : Rep K H (.ref a) v) : Dp K H v (.list (toDs ys)) := by
  cases (show v = _ from r)
  obtain ⟨bs, g2, r2⟩ := hh _ _ e
  exact .lst (SqL.of g2) (dps_of ys bs (by unfold datW at h; exact h) r2)
instance l2_neN : L2R K (rNeN K) wNeN := ⟨fun H S x y wx wy Q Qw hh rx ry q po => by
  unfold wNeN at q
  split at q
  · obtain ⟨ys, e, sh, q⟩ := q
    cases (show x = _ from rx)
    exact .inr ⟨.none, .list (toDs ys), .non, dp_lst hh e sh.1 ry, rfl, sh.2, po.bl (Tk.refl H) hh q⟩
  · obtain ⟨ys, e, sh, q⟩ := q
    cases (show y = _ from ry)
    exact .inr ⟨.list (toDs ys), .none, dp_lst hh e sh.1 rx, .non, sh.2, rfl, po.bl (Tk.refl H) hh q⟩
  · exact l2_ne.l H S x y _ _ Q Qw hh rx ry q po⟩
end Wl
set_option Elab.async false
set_option linter.all false
set_option maxRecDepth 100000
set_option maxHeartbeats 4000000
/-! sorted(set(xs)) of a list of texts. -/
namespace Wl
open PySem PySem.Spec PyProof.Rows L2
section
variable {P : Program} {w : World} {A : Around} {E : Value → Shared → Prop} {s : Shared} {a : Addr}
/-- a table that can be walked -/
abbrev Tidy (w : World) (t : SetTable) : Prop := Ris t.place.toList ∧ (w.params.followText "set-order" = true ∨ t.led = true)
/-- the set of texts at a, of n members, its table tidy -/
def TSet (P : Program) (w : World) (h : Heap) (a : Addr) (S : Str → Bool) (n : Nat) : Prop :=
  ∃ o es ep t, h.get? a = some o ∧ o.ExactSet ∧ o.data = .set es ep t ∧ ElemsOf (strKind P w) es.toList ∧ (∀ k, S k = true ↔ ∃ e ∈ es.toList, (strKind P w).is k e.2 = true) ∧
    es.size < scanBound ∧ t.fits es.size = true ∧ es.size = n ∧ Tidy w t
theorem TSet.at {h h' : Heap} {S : Str → Bool} {n : Nat} (R : TSet P w h a S n) (k : ∀ o, h.get? a = some o → h'.get? a = some o) : TSet P w h' a S n := by
  obtain ⟨o, es, ep, t, ho, r⟩ := R
  exact ⟨o, es, ep, t, k o ho, r⟩
theorem TSet.congr {h : Heap} {S S' : Str → Bool} {n : Nat} (R : TSet P w h a S n) (e : ∀ k, S' k = S k) : TSet P w h a S' n := by
  rw [show S' = S from funext e]
  exact R
/-- the new table is stored, and laid anew where it is too full -/
theorem tset_tail {g : Bool → Sem Unit} (hg : ∀ (b : Bool) (s₁ : Shared) (Q' : Unit → Shared → Prop), Q' () s₁ → wpAny (model P w) A (g b) Q' E s₁) {o : Obj} {es : Array (Int × Value)} {ep : Nat} {t : SetTable}
    (ho : s.heap.get? a = some o) (hex : o.ExactSet) (hd : o.data = .set es ep t) {es1 : Array (Int × Value)} {t2 : SetTable} {S' : Str → Bool} (hel : ElemsOf (strKind P w) es1.toList)
    (hm : ∀ k, S' k = true ↔ ∃ e ∈ es1.toList, (strKind P w).is k e.2 = true) (hb : es1.size < scanBound) (hf : t2.fits es1.size = true) (ht : Tidy w t2) {dum : Bool} {R : Option Bool → Shared → Prop}
    (hR : ∀ h', Heap.SameBut a s.heap h' → TSet P w h' a S' es1.size → R (some true) { s with heap := h' }) :
    wpAny (model P w) A (do
        storeSet a es1 t2
        if (!dum && t2.tooFull) = true then do
            g (relayAll t2 es1 (SetTable.grown es1.size)).2.2
            storeSet a (relayAll t2 es1 (SetTable.grown es1.size)).1 (relayAll t2 es1 (SetTable.grown es1.size)).2.1
            pure (some true)
          else pure (some true)) R E s := by
  obtain ⟨ho1, _⟩ := SetOf_store (knd := strKind P w) ho hex hd hel hm hb hf
  have sb := Heap.SameBut.update s.heap a (Obj.putSet es1 t2)
  refine wpAny_bind (wpAny_storeSet_of ho hd ?_ (fits_of_scanBound hb))
  split
  · generalize hZ : relayAll t2 es1 (SetTable.grown es1.size) = Z
    have pm := relayAll_perm t2 es1 (SetTable.grown es1.size)
    have f3 := relayAll_fits t2 es1 (SetTable.grown es1.size)
    have r3 := relayAll_ris t2 es1 (SetTable.grown es1.size)
    have l3 := relayAll_led t2 es1 (SetTable.grown es1.size)
    rw [hZ] at pm f3 r3 l3
    have sz : Z.1.size = es1.size := by rw [← Array.length_toList, pm.length_eq, Array.length_toList]
    have b3 : Z.1.size < scanBound := by rw [sz]; exact hb
    have el3 : ElemsOf (strKind P w) Z.1.toList := hel.perm pm
    have m3 : ∀ k, S' k = true ↔ ∃ e ∈ Z.1.toList, (strKind P w).is k e.2 = true := fun k => (hm k).trans ⟨fun ⟨e, he, q⟩ => ⟨e, pm.mem_iff.mpr he, q⟩, fun ⟨e, he, q⟩ => ⟨e, pm.mem_iff.mp he, q⟩⟩
    refine wpAny_bind (hg _ _ _ ?_)
    obtain ⟨ho2, _⟩ := SetOf_store (knd := strKind P w) ho1 hex rfl el3 m3 b3 f3
    refine wpAny_bind (wpAny_storeSet_of ho1 rfl ?_ (fits_of_scanBound b3))
    exact wpAny_pure (hR _ (sb.trans (Heap.SameBut.update _ a _)) ⟨_, Z.1, _, Z.2.1, ho2, hex, rfl, el3, m3, b3, f3, sz, r3, ht.2.imp id fun z => by rw [l3]; exact z⟩)
  · exact wpAny_pure (hR _ sb ⟨_, es1, _, t2, ho1, hex, rfl, hel, hm, hb, hf, rfl, ht⟩)
theorem tset_add {S : Str → Bool} {n : Nat} {k : Str} {tk : Tok} {Q : Bool → Shared → Prop} (R : TSet P w s.heap a S n) (room : n + 1 < scanBound)
    (hQ : ∀ h', Heap.SameBut a s.heap h' → TSet P w h' a (fun j => S j || decide (j = k)) (if S k = true then n else n + 1) → Q (!S k) { s with heap := h' }) :
    wpAny (model P w) A (setAddHashed a (.str k tk) ((strKind P w).hash k)) Q E s := by
  obtain ⟨o, es, ep, t, ho, hex, hd, hel, hm, hb, hf, hn, ht⟩ := R
  have hkey : (strKind P w).is k (.str k tk) = true := strKind_is P w k tk
  have hsc : (Value.str k tk).scannable = true := rfl
  unfold setAddHashed setAddHashedIn
  refine wpAny_holding (wpAny_bind (wpAny_setState_of ho hd hf ?_))
  dsimp only
  rw [byScan_of hsc hb hel]
  simp only [↓reduceIte]
  unfold setAddByScan
  refine wpAny_bind (wpAny_bind (wpAny_rule (wpAny_bind (wpAny_setScan_of hkey ho hd hf hel ?_))))
  cases hfi : List.findIdx? (fun e => (strKind P w).is k e.2) es.toList with
  | some j =>
    dsimp only
    obtain ⟨hj, pj, _⟩ := List.findIdx?_eq_some_iff_getElem.mp hfi
    have hSk : S k = true := (hm k).2 ⟨es.toList[j], List.getElem_mem hj, pj⟩
    have q := hQ s.heap (Heap.SameBut.refl a s.heap) ⟨o, es, ep, t, ho, hex, hd, hel, fun i => by
      rw [Bool.or_eq_true, decide_eq_true_eq, ← hm i]
      exact ⟨fun z => z.elim id (fun e => e ▸ hSk), .inl⟩, hb, hf, by rw [if_pos hSk]; exact hn, ht⟩
    rw [hSk] at q
    exact wpAny_pure (wpAny_pure q)
  | none =>
    dsimp only
    have hSk : S k = false := by
      cases z : S k with
      | false => rfl
      | true =>
        obtain ⟨e, he, q⟩ := (hm k).mp z
        have c := List.findIdx?_eq_none_iff.mp hfi e he
        rw [q] at c
        cases c
    have gw : ∀ (b : Bool) (s₁ : Shared) (Q' : Unit → Shared → Prop), Q' () s₁ → wpAny (model P w) A (match b with | true => rule "set.scan.the-table-gave-way" | false => pure ()) Q' E s₁ :=
      fun b s₁ Q' q => by cases b <;> first | exact wpAny_pure q | exact wpAny_rule q
    have pm := layNew_perm t es ((strKind P w).hash k) (.str k tk)
    have f1 := layNew_fits t es ((strKind P w).hash k) (.str k tk)
    have r1 := layNew_ris t es ((strKind P w).hash k) (.str k tk) ht.1
    have l1 := layNew_led t es ((strKind P w).hash k) (.str k tk)
    generalize layNew t es ((strKind P w).hash k) (.str k tk) = Z at pm f1 r1 l1 ⊢
    obtain ⟨es1, t1, dum, gave⟩ := Z
    dsimp only at pm f1 r1 l1 ⊢
    rw [Array.toList_push] at pm
    have el1 : ElemsOf (strKind P w) es1.toList := (hel.push hkey hsc).perm pm
    have m1 := mem_push_iff hkey hm pm
    have sz : es1.size = n + 1 := by rw [← Array.length_toList, pm.length_eq, List.length_append, Array.length_toList, hn]; rfl
    have b1 : es1.size < scanBound := by rw [sz]; exact room
    have t1' : Tidy w t1 := ⟨r1, ht.2.imp id fun z => by rw [l1]; exact z⟩
    have fin : ∀ h', Heap.SameBut a s.heap h' → TSet P w h' a (fun j => S j || decide (j = k)) es1.size → Q true { s with heap := h' } := fun h' sb r => by
      have q := hQ h' sb
      rw [hSk] at q
      rw [sz] at r
      exact q r
    refine wpAny_bind (gw _ _ _ ?_)
    split
    · refine wpAny_bind ?_
      rw [hashByValue_scannable 8 hsc]
      refine wpAny_pure (tset_tail gw ho hex hd el1 m1 b1 ?_ ?_ fun h' sb r => by dsimp only; exact wpAny_pure (fin h' sb r))
      · first | (split <;> first | exact f1 | exact SetTable.fits_plain_off f1) | exact f1
      · first | (split <;> exact t1') | exact t1'
    · refine wpAny_bind (wpAny_pure ?_)
      simp only [↓reduceIte]
      exact tset_tail gw ho hex hd el1 m1 b1 f1 t1' fun h' sb r => by dsimp only; exact wpAny_pure (fin h' sb r)

theorem tset_fresh {h : Heap} (ho : h.get? a = some (bareSet w)) : TSet P w h a (fun _ => false) 0 := by
  refine ⟨_, #[], 0, _, ho, ⟨rfl, rfl, rfl⟩, rfl, (fun e he => by simp at he), (fun k => by simp), (by decide), (by rfl), rfl, List.Pairwise.nil, ?_⟩
  show _ ∨ (!w.params.followText "set-order") = true
  cases w.params.followText "set-order"
  · exact .inr rfl
  · exact .inl rfl
theorem tset_walk {I : Addr} {fp wr : List Addr} {G : Array GenState → Array GenState → Prop} {n : Nat} {Pv : Nat → Value → Prop} {St : Nat → Shared → Prop} {R : Result → Shared → Prop}
    (W : WalksS P w A.in1 I fp wr G n Pv St) (D : Addr) (hD : D ∉ fp) (xs : List Str) (hn : n = xs.length) (hb : xs.length + 1 < scanBound) (hval : ∀ i v, Pv i v → ∃ x t, xs[i]? = some x ∧ v = .str x t) :
    ∀ (k i : Nat) (s : Shared), n - i = k → i ≤ n → St i s → (∃ c, c ≤ i ∧ ((xs.take i).Nodup → c = i) ∧ TSet P w s.heap D (fun j => decide (j ∈ xs.take i)) c) →
      (∀ s' c, Moved (D :: wr) G s s' → c ≤ n → (xs.Nodup → c = n) → TSet P w s'.heap D (fun j => decide (j ∈ xs)) c → R (.ok (.ret .none)) s') →
      codeAny (model P w) A (.builtin "set.update.loop" ⟨[.ref D, .ref I], []⟩) R s := by
  have hDw : D ∉ wr := fun h => hD (W.sub _ h)
  have sub : ∀ b ∈ wr, b ∈ D :: wr := fun b hb => List.mem_cons_of_mem _ hb
  intro k
  induction k with
  | zero =>
    intro i s hk hi hst ⟨c, hc, hcn, hS⟩ hR
    obtain rfl : i = n := by omega
    refine codeAny_builtin PyProof.Rows.F.entry_set_update_loop ?_
    rw [Around.under_plainId PyProof.Rows.F.plain_set_update_loop _]
    show wpAny _ A.in1 (pyNext (.ref I) >>= _) _ _ s
    refine wpAny_bind (W.done s _ _ hst fun s' hm => ?_)
    show wpAny _ A.in1 (ret Value.none) _ _ s'
    rw [List.take_of_length_le (by omega)] at hS hcn
    exact wpAny_pure (hR s' c (hm.mono sub) hc hcn (hS.at fun o e => hm.heap D o hDw e))
  | succ k ih =>
    intro i s hk hi hst ⟨c, hc, hcn, hS⟩ hR
    have hlt : i < n := by omega
    refine codeAny_builtin PyProof.Rows.F.entry_set_update_loop ?_
    rw [Around.under_plainId PyProof.Rows.F.plain_set_update_loop _]
    show wpAny _ A.in1 (pyNext (.ref I) >>= _) _ _ s
    refine wpAny_bind (W.item i s _ _ hlt hst fun v s' hP hst' hm => ?_)
    obtain ⟨z, t, hz, rfl⟩ := hval i v hP
    show wpAny _ A.in1 (holding [Value.str z t] (setAdd D (.str z t)) >>= _) _ _ s'
    refine wpAny_bind (wpAny_holding ?_)
    unfold setAdd
    refine wpAny_holding (wpAny_bind ((strKind P w).pyHash (k := z) (strKind_is _ _ _ _) ?_))
    refine tset_add (s := { s' with toks := s'.toks + 1 }) (hS.at fun o e => hm.heap D o hDw e) (by omega) fun h' sb hS2 => ?_
    have tk : xs.take (i + 1) = xs.take i ++ [z] := by rw [List.take_add_one, hz]; rfl
    refine wpAny_pure ⟨plainId_quiet PyProof.Rows.F.plain_set_update_loop _, ih (i + 1) _ (by omega) hlt (W.frame _ s' _ _ hst' (Nat.le_succ _) fun b hb o e => ?_) ⟨_, ?_, ?_, hS2.congr fun j => ?_⟩ fun s'' c2 hm2 hc2 hcn2 hS3 => ?_⟩
    · rw [sb.2 b (fun h : b = D => hD (by rw [← h]; exact hb))]; exact e
    · split <;> omega
    · intro nd
      rw [tk, List.nodup_append] at nd
      have hz2 : z ∉ xs.take i := fun h => nd.2.2 z h z (List.mem_singleton.mpr rfl) rfl
      rw [if_neg (by simpa using hz2), hcn nd.1]
    · rw [tk]
      simp [List.mem_append]
    · refine hR s'' c2 (Moved.trans W.gtrans ((hm.mono sub).then_heap (Nat.le_succ _) fun b o hb e => ?_) hm2) hc2 hcn2 hS3
      rw [sb.2 b (fun h : b = D => hb (by rw [h]; exact List.mem_cons_self))]; exact e
abbrev FilledS (P : Program) (w : World) (s : Shared) (xs : List Str) (s' : Shared) : Prop :=
  ∃ h' tk c, s' = { s with heap := h', toks := tk } ∧ TSet P w h' s.heap.objs.size (fun j => decide (j ∈ xs)) c ∧ c ≤ xs.length ∧ (xs.Nodup → c = xs.length) ∧ ∀ b o, s.heap.get? b = some o → h'.get? b = some o
theorem fill_texts {l : Addr} {items : Array Value} (xs : List Str) (hh : A.handled = none) (hl : s.heap.IsList l items) (hit : StrsAre items.toList xs) (hb : xs.length + 1 < scanBound) :
    codeAny (model P w) A (.call (.builtin "set.__init__") ⟨[.ref s.heap.objs.size, .ref l], []⟩) (wants (fun r s₂ => r = .none ∧ FilledS P w s xs s₂) E) { s with heap := s.heap.push (bareSet w) } := by
  have hsz : items.size = xs.length := by
    have q := StrsAre.length hit
    rw [Array.length_toList] at q
    exact q
  have hS : (s.heap.push (bareSet w)).get? s.heap.objs.size = some (bareSet w) := Heap.get?_push_size _ rfl
  have hT : Shared.TypeIs { s with heap := s.heap.push (bareSet w) } (.ref s.heap.objs.size) "set" := ⟨_, hS, rfl⟩
  refine codeAny_call_builtin PySem.F.called_set.init.plain PySem.F.entry_set_init (check_set_init_1 hT ?_)
  obtain ⟨⟨ocls, odict, odata, oslots⟩, hol, hcl, nl, hdl⟩ := hl
  dsimp only at hcl hdl
  subst hcl hdl
  have hol' : (s.heap.push (bareSet w)).get? l = some { cls := .type "list", dict := odict, data := .seq items nl, slots := oslots } := Heap.get?_push_of_some _ hol
  have h1 := PySem.F.sub_list_set
  have h2 := PySem.F.sub_list_frozenset
  have h3 : (Value.type "list" == Value.type "dict") = false := by decide
  have hl1 : (s.heap.push (bareSet w)).IsList l items := ⟨_, hol', rfl, nl, rfl⟩
  unfold Builtin.«set.__init__» noKeywords Builtin.Frozenset.updateFrom
  generalize hPI : pyIter = PI
  wp_walk
  subst hPI
  refine wpAny_pyIter_list hl1 (wpAny_bind (wpAny_runValue ?_))
  have hlS : l < s.heap.objs.size := Heap.lt_size hol
  have hz : (s.heap.push (bareSet w)).objs.size = s.heap.objs.size + 1 := Heap.size_push ..
  have hh3 : A.in1.in1.handled = none := by simp [hh]
  have hne : l ≠ (s.heap.push (bareSet w)).objs.size := by rw [hz]; exact Nat.ne_of_lt (Nat.lt_succ_of_lt hlS)
  have hSf : s.heap.objs.size ∉ [(s.heap.push (bareSet w)).objs.size, l] := by
    rw [hz]
    simp only [List.mem_cons, List.not_mem_nil, or_false, not_or]
    exact ⟨Nat.ne_of_lt (Nat.lt_succ_self _), Nat.ne_of_gt hlS⟩
  refine tset_walk ((Walks.list hh3 (s.heap.push (bareSet w)).objs.size l hne items).toS) s.heap.objs.size hSf xs hsz hb (fun i v hv => ?_) items.size 0 _ (by omega) (Nat.zero_le _)
    ⟨⟨_, Heap.get?_push_size _ rfl, rfl, rfl⟩, hl1.push _⟩ ?_ ?_
  case refine_2 =>
    have hg : ((s.heap.push (bareSet w)).push { cls := .type "list_iterator", data := .fields #[.ref l, .int 0 0] }).get? s.heap.objs.size = some (bareSet w) := Heap.get?_push_of_some _ hS
    exact ⟨0, Nat.le_refl 0, fun _ => rfl, (tset_fresh hg).congr fun k => by simp⟩
  · have hi : i < xs.length := by rw [← hsz]; exact (Array.getElem?_eq_some_iff.mp hv).1
    have hv' : items.toList[i]? = some v := by rw [Array.getElem?_toList]; exact hv
    obtain ⟨t, e⟩ := StrsAre.at hit (List.getElem?_eq_getElem hi)
    rw [hv'] at e
    exact ⟨xs[i], t, List.getElem?_eq_getElem hi, Option.some.inj e⟩
  · rintro ⟨h', g2, d', tk', os'⟩ c' hm hc' hcn' hS'
    obtain rfl : g2 = s.gens := hm.gens
    obtain rfl : d' = s.drawn := hm.drawn
    obtain rfl : os' = s.os := hm.os
    refine wpAny_pure ?_
    show wpAny _ _ (ret Value.none) _ _ _
    refine wpAny_pure ⟨rfl, h', tk', c', rfl, hS', by omega, fun nd => by rw [hcn' nd, hsz], fun b o e => ?_⟩
    have hb0 : b < s.heap.objs.size := Heap.lt_size e
    exact hm.heap b o (by rw [hz]; simp only [List.mem_cons, List.not_mem_nil, or_false, not_or]; exact ⟨Nat.ne_of_lt hb0, Nat.ne_of_lt (Nat.lt_succ_of_lt hb0)⟩) (Heap.get?_push_of_some _ (Heap.get?_push_of_some _ e))
theorem set_of_texts {l : Addr} {items : Array Value} (xs : List Str) {Q : Value → Shared → Prop} (hh : A.handled = none) (hl : s.heap.IsList l items) (hit : StrsAre items.toList xs) (hb : xs.length + 1 < scanBound)
    (h : ∀ s', FilledS P w s xs s' → Q (.ref s.heap.objs.size) s') : wpAny (model P w) A (call (.type "set") [.ref l]) Q E s := by
  obtain ⟨c, tl, hmro⟩ := PySem.F.called_set.mro
  have hmade := PySem.F.called_set.made
  have hsub := PySem.F.called_set.sub
  refine wpAny_call (codeAny_of_tree ?_)
  show wpAny _ _ (callAny (.type "set") _) _ _ _
  refine wpAny_pure ⟨Code.quiet_builtin _ (by decide +kernel), codeAny_builtin PySem.F.entry_type_call ?_⟩
  rw [Around.under_plain (weight_type_call_type "set" [.ref l] []) rfl]
  have h1 := PySem.F.called_set.notType
  have h2 := PySem.F.called_set.canCreate
  have hct := PySem.F.typeCall_set_1 (.ref l)
  repeat (any_goals (first | assumption | wp_step))
  refine codeAny_mono (code_set_led1 (P := P) (.ref l) (E := E) (Q₁ := fun obj s₁ => obj = .ref s.heap.objs.size ∧ s₁ = { s with heap := s.heap.push (bareSet w) }) ⟨rfl, rfl⟩) fun r s₁ hr => ?_
  cases r with
  | error e => exact hr
  | ok f =>
    cases f with
    | ret obj =>
      obtain ⟨rfl, rfl⟩ := hr
      have hS : (s.heap.push (bareSet w)).get? s.heap.objs.size = some (bareSet w) := Heap.get?_push_size _ rfl
      have hT : Shared.TypeIs { s with heap := s.heap.push (bareSet w) } (.ref s.heap.objs.size) "set" := ⟨_, hS, rfl⟩
      have hli := PySem.F.called_set.init.lookup
      have hbi := PySem.F.called_set.init.bind (.ref s.heap.objs.size)
      repeat (any_goals (first | assumption | wp_step))
      refine codeAny_mono (fill_texts (P := P) (E := E) xs (A := _) (by simp [hh]) hl hit hb) fun r₂ s₂ hr₂ => ?_
      cases r₂ with
      | error e => exact hr₂
      | ok f₂ =>
        cases f₂ with
        | ret r =>
          obtain ⟨rfl, f⟩ := hr₂
          repeat (any_goals (first | assumption | wp_step))
          exact h _ f
        | _ => exact hr₂.elim
    | _ => exact hr.elim
/-- sorted(set): its members, rising -/
theorem sorted_tset {S : Str → Bool} {n : Nat} {Q : Value → Shared → Prop} (R : TSet P w s.heap a S n) (hh : A.handled = none) (h64 : n < 64)
    (hQ : ∀ s' p (out : Array Value) (c : Nat) (ys : List Str), (∀ b o, s.heap.get? b = some o → s'.heap.get? b = some o) → s'.gens = s.gens → s'.os = s.os → s.heap.objs.size ≤ p →
      s'.heap.get? p = some (seqObj "list" out c) → StrsAre out.toList ys → sortedS ys = true → (∀ k, k ∈ ys ↔ S k = true) → ys.length = n → Q (.ref p) s') :
    wpAny (model P w) A (call (.builtin "sorted") [.ref a]) Q E s := by
  obtain ⟨o, es, ep, t, ho, hex, hd, hel, hm, hb, hf, hn, hr, hl⟩ := R
  refine Calls.call_function_entry kind_sorted plain_sorted entry_sorted (args_sorted1 _) ?_
  unfold Builtin.«sorted»
  refine wpAny_bind (m := checkCount "sorted" 1 1 _) (wpAny_pure ?_)
  refine wpAny_bind (collect_set (A := A.in1) hh ⟨o, ho, hex.1, hd⟩ hf hb hr hl fun s1 vs k1 hz g1 o1 pm => ?_)
  have hvl : vs.length = n := by rw [pm.length_eq, List.length_map, Array.length_toList]; exact hn
  have str1 : ∀ v ∈ vs, ∃ x tk, v = Value.str x tk := fun v hv => by
    obtain ⟨e, he, q⟩ := List.mem_map.mp (pm.mem_iff.mp hv)
    obtain ⟨⟨x, hx, _⟩, _⟩ := hel e he
    rw [q] at hx
    exact ⟨x, Value.isStrOf_shape hx⟩
  have hI : StrsAre vs (vs.map strOf) := strsAre_map vs str1
  refine wpAny_bind (wpAny_newList ?_ (by rw [hvl, sizeLine_eq]; omega))
  have hoL : (s1.heap.push (seqObj "list" vs.toArray 0)).get? s1.heap.objs.size = some (seqObj "list" vs.toArray 0) := Heap.get?_push_size _ rfl
  refine wpAny_bind (wpAny_holding (wpAny_call_entry slot_list_sort ⟨_, hoL, rfl⟩ entry_list_sort (list_sort_treeK strKind_oneLt hoL hI.keysOf (fun v₁ v₂ rest e => keyKind_strs (by rw [← e]; exact hI)) (by rw [hvl]; exact h64) fun st' hp hs => ⟨_, rfl, ?_⟩) (args_list_sort _)))
  obtain ⟨ys, a1, a2, a3⟩ := sorted_out_str hI hp hs
  obtain ⟨c, hc⟩ := sortedHeap_at (vs := vs) (out := (arrOf st').map (·.2)) hoL
  refine wpAny_pure ⟨_, rfl, hQ _ s1.heap.objs.size _ c ys (fun b u e => ?_) g1 o1 hz hc a1 a3 (fun k => ?_) ?_⟩
  · have q := k1 b u e
    have hlt := Heap.lt_size q
    show (sortedHeap (s1.heap.push (seqObj "list" vs.toArray 0)) s1.heap.objs.size vs _).get? b = some u
    rw [sortedHeap_old (Nat.ne_of_lt hlt) (by rw [size_push']; exact Nat.lt_succ_of_lt hlt)]
    exact Heap.get?_push_of_some _ q
  · rw [a2.mem_iff, hm k, List.mem_map]
    constructor
    · rintro ⟨v, hv, rfl⟩
      obtain ⟨e, he, q⟩ := List.mem_map.mp (pm.mem_iff.mp hv)
      obtain ⟨x, tk, e2⟩ := str1 v hv
      refine ⟨e, he, ?_⟩
      rw [q, e2]
      exact strKind_is P w x tk
    · rintro ⟨e, he, q⟩
      obtain ⟨tk, e2⟩ := Value.isStrOf_shape q
      exact ⟨e.2, pm.mem_iff.mpr (List.mem_map.mpr ⟨e, he, rfl⟩), by rw [e2]; rfl⟩
  · rw [a2.length_eq, List.length_map]; exact hvl
end
/-! ### the rule, for ints and for texts -/
def TSetO (P : Program) (w : World) (a : Addr) (S : Str → Bool) (n : Nat) : HO := .ext fun h => TSet P w h a S n
theorem tsetO_new {w : World} {P : Program} {H : Hp} {h : Heap} {a : Addr} {S : Str → Bool} {n : Nat} (R : TSet P w h a S n) : ObjOk P w H h a (TSetO P w a S n) := by
  have ⟨o, _, _, _, ho, _⟩ := R
  exact ⟨R, ⟨o, ho⟩, fun h1 h2 p k => TSet.at p k⟩
def rSetX (K : PySem.W.Frag) (P : Program) (w : World) : List V → Hp → VK → Prop := fun vs H Q => rSetI K w vs H Q ∨ ∃ (l : Addr) (xs : List Str), vs = [V.ref l] ∧ SqL K H l (xs.map V.str) ∧ xs.length < 64 ∧
  ∀ a n, H a = none → n ≤ xs.length → (xs.Nodup → n = xs.length) → Q (.ref a) (upd H a (TSetO P w a (fun j => decide (j ∈ xs)) n))
theorem cr_setX {X : Cx} (hc : X.calm = true) : CallR X (.type "set") (rSetX X.K X.prog X.w) := by
  intro pins s σ H vs us Q I r h
  rcases h with h | ⟨l, xs, rfl, hl, hf, q⟩
  · exact cr_setI hc pins s σ H vs us Q I r h
  · rw [Vals.ref1 r]
    obtain ⟨its, rv, pl, hz⟩ := I.list hl
    have hn : H s.heap.objs.size = none := I.hok.fresh (Nat.le_refl _)
    refine set_of_texts (P := X.prog) (w := X.w) xs (I.ok.hd hc) pl.isList (by simpa using rv.strs) (by unfold scanBound; omega) fun s' ⟨h', tk, c, e, R, hc', hcn, k⟩ => ?_
    rw [e]
    exact ⟨.ref s.heap.objs.size, upd H s.heap.objs.size (TSetO X.prog X.w s.heap.objs.size (fun j => decide (j ∈ xs)) c), I.laid (t' := tk) k (Nat.le_refl _) (tsetO_new R), rfl, q _ _ hn hc' hcn⟩
def rSortedSetX (P : Program) (w : World) : List V → Hp → VK → Prop := fun vs H Q => rSortedSet w vs H Q ∨ ∃ (a : Addr) (S : Str → Bool) (n : Nat), vs = [V.ref a] ∧ H a = some (TSetO P w a S n) ∧ n < 64 ∧
  ∀ (ys : List Str) (p : Addr), sortedS ys = true → (∀ k, k ∈ ys ↔ S k = true) → ys.length = n → H p = none → Q (.ref p) (upd H p (.lst (ys.map V.str)))
theorem cr_sortedSetX {X : Cx} (hc : X.calm = true) : CallR X (.builtin "sorted") (rSortedSetX X.prog X.w) := by
  intro pins s σ H vs us Q I r h
  rcases h with h | ⟨a, S, n, rfl, ha, h64, q⟩
  · exact cr_sortedSet hc pins s σ H vs us Q I r h
  have R : TSet X.prog X.w s.heap a S n := (I.hok a _ ha).1
  rw [Vals.ref1 r]
  refine sorted_tset R (I.ok.hd hc) h64 fun s' p out c ys k g o hp hg hi hs hm hl => ?_
  have hlen : (ys.map V.str).length ≤ sizeLine := by rw [List.length_map, hl, sizeLine_eq]; omega
  have hn : H p = none := I.hok.fresh hp
  have J : Inv X pins σ (upd H p (.lst (ys.map V.str))) { s with heap := s'.heap, gens := s'.gens, drawn := s'.drawn, toks := s'.toks } :=
    I.call (ch := []) (Un.laid k hp hn) (I.hok.laid k hp ⟨hlen, out.toList, c, vals_of_strs hi, hg⟩) (by rw [g]; exact I.bare) (fun _ z => nomatch z)
  have e : s' = { s with heap := s'.heap, gens := s'.gens, drawn := s'.drawn, toks := s'.toks } := by
    cases s'
    cases s
    cases o
    rfl
  rw [e]
  exact ⟨.ref p, _, J, rfl, q ys p hs hm hl hn⟩
/-- the reading: ints or texts, each once, rising -/
def wSortSetX (tw : TAW) : TEW := fun ρ S Q => tw ρ S fun ws S1 => match ws with
  | [.ref l] => (∃ ns : List Int, S1 l = some (.lst (ns.map W.int)) ∧ ns.length < 64 ∧ ∀ (ys : List Int) p, ys.Pairwise (· < ·) → (∀ k, k ∈ ys ↔ k ∈ ns) → S1 p = none → Q (.ref p) (put S1 p (.lst (ys.map W.int)))) ∨
      ∃ xs : List Str, S1 l = some (.lst (xs.map W.str)) ∧ xs.length < 64 ∧ ∀ (ys : List Str) p, sortedS ys = true → (∀ k, k ∈ ys ↔ k ∈ xs) → ys.length ≤ xs.length → (xs.Nodup → ys.length = xs.length) → S1 p = none → Q (.ref p) (put S1 p (.lst (ys.map W.str)))
  | _ => False
variable {K : PySem.W.Frag} {B : Hp}
instance le_sortSetX {P : Program} {w : World} {t : TA} {tw : TAW} [a : LA K B t tw] : LE K B (tCB (rSortedSetX P w) (tCons (tCB (rSetX K P w) t) tNil)) (wSortSetX tw) := ⟨fun σ H ρ S Q Qw hs hh q po =>
  a.l σ H ρ S _ _ hs hh q fun xs H1 ws S1 t1 hh1 r1 q1 => by
    split at q1
    · rename_i l
      obtain ⟨x, rfl, h1⟩ := rep1 r1
      cases (show x = _ from h1)
      rcases q1 with ⟨ns, e, hl, q⟩ | ⟨ns, e, hl, q⟩
      · obtain ⟨vs, g1, g2⟩ := hh1 _ _ e
        have g3 := g2.ints
        subst g3
        refine .inl ⟨l, ns, rfl, SqL.of g1, hl, fun p n hp hn => .inl ⟨p, _, n, rfl, upd_same, by omega, fun ys p2 h1 h2 h3 hp2 => ?_⟩⟩
        have t2 : Tk H1 (upd H1 p (SetO w p (fun j => decide (j ∈ ns)) n)) := Tk.new hp
        exact ((po.tk t1).tk t2).nlst hp2 (hh1.laid hp) RepL.ofInts fun p hp => q ys p h1 (fun k => by rw [h2]; simp) hp
      · obtain ⟨vs, g1, g2⟩ := hh1 _ _ e
        have g3 := g2.strs
        subst g3
        refine .inr ⟨l, ns, rfl, SqL.of g1, hl, fun p n hp hn hd => .inr ⟨p, _, n, rfl, upd_same, by omega, fun ys p2 h1 h2 h3 hp2 => ?_⟩⟩
        have t2 : Tk H1 (upd H1 p (TSetO P w p (fun j => decide (j ∈ ns)) n)) := Tk.new hp
        exact ((po.tk t1).tk t2).nlst hp2 (hh1.laid hp) RepL.ofStrs fun p hp => q ys p h1 (fun k => by rw [h2]; simp) (by omega) (fun nd => by rw [h3, hd nd]) hp
    · exact q1.elim⟩
theorem k_sortSetX (K : PySem.W.Frag) (P : Program) (w : World) {X : Cx} {e : Expr} {ta : TA} {p p2 pos pos2 : Pos} (hc : X.calm = true) (hg : Gl X "sorted") (hm : X.mg "sorted" = none) (hg2 : Gl X "set") (hm2 : X.mg "set" = none) (ha : PA X [e] ta)
    (hs : starEach [.Call (.Name "set" p2) [e] [] pos2] X.env = [(false, eval (.Call (.Name "set" p2) [e] [] pos2) X.env)] := by rfl) (hs2 : starEach [e] X.env = [(false, eval e X.env)] := by rfl) (hK : X.K = K := by rfl) (hP : X.prog = P := by rfl) (hw : X.w = w := by rfl) :
    PE X (.Call (.Name "sorted" p) [.Call (.Name "set" p2) [e] [] pos2] [] pos) (tCB (rSortedSetX P w) (tCons (tCB (rSetX K P w) ta) tNil)) := by
  subst hK hP hw
  exact pe_callB (cr_sortedSetX hc) hg hm rfl (pa_cons (pe_callTy (cr_setX hc) hg2 hm2 rfl ha (he := hs2)) pa_nil (hs := hs)) (he := hs)
/-! ### s.find(x, i) -/
def wS2i (f : Str → Str → Int → Int) : W → List W → Sto → WK → Prop := fun x ws S Q => match x, ws with
  | .str a, [.str b, .int i] => Q (.int (f a b i)) S
  | _, _ => False
instance lm_s2i {f : Str → Str → Int → Int} : LMR K (fun x xs H Q => ∃ (a b : Str) (i : Int), x = .str a ∧ xs = [.str b, .int i] ∧ Q (.int (f a b i)) H) (wS2i f) := ⟨fun H S x wx xs ws Q Qw hh rx r q po => by
  unfold wS2i at q
  split at q
  · cases (show x = _ from rx)
    obtain ⟨y, z, rfl, ry, rz⟩ := rep2 r
    cases (show y = _ from ry)
    cases (show z = _ from rz)
    exact ⟨_, _, _, rfl, rfl, po.int (Tk.refl H) hh q⟩
  · exact q.elim⟩
end Wl
set_option Elab.async false
set_option linter.all false
set_option maxRecDepth 100000
set_option maxHeartbeats 4000000
set_option synthInstance.maxHeartbeats 4000000
set_option synthInstance.maxSize 100000
namespace K10
open PySem PySem.Spec PyProof.Rows L2 Wl
local macro_rules | `(tactic| walk_at "w") => `(tactic| (conv => whnf))
/-! what a store holds -/
local macro_rules | `(tactic| walk_at "ne") => `(tactic| first | assumption | (apply Ne.symm; assumption) | exact ne_free (by assumption) (by assumption) | exact (ne_free (by assumption) (by assumption)).symm | exact Pl.ne (by assumption) (by assumption) | exact (Pl.ne (by assumption) (by assumption)).symm)
local macro_rules | `(tactic| walk_at "s") => `(tactic| first
  | exact put_same
  | assumption
  | (refine (put_ne ?_).trans ?_; (· walk_at "ne"); (· walk_at "s")))
/-! a side condition -/
local macro_rules | `(tactic| walk_at "c") => `(tactic| first
  | exact Or.inl (Or.inl ⟨by omega, by omega⟩)
  | exact Or.inl (Or.inr ⟨by omega, by omega⟩)
  | exact Or.inl ⟨by omega, by omega⟩
  | exact Or.inl ⟨rfl, _, by walk_at "s"⟩
  | rfl
  | omega
  | decide
  | exact Nat.le_trans (by omega) sizeLine_ge)
/-! one question is answered, if the answer is plain -/
local macro_rules | `(tactic| walk_at "g1") => `(tactic| first
  | refine ⟨fun _ => ?_, fun h => absurd (show true = false from h) (by decide)⟩
  | refine ⟨fun h => absurd (show false = true from h) Bool.false_ne_true, fun _ => ?_⟩
  | refine ⟨_, by walk_at "s", ?_⟩
  | refine ⟨_, _, by walk_at "s", by walk_at "s", ?_⟩
  | refine ⟨_, by walk_at "s", by simpa using (by omega), ?_⟩
  | refine ⟨_, rfl, ?_⟩
  | refine ⟨_, _, rfl, (by first | exact isTy_tt | exact isTy_ii | exact isTy_ll | exact isTy_ss | exact isTy_ib | exact isTy_tb | exact isTy_ti | exact isTy_ts | exact isTy_tl | exact isTy_lb | exact isTy_li | exact isTy_ls | exact isTy_lt | exact isTy_sb | exact isTy_si | exact isTy_st | exact isTy_sl | exact isTy_is | exact isTy_it | exact isTy_il | exact isTy_bi | exact isTy_bs | exact isTy_bb | exact isTy_nb | exact isTy_ni | exact isTy_ns | exact isTy_nt | exact isTy_nl | exact isTy_bt | exact isTy_bl | exact isTy_nd | exact isTy_td | exact isTy_ld | exact isTy_sd | exact isTy_id | exact isTy_bd | exact isTy_dd | exact isTy_db | exact isTy_di | exact isTy_ds | exact isTy_dt | exact isTy_dl), ?_⟩
  | refine ⟨_, _, tyName_lst (by walk_at "s"), (by first | exact isTy_ll | exact isTy_lb | exact isTy_li | exact isTy_ls | exact isTy_lt), ?_⟩
  | refine if_q ?_
  | refine ⟨by walk_at "c", ?_⟩)
local macro_rules | `(tactic| walk_at "go") => `(tactic| (walk_at "w"; repeat (walk_at "g1"; walk_at "w")))
/-! a branch that cannot be -/
local macro_rules | `(tactic| walk_at "two") => `(tactic| refine ⟨fun h => ?_, fun h => ?_⟩)
section
variable {P : Program} {w : World} {K : PySem.W.Frag} {mg : Str → Option Value} {base : Heap} {ec : Cls}
/-! a document's text, as code points -/
def ptsL (ms : List Str) : List Nat := (ms.map fun m => 46 :: tl m).flatten
mutual
def wrL : Itm → List Nat
  | .text x => 34 :: (tl x ++ [34])
  | .lab x => 35 :: tl x
  | .ref x => 64 :: tl x
  | .part k ms is => 40 :: (tl k ++ ptsL ms ++ wrLs is ++ [41])
def wrLs : List Itm → List Nat
  | [] => []
  | i :: is => 32 :: (wrL i ++ wrLs is)
end
def strL (l : List Nat) : Str := ⟨l.toArray⟩
theorem tl_strL (l : List Nat) : tl (strL l) = l := by unfold tl strL; simp
theorem strL_tl (x : Str) : strL (tl x) = x := tl_ext (tl_strL _)
theorem wrLs_map : ∀ is : List Itm, wrLs is = (is.map fun i => 32 :: wrL i).flatten
  | [] => by unfold wrLs; rfl
  | i :: is => by
    unfold wrLs
    rw [wrLs_map is, List.map_cons, List.flatten_cons]
    rfl
theorem wrLs_app (a b : List Itm) : wrLs (a ++ b) = wrLs a ++ wrLs b := by rw [wrLs_map, wrLs_map, wrLs_map, List.map_append, List.flatten_append]
theorem tl_joinA (s : Str) : ∀ (x : Str) (ys : List Str), tl (Txt.join s (x :: ys)) = tl x ++ (ys.map fun y => tl s ++ tl y).flatten
  | x, [] => by
    have e : Txt.join s [x] = Str.join s [x] := StrLaws.glued_eq_join _ _
    rw [e]
    simp [Str.join]
  | x, y :: r => by
    have e : ∀ zs, Txt.join s zs = Str.join s zs := fun zs => StrLaws.glued_eq_join _ _
    have ih := tl_joinA s y r
    rw [e] at ih ⊢
    show tl (x ++ s ++ Str.join s (y :: r)) = _
    rw [tl_append, tl_append, ih]
    simp
theorem ptsL_len {ms : List Str} (h : ∀ m ∈ ms, NameOk m) : (ptsL ms).length ≤ 9 * ms.length := by
  induction ms with
  | nil => exact Nat.le_refl _
  | cons m ms ih =>
    have a := (h m List.mem_cons_self).2.1
    have b := ih fun x hx => h x (List.mem_cons_of_mem _ hx)
    unfold ptsL at b ⊢
    rw [List.map_cons, List.flatten_cons, List.length_append, List.length_cons, List.length_cons]
    omega
theorem wrL_len {m n : Nat} {it : Itm} (h : ItmOk m n it) : (wrL it).length + 1 ≤ 70 * it.cnt := by
  induction h with
  | text h =>
    have := h.2.1
    unfold wrL Itm.cnt
    simp
    omega
  | lab h =>
    have := h.2.1
    unfold wrL Itm.cnt
    simp
    omega
  | ref h =>
    have := h.2.1
    unfold wrL Itm.cnt
    simp
    omega
  | @part d k ms is h1 h2 h3 h4 h5 ih =>
    have a := h1.2.1
    have b := ptsL_len h2.name
    have c : (wrLs is).length ≤ 70 * cnts is := by
      clear h4 h5
      induction is with
      | nil => unfold wrLs; exact Nat.zero_le _
      | cons i is ih2 =>
        have e1 := ih i List.mem_cons_self
        have e2 := ih2 fun x hx => ih x (List.mem_cons_of_mem _ hx)
        unfold wrLs
        rw [cnts_cons, List.length_cons, List.length_append]
        omega
    unfold wrL Itm.cnt
    simp
    omega
/-! characters of a text -/
theorem cut_one {z : Str} {pre post : List Nat} {c : Nat} (h : tl z = pre ++ c :: post) : cutS z (some (pre.length : Int)) (some ((pre.length : Int) + 1)) = ⟨#[c]⟩ := by
  apply tl_ext
  rw [cut_tl, h, tl_one]
  unfold cutL
  have e : ((pre.length : Int) + 1) = ((pre.length + 1 : Nat) : Int) := by omega
  rw [e, HT.sIx_nat, HT.sIx_nat]
  simp
theorem cut_mid {z : Str} {pre mid post : List Nat} (h : tl z = pre ++ mid ++ post) {a b : Int} (ha : a = pre.length) (hb : b = pre.length + mid.length) : cutS z (some a) (some b) = strL mid := by
  apply tl_ext
  rw [cut_tl, h, tl_strL, ha, hb]
  unfold cutL
  have e : ((pre.length : Int) + (mid.length : Int)) = ((pre.length + mid.length : Nat) : Int) := by omega
  rw [e, HT.sIx_nat, HT.sIx_nat]
  simp
theorem in_abc (c : Nat) : (!(Builtin.Str.occurrences ("abcdefghijklmnopqrstuvwxyz" : Str) ⟨#[c]⟩ 0 ("abcdefghijklmnopqrstuvwxyz" : Str).length 1).isEmpty) = decide (97 ≤ c ∧ c ≤ 122) := by
  rw [StrLaws.found_one, Bool.eq_iff_iff, decide_eq_true_eq, decide_eq_true_eq]
  have e : ("abcdefghijklmnopqrstuvwxyz" : Str).cps.toList = (List.range 26).map (97 + ·) := by decide +kernel
  rw [e, List.mem_map]
  constructor
  · rintro ⟨i, hi, rfl⟩
    have := List.mem_range.mp hi
    omega
  · rintro ⟨a, b⟩
    exact ⟨c - 97, List.mem_range.mpr (by omega), by omega⟩
theorem in_text (c : Nat) : (!(Builtin.Str.occurrences textAbc ⟨#[c]⟩ 0 textAbc.length 1).isEmpty) = decide (c ∈ tl textAbc) := StrLaws.found_one _ _
end
end K10
set_option Elab.async false
set_option linter.all false
set_option maxRecDepth 100000
set_option maxHeartbeats 4000000
set_option synthInstance.maxHeartbeats 4000000
set_option synthInstance.maxSize 100000
namespace K10
open PySem PySem.Spec PyProof.Rows L2 Wl
local macro_rules | `(tactic| walk_at "w") => `(tactic| (conv => whnf))
/-! what a store holds -/
local macro_rules | `(tactic| walk_at "ne") => `(tactic| first | assumption | (apply Ne.symm; assumption) | exact ne_free (by assumption) (by assumption) | exact (ne_free (by assumption) (by assumption)).symm | exact Pl.ne (by assumption) (by assumption) | exact (Pl.ne (by assumption) (by assumption)).symm)
local macro_rules | `(tactic| walk_at "s") => `(tactic| first
  | exact put_same
  | assumption
  | (refine (put_ne ?_).trans ?_; (· walk_at "ne"); (· walk_at "s")))
/-! a side condition -/
local macro_rules | `(tactic| walk_at "c") => `(tactic| first
  | exact Or.inl (Or.inl ⟨by omega, by omega⟩)
  | exact Or.inl (Or.inr ⟨by omega, by omega⟩)
  | exact Or.inl ⟨by omega, by omega⟩
  | exact Or.inl ⟨rfl, _, by walk_at "s"⟩
  | rfl
  | omega
  | decide
  | exact Nat.le_trans (by omega) sizeLine_ge)
/-! one question is answered, if the answer is plain -/
local macro_rules | `(tactic| walk_at "g1") => `(tactic| first
  | refine ⟨fun _ => ?_, fun h => absurd (show true = false from h) (by decide)⟩
  | refine ⟨fun h => absurd (show false = true from h) Bool.false_ne_true, fun _ => ?_⟩
  | refine ⟨_, by walk_at "s", ?_⟩
  | refine ⟨_, _, by walk_at "s", by walk_at "s", ?_⟩
  | refine ⟨_, by walk_at "s", by simpa using (by omega), ?_⟩
  | refine ⟨_, rfl, ?_⟩
  | refine ⟨_, _, rfl, (by first | exact isTy_tt | exact isTy_ii | exact isTy_ll | exact isTy_ss | exact isTy_ib | exact isTy_tb | exact isTy_ti | exact isTy_ts | exact isTy_tl | exact isTy_lb | exact isTy_li | exact isTy_ls | exact isTy_lt | exact isTy_sb | exact isTy_si | exact isTy_st | exact isTy_sl | exact isTy_is | exact isTy_it | exact isTy_il | exact isTy_bi | exact isTy_bs | exact isTy_bb | exact isTy_nb | exact isTy_ni | exact isTy_ns | exact isTy_nt | exact isTy_nl | exact isTy_bt | exact isTy_bl | exact isTy_nd | exact isTy_td | exact isTy_ld | exact isTy_sd | exact isTy_id | exact isTy_bd | exact isTy_dd | exact isTy_db | exact isTy_di | exact isTy_ds | exact isTy_dt | exact isTy_dl), ?_⟩
  | refine ⟨_, _, tyName_lst (by walk_at "s"), (by first | exact isTy_ll | exact isTy_lb | exact isTy_li | exact isTy_ls | exact isTy_lt), ?_⟩
  | refine if_q ?_
  | refine ⟨by walk_at "c", ?_⟩)
local macro_rules | `(tactic| walk_at "go") => `(tactic| (walk_at "w"; repeat (walk_at "g1"; walk_at "w")))
/-! a branch that cannot be -/
local macro_rules | `(tactic| walk_at "two") => `(tactic| refine ⟨fun h => ?_, fun h => ?_⟩)
section
variable {P : Program} {w : World} {K : PySem.W.Frag} {mg : Str → Option Value} {base : Heap} {ec : Cls}
theorem lc_mapD {α : Type} (F : α → W) (rs : List α) (f : α → W) {j : Nat} {te : TEW} {vs : List Nat} {ρ : StW} {Q : WK} {ok : Sto → Prop} {S1 : Sto} (hl : rs.length ≤ 100000) (hok : ∀ (D : Addr) (acc : List W), S1 D = none → ok (put S1 D (.lst acc)))
    (he : ∀ (x : α) (D : Addr) (acc : List W), x ∈ rs → S1 D = none → ∀ Q' : WK, Q' (f x) (put S1 D (.lst acc)) → te ((wipeW ρ vs).set j (some (F x))) (put S1 D (.lst acc)) Q')
    (hd : ∀ (D : Addr), S1 D = none → Q (.ref D) (put S1 D (.lst (rs.map f)))) : LcQ (wName j) wYes te vs ρ Q (rs.map F) ok S1 :=
  lc_filD F rs (fun x => (wipeW ρ vs).set j (some (F x))) (fun _ => true) f hl hok (fun _ _ _ _ h => h) (fun _ _ _ _ _ => fun Q q => q) (fun x D acc hx _ hD => he x D acc hx hD) (fun D hD => by rw [List.filter_eq_self.mpr (fun _ _ => rfl)]; exact hd D hD)
def spNam : SpW := fun ws S Q => ∃ x : Str, ws = [.str x] ∧ NameOk x ∧ Q (.bl true) S
theorem ok_is_name (T : Txt K mg ec) (d : DefAt K mg "is_name" s_is_name ["word"]) : CalW P w K mg base 1 "is_name" spNam :=
  calDI d sc_is_name (fun ws S Q ⟨x, h, _⟩ => by rw [h]; rfl) fun f cdv A outer s H E hr => ⟨_, _,
    (pss_one (ps_ret (pe_and (pe_chain op_leA op_leA pe_int (pe_callB (k_len K) (by rfl) T.b_len (by decide +kernel) (pa_cons (pv 0) pa_nil)) (k_gl K T.m_LONGEST_NAME rfl)) (pe_one (pe_callB (k_all K rfl) (by rfl) T.b_all (by decide +kernel) (pa_cons (pe_lc (own := [("char", 1)]) rfl sc_is_name.nd (k_any K (pv 0)) (blkOk_by (own := [("char", 1)]) (N := ["word", "char"]) (sc := defScope s_is_name) (by decide +kernel)) (fun _ _ _ _ _ => (pg_name (i := 1) sc_is_name.nd rfl (Or.inl rfl))) (fun _ _ _ _ _ => pts_nil) (fun _ _ _ _ _ => (pe_cmpR (k_in K) (pv 1) (k_gl K T.m_NAME_LETTERS rfl) rfl))) pa_nil)))))), inferInstance, by
    rintro ws S Q ⟨x, rfl, hx, q⟩
    walk_at "w"
    refine ⟨by rw [← tl_len]; have := hx.2.1; exact Nat.le_trans (by omega) sizeLine_ge, ?_⟩
    walk_at "w"
    have h1 : 1 ≤ x.length := by rw [← tl_len]; exact hx.1
    have h2 : x.length ≤ 8 := by rw [← tl_len]; exact hx.2.1
    refine ⟨fun _ => ?_, fun h => absurd (of_decide_eq_false h) (by simp; omega)⟩
    walk_at "w"
    refine ⟨fun _ => ?_, fun h => absurd (of_decide_eq_false h) (by simp; omega)⟩
    walk_at "w"
    refine lc_mapD (fun c : Nat => W.str ⟨#[c]⟩) (tl x) (fun _ => W.bl true) (by have := hx.2.1; omega) (fun _ _ _ => trivial) ?_ ?_
    · intro c D acc hc hD Q' q'
      walk_at "w"
      rw [show (!(Builtin.Str.occurrences ("abcdefghijklmnopqrstuvwxyz" : Str) ⟨#[c]⟩ 0 (("abcdefghijklmnopqrstuvwxyz" : Str)).length 1).isEmpty) = true from by rw [in_abc]; exact decide_eq_true (hx.2.2 c hc)]
      exact q'
    · intro D hD
      walk_at "w"
      refine ⟨D, (tl x).map fun _ => true, rfl, ?_, ?_⟩
      · rw [put_same, List.map_map]; rfl
      have ea : ((tl x).map fun _ => true).all id = true := by rw [List.all_map, List.all_eq_true]; intro _ _; rfl
      rw [ea]
      refine fg_off (ps := []) (T := put S D (.lst ((tl x).map fun _ => W.bl true))) ((KpL.refl [] S).new hD) fun S8 g1 g2 => ?_
      rw [show S8 = S from funext fun a => g1 a (by simp)]
      exact q⟩
def spTxt : SpW := fun ws S Q => ∃ x : Str, ws = [.str x] ∧ TextOk x ∧ Q (.bl true) S
theorem ok_is_text (T : Txt K mg ec) (d : DefAt K mg "is_text" s_is_text ["word"]) : CalW P w K mg base 1 "is_text" spTxt :=
  calDI d sc_is_text (fun ws S Q ⟨x, h, _⟩ => by rw [h]; rfl) fun f cdv A outer s H E hr => ⟨_, _,
    (pss_one (ps_ret (pe_and (pe_chain op_leA op_leA pe_int (pe_callB (k_len K) (by rfl) T.b_len (by decide +kernel) (pa_cons (pv 0) pa_nil)) (k_gl K T.m_LONGEST_TEXT rfl)) (pe_one (pe_callB (k_all K rfl) (by rfl) T.b_all (by decide +kernel) (pa_cons (pe_lc (own := [("char", 1)]) rfl sc_is_text.nd (k_any K (pv 0)) (blkOk_by (own := [("char", 1)]) (N := ["word", "char"]) (sc := defScope s_is_text) (by decide +kernel)) (fun _ _ _ _ _ => (pg_name (i := 1) sc_is_text.nd rfl (Or.inl rfl))) (fun _ _ _ _ _ => pts_nil) (fun _ _ _ _ _ => (pe_cmpR (k_in K) (pv 1) (k_gl K T.m_TEXT_CHARACTERS rfl) rfl))) pa_nil)))))), inferInstance, by
    rintro ws S Q ⟨x, rfl, hx, q⟩
    walk_at "w"
    refine ⟨by rw [← tl_len]; have := hx.2.1; exact Nat.le_trans (by omega) sizeLine_ge, ?_⟩
    walk_at "w"
    have h1 : 1 ≤ x.length := by rw [← tl_len]; exact hx.1
    have h2 : x.length ≤ 60 := by rw [← tl_len]; exact hx.2.1
    refine ⟨fun _ => ?_, fun h => absurd (of_decide_eq_false h) (by simp; omega)⟩
    walk_at "w"
    refine ⟨fun _ => ?_, fun h => absurd (of_decide_eq_false h) (by simp; omega)⟩
    walk_at "w"
    refine lc_mapD (fun c : Nat => W.str ⟨#[c]⟩) (tl x) (fun _ => W.bl true) (by have := hx.2.1; omega) (fun _ _ _ => trivial) ?_ ?_
    · intro c D acc hc hD Q' q'
      walk_at "w"
      show Q' (W.bl (!(Builtin.Str.occurrences textAbc ⟨#[c]⟩ 0 textAbc.length 1).isEmpty)) _
      rw [in_text, decide_eq_true (hx.2.2 c hc)]
      exact q'
    · intro D hD
      walk_at "w"
      refine ⟨D, (tl x).map fun _ => true, rfl, ?_, ?_⟩
      · rw [put_same, List.map_map]; rfl
      have ea : ((tl x).map fun _ => true).all id = true := by rw [List.all_map, List.all_eq_true]; intro _ _; rfl
      rw [ea]
      refine fg_off (ps := []) (T := put S D (.lst ((tl x).map fun _ => W.bl true))) ((KpL.refl [] S).new hD) fun S8 g1 g2 => ?_
      rw [show S8 = S from funext fun a => g1 a (by simp)]
      exact q⟩
theorem perm_of {α : Type} [DecidableEq α] : ∀ (ms ys : List α), ms.Nodup → (∀ m ∈ ms, m ∈ ys) → ys.length = ms.length → ys.Perm ms
  | [], ys, _, _, h => by rw [List.length_eq_zero_iff.mp h]
  | m :: ms, ys, hn, hs, h => by
    obtain ⟨n1, n2⟩ := List.nodup_cons.mp hn
    have hm := hs m List.mem_cons_self
    have p := List.perm_cons_erase hm
    refine p.trans (List.Perm.cons m (perm_of ms (ys.erase m) n2 (fun x hx => ?_) ?_))
    · exact (List.mem_erase_of_ne (fun e => n1 (by rw [← e]; exact hx))).mpr (hs x (List.mem_cons_of_mem _ hx))
    · rw [List.length_erase_of_mem hm, h]
      rfl
theorem rise_le : ∀ (r : List Str) (p : Str), risingS p r = true → (∀ x ∈ r, tl p ≤ tl x) ∧ r.Pairwise fun a b => tl a ≤ tl b
  | [], _, _ => ⟨(fun _ h => by cases h), List.Pairwise.nil⟩
  | x :: r, p, h => by
    have h : (!ltCps x.cps.toList p.cps.toList && risingS x r) = true := h
    rw [Bool.and_eq_true, ltCps_eq] at h
    have h0 : ¬ tl x < tl p := fun hlt => by
      have h1 : (!decide (tl x < tl p)) = true := h.1
      rw [decide_eq_true hlt] at h1
      exact absurd h1 (by decide)
    have hpx : tl p ≤ tl x := List.not_lt.mp h0
    obtain ⟨a, b⟩ := rise_le r x h.2
    refine ⟨fun y hy => ?_, List.pairwise_cons.mpr ⟨a, b⟩⟩
    rcases List.mem_cons.mp hy with e | hy
    · rw [e]; exact hpx
    · exact List.le_trans hpx (a y hy)
theorem sorted_eq {ms ys : List Str} (hm : MarksOk ms) (hs : sortedS ys = true) (mem : ∀ k, k ∈ ys ↔ k ∈ ms) (hl : ms.Nodup → ys.length = ms.length) : ys = ms := by
  have nd : ms.Nodup := hm.up.imp fun h e => by rw [e] at h; exact absurd (of_decide_eq_true h) (List.lt_irrefl _)
  have p := perm_of ms ys nd (fun m h => (mem m).mpr h) (hl nd)
  refine List.Perm.eq_of_pairwise (le := fun a b => tl a ≤ tl b) (fun a b _ _ h1 h2 => tl_ext (List.le_antisymm h1 h2)) ?_ ?_ p
  · cases ys with
    | nil => exact List.Pairwise.nil
    | cons y r =>
      obtain ⟨a, b⟩ := rise_le r y hs
      exact List.pairwise_cons.mpr ⟨a, b⟩
  · exact hm.up.imp fun h => List.le_of_lt (of_decide_eq_true h)
theorem eq_strs : ∀ ms : List Str, PyData.eqvAll (toDs (ms.map W.str)) (toDs (ms.map W.str)) = true
  | [] => by
    show PyData.eqvAll [] [] = true
    simp [PyData.eqvAll]
  | m :: ms => by
    have ih := eq_strs ms
    show PyData.eqvAll (.str m :: toDs (ms.map W.str)) (.str m :: toDs (ms.map W.str)) = true
    simp [PyData.eqvAll, PyData.eqv, ih]
theorem sh_strs {ms : List Str} (h : ∀ m ∈ ms, NameOk m) : shW (.rl (ms.map W.str)) := shN_sh (n := 1) (shN_rl fun w hw => by
  obtain ⟨m, hm, rfl⟩ := List.mem_map.mp hw
  refine shN_str ?_
  unfold PyData.strOk
  rw [Array.all_eq_true_iff_forall_mem]
  intro c hc
  have := (h m hm).2.2 c (by unfold tl; exact Array.mem_toList_iff.mpr hc)
  exact decide_eq_true (by omega)) (by decide)
def spMks : SpW := fun ws S Q => ∃ (p : Addr) (ms : List Str), ws = [.ref p] ∧ S p = some (.lst (ms.map W.str)) ∧ MarksOk ms ∧ ms.length ≤ 3 ∧ Q (.bl true) S
theorem ok_is_marks (T : Txt K mg ec) (c_is_name : CalW P w K mg base 1 "is_name" (Hd spNam)) (d : DefAt K mg "is_marks" s_is_marks ["words"]) : CalW P w K mg base 2 "is_marks" spMks :=
  calDI d sc_is_marks (fun ws S Q ⟨p, ms, h, _⟩ => by rw [h]; rfl) fun f cdv A outer s H E hr => ⟨_, _,
    (pss_cons (ps_if (PW.pt (pw_or (pt_cmpR op_gtA (pe_callB (k_len K) (by rfl) T.b_len (by decide +kernel) (pa_cons (pv 0) pa_nil)) (k_gl K T.m_MOST_MARKS rfl) (nomark _)) (pw_or1 (pt_not (pt_val (pe_callB (k_all K rfl) (by rfl) T.b_all (by decide +kernel) (pa_cons (pe_lc (own := [("word", 1)]) rfl sc_is_marks.nd (k_any K (pv 0)) (blkOk_by (own := [("word", 1)]) (N := ["words", "word"]) (sc := defScope s_is_marks) (by decide +kernel)) (fun _ _ _ _ _ => (pg_name (i := 1) sc_is_marks.nd rfl (Or.inl rfl))) (fun _ _ _ _ _ => pts_nil) (fun _ _ _ _ _ => (k_w K c_is_name hr (by decide) rfl (pa_cons (pv 1) pa_nil)))) pa_nil)))))))
       (pss_one (ps_ret pe_bl))
       pss_nil)
      (pss_one (ps_ret (pe_cmpR (k_eq K hr.units) (pe_callTy (k_list K) (by rfl) T.b_list (by decide +kernel) (pa_cons (pv 0) pa_nil)) (k_sortSetX K P w rfl (by rfl) T.b_sorted (by rfl) T.b_set (pa_cons (pv 0) pa_nil)) (nomark _))))), inferInstance, by
    rintro ws S Q ⟨p, ms, rfl, hp, hm, hl, q⟩
    have hn : ms.Nodup := hm.up.imp fun h e => by rw [e] at h; exact absurd (of_decide_eq_true h) (List.lt_irrefl _)
    walk_at "w"
    refine if_q ?_
    walk_at "w"
    refine ⟨_, hp, ?_⟩
    walk_at "w"
    rw [List.length_map]
    refine ⟨fun h => absurd (of_decide_eq_true h) (by omega), fun _ => ?_⟩
    walk_at "w"
    refine ⟨_, hp, ?_⟩
    refine lc_mapD W.str ms (fun _ => W.bl true) (by omega) (fun D acc hD => (put_ne (ne_free hp hD).symm).trans hp) ?_ ?_
    · intro c D acc hc hD Q' q'
      walk_at "w"
      exact Hd.mk ⟨c, rfl, hm.name c hc, q'⟩
    intro D hD
    walk_at "w"
    refine ⟨D, ms.map fun _ => true, rfl, ?_, ?_⟩
    · rw [put_same, List.map_map]; rfl
    have ea : (ms.map fun _ => true).all id = true := by rw [List.all_map, List.all_eq_true]; intro _ _; rfl
    rw [ea]
    have p1 := (put_ne (c := .lst (ms.map fun _ => W.bl true)) (ne_free hp hD).symm).trans hp
    have k1 : KpL [] S (put S D (.lst (ms.map fun _ => W.bl true))) := (KpL.refl [] S).new hD
    generalize put S D (.lst (ms.map fun _ => W.bl true)) = S1 at p1 k1
    walk_at "w"
    refine ⟨fun h => absurd (show (!true) = true from h) (by decide), fun _ => ?_⟩
    walk_at "w"
    refine ⟨_, p1, fun Z hZ => ?_⟩
    have p2 := (put_ne (c := .lst (ms.map W.str)) (ne_free p1 hZ).symm).trans p1
    have z2 : put S1 Z (.lst (ms.map W.str)) Z = some (.lst (ms.map W.str)) := put_same
    have k2 : KpL [] S (put S1 Z (.lst (ms.map W.str))) := k1.new hZ
    generalize put S1 Z (.lst (ms.map W.str)) = S2 at p2 z2 k2
    walk_at "w"
    refine .inr ⟨ms, p2, by omega, fun ys Y srt mem le len hY => ?_⟩
    have e := sorted_eq hm srt mem len
    subst e
    have z3 := (put_ne (c := .lst (ys.map W.str)) (ne_free z2 hY).symm).trans z2
    refine ⟨_, _, z3, put_same, sh_strs hm.name, sh_strs hm.name, ?_⟩
    rw [eq_strs]
    refine fg_off (ps := []) (T := put S2 Y (.lst (ys.map W.str))) (k2.new hY) fun S8 g1 g2 => ?_
    rw [show S8 = S from funext fun a => g1 a (by simp)]
    exact q⟩
end
end K10
set_option Elab.async false
set_option linter.all false
set_option maxRecDepth 100000
set_option maxHeartbeats 4000000
set_option synthInstance.maxHeartbeats 4000000
set_option synthInstance.maxSize 100000
namespace K10
open PySem PySem.Spec PyProof.Rows L2 Wl
local macro_rules | `(tactic| walk_at "w") => `(tactic| (conv => whnf))
/-! what a store holds -/
local macro_rules | `(tactic| walk_at "ne") => `(tactic| first | assumption | (apply Ne.symm; assumption) | exact ne_free (by assumption) (by assumption) | exact (ne_free (by assumption) (by assumption)).symm | exact Pl.ne (by assumption) (by assumption) | exact (Pl.ne (by assumption) (by assumption)).symm)
local macro_rules | `(tactic| walk_at "s") => `(tactic| first
  | exact put_same
  | assumption
  | (refine (put_ne ?_).trans ?_; (· walk_at "ne"); (· walk_at "s")))
/-! a side condition -/
local macro_rules | `(tactic| walk_at "c") => `(tactic| first
  | exact Or.inl (Or.inl ⟨by omega, by omega⟩)
  | exact Or.inl (Or.inr ⟨by omega, by omega⟩)
  | exact Or.inl ⟨by omega, by omega⟩
  | exact Or.inl ⟨rfl, _, by walk_at "s"⟩
  | rfl
  | omega
  | decide
  | exact Nat.le_trans (by omega) sizeLine_ge)
/-! one question is answered, if the answer is plain -/
local macro_rules | `(tactic| walk_at "g1") => `(tactic| first
  | refine ⟨fun _ => ?_, fun h => absurd (show true = false from h) (by decide)⟩
  | refine ⟨fun h => absurd (show false = true from h) Bool.false_ne_true, fun _ => ?_⟩
  | refine ⟨_, by walk_at "s", ?_⟩
  | refine ⟨_, _, by walk_at "s", by walk_at "s", ?_⟩
  | refine ⟨_, by walk_at "s", by simpa using (by omega), ?_⟩
  | refine ⟨_, rfl, ?_⟩
  | refine ⟨_, _, rfl, (by first | exact isTy_tt | exact isTy_ii | exact isTy_ll | exact isTy_ss | exact isTy_ib | exact isTy_tb | exact isTy_ti | exact isTy_ts | exact isTy_tl | exact isTy_lb | exact isTy_li | exact isTy_ls | exact isTy_lt | exact isTy_sb | exact isTy_si | exact isTy_st | exact isTy_sl | exact isTy_is | exact isTy_it | exact isTy_il | exact isTy_bi | exact isTy_bs | exact isTy_bb | exact isTy_nb | exact isTy_ni | exact isTy_ns | exact isTy_nt | exact isTy_nl | exact isTy_bt | exact isTy_bl | exact isTy_nd | exact isTy_td | exact isTy_ld | exact isTy_sd | exact isTy_id | exact isTy_bd | exact isTy_dd | exact isTy_db | exact isTy_di | exact isTy_ds | exact isTy_dt | exact isTy_dl), ?_⟩
  | refine ⟨_, _, tyName_lst (by walk_at "s"), (by first | exact isTy_ll | exact isTy_lb | exact isTy_li | exact isTy_ls | exact isTy_lt), ?_⟩
  | refine if_q ?_
  | refine ⟨by walk_at "c", ?_⟩)
local macro_rules | `(tactic| walk_at "go") => `(tactic| (walk_at "w"; repeat (walk_at "g1"; walk_at "w")))
/-! a branch that cannot be -/
local macro_rules | `(tactic| walk_at "two") => `(tactic| refine ⟨fun h => ?_, fun h => ?_⟩)
section
variable {P : Program} {w : World} {K : PySem.W.Frag} {mg : Str → Option Value} {base : Heap} {ec : Cls}
def spWi (n : Nat) : SpW := fun ws S Q => ∃ (it : Itm) (m : Nat), ws = [it.w] ∧ ItmOk m n it ∧ m ≤ 1000 ∧ it.cnt ≤ 1000 ∧ Q (.str (strL (wrL it))) S
theorem small_le {n : Nat} (h : n ≤ 1000) : n ≤ sizeLine := Nat.le_trans h sizeLine_ge
theorem lenS {l : List Nat} (h : l.length ≤ 100000) : (strL l).length ≤ sizeLine := by
  rw [← tl_len, tl_strL]
  exact Nat.le_trans h (by rw [sizeLine_eq]; decide)
theorem len_sum {ms : List Str} (h : ∀ m ∈ ms, NameOk m) : (ms.map (·.length)).sum ≤ 8 * ms.length := by
  induction ms with
  | nil => exact Nat.le_refl _
  | cons m ms ih =>
    have a := (h m List.mem_cons_self).2.1
    rw [tl_len] at a
    have b := ih fun x hx => h x (List.mem_cons_of_mem _ hx)
    rw [List.map_cons, List.sum_cons, List.length_cons]
    omega
theorem cnt_mem {i : Itm} {is : List Itm} (h : i ∈ is) : i.cnt ≤ cnts is := by
  induction is with
  | nil => cases h
  | cons x is ih =>
    rw [cnts_cons]
    rcases List.mem_cons.mp h with e | h
    · rw [e]; omega
    · have := ih h; omega
theorem tl_head (kd : Str) (ms : List Str) : tl (Txt.join (Str.ofString ".") (kd :: ms)) = tl kd ++ ptsL ms := by
  rw [tl_joinA]
  unfold ptsL
  rfl
theorem wrLs_len {m n : Nat} {is : List Itm} (h : ∀ i ∈ is, ItmOk m n i) : (wrLs is).length ≤ 70 * cnts is := by
  induction is with
  | nil => unfold wrLs; exact Nat.zero_le _
  | cons i is ih =>
    have a := wrL_len (h i List.mem_cons_self)
    have b := ih fun x hx => h x (List.mem_cons_of_mem _ hx)
    unfold wrLs
    rw [cnts_cons, List.length_cons, List.length_append]
    omega
theorem its_sum (is : List Itm) : (is.map fun i => (strL (wrL i)).length).sum + is.length = (wrLs is).length := by
  induction is with
  | nil => unfold wrLs; rfl
  | cons i is ih =>
    unfold wrLs
    rw [List.map_cons, List.sum_cons, List.length_cons, List.length_cons, List.length_append, ← ih, ← tl_len, tl_strL]
    omega
theorem part_str (kd : Str) (ms : List Str) (is : List Itm) (x : Str) (hx : tl x = tl kd ++ ptsL ms ++ wrLs is) : (Str.ofString "(" ++ x ++ Str.ofString ")" : Str) = strL (wrL (.part kd ms is)) := by
  apply tl_ext
  rw [tl_append, tl_append, hx, tl_strL]
  unfold wrL
  rfl
theorem wi_step (T : Txt K mg ec) (k n : Nat) (hk : 1 ≤ k) (sp' : SpW) (c_is_part : CalW P w K mg base 1 "is_part" (Hd spIs)) (c_write_item : CalW P w K mg base k "write_item" (Hd sp')) (hn : ∀ (u : Nat) (ws : List W) (S : Sto) (Q : WK), n = u + 1 → spWi u ws S Q → sp' ws S Q)
    (d : DefAt K mg "write_item" s_write_item ["item"]) : CalW P w K mg base (k + 1) "write_item" (spWi n) :=
  have c_is_part := c_is_part.mono hk
  calDI d sc_write_item (fun ws S Q ⟨it, m, e, _⟩ => by rw [e]; rfl) fun f cdv A outer s H E hr => ⟨_, _,
    (pss_cons (ps_if (pt_val (pe_callB (k_isi K) (by rfl) T.b_isinstance (by decide +kernel) (pa_cons (pv 0) (pa_cons (pe_bltn (v := .ty "str") (by rfl) T.b_str (by decide +kernel) rfl) pa_nil))))
       (pss_one (ps_ret (pe_op (k_addB K) (pe_op (k_addB K) pe_str (pv 0)) pe_str)))
       pss_nil)
      (pss_cons (ps_if (pt_not (pt_val (k_w K c_is_part hr (Nat.le_refl _) rfl (pa_cons (pv 0) pa_nil))))
       (pss_one (ps_ret (pe_op (k_addB K) (pe_ix (k_ix K) (pv 0) pe_int (fun _ _ => rfl)) (pe_ix (k_ix K) (pv 0) pe_int (fun _ _ => rfl)))))
       pss_nil)
      (pss_cons (ps_asg (pv 0) (k_gtup K (n := 3) rfl (pgs_cons (pg_name (i := 1) sc_write_item.nd rfl (Or.inl rfl)) (pgs_cons (pg_name (i := 2) sc_write_item.nd rfl (Or.inl rfl)) (pgs_cons (pg_name (i := 3) sc_write_item.nd rfl (Or.inl rfl)) pgs_nil)))))
      (pss_cons (ps_set (i := 4) sc_write_item.nd rfl (Or.inl rfl) (pe_op (k_addB K) (pe_lst (pa_cons (k_bm K PySem.F.plainAttrs_str PySem.F.slot_str_join PySem.F.type_str_join (k_joinM K) pe_str (pa_cons (pe_op (k_addB K) (pe_tup (pa_cons (pv 1) pa_nil)) (pv 2)) pa_nil)) pa_nil)) (pe_lc (own := [("inner", 5)]) rfl sc_write_item.nd (k_any K (pv 3)) (blkOk_by (own := [("inner", 5)]) (N := ["item", "kind", "marks", "items", "words", "inner"]) (sc := defScope s_write_item) (by decide +kernel)) (fun _ _ _ _ _ => (pg_name (i := 5) sc_write_item.nd rfl (Or.inl rfl))) (fun _ _ _ _ _ => pts_nil) (fun _ _ _ _ _ => (k_w K c_write_item hr (Nat.le_refl _) rfl (pa_cons (pv 5) pa_nil))))))
      (pss_one (ps_ret (pe_op (k_addB K) (pe_op (k_addB K) pe_str (k_bm K PySem.F.plainAttrs_str PySem.F.slot_str_join PySem.F.type_str_join (k_joinM K) pe_str (pa_cons (pv 4) pa_nil))) pe_str))))))), inferInstance, by
    rintro ws S Q ⟨it, m, rfl, h, hm, hc, q⟩
    have hL := wrL_len h
    walk_at "w"
    cases h with
    | @text _ x h =>
      refine ⟨_, _, rfl, isTy_ss, ?_⟩
      walk_at "w"
      refine ⟨fun _ => ?_, fun h => absurd (show true = false from h) (by decide)⟩
      walk_at "w"
      have hx := h.2.1
      have l1 : (Str.ofString "\"").length = 1 := by decide +kernel
      have lx : x.length ≤ 60 := by rw [← tl_len]; exact hx
      refine ⟨by rw [l1]; exact small_le (by omega), ?_⟩
      walk_at "w"
      refine ⟨by rw [← tl_len, tl_append, List.length_append, tl_len, tl_len, l1]; exact small_le (by omega), ?_⟩
      refine fg_here ?_
      rw [show (Str.ofString "\"" ++ x ++ Str.ofString "\"" : Str) = strL (wrL (.text x)) from tl_ext (by rw [tl_append, tl_append, tl_strL]; unfold wrL; rfl)]
      exact q
    | @lab _ x h =>
      refine ⟨_, _, rfl, isTy_ts, ?_⟩
      walk_at "w"
      refine ⟨fun h => absurd (show false = true from h) Bool.false_ne_true, fun _ => ?_⟩
      walk_at "w"
      refine is_go ?_
      refine ⟨fun _ => ?_, fun h => absurd (show (!false) = false from h) (by decide)⟩
      walk_at "w"
      have hx := h.2.1
      have l1 : (Str.ofString "#").length = 1 := by decide +kernel
      have lx : x.length ≤ 8 := by rw [← tl_len]; exact hx
      refine ⟨by show (Str.ofString "#").length + x.length ≤ _; rw [l1]; exact small_le (by omega), ?_⟩
      refine fg_here ?_
      show Q (.str (Str.ofString "#" ++ x)) S
      rw [show (Str.ofString "#" ++ x : Str) = strL (wrL (.lab x)) from tl_ext (by rw [tl_append, tl_strL]; unfold wrL; rfl)]
      exact q
    | @ref _ x h =>
      refine ⟨_, _, rfl, isTy_ts, ?_⟩
      walk_at "w"
      refine ⟨fun h => absurd (show false = true from h) Bool.false_ne_true, fun _ => ?_⟩
      walk_at "w"
      refine is_go ?_
      refine ⟨fun _ => ?_, fun h => absurd (show (!false) = false from h) (by decide)⟩
      walk_at "w"
      have hx := h.2.1
      have l1 : (Str.ofString "@").length = 1 := by decide +kernel
      have lx : x.length ≤ 8 := by rw [← tl_len]; exact hx
      refine ⟨by show (Str.ofString "@").length + x.length ≤ _; rw [l1]; exact small_le (by omega), ?_⟩
      refine fg_here ?_
      show Q (.str (Str.ofString "@" ++ x)) S
      rw [show (Str.ofString "@" ++ x : Str) = strL (wrL (.ref x)) from tl_ext (by rw [tl_append, tl_strL]; unfold wrL; rfl)]
      exact q
    | @part d kd ms is h1 h2 h3 h4 h5 =>
      refine ⟨_, _, rfl, isTy_ts, ?_⟩
      walk_at "w"
      refine ⟨fun h => absurd (show false = true from h) Bool.false_ne_true, fun _ => ?_⟩
      walk_at "w"
      refine is_go ?_
      refine ⟨fun h => absurd (show (!true) = true from h) (by decide), fun _ => ?_⟩
      walk_at "w"
      refine ⟨rfl, ?_⟩
      walk_at "w"
      refine ⟨rfl, ?_⟩
      walk_at "w"
      refine ⟨rfl, ?_⟩
      walk_at "w"
      refine ⟨by show 1 + (ms.map W.str).length ≤ _; rw [List.length_map]; exact small_le (by omega), ?_⟩
      have hk1 : kd.length ≤ 8 := by rw [← tl_len]; exact h1.2.1
      refine ⟨kd :: ms, rfl, ?_, ?_⟩
      · have a := len_sum h2.name
        rw [List.map_cons, List.sum_cons, List.length_cons]
        have l1 : (Str.ofString ".").length = 1 := by decide +kernel
        rw [l1]
        omega
      intro A hA
      have eA : put S A (.lst [.str (Txt.join (Str.ofString ".") (kd :: ms))]) A = some (.lst [.str (Txt.join (Str.ofString ".") (kd :: ms))]) := put_same
      have kA : KpL [] S (put S A (.lst [.str (Txt.join (Str.ofString ".") (kd :: ms))])) := (KpL.refl [] S).new hA
      generalize put S A (.lst [.str (Txt.join (Str.ofString ".") (kd :: ms))]) = S1 at eA kA
      walk_at "w"
      rw [itmsW_map]
      have hc' : cnts is ≤ 1000 := by unfold Itm.cnt at hc; omega
      refine lc_mapD Itm.w is (fun i => W.str (strL (wrL i))) (by omega) (fun _ _ _ => trivial) ?_ ?_
      · intro i D acc hi hD Q' q'
        walk_at "w"
        have ci := cnt_mem hi
        exact Hd.mk (hn d _ _ _ rfl ⟨i, m, rfl, h5 i hi, hm, by omega, q'⟩)
      intro D hD
      have eA2 := (put_ne (c := .lst (is.map fun i => W.str (strL (wrL i)))) (ne_free eA hD).symm).trans eA
      have eD : put S1 D (.lst (is.map fun i => W.str (strL (wrL i)))) D = some (.lst (is.map fun i => W.str (strL (wrL i)))) := put_same
      have kD : KpL [] S (put S1 D (.lst (is.map fun i => W.str (strL (wrL i))))) := kA.new hD
      generalize put S1 D (.lst (is.map fun i => W.str (strL (wrL i)))) = S2 at eA2 eD kD
      walk_at "w"
      refine ⟨_, _, eA2, eD, by rw [List.length_map]; exact Nat.le_trans (show 1 + is.length ≤ 2000 by omega) (by rw [sizeLine_eq]; decide), fun Z hZ => ?_⟩
      walk_at "w"
      refine ⟨rfl, ?_⟩
      have hkj : (Txt.join (Str.ofString ".") (kd :: ms)).length ≤ 40 := by
        rw [← tl_len, tl_head, List.length_append]
        have := ptsL_len h2.name
        have := h1.2.1
        omega
      have hwl := wrLs_len h5
      refine ⟨_, put_same, Txt.join (Str.ofString ".") (kd :: ms) :: is.map (fun i => strL (wrL i)), by rw [List.map_cons, List.map_map]; rfl, ?_, ?_⟩
      · rw [List.map_cons, List.map_map, List.sum_cons, List.length_cons, List.length_map]
        have l1 : (Str.ofString " ").length = 1 := by decide +kernel
        have e := its_sum is
        rw [l1]
        show _ + (is.map fun i => (strL (wrL i)).length).sum + _ ≤ _
        generalize (is.map fun i => (strL (wrL i)).length).sum = z at e ⊢
        omega
      have ej : tl (Txt.join (Str.ofString " ") (Txt.join (Str.ofString ".") (kd :: ms) :: is.map (fun i => strL (wrL i)))) = tl kd ++ ptsL ms ++ wrLs is := by
        rw [tl_joinA, tl_head, wrLs_map, List.map_map]
        congr 2
      have lj : (Txt.join (Str.ofString " ") (Txt.join (Str.ofString ".") (kd :: ms) :: is.map (fun i => strL (wrL i)))).length ≤ 90000 := by
        rw [← tl_len, ej, List.length_append, List.length_append]
        have := ptsL_len h2.name
        have := h1.2.1
        omega
      generalize Txt.join (Str.ofString " ") (Txt.join (Str.ofString ".") (kd :: ms) :: is.map (fun i => strL (wrL i))) = J at ej lj
      have lp : (Str.ofString "(").length = 1 := by decide +kernel
      have lq : (Str.ofString ")").length = 1 := by decide +kernel
      walk_at "w"
      refine ⟨by rw [lp]; exact Nat.le_trans (show 1 + J.length ≤ 100000 by omega) (by rw [sizeLine_eq]; decide), ?_⟩
      walk_at "w"
      refine ⟨by rw [← tl_len, tl_append, List.length_append, tl_len, tl_len, lp, lq]; exact Nat.le_trans (show 1 + J.length + 1 ≤ 100000 by omega) (by rw [sizeLine_eq]; decide), ?_⟩
      refine fg_off (ps := []) (kD.new hZ) fun S8 g1 g2 => ?_
      rw [show S8 = S from funext fun a => g1 a (by simp), part_str kd ms is J ej]
      exact q⟩
theorem ok_wi (T : Txt K mg ec) (c_is_part : CalW P w K mg base 1 "is_part" (Hd spIs)) (d : DefAt K mg "write_item" s_write_item ["item"]) : ∀ n : Nat, CalW P w K mg base (n + 2) "write_item" (spWi n)
  | 0 => wi_step T 1 0 (by decide) spNever c_is_part ((calNever d sc_write_item).hd) (fun u ws S Q e => by cases e) d
  | n + 1 => wi_step T (n + 2) (n + 1) (by omega) (spWi n) c_is_part (ok_wi T c_is_part d n).hd (fun u ws S Q e h => by
      cases e
      exact h) d
def spWd : SpW := fun ws S Q => ∃ (it : Itm) (m : Nat), ws = [it.w] ∧ ItmOk m 20 it ∧ m ≤ 1000 ∧ it.cnt ≤ 1000 ∧ Q (.str (strL (wrL it))) S
theorem ok_write_document (T : Txt K mg ec) (c_write_item : CalW P w K mg base 22 "write_item" (Hd (spWi 20))) (d : DefAt K mg "write_document" s_write_document ["root"]) : CalW P w K mg base 23 "write_document" spWd :=
  calDI d sc_write_document (fun ws S Q ⟨it, m, e, _⟩ => by rw [e]; rfl) fun f cdv A outer s H E hr => ⟨_, _,
    (pss_one (ps_ret (k_w K c_write_item hr (by decide) rfl (pa_cons (pv 0) pa_nil)))), inferInstance, by
    rintro ws S Q ⟨it, m, rfl, h, hm, hc, q⟩
    walk_at "w"
    exact Hd.mk ⟨it, m, rfl, h, hm, hc, fg_here q⟩⟩
end
end K10
set_option Elab.async false
set_option linter.all false
set_option maxRecDepth 100000
set_option maxHeartbeats 4000000
set_option synthInstance.maxHeartbeats 4000000
set_option synthInstance.maxSize 100000
namespace K10
open PySem PySem.Spec PyProof.Rows L2 Wl
local macro_rules | `(tactic| walk_at "w") => `(tactic| (conv => whnf))
/-! what a store holds -/
local macro_rules | `(tactic| walk_at "ne") => `(tactic| first | assumption | (apply Ne.symm; assumption) | exact ne_free (by assumption) (by assumption) | exact (ne_free (by assumption) (by assumption)).symm | exact Pl.ne (by assumption) (by assumption) | exact (Pl.ne (by assumption) (by assumption)).symm)
local macro_rules | `(tactic| walk_at "s") => `(tactic| first
  | exact put_same
  | assumption
  | (refine (put_ne ?_).trans ?_; (· walk_at "ne"); (· walk_at "s")))
/-! a side condition -/
local macro_rules | `(tactic| walk_at "c") => `(tactic| first
  | exact Or.inl (Or.inl ⟨by omega, by omega⟩)
  | exact Or.inl (Or.inr ⟨by omega, by omega⟩)
  | exact Or.inl ⟨by omega, by omega⟩
  | exact Or.inl ⟨rfl, _, by walk_at "s"⟩
  | rfl
  | omega
  | decide
  | exact Nat.le_trans (by omega) sizeLine_ge)
/-! one question is answered, if the answer is plain -/
local macro_rules | `(tactic| walk_at "g1") => `(tactic| first
  | refine ⟨fun _ => ?_, fun h => absurd (show true = false from h) (by decide)⟩
  | refine ⟨fun h => absurd (show false = true from h) Bool.false_ne_true, fun _ => ?_⟩
  | refine ⟨_, by walk_at "s", ?_⟩
  | refine ⟨_, _, by walk_at "s", by walk_at "s", ?_⟩
  | refine ⟨_, by walk_at "s", by simpa using (by omega), ?_⟩
  | refine ⟨_, rfl, ?_⟩
  | refine ⟨_, _, rfl, (by first | exact isTy_tt | exact isTy_ii | exact isTy_ll | exact isTy_ss | exact isTy_ib | exact isTy_tb | exact isTy_ti | exact isTy_ts | exact isTy_tl | exact isTy_lb | exact isTy_li | exact isTy_ls | exact isTy_lt | exact isTy_sb | exact isTy_si | exact isTy_st | exact isTy_sl | exact isTy_is | exact isTy_it | exact isTy_il | exact isTy_bi | exact isTy_bs | exact isTy_bb | exact isTy_nb | exact isTy_ni | exact isTy_ns | exact isTy_nt | exact isTy_nl | exact isTy_bt | exact isTy_bl | exact isTy_nd | exact isTy_td | exact isTy_ld | exact isTy_sd | exact isTy_id | exact isTy_bd | exact isTy_dd | exact isTy_db | exact isTy_di | exact isTy_ds | exact isTy_dt | exact isTy_dl), ?_⟩
  | refine ⟨_, _, tyName_lst (by walk_at "s"), (by first | exact isTy_ll | exact isTy_lb | exact isTy_li | exact isTy_ls | exact isTy_lt), ?_⟩
  | refine if_q ?_
  | refine ⟨by walk_at "c", ?_⟩)
local macro_rules | `(tactic| walk_at "go") => `(tactic| (walk_at "w"; repeat (walk_at "g1"; walk_at "w")))
/-! a branch that cannot be -/
local macro_rules | `(tactic| walk_at "two") => `(tactic| refine ⟨fun h => ?_, fun h => ?_⟩)
section
variable {P : Program} {w : World} {K : PySem.W.Frag} {mg : Str → Option Value} {base : Heap} {ec : Cls}
/-! the law's own writing -/
theorem lw_step (T : Txt K mg ec) (k n : Nat) (sp' : SpW) (c__law_written : CalW P w K mg base k "_law_written" (Hd sp')) (hn : ∀ (u : Nat) (ws : List W) (S : Sto) (Q : WK), n = u + 1 → spWi u ws S Q → sp' ws S Q)
    (d : DefAt K mg "_law_written" s__law_written ["_law_item_here"]) : CalW P w K mg base (k + 1) "_law_written" (spWi n) :=
  calDI d sc__law_written (fun ws S Q ⟨it, m, e, _⟩ => by rw [e]; rfl) fun f cdv A outer s H E hr => ⟨_, _,
    (pss_cons (ps_if (pt_val (pe_callB (k_isi K) (by rfl) T.b_isinstance (by decide +kernel) (pa_cons (pv 0) (pa_cons (pe_bltn (v := .ty "str") (by rfl) T.b_str (by decide +kernel) rfl) pa_nil))))
       (pss_one (ps_ret (pe_op (k_addB K) (pe_op (k_addB K) pe_str (pv 0)) pe_str)))
       pss_nil)
      (pss_cons (ps_if (pt_cmpR (k_eq K hr.units) (pe_callB (k_len K) (by rfl) T.b_len (by decide +kernel) (pa_cons (pv 0) pa_nil)) pe_int (nomark _))
       (pss_one (ps_ret (pe_op (k_addB K) (pe_ix (k_ix K) (pv 0) pe_int (fun _ _ => rfl)) (pe_ix (k_ix K) (pv 0) pe_int (fun _ _ => rfl)))))
       pss_nil)
      (pss_cons (ps_set (i := 1) sc__law_written.nd rfl (Or.inl rfl) (k_bm K PySem.F.plainAttrs_str PySem.F.slot_str_join PySem.F.type_str_join (k_joinM K) pe_str (pa_cons (pe_lc (own := [("_law_one", 2)]) rfl sc__law_written.nd (k_any K (pe_ix (k_ix K) (pv 0) pe_int (fun _ _ => rfl))) (blkOk_by (own := [("_law_one", 2)]) (N := ["_law_item_here", "_law_rest", "_law_one"]) (sc := defScope s__law_written) (by decide +kernel)) (fun _ _ _ _ _ => (pg_name (i := 2) sc__law_written.nd rfl (Or.inl rfl))) (fun _ _ _ _ _ => pts_nil) (fun _ _ _ _ _ => (pe_op (k_addB K) pe_str (k_w K c__law_written hr (Nat.le_refl _) rfl (pa_cons (pv 2) pa_nil))))) pa_nil)))
      (pss_one (ps_ret (pe_op (k_addB K) (pe_op (k_addB K) (pe_op (k_addB K) pe_str (k_bm K PySem.F.plainAttrs_str PySem.F.slot_str_join PySem.F.type_str_join (k_joinM K) pe_str (pa_cons (pe_op (k_addB K) (pe_lst (pa_cons (pe_ix (k_ix K) (pv 0) pe_int (fun _ _ => rfl)) pa_nil)) (pe_callTy (k_list K) (by rfl) T.b_list (by decide +kernel) (pa_cons (pe_ix (k_ix K) (pv 0) pe_int (fun _ _ => rfl)) pa_nil))) pa_nil))) (pv 1)) pe_str)))))), inferInstance, by
    rintro ws S Q ⟨it, m, rfl, h, hm, hc, q⟩
    have hL := wrL_len h
    walk_at "w"
    cases h with
    | @text _ x h =>
      refine ⟨_, _, rfl, isTy_ss, ?_⟩
      walk_at "w"
      refine ⟨fun _ => ?_, fun h => absurd (show true = false from h) (by decide)⟩
      walk_at "w"
      have hx := h.2.1
      have l1 : (Str.ofString "\"").length = 1 := by decide +kernel
      have lx : x.length ≤ 60 := by rw [← tl_len]; exact hx
      refine ⟨by rw [l1]; exact small_le (by omega), ?_⟩
      walk_at "w"
      refine ⟨by rw [← tl_len, tl_append, List.length_append, tl_len, tl_len, l1]; exact small_le (by omega), ?_⟩
      refine fg_here ?_
      rw [show (Str.ofString "\"" ++ x ++ Str.ofString "\"" : Str) = strL (wrL (.text x)) from tl_ext (by rw [tl_append, tl_append, tl_strL]; unfold wrL; rfl)]
      exact q
    | @lab _ x h =>
      refine ⟨_, _, rfl, isTy_ts, ?_⟩
      walk_at "w"
      refine ⟨fun h => absurd (show false = true from h) Bool.false_ne_true, fun _ => ?_⟩
      walk_at "w"
      refine ⟨fun _ => ?_, fun h => absurd (show true = false from h) (by decide)⟩
      walk_at "w"
      have hx := h.2.1
      have l1 : (Str.ofString "#").length = 1 := by decide +kernel
      have lx : x.length ≤ 8 := by rw [← tl_len]; exact hx
      refine ⟨by show (Str.ofString "#").length + x.length ≤ _; rw [l1]; exact small_le (by omega), ?_⟩
      refine fg_here ?_
      show Q (.str (Str.ofString "#" ++ x)) S
      rw [show (Str.ofString "#" ++ x : Str) = strL (wrL (.lab x)) from tl_ext (by rw [tl_append, tl_strL]; unfold wrL; rfl)]
      exact q
    | @ref _ x h =>
      refine ⟨_, _, rfl, isTy_ts, ?_⟩
      walk_at "w"
      refine ⟨fun h => absurd (show false = true from h) Bool.false_ne_true, fun _ => ?_⟩
      walk_at "w"
      refine ⟨fun _ => ?_, fun h => absurd (show true = false from h) (by decide)⟩
      walk_at "w"
      have hx := h.2.1
      have l1 : (Str.ofString "@").length = 1 := by decide +kernel
      have lx : x.length ≤ 8 := by rw [← tl_len]; exact hx
      refine ⟨by show (Str.ofString "@").length + x.length ≤ _; rw [l1]; exact small_le (by omega), ?_⟩
      refine fg_here ?_
      show Q (.str (Str.ofString "@" ++ x)) S
      rw [show (Str.ofString "@" ++ x : Str) = strL (wrL (.ref x)) from tl_ext (by rw [tl_append, tl_strL]; unfold wrL; rfl)]
      exact q
    | @part d kd ms is h1 h2 h3 h4 h5 =>
      refine ⟨_, _, rfl, isTy_ts, ?_⟩
      walk_at "w"
      refine ⟨fun h => absurd (show false = true from h) Bool.false_ne_true, fun _ => ?_⟩
      walk_at "w"
      refine ⟨fun h => absurd (show false = true from h) Bool.false_ne_true, fun _ => ?_⟩
      walk_at "w"
      refine ⟨rfl, ?_⟩
      walk_at "w"
      rw [itmsW_map]
      have hc' : cnts is ≤ 1000 := by unfold Itm.cnt at hc; omega
      have hwl := wrLs_len h5
      have lsp : (Str.ofString " ").length = 1 := by decide +kernel
      refine lc_mapD Itm.w is (fun i => W.str (Str.ofString " " ++ strL (wrL i))) (by omega) (fun _ _ _ => trivial) ?_ ?_
      · intro i D acc hi D0 Q' q'
        walk_at "w"
        have ci := cnt_mem hi
        refine Hd.mk (hn d _ _ _ rfl ⟨i, m, rfl, h5 i hi, hm, by omega, ?_⟩)
        have li := wrL_len (h5 i hi)
        refine ⟨by rw [lsp, ← tl_len, tl_strL]; exact Nat.le_trans (show 1 + (wrL i).length ≤ 100000 by omega) (by rw [sizeLine_eq]; decide), ?_⟩
        exact q'
      intro D hD
      have eD : put S D (.lst (is.map fun i => W.str (Str.ofString " " ++ strL (wrL i)))) D = some (.lst (is.map fun i => W.str (Str.ofString " " ++ strL (wrL i)))) := put_same
      have kD : KpL [] S (put S D (.lst (is.map fun i => W.str (Str.ofString " " ++ strL (wrL i))))) := (KpL.refl [] S).new hD
      generalize put S D (.lst (is.map fun i => W.str (Str.ofString " " ++ strL (wrL i)))) = S1 at eD kD
      have sm : ∀ (xs : List Itm), (xs.map fun i => (Str.ofString " " ++ strL (wrL i) : Str).length).sum = (wrLs xs).length := fun xs => by
        induction xs with
        | nil => unfold wrLs; rfl
        | cons i xs ih =>
          unfold wrLs
          rw [List.map_cons, List.sum_cons, ih, List.length_cons, List.length_append, ← tl_len, tl_append, List.length_append, tl_len, lsp, tl_strL]
          omega
      walk_at "w"
      refine ⟨_, eD, is.map (fun i => Str.ofString " " ++ strL (wrL i)), by rw [List.map_map]; rfl, ?_, ?_⟩
      · have l0 : (Str.ofString "").length = 0 := by decide +kernel
        rw [List.map_map, List.length_map, l0]
        have e := sm is
        show (is.map fun i => (Str.ofString " " ++ strL (wrL i) : Str).length).sum + _ ≤ _
        generalize (is.map fun i => (Str.ofString " " ++ strL (wrL i) : Str).length).sum = z at e ⊢
        omega
      have er : tl (Txt.join (Str.ofString "") (is.map (fun i => Str.ofString " " ++ strL (wrL i)))) = wrLs is := by
        rw [show (Str.ofString "") = ("" : Str) from rfl, tl_join0, wrLs_map, List.map_map]
        congr 1
        refine List.map_congr_left fun i _ => ?_
        show tl (Str.ofString " " ++ strL (wrL i)) = _
        rw [tl_append, tl_strL]
        rfl
      generalize Txt.join (Str.ofString "") (is.map (fun i => Str.ofString " " ++ strL (wrL i))) = R at er
      walk_at "w"
      refine ⟨rfl, ?_⟩
      walk_at "w"
      intro A hA
      have eA : put S1 A (.lst [.str kd]) A = some (.lst [.str kd]) := put_same
      have kA : KpL [] S (put S1 A (.lst [.str kd])) := kD.new hA
      generalize put S1 A (.lst [.str kd]) = S2 at eA kA
      walk_at "w"
      intro B hB
      have eA2 := (put_ne (c := .lst (ms.map W.str)) (ne_free eA hB).symm).trans eA
      have eB : put S2 B (.lst (ms.map W.str)) B = some (.lst (ms.map W.str)) := put_same
      have kB : KpL [] S (put S2 B (.lst (ms.map W.str))) := kA.new hB
      generalize put S2 B (.lst (ms.map W.str)) = S3 at eA2 eB kB
      walk_at "w"
      refine ⟨_, _, eA2, eB, by rw [List.length_map]; exact small_le (by show 1 + ms.length ≤ 1000; omega), fun Z hZ => ?_⟩
      walk_at "w"
      have hk1 : kd.length ≤ 8 := by rw [← tl_len]; exact h1.2.1
      refine ⟨_, put_same, kd :: ms, rfl, ?_, ?_⟩
      · have a := len_sum h2.name
        rw [List.map_cons, List.sum_cons, List.length_cons]
        have l1 : (Str.ofString ".").length = 1 := by decide +kernel
        rw [l1]
        omega
      have hkj : tl (Txt.join (Str.ofString ".") (kd :: ms)) = tl kd ++ ptsL ms := tl_head kd ms
      have lj : (Txt.join (Str.ofString ".") (kd :: ms)).length ≤ 40 := by
        rw [← tl_len, hkj, List.length_append]
        have := ptsL_len h2.name
        have := h1.2.1
        omega
      generalize Txt.join (Str.ofString ".") (kd :: ms) = J at hkj lj
      have lp : (Str.ofString "(").length = 1 := by decide +kernel
      have lq : (Str.ofString ")").length = 1 := by decide +kernel
      have lr : R.length ≤ 80000 := by rw [← tl_len, er]; omega
      walk_at "w"
      refine ⟨by rw [lp]; exact small_le (by omega), ?_⟩
      walk_at "w"
      refine ⟨by rw [← tl_len, tl_append, List.length_append, tl_len, tl_len, lp]; exact Nat.le_trans (show 1 + J.length + R.length ≤ 100000 by omega) (by rw [sizeLine_eq]; decide), ?_⟩
      walk_at "w"
      refine ⟨by rw [← tl_len, tl_append, tl_append, List.length_append, List.length_append, tl_len, tl_len, tl_len, lp, lq]; exact Nat.le_trans (show 1 + J.length + R.length + 1 ≤ 100000 by omega) (by rw [sizeLine_eq]; decide), ?_⟩
      refine fg_off (ps := []) (kB.new hZ) fun S8 g1 g2 => ?_
      rw [show S8 = S from funext fun a => g1 a (by simp), show (Str.ofString "(" ++ J ++ R ++ Str.ofString ")" : Str) = strL (wrL (.part kd ms is)) from tl_ext (by rw [tl_append, tl_append, tl_append, hkj, er, tl_strL]; unfold wrL; simp; rfl)]
      exact q⟩
theorem ok_lw (T : Txt K mg ec) (d : DefAt K mg "_law_written" s__law_written ["_law_item_here"]) : ∀ n : Nat, CalW P w K mg base (n + 2) "_law_written" (spWi n)
  | 0 => lw_step T 1 0 spNever ((calNever d sc__law_written).hd) (fun u ws S Q e => by cases e) d
  | n + 1 => lw_step T (n + 2) (n + 1) (spWi n) (ok_lw T d n).hd (fun u ws S Q e h => by
      cases e
      exact h) d
end
end K10
set_option Elab.async false
set_option linter.all false
set_option maxRecDepth 100000
set_option maxHeartbeats 4000000
set_option synthInstance.maxHeartbeats 4000000
set_option synthInstance.maxSize 100000
namespace K10
open PySem PySem.Spec PyProof.Rows L2 Wl
local macro_rules | `(tactic| walk_at "w") => `(tactic| (conv => whnf))
/-! what a store holds -/
local macro_rules | `(tactic| walk_at "ne") => `(tactic| first | assumption | (apply Ne.symm; assumption) | exact ne_free (by assumption) (by assumption) | exact (ne_free (by assumption) (by assumption)).symm | exact Pl.ne (by assumption) (by assumption) | exact (Pl.ne (by assumption) (by assumption)).symm)
local macro_rules | `(tactic| walk_at "s") => `(tactic| first
  | exact put_same
  | assumption
  | (refine (put_ne ?_).trans ?_; (· walk_at "ne"); (· walk_at "s")))
/-! a side condition -/
local macro_rules | `(tactic| walk_at "c") => `(tactic| first
  | exact Or.inl (Or.inl ⟨by omega, by omega⟩)
  | exact Or.inl (Or.inr ⟨by omega, by omega⟩)
  | exact Or.inl ⟨by omega, by omega⟩
  | exact Or.inl ⟨rfl, _, by walk_at "s"⟩
  | rfl
  | omega
  | decide
  | exact Nat.le_trans (by omega) sizeLine_ge)
/-! one question is answered, if the answer is plain -/
local macro_rules | `(tactic| walk_at "g1") => `(tactic| first
  | refine ⟨fun _ => ?_, fun h => absurd (show true = false from h) (by decide)⟩
  | refine ⟨fun h => absurd (show false = true from h) Bool.false_ne_true, fun _ => ?_⟩
  | refine ⟨_, by walk_at "s", ?_⟩
  | refine ⟨_, _, by walk_at "s", by walk_at "s", ?_⟩
  | refine ⟨_, by walk_at "s", by simpa using (by omega), ?_⟩
  | refine ⟨_, rfl, ?_⟩
  | refine ⟨_, _, rfl, (by first | exact isTy_tt | exact isTy_ii | exact isTy_ll | exact isTy_ss | exact isTy_ib | exact isTy_tb | exact isTy_ti | exact isTy_ts | exact isTy_tl | exact isTy_lb | exact isTy_li | exact isTy_ls | exact isTy_lt | exact isTy_sb | exact isTy_si | exact isTy_st | exact isTy_sl | exact isTy_is | exact isTy_it | exact isTy_il | exact isTy_bi | exact isTy_bs | exact isTy_bb | exact isTy_nb | exact isTy_ni | exact isTy_ns | exact isTy_nt | exact isTy_nl | exact isTy_bt | exact isTy_bl | exact isTy_nd | exact isTy_td | exact isTy_ld | exact isTy_sd | exact isTy_id | exact isTy_bd | exact isTy_dd | exact isTy_db | exact isTy_di | exact isTy_ds | exact isTy_dt | exact isTy_dl), ?_⟩
  | refine ⟨_, _, tyName_lst (by walk_at "s"), (by first | exact isTy_ll | exact isTy_lb | exact isTy_li | exact isTy_ls | exact isTy_lt), ?_⟩
  | refine if_q ?_
  | refine ⟨by walk_at "c", ?_⟩)
local macro_rules | `(tactic| walk_at "go") => `(tactic| (walk_at "w"; repeat (walk_at "g1"; walk_at "w")))
/-! a branch that cannot be -/
local macro_rules | `(tactic| walk_at "two") => `(tactic| refine ⟨fun h => ?_, fun h => ?_⟩)
section
variable {P : Program} {w : World} {K : PySem.W.Frag} {mg : Str → Option Value} {base : Heap} {ec : Cls}
def spNa : SpW := fun ws S Q => ∃ (z n : Str) (pre post : List Nat), ws = [.str z, .int pre.length] ∧ tl z = pre ++ tl n ++ post ∧ NameOk n ∧ (tl z).length ≤ 90000 ∧ (∀ c, post[0]? = some c → ¬ (97 ≤ c ∧ c ≤ 122)) ∧ Q (.tup [.str n, .int (pre.length + (tl n).length)]) S
theorem ok__name_at (T : Txt K mg ec) (c_is_name : CalW P w K mg base 1 "is_name" (Hd spNam)) (d : DefAt K mg "_name_at" s__name_at ["text", "at"]) : CalW P w K mg base 2 "_name_at" spNa :=
  calDI d sc__name_at (fun ws S Q ⟨z, n, pre, post, h, _⟩ => by rw [h]; rfl) fun f cdv A outer s H E hr => ⟨_, _,
    (pss_cons (ps_set (i := 2) sc__name_at.nd rfl (Or.inl rfl) (pv 1))
      (pss_cons (ps_while PassesOwn.never (PW.pt (pw_and (pt_cmpR op_ltA (pv 2) (pe_callB (k_len K) (by rfl) T.b_len (by decide +kernel) (pa_cons (pv 0) pa_nil)) (nomark _)) (pw_and1 (pt_cmpR (k_in K) (pe_ix (k_ix K) (pv 0) (pv 2) (fun _ _ => rfl)) (k_gl K T.m_NAME_LETTERS rfl) rfl))))
       (pss_one (ps_aug (i := 2) sc__name_at.nd rfl (Or.inl rfl) pe_int ip_add)))
      (pss_cons (ps_set (i := 3) sc__name_at.nd rfl (Or.inl rfl) (pe_slice (k_sl K) (pv 0) (po_some (pv 1)) (po_some (pv 2))))
      (pss_cons (ps_if (pt_not (pt_val (k_w K c_is_name hr (by decide) rfl (pa_cons (pv 3) pa_nil))))
       (pss_one ps_never)
       pss_nil)
      (pss_one (ps_ret (pe_tup (pa_cons (pv 3) (pa_cons (pv 2) pa_nil))))))))), inferInstance, by
    rintro ws S Q ⟨z, n, pre, post, rfl, hz, hn, hl, hp, q⟩
    have hzl : z.length = pre.length + (tl n).length + post.length := by rw [← tl_len, hz, List.length_append, List.length_append]
    have hz9 : z.length ≤ 90000 := by rw [← tl_len]; exact hl
    have zsl : z.length ≤ sizeLine := Nat.le_trans hz9 (by rw [sizeLine_eq]; decide)
    have atz : ∀ (i : Nat) (c : Nat), (tl n ++ post)[i]? = some c → atI z.cps.toList ((pre.length : Int) + i) = some c := fun i c h => by
      have e : ((pre.length : Int) + i) = ((pre.length + i : Nat) : Int) := by omega
      rw [e]
      refine atI_nat ?_
      show (tl z)[pre.length + i]? = some c
      rw [hz, List.append_assoc, List.getElem?_append_right (Nat.le_add_right _ _), Nat.add_sub_cancel_left]
      exact h
    walk_at "w"
    refine wh_q (fun j ρ S' => ∃ i : Nat, i ≤ (tl n).length ∧ j = (tl n).length - i ∧ ρ = [some (.str z), some (.int pre.length), some (.int ((pre.length : Int) + i)), none] ∧ S' = S) ⟨_, 0, Nat.zero_le _, rfl, by simp; rfl, rfl⟩ ?_
    rintro j ρ S' ⟨i, hi, rfl, rfl, rfl⟩
    have fin : wSeq (wAsg (wSl (wVar 0) (wPart (wVar 1)) (wPart (wVar 2))) (wName 3))
          (wSeq (wIfS (wNot (wT (wCall (Hd spNam) (wCons (wVar 3) wNil)))) wNever wNext)
            (wRet (wTup (wCons (wVar 3) (wCons (wVar 2) wNil)))))
          { nx := fun x S' => FgI Q W.non S', rt := FgI Q } [some (.str z), some (.int pre.length), some (.int ((pre.length : Int) + (tl n).length)), none] S' := by
      walk_at "w"
      rw [cut_mid hz rfl rfl, strL_tl]
      refine ⟨zsl, ?_⟩
      walk_at "w"
      refine Hd.mk ⟨n, rfl, hn, ?_⟩
      refine ⟨fun h => absurd (show (!true) = true from h) (by decide), fun _ => ?_⟩
      exact fg_here q
    walk_at "w"
    refine ⟨zsl, ?_⟩
    walk_at "w"
    rcases Nat.lt_or_ge i (tl n).length with h | h
    · have hc : (tl n)[i]? = some (tl n)[i] := List.getElem?_eq_getElem h
      have ha := hn.2.2 _ (List.getElem_mem h)
      refine ⟨fun _ => ?_, fun h => absurd (of_decide_eq_false h) (by omega)⟩
      walk_at "w"
      refine ⟨zsl, _, atz i _ (by rw [List.getElem?_append_left h]; exact hc), ?_⟩
      walk_at "w"
      refine ⟨fun _ => ?_, fun h2 => ?_⟩
      · walk_at "w"
        refine ⟨_, rfl, ?_⟩
        exact ⟨(tl n).length - (i + 1), by omega, i + 1, by omega, rfl, by rw [show (pre.length : Int) + ((i + 1 : Nat) : Int) = (pre.length : Int) + (i : Int) + 1 by omega]; rfl, rfl⟩
      · have h2 : (!(Builtin.Str.occurrences ("abcdefghijklmnopqrstuvwxyz" : Str) ⟨#[(tl n)[i]]⟩ 0 ("abcdefghijklmnopqrstuvwxyz" : Str).length 1).isEmpty) = false := h2
        rw [in_abc, decide_eq_true ha] at h2
        exact absurd h2 (by decide)
    · obtain rfl : i = (tl n).length := by omega
      refine ⟨fun h2 => ?_, fun h2 => ?_⟩
      · have h2 := of_decide_eq_true h2
        have hpp : 0 < post.length := by omega
        have hc : post[0]? = some post[0] := List.getElem?_eq_getElem hpp
        have hno := hp _ hc
        walk_at "w"
        refine ⟨zsl, _, atz (tl n).length _ (by rw [List.getElem?_append_right (Nat.le_refl _), Nat.sub_self]; exact hc), ?_⟩
        walk_at "w"
        refine ⟨fun h3 => ?_, fun _ => fin⟩
        have h3 : (!(Builtin.Str.occurrences ("abcdefghijklmnopqrstuvwxyz" : Str) ⟨#[post[0]]⟩ 0 ("abcdefghijklmnopqrstuvwxyz" : Str).length 1).isEmpty) = true := h3
        rw [in_abc, decide_eq_false hno] at h3
        exact absurd h3 (by decide)
      · exact ⟨fun h => absurd h (by decide), fun _ => fin⟩⟩
end
end K10
set_option Elab.async false
set_option linter.all false
set_option maxRecDepth 100000
set_option maxHeartbeats 4000000
set_option synthInstance.maxHeartbeats 4000000
set_option synthInstance.maxSize 100000
namespace K10
open PySem PySem.Spec PyProof.Rows L2 Wl
local macro_rules | `(tactic| walk_at "w") => `(tactic| (conv => whnf))
/-! what a store holds -/
local macro_rules | `(tactic| walk_at "ne") => `(tactic| first | assumption | (apply Ne.symm; assumption) | exact ne_free (by assumption) (by assumption) | exact (ne_free (by assumption) (by assumption)).symm | exact Pl.ne (by assumption) (by assumption) | exact (Pl.ne (by assumption) (by assumption)).symm)
local macro_rules | `(tactic| walk_at "s") => `(tactic| first
  | exact put_same
  | assumption
  | (refine (put_ne ?_).trans ?_; (· walk_at "ne"); (· walk_at "s")))
/-! a side condition -/
local macro_rules | `(tactic| walk_at "c") => `(tactic| first
  | exact Or.inl (Or.inl ⟨by omega, by omega⟩)
  | exact Or.inl (Or.inr ⟨by omega, by omega⟩)
  | exact Or.inl ⟨by omega, by omega⟩
  | exact Or.inl ⟨rfl, _, by walk_at "s"⟩
  | rfl
  | omega
  | decide
  | exact Nat.le_trans (by omega) sizeLine_ge)
/-! one question is answered, if the answer is plain -/
local macro_rules | `(tactic| walk_at "g1") => `(tactic| first
  | refine ⟨fun _ => ?_, fun h => absurd (show true = false from h) (by decide)⟩
  | refine ⟨fun h => absurd (show false = true from h) Bool.false_ne_true, fun _ => ?_⟩
  | refine ⟨_, by walk_at "s", ?_⟩
  | refine ⟨_, _, by walk_at "s", by walk_at "s", ?_⟩
  | refine ⟨_, by walk_at "s", by simpa using (by omega), ?_⟩
  | refine ⟨_, rfl, ?_⟩
  | refine ⟨_, _, rfl, (by first | exact isTy_tt | exact isTy_ii | exact isTy_ll | exact isTy_ss | exact isTy_ib | exact isTy_tb | exact isTy_ti | exact isTy_ts | exact isTy_tl | exact isTy_lb | exact isTy_li | exact isTy_ls | exact isTy_lt | exact isTy_sb | exact isTy_si | exact isTy_st | exact isTy_sl | exact isTy_is | exact isTy_it | exact isTy_il | exact isTy_bi | exact isTy_bs | exact isTy_bb | exact isTy_nb | exact isTy_ni | exact isTy_ns | exact isTy_nt | exact isTy_nl | exact isTy_bt | exact isTy_bl | exact isTy_nd | exact isTy_td | exact isTy_ld | exact isTy_sd | exact isTy_id | exact isTy_bd | exact isTy_dd | exact isTy_db | exact isTy_di | exact isTy_ds | exact isTy_dt | exact isTy_dl), ?_⟩
  | refine ⟨_, _, tyName_lst (by walk_at "s"), (by first | exact isTy_ll | exact isTy_lb | exact isTy_li | exact isTy_ls | exact isTy_lt), ?_⟩
  | refine if_q ?_
  | refine ⟨by walk_at "c", ?_⟩)
local macro_rules | `(tactic| walk_at "go") => `(tactic| (walk_at "w"; repeat (walk_at "g1"; walk_at "w")))
/-! a branch that cannot be -/
local macro_rules | `(tactic| walk_at "two") => `(tactic| refine ⟨fun h => ?_, fun h => ?_⟩)
section
variable {P : Program} {w : World} {K : PySem.W.Frag} {mg : Str → Option Value} {base : Heap} {ec : Cls}
theorem find_quote {z x : Str} {pre post : List Nat} (hz : tl z = pre ++ 34 :: (tl x ++ 34 :: post)) (hx : TextOk x) : Txt.find3 z ⟨#[34]⟩ ((pre.length : Int) + 1) = ((pre.length + 1 + (tl x).length : Nat) : Int) := by
  have hzl : z.length = pre.length + 1 + (tl x).length + 1 + post.length := by rw [← tl_len, hz]; simp; omega
  have e1 : ((pre.length : Int) + 1) = ((pre.length + 1 : Nat) : Int) := by omega
  have ef : fromIndex z.length ((pre.length + 1 : Nat) : Int) = pre.length + 1 := by
    unfold fromIndex
    rw [if_neg (by omega)]
    omega
  have at1 : ∀ v : Nat, v < (tl x).length → z.cps.getD (pre.length + 1 + v) 0 ≠ 34 := fun v hv => by
    have : (tl z)[pre.length + 1 + v]? = some (tl x)[v] := by
      rw [hz, List.getElem?_append_right (by omega), show pre.length + 1 + v - pre.length = v + 1 by omega, List.getElem?_cons_succ, List.getElem?_append_left hv, List.getElem?_eq_getElem hv]
    have h2 : z.cps[pre.length + 1 + v]? = some (tl x)[v] := by rw [← Array.getElem?_toList]; exact this
    rw [Array.getD_eq_getD_getElem?, h2]
    exact (textAbc_all _ (hx.2.2 _ (List.getElem_mem hv))).2.2.1
  have at2 : z.cps.getD (pre.length + 1 + (tl x).length) 0 = 34 := by
    have : (tl z)[pre.length + 1 + (tl x).length]? = some 34 := by
      rw [hz, List.getElem?_append_right (by omega), show pre.length + 1 + (tl x).length - pre.length = (tl x).length + 1 by omega, List.getElem?_cons_succ, List.getElem?_append_right (Nat.le_refl _), Nat.sub_self]
      rfl
    have h2 : z.cps[pre.length + 1 + (tl x).length]? = some 34 := by rw [← Array.getElem?_toList]; exact this
    rw [Array.getD_eq_getD_getElem?, h2]
    rfl
  rw [e1]
  rcases StrLaws.find3_spec z 34 ((pre.length + 1 : Nat) : Int) with ⟨_, hn⟩ | ⟨k, h, h1, h2, h3, h4⟩
  · exact absurd at2 (hn _ (by rw [ef]; omega) (by omega))
  · rw [h]
    rw [ef] at h1 h4
    rcases Nat.lt_trichotomy k (pre.length + 1 + (tl x).length) with hk | hk | hk
    · obtain ⟨v, rfl⟩ : ∃ v, k = pre.length + 1 + v := ⟨k - (pre.length + 1), by omega⟩
      exact absurd h3 (at1 v (by omega))
    · rw [hk]
    · exact absurd at2 (h4 _ (by omega) hk)
def spTa : SpW := fun ws S Q => ∃ (z x : Str) (pre post : List Nat), ws = [.str z, .int pre.length] ∧ tl z = pre ++ 34 :: (tl x ++ 34 :: post) ∧ TextOk x ∧ (tl z).length ≤ 90000 ∧ Q (.tup [.str x, .int (pre.length + 1 + (tl x).length + 1)]) S
theorem ok__text_at (T : Txt K mg ec) (c_is_text : CalW P w K mg base 1 "is_text" (Hd spTxt)) (d : DefAt K mg "_text_at" s__text_at ["text", "at"]) : CalW P w K mg base 2 "_text_at" spTa :=
  calDI d sc__text_at (fun ws S Q ⟨z, n, pre, post, h, _⟩ => by rw [h]; rfl) fun f cdv A outer s H E hr => ⟨_, _,
    (pss_cons (ps_set (i := 2) sc__text_at.nd rfl (Or.inl rfl) (k_bm K PySem.F.plainAttrs_str PySem.F.slot_str_find PySem.F.type_str_find mt_find3 (pv 0) (pa_cons pe_str (pa_cons (pe_op (k_addB K) (pv 1) pe_int) pa_nil))))
      (pss_cons (ps_if (PW.pt (pw_or (pt_cmpR op_ltA (pv 2) pe_int (nomark _)) (pw_or1 (pt_not (pt_val (k_w K c_is_text hr (by decide) rfl (pa_cons (pe_slice (k_sl K) (pv 0) (po_some (pe_op (k_addB K) (pv 1) pe_int)) (po_some (pv 2))) pa_nil)))))))
       (pss_one ps_never)
       pss_nil)
      (pss_one (ps_ret (pe_tup (pa_cons (pe_slice (k_sl K) (pv 0) (po_some (pe_op (k_addB K) (pv 1) pe_int)) (po_some (pv 2))) (pa_cons (pe_op (k_addB K) (pv 2) pe_int) pa_nil))))))), inferInstance, by
    rintro ws S Q ⟨z, x, pre, post, rfl, hz, hx, hl, q⟩
    have zsl : z.length ≤ sizeLine := by rw [← tl_len]; exact Nat.le_trans hl (by rw [sizeLine_eq]; decide)
    have hz2 : tl z = (pre ++ [34]) ++ tl x ++ (34 :: post) := by rw [hz]; simp
    walk_at "w"
    refine ⟨rfl, ?_⟩
    walk_at "w"
    rw [show Str.ofString "\"" = ⟨#[34]⟩ from by decide +kernel, find_quote hz hx]
    walk_at "w"
    have ec : cutS z (some ((pre.length : Int) + 1)) (some ((pre.length + 1 + (tl x).length : Nat) : Int)) = x := by
      rw [cut_mid hz2 (by simp) (by simp), strL_tl]
    refine if_q ?_
    walk_at "w"
    refine ⟨fun h => absurd (of_decide_eq_true h) (by omega), fun _ => ?_⟩
    walk_at "w"
    refine ⟨zsl, ?_⟩
    walk_at "w"
    rw [ec]
    refine Hd.mk ⟨x, rfl, hx, ?_⟩
    refine ⟨fun h => absurd (show (!true) = true from h) (by decide), fun _ => ?_⟩
    walk_at "w"
    refine ⟨zsl, ?_⟩
    walk_at "w"
    rw [ec]
    refine fg_here ?_
    rw [show ((pre.length + 1 + (tl x).length : Nat) : Int) + 1 = (pre.length : Int) + 1 + ((tl x).length : Int) + 1 by omega]
    exact q⟩
end
end K10
set_option Elab.async false
set_option linter.all false
set_option maxRecDepth 100000
set_option maxHeartbeats 4000000
set_option synthInstance.maxHeartbeats 4000000
set_option synthInstance.maxSize 100000
namespace K10
open PySem PySem.Spec PyProof.Rows L2 Wl
local macro_rules | `(tactic| walk_at "w") => `(tactic| (conv => whnf))
/-! what a store holds -/
local macro_rules | `(tactic| walk_at "ne") => `(tactic| first | assumption | (apply Ne.symm; assumption) | exact ne_free (by assumption) (by assumption) | exact (ne_free (by assumption) (by assumption)).symm | exact Pl.ne (by assumption) (by assumption) | exact (Pl.ne (by assumption) (by assumption)).symm)
local macro_rules | `(tactic| walk_at "s") => `(tactic| first
  | exact put_same
  | assumption
  | (refine (put_ne ?_).trans ?_; (· walk_at "ne"); (· walk_at "s")))
/-! a side condition -/
local macro_rules | `(tactic| walk_at "c") => `(tactic| first
  | exact Or.inl (Or.inl ⟨by omega, by omega⟩)
  | exact Or.inl (Or.inr ⟨by omega, by omega⟩)
  | exact Or.inl ⟨by omega, by omega⟩
  | exact Or.inl ⟨rfl, _, by walk_at "s"⟩
  | rfl
  | omega
  | decide
  | exact Nat.le_trans (by omega) sizeLine_ge)
/-! one question is answered, if the answer is plain -/
local macro_rules | `(tactic| walk_at "g1") => `(tactic| first
  | refine ⟨fun _ => ?_, fun h => absurd (show true = false from h) (by decide)⟩
  | refine ⟨fun h => absurd (show false = true from h) Bool.false_ne_true, fun _ => ?_⟩
  | refine ⟨_, by walk_at "s", ?_⟩
  | refine ⟨_, _, by walk_at "s", by walk_at "s", ?_⟩
  | refine ⟨_, by walk_at "s", by simpa using (by omega), ?_⟩
  | refine ⟨_, rfl, ?_⟩
  | refine ⟨_, _, rfl, (by first | exact isTy_tt | exact isTy_ii | exact isTy_ll | exact isTy_ss | exact isTy_ib | exact isTy_tb | exact isTy_ti | exact isTy_ts | exact isTy_tl | exact isTy_lb | exact isTy_li | exact isTy_ls | exact isTy_lt | exact isTy_sb | exact isTy_si | exact isTy_st | exact isTy_sl | exact isTy_is | exact isTy_it | exact isTy_il | exact isTy_bi | exact isTy_bs | exact isTy_bb | exact isTy_nb | exact isTy_ni | exact isTy_ns | exact isTy_nt | exact isTy_nl | exact isTy_bt | exact isTy_bl | exact isTy_nd | exact isTy_td | exact isTy_ld | exact isTy_sd | exact isTy_id | exact isTy_bd | exact isTy_dd | exact isTy_db | exact isTy_di | exact isTy_ds | exact isTy_dt | exact isTy_dl), ?_⟩
  | refine ⟨_, _, tyName_lst (by walk_at "s"), (by first | exact isTy_ll | exact isTy_lb | exact isTy_li | exact isTy_ls | exact isTy_lt), ?_⟩
  | refine if_q ?_
  | refine ⟨by walk_at "c", ?_⟩)
local macro_rules | `(tactic| walk_at "go") => `(tactic| (walk_at "w"; repeat (walk_at "g1"; walk_at "w")))
/-! a branch that cannot be -/
local macro_rules | `(tactic| walk_at "two") => `(tactic| refine ⟨fun h => ?_, fun h => ?_⟩)
section
variable {P : Program} {w : World} {K : PySem.W.Frag} {mg : Str → Option Value} {base : Heap} {ec : Cls}
abbrev bad (C : Addr) : Ex := ⟨.ref C, []⟩
theorem calXNever {x : Str} {st : Stmt} {N ps : List Str} (d : DefAt K mg x st ps) (SC : FnScope N ps (defScope st)) : CalX P w K mg base 1 x (fun _ _ _ _ => False) :=
  calX d SC (fun _ _ _ _ h => h.elim) fun f cdv A outer s H E Ew hr tk px => ⟨_, _, pss_never, inferInstance, fun ws S Q h => h.elim⟩
/-- an item that is not too deep at depth dd -/
def okD (dd : Nat) (it : Itm) : Bool := decide (it.dep = 0 ∨ dd + it.dep ≤ 7)
def noAbc (l : List Nat) : Prop := ∀ c, l[0]? = some c → ¬ (97 ≤ c ∧ c ≤ 122)
theorem noAbc_cons {c : Nat} {l : List Nat} (h : ¬ (97 ≤ c ∧ c ≤ 122)) : noAbc (c :: l) := fun d e => by cases e; exact h
theorem noAbc_its (is : List Itm) (l : List Nat) : noAbc (wrLs is ++ 41 :: l) := by
  cases is with
  | nil => unfold wrLs; exact noAbc_cons (by decide)
  | cons i is => unfold wrLs; exact noAbc_cons (by decide)
theorem noAbc_pts (ms : List Str) (is : List Itm) (l : List Nat) : noAbc (ptsL ms ++ (wrLs is ++ 41 :: l)) := by
  cases ms with
  | nil => exact noAbc_its is l
  | cons m ms => exact noAbc_cons (by decide)
theorem deps_mem {i : Itm} {is : List Itm} (h : i ∈ is) : i.dep ≤ deps is := by
  induction is with
  | nil => cases h
  | cons x is ih =>
    rw [deps_cons]
    rcases List.mem_cons.mp h with e | h
    · rw [e]; omega
    · have := ih h; omega
theorem deps_ok {dd : Nat} {is : List Itm} (h : ∀ i ∈ is, okD (dd + 1) i = true) (hd : dd ≤ 6) : dd + 1 + deps is ≤ 7 := by
  induction is with
  | nil => rw [deps_nil]; omega
  | cons x is ih =>
    rw [deps_cons]
    have a := of_decide_eq_true (h x List.mem_cons_self)
    have b := ih fun i hi => h i (List.mem_cons_of_mem _ hi)
    omega
theorem part_dep (k : Str) (ms : List Str) (is : List Itm) : (Itm.part k ms is).dep = 1 + deps is := by unfold Itm.dep; rfl
def spIa (C : Addr) (n : Nat) : SpX := fun ws S Q E => ∃ (z : Str) (it : Itm) (m dd : Nat) (pre post : List Nat), ws = [.str z, .int pre.length, .int dd] ∧ tl z = pre ++ wrL it ++ post ∧ ItmOk m n it ∧ m ≤ 1000 ∧ (tl z).length ≤ 90000 ∧ noAbc post ∧
  (okD dd it = true → Q (.tup [it.w, .int (pre.length + (wrL it).length)]) S) ∧ (okD dd it = false → E (bad C) S)
def spPx (C : Addr) (n : Nat) : SpX := fun ws S Q E => ∃ (z k : Str) (ms : List Str) (is : List Itm) (m dd : Nat) (pre post : List Nat), ws = [.str z, .int pre.length, .int dd] ∧ tl z = pre ++ wrL (.part k ms is) ++ post ∧ ItmOk m n (.part k ms is) ∧ m ≤ 1000 ∧ (tl z).length ≤ 90000 ∧ noAbc post ∧
  (okD dd (.part k ms is) = true → Q (.tup [(Itm.part k ms is).w, .int (pre.length + (wrL (.part k ms is)).length)]) S) ∧ (okD dd (.part k ms is) = false → E (bad C) S)
theorem ia_step (T : Txt K mg ec) (k n : Nat) (hk : 2 ≤ k) (c__name_at : CalW P w K mg base 2 "_name_at" (Hd spNa)) (c__text_at : CalW P w K mg base 2 "_text_at" (Hd spTa)) (c__part_at : CalX P w K mg base k "_part_at" (HdX (spPx ec.BadDocument n)))
    (d : DefAt K mg "_item_at" s__item_at ["text", "at", "depth"]) : CalX P w K mg base (k + 1) "_item_at" (spIa ec.BadDocument n) :=
  have c__name_at := c__name_at.mono hk
  have c__text_at := c__text_at.mono hk
  calX d sc__item_at (fun ws S Q E ⟨z, it, m, dd, pre, post, e, _⟩ => by rw [e]; rfl) fun f cdv A outer s H E Ew hr tk px => ⟨_, _,
    (pss_cons (ps_set (i := 3) sc__item_at.nd rfl (Or.inl rfl) (pe_slice (k_sl K) (pv 0) (po_some (pv 1)) (po_some (pe_op (k_addB K) (pv 1) pe_int))))
      (pss_cons (ps_if (pt_cmpR (k_eq K hr.units) (pv 3) pe_str (nomark _))
       (pss_one (ps_ret (k_x K tk c__part_at hr (Nat.le_refl _) rfl (pa_cons (pv 0) (pa_cons (pv 1) (pa_cons (pv 2) pa_nil))))))
       pss_nil)
      (pss_cons (ps_if (pt_cmpR (k_eq K hr.units) (pv 3) pe_str (nomark _))
       (pss_one (ps_ret (k_w K c__text_at hr (Nat.le_refl _) rfl (pa_cons (pv 0) (pa_cons (pv 1) pa_nil)))))
       pss_nil)
      (pss_cons (ps_if (pt_cmpR (k_notIn K) (pv 3) (pe_tup (pa_cons pe_str (pa_cons pe_str pa_nil))) rfl)
       (pss_one (k_raise0 K T.e_BadDocument rfl tk rfl))
       pss_nil)
      (pss_cons (ps_asg (k_w K c__name_at hr (Nat.le_refl _) rfl (pa_cons (pv 0) (pa_cons (pe_op (k_addB K) (pv 1) pe_int) pa_nil))) (k_gtup K (n := 2) rfl (pgs_cons (pg_name (i := 4) sc__item_at.nd rfl (Or.inl rfl)) (pgs_cons (pg_name (i := 1) sc__item_at.nd rfl (Or.inl rfl)) pgs_nil))))
      (pss_one (ps_ret (pe_tup (pa_cons (pe_tup (pa_cons (pv 3) (pa_cons (pv 4) pa_nil))) (pa_cons (pv 1) pa_nil)))))))))), inferInstance, by
    rintro ws S Q ⟨z, it, m, dd, pre, post, rfl, hz, h, hm, hl, hp, q, er⟩
    have zsl : z.length ≤ sizeLine := by rw [← tl_len]; exact Nat.le_trans hl (by rw [sizeLine_eq]; decide)
    have sgn : ∀ (c : Nat) (r : List Nat), wrL it = c :: r → cutS z (some (pre.length : Int)) (some ((pre.length : Int) + 1)) = ⟨#[c]⟩ := fun c r e => cut_one (post := r ++ post) (by rw [hz, e]; simp)
    walk_at "w"
    refine ⟨zsl, ?_⟩
    walk_at "w"
    cases h with
    | @text _ x h =>
      rw [sgn 34 (tl x ++ [34]) (by unfold wrL; rfl)]
      walk_at "w"
      refine ⟨fun h => absurd h (by decide +kernel), fun _ => ?_⟩
      walk_at "w"
      refine ⟨fun _ => ?_, fun h => absurd h (by decide +kernel)⟩
      walk_at "w"
      refine Hd.mk ⟨z, x, pre, post, rfl, by rw [hz]; unfold wrL; simp, h, hl, fg_here ?_⟩
      have e : (pre.length : Int) + 1 + ((tl x).length : Int) + 1 = (pre.length : Int) + ((wrL (.text x)).length : Int) := by unfold wrL; simp; omega
      rw [e]
      exact q (by unfold okD Itm.dep; rfl)
    | @lab _ x h =>
      rw [sgn 35 (tl x) (by unfold wrL; rfl)]
      walk_at "w"
      refine ⟨fun h => absurd h (by decide +kernel), fun _ => ?_⟩
      walk_at "w"
      refine ⟨fun h => absurd h (by decide +kernel), fun _ => ?_⟩
      walk_at "w"
      refine ⟨rfl, rfl, ?_⟩
      refine ⟨fun h => absurd h (by decide +kernel), fun _ => ?_⟩
      walk_at "w"
      rw [show (pre.length : Int) + 1 = (((pre ++ [35]).length : Nat) : Int) by simp]
      refine Hd.mk ⟨z, x, pre ++ [35], post, rfl, by rw [hz]; unfold wrL; simp, h, hl, hp, ?_⟩
      walk_at "w"
      refine ⟨rfl, ?_⟩
      walk_at "w"
      refine ⟨rfl, ?_⟩
      walk_at "w"
      refine fg_here ?_
      have e : ((pre ++ [35]).length : Int) + ((tl x).length : Int) = (pre.length : Int) + ((wrL (.lab x)).length : Int) := by unfold wrL; simp; omega
      rw [e]
      exact q (by unfold okD Itm.dep; rfl)
    | @ref _ x h =>
      rw [sgn 64 (tl x) (by unfold wrL; rfl)]
      walk_at "w"
      refine ⟨fun h => absurd h (by decide +kernel), fun _ => ?_⟩
      walk_at "w"
      refine ⟨fun h => absurd h (by decide +kernel), fun _ => ?_⟩
      walk_at "w"
      refine ⟨rfl, rfl, ?_⟩
      refine ⟨fun h => absurd h (by decide +kernel), fun _ => ?_⟩
      walk_at "w"
      rw [show (pre.length : Int) + 1 = (((pre ++ [64]).length : Nat) : Int) by simp]
      refine Hd.mk ⟨z, x, pre ++ [64], post, rfl, by rw [hz]; unfold wrL; simp, h, hl, hp, ?_⟩
      walk_at "w"
      refine ⟨rfl, ?_⟩
      walk_at "w"
      refine ⟨rfl, ?_⟩
      walk_at "w"
      refine fg_here ?_
      have e : ((pre ++ [64]).length : Int) + ((tl x).length : Int) = (pre.length : Int) + ((wrL (.ref x)).length : Int) := by unfold wrL; simp; omega
      rw [e]
      exact q (by unfold okD Itm.dep; rfl)
    | @part d kd ms is h1 h2 h3 h4 h5 =>
      rw [sgn 40 (tl kd ++ ptsL ms ++ wrLs is ++ [41]) (by unfold wrL; rfl)]
      walk_at "w"
      refine ⟨fun _ => ?_, fun h => absurd h (by decide +kernel)⟩
      walk_at "w"
      exact HdX.mk ⟨z, kd, ms, is, m, dd, pre, post, rfl, hz, .part h1 h2 h3 h4 h5, hm, hl, hp, fun h => fg_here (q h), fun h => fgx_here (er h)⟩⟩
end
end K10
set_option Elab.async false
set_option linter.all false
set_option maxRecDepth 100000
set_option maxHeartbeats 4000000
set_option synthInstance.maxHeartbeats 4000000
set_option synthInstance.maxSize 100000
namespace K10
open PySem PySem.Spec PyProof.Rows L2 Wl
local macro_rules | `(tactic| walk_at "w") => `(tactic| (conv => whnf))
/-! what a store holds -/
local macro_rules | `(tactic| walk_at "ne") => `(tactic| first | assumption | (apply Ne.symm; assumption) | exact ne_free (by assumption) (by assumption) | exact (ne_free (by assumption) (by assumption)).symm | exact Pl.ne (by assumption) (by assumption) | exact (Pl.ne (by assumption) (by assumption)).symm)
local macro_rules | `(tactic| walk_at "s") => `(tactic| first
  | exact put_same
  | assumption
  | (refine (put_ne ?_).trans ?_; (· walk_at "ne"); (· walk_at "s")))
/-! a side condition -/
local macro_rules | `(tactic| walk_at "c") => `(tactic| first
  | exact Or.inl (Or.inl ⟨by omega, by omega⟩)
  | exact Or.inl (Or.inr ⟨by omega, by omega⟩)
  | exact Or.inl ⟨by omega, by omega⟩
  | exact Or.inl ⟨rfl, _, by walk_at "s"⟩
  | rfl
  | omega
  | decide
  | exact Nat.le_trans (by omega) sizeLine_ge)
/-! one question is answered, if the answer is plain -/
local macro_rules | `(tactic| walk_at "g1") => `(tactic| first
  | refine ⟨fun _ => ?_, fun h => absurd (show true = false from h) (by decide)⟩
  | refine ⟨fun h => absurd (show false = true from h) Bool.false_ne_true, fun _ => ?_⟩
  | refine ⟨_, by walk_at "s", ?_⟩
  | refine ⟨_, _, by walk_at "s", by walk_at "s", ?_⟩
  | refine ⟨_, by walk_at "s", by simpa using (by omega), ?_⟩
  | refine ⟨_, rfl, ?_⟩
  | refine ⟨_, _, rfl, (by first | exact isTy_tt | exact isTy_ii | exact isTy_ll | exact isTy_ss | exact isTy_ib | exact isTy_tb | exact isTy_ti | exact isTy_ts | exact isTy_tl | exact isTy_lb | exact isTy_li | exact isTy_ls | exact isTy_lt | exact isTy_sb | exact isTy_si | exact isTy_st | exact isTy_sl | exact isTy_is | exact isTy_it | exact isTy_il | exact isTy_bi | exact isTy_bs | exact isTy_bb | exact isTy_nb | exact isTy_ni | exact isTy_ns | exact isTy_nt | exact isTy_nl | exact isTy_bt | exact isTy_bl | exact isTy_nd | exact isTy_td | exact isTy_ld | exact isTy_sd | exact isTy_id | exact isTy_bd | exact isTy_dd | exact isTy_db | exact isTy_di | exact isTy_ds | exact isTy_dt | exact isTy_dl), ?_⟩
  | refine ⟨_, _, tyName_lst (by walk_at "s"), (by first | exact isTy_ll | exact isTy_lb | exact isTy_li | exact isTy_ls | exact isTy_lt), ?_⟩
  | refine if_q ?_
  | refine ⟨by walk_at "c", ?_⟩)
local macro_rules | `(tactic| walk_at "go") => `(tactic| (walk_at "w"; repeat (walk_at "g1"; walk_at "w")))
/-! a branch that cannot be -/
local macro_rules | `(tactic| walk_at "two") => `(tactic| refine ⟨fun h => ?_, fun h => ?_⟩)
section
variable {P : Program} {w : World} {K : PySem.W.Frag} {mg : Str → Option Value} {base : Heap} {ec : Cls}
theorem ptsL_app (a b : List Str) : ptsL (a ++ b) = ptsL a ++ ptsL b := by unfold ptsL; rw [List.map_append, List.flatten_append]
theorem ptsL_one (m : Str) : ptsL [m] = 46 :: tl m := by unfold ptsL; simp
theorem wrLs_cons (i : Itm) (is : List Itm) : wrLs (i :: is) = 32 :: (wrL i ++ wrLs is) := by simp only [wrLs]
theorem wrLs_one (i : Itm) : wrLs [i] = 32 :: wrL i := by rw [wrLs_map]; simp
theorem split_at {α : Type} {l : List α} {i : Nat} (h : i < l.length) : l = l.take i ++ l[i] :: l.drop (i + 1) := by
  rw [List.getElem_cons_drop, List.take_append_drop]
theorem snocN (c : Nat) (L : List Nat) : ((L.length : Nat) : Int) + 1 = (((L ++ [c]).length : Nat) : Int) := by simp
theorem appN (L R : List Nat) : ((L.length : Nat) : Int) + ((R.length : Nat) : Int) = (((L ++ R).length : Nat) : Int) := by simp
theorem pa_step (T : Txt K mg ec) (k n : Nat) (hk : 2 ≤ k) (spI : SpX) (c__name_at : CalW P w K mg base 2 "_name_at" (Hd spNa)) (c_is_marks : CalW P w K mg base 2 "is_marks" (Hd spMks)) (c__item_at : CalX P w K mg base k "_item_at" (HdX spI))
    (hn : ∀ (u : Nat) ws S Q E, n = u + 1 → spIa ec.BadDocument u ws S Q E → spI ws S Q E) (d : DefAt K mg "_part_at" s__part_at ["text", "at", "depth"]) : CalX P w K mg base (k + 1) "_part_at" (spPx ec.BadDocument n) :=
  have c__name_at := c__name_at.mono hk
  have c_is_marks := c_is_marks.mono hk
  calX d sc__part_at (fun ws S Q E ⟨z, kd, ms, is, m, dd, pre, post, e, _⟩ => by rw [e]; rfl) fun f cdv A outer s H E Ew hr tk px => ⟨_, _,
    (pss_cons (ps_if (pt_cmpR op_gtA (pv 2) (k_gl K T.m_MOST_DEPTH rfl) (nomark _))
       (pss_one (k_raise0 K T.e_BadDocument rfl tk rfl))
       pss_nil)
      (pss_cons (ps_asg (k_w K c__name_at hr (Nat.le_refl _) rfl (pa_cons (pv 0) (pa_cons (pe_op (k_addB K) (pv 1) pe_int) pa_nil))) (k_gtup K (n := 2) rfl (pgs_cons (pg_name (i := 3) sc__part_at.nd rfl (Or.inl rfl)) (pgs_cons (pg_name (i := 1) sc__part_at.nd rfl (Or.inl rfl)) pgs_nil))))
      (pss_cons (ps_set (i := 4) sc__part_at.nd rfl (Or.inl rfl) (pe_lst pa_nil))
      (pss_cons (ps_while (passes_of rfl) (pt_cmpR (k_eq K hr.units) (pe_slice (k_sl K) (pv 0) (po_some (pv 1)) (po_some (pe_op (k_addB K) (pv 1) pe_int))) pe_str (nomark _))
       (pss_cons (ps_asg (k_w K c__name_at hr (Nat.le_refl _) rfl (pa_cons (pv 0) (pa_cons (pe_op (k_addB K) (pv 1) pe_int) pa_nil))) (k_gtup K (n := 2) rfl (pgs_cons (pg_name (i := 5) sc__part_at.nd rfl (Or.inl rfl)) (pgs_cons (pg_name (i := 1) sc__part_at.nd rfl (Or.inl rfl)) pgs_nil))))
       (pss_one (ps_expr (k_bm K PySem.F.plainAttrs_list PySem.F.slot_list_append PySem.F.type_list_append mt_append (pv 4) (pa_cons (pv 5) pa_nil))))))
      (pss_cons (ps_set (i := 6) sc__part_at.nd rfl (Or.inl rfl) (pe_lst pa_nil))
      (pss_cons (ps_while (passes_of rfl) (pt_cmpR (k_eq K hr.units) (pe_slice (k_sl K) (pv 0) (po_some (pv 1)) (po_some (pe_op (k_addB K) (pv 1) pe_int))) pe_str (nomark _))
       (pss_cons (ps_asg (k_x K tk c__item_at hr (Nat.le_refl _) rfl (pa_cons (pv 0) (pa_cons (pe_op (k_addB K) (pv 1) pe_int) (pa_cons (pe_op (k_addB K) (pv 2) pe_int) pa_nil)))) (k_gtup K (n := 2) rfl (pgs_cons (pg_name (i := 7) sc__part_at.nd rfl (Or.inl rfl)) (pgs_cons (pg_name (i := 1) sc__part_at.nd rfl (Or.inl rfl)) pgs_nil))))
       (pss_one (ps_expr (k_bm K PySem.F.plainAttrs_list PySem.F.slot_list_append PySem.F.type_list_append mt_append (pv 6) (pa_cons (pv 7) pa_nil))))))
      (pss_cons (ps_if (PW.pt (pw_or (pt_cmpR (k_ne K hr.units) (pe_slice (k_sl K) (pv 0) (po_some (pv 1)) (po_some (pe_op (k_addB K) (pv 1) pe_int))) pe_str (nomark _)) (pw_or1 (pt_not (pt_val (k_w K c_is_marks hr (Nat.le_refl _) rfl (pa_cons (pv 4) pa_nil)))))))
       (pss_one (k_raise0 K T.e_BadDocument rfl tk rfl))
       pss_nil)
      (pss_one (ps_ret (pe_tup (pa_cons (pe_tup (pa_cons (pv 3) (pa_cons (pe_callTy (k_tuple K) (by rfl) T.b_tuple (by decide +kernel) (pa_cons (pv 4) pa_nil)) (pa_cons (pe_callTy (k_tuple K) (by rfl) T.b_tuple (by decide +kernel) (pa_cons (pv 6) pa_nil)) pa_nil)))) (pa_cons (pe_op (k_addB K) (pv 1) pe_int) pa_nil)))))))))))), inferInstance, by
    rintro ws S Q ⟨z, kd, ms, is, m, dd, pre, post, rfl, hz, h, hm, hl, hp, q, er⟩
    have zsl : z.length ≤ sizeLine := by rw [← tl_len]; exact Nat.le_trans hl (by rw [sizeLine_eq]; decide)
    cases h with
    | @part u _ _ _ h1 h2 h3 h4 h5 =>
    have hz1 : tl z = (pre ++ [40]) ++ tl kd ++ (ptsL ms ++ (wrLs is ++ 41 :: post)) := by rw [hz]; unfold wrL; simp
    walk_at "w"
    refine ⟨fun h => ?_, fun h => ?_⟩
    · have h := of_decide_eq_true h
      walk_at "w"
      refine fgx_here (er ?_)
      unfold okD
      rw [part_dep]
      exact decide_eq_false (by omega)
    have hdd : dd ≤ 6 := by
      have := of_decide_eq_false h
      omega
    walk_at "w"
    rw [snocN 40]
    refine Hd.mk ⟨z, kd, pre ++ [40], _, rfl, hz1, h1, hl, noAbc_pts ms is post, ?_⟩
    walk_at "w"
    refine ⟨rfl, ?_⟩
    walk_at "w"
    refine ⟨rfl, ?_⟩
    walk_at "w"
    intro M hM
    walk_at "w"
    have eP0 : ((pre ++ [40]).length : Int) + ((tl kd).length : Int) = ((pre ++ [40] ++ tl kd ++ ptsL (ms.take 0)).length : Nat) := by simp [ptsL]; omega
    rw [eP0]
    refine wh_q (fun j ρ S' => ∃ (i : Nat) (a5 : Option W), i ≤ ms.length ∧ j = ms.length - i ∧ ρ = [some (.str z), some (.int ((pre ++ [40] ++ tl kd ++ ptsL (ms.take i)).length : Nat)), some (.int dd), some (.str kd), some (.ref M), a5, none, none] ∧ S' M = some (.lst ((ms.take i).map W.str)) ∧ KpL [] S S')
      ⟨_, 0, none, Nat.zero_le _, rfl, rfl, put_same, (KpL.refl [] S).new hM⟩ ?_
    rintro j ρ S1 ⟨i, a5, hi, rfl, rfl, hM1, k1⟩
    walk_at "w"
    refine ⟨zsl, ?_⟩
    rcases Nat.lt_or_ge i ms.length with hlt | hge
    · have hsp := split_at hlt
      have hz2 : tl z = (pre ++ [40] ++ tl kd ++ ptsL (ms.take i)) ++ 46 :: (tl ms[i] ++ (ptsL (ms.drop (i + 1)) ++ (wrLs is ++ 41 :: post))) := by
        rw [hz1]
        conv => lhs; rw [hsp, show ms.take i ++ ms[i] :: ms.drop (i + 1) = ms.take i ++ ([ms[i]] ++ ms.drop (i + 1)) by simp, ptsL_app, ptsL_app, ptsL_one]
        simp
      rw [cut_one hz2]
      refine ⟨fun _ => ?_, fun h => absurd h (by decide +kernel)⟩
      walk_at "w"
      rw [snocN 46]
      refine Hd.mk ⟨z, ms[i], _, _, rfl, by rw [hz2]; simp; rfl, h2.name _ (List.getElem_mem hlt), hl, noAbc_pts _ is post, ?_⟩
      walk_at "w"
      refine ⟨rfl, ?_⟩
      walk_at "w"
      refine ⟨rfl, ?_⟩
      walk_at "w"
      refine ⟨.inl ⟨rfl, _, hM1⟩, ?_⟩
      walk_at "w"
      have tk : ms.take (i + 1) = ms.take i ++ [ms[i]] := by rw [List.take_add_one, List.getElem?_eq_getElem hlt]; rfl
      refine ⟨_, hM1, by rw [List.length_map, List.length_take]; exact Nat.lt_of_lt_of_le (show min i ms.length < 200 by omega) (Nat.le_trans (by decide) sizeLine_ge), ms.length - (i + 1), by omega, i + 1, some (.str ms[i]), by omega, rfl, ?_, ?_, k1.own hM⟩
      · rw [tk, ptsL_app, ptsL_one, appN, show pre ++ [40] ++ tl kd ++ (ptsL (ms.take i) ++ 46 :: tl ms[i]) = pre ++ [40] ++ tl kd ++ ptsL (ms.take i) ++ [46] ++ tl ms[i] by simp]
        rfl
      · rw [put_same, tk, List.map_append]; rfl
    obtain rfl : i = ms.length := by omega
    rw [List.take_length] at hM1 ⊢
    have hz3 : tl z = (pre ++ [40] ++ tl kd ++ ptsL ms) ++ (wrLs is ++ 41 :: post) := by rw [hz1]; simp
    obtain ⟨c, r, hcr, hc46⟩ : ∃ (c : Nat) (r : List Nat), wrLs is ++ 41 :: post = c :: r ∧ (c = 32 ∨ c = 41) := by
      cases is with
      | nil => exact ⟨41, post, by unfold wrLs; rfl, .inr rfl⟩
      | cons x xs => exact ⟨32, wrL x ++ wrLs xs ++ 41 :: post, by rw [wrLs_cons]; rfl, .inl rfl⟩
    rw [cut_one (c := c) (post := r) (by rw [hz3, hcr])]
    have nodot : decide ((⟨#[c]⟩ : Str) = Str.ofString ".") = false := by rcases hc46 with e | e <;> rw [e] <;> decide +kernel
    refine ⟨fun h => absurd (nodot ▸ (show decide ((⟨#[c]⟩ : Str) = Str.ofString ".") = true from h)) (by decide), fun _ => ?_⟩
    clear hcr hc46 nodot
    walk_at "w"
    intro I hI
    have hIM := ne_free hM1 hI
    have M2 := (put_ne (c := .lst []) hIM.symm).trans hM1
    have I2 : put S1 I (.lst []) I = some (.lst (((is.take 0).map Itm.w))) := put_same
    have k2 : KpL [] S (put S1 I (.lst [])) := k1.new hI
    have hIS := k1.free hI (by simp)
    generalize put S1 I (.lst []) = S2 at M2 I2 k2
    walk_at "w"
    have hgood : ∀ i, i ∈ is → okD (dd + 1) i = false → okD dd (.part kd ms is) = false := fun i hi h => by
      unfold okD at h ⊢
      have h := of_decide_eq_false h
      have := deps_mem hi
      rw [part_dep]
      exact decide_eq_false (by omega)
    have eQ : (((pre ++ [40] ++ tl kd ++ ptsL ms).length : Nat) : Int) = (((pre ++ [40] ++ tl kd ++ ptsL ms ++ wrLs (is.take 0)).length : Nat) : Int) := by simp [wrLs]
    rw [eQ]
    refine wh_q (fun j ρ S' => ∃ (i : Nat) (a7 : Option W), i ≤ is.length ∧ j = is.length - i ∧ (∀ x ∈ is.take i, okD (dd + 1) x = true) ∧ ρ = [some (.str z), some (.int ((pre ++ [40] ++ tl kd ++ ptsL ms ++ wrLs (is.take i)).length : Nat)), some (.int dd), some (.str kd), some (.ref M), a5, some (.ref I), a7] ∧ S' M = some (.lst (ms.map W.str)) ∧ S' I = some (.lst ((is.take i).map Itm.w)) ∧ KpL [] S S')
      ⟨_, 0, none, Nat.zero_le _, rfl, (fun _ h => by cases h), rfl, M2, I2, k2⟩ ?_
    rintro j ρ S3 ⟨i, a7, hi, rfl, hok, rfl, M3, I3, k3⟩
    walk_at "w"
    refine ⟨zsl, ?_⟩
    rcases Nat.lt_or_ge i is.length with hlt | hge
    · have hsp := split_at hlt
      have hz4 : tl z = (pre ++ [40] ++ tl kd ++ ptsL ms ++ wrLs (is.take i)) ++ 32 :: (wrL is[i] ++ (wrLs (is.drop (i + 1)) ++ 41 :: post)) := by
        rw [hz3]
        conv => lhs; rw [hsp, show is.take i ++ is[i] :: is.drop (i + 1) = is.take i ++ ([is[i]] ++ is.drop (i + 1)) by simp, wrLs_app, wrLs_app, wrLs_one]
        simp
      rw [cut_one hz4]
      refine ⟨fun _ => ?_, fun h => absurd h (by decide +kernel)⟩
      walk_at "w"
      rw [snocN 32]
      have hm0 := List.getElem_mem hlt
      have tk : is.take (i + 1) = is.take i ++ [is[i]] := by rw [List.take_add_one, List.getElem?_eq_getElem hlt]; rfl
      refine HdX.mk (hn u _ _ _ _ rfl ⟨z, is[i], m, dd + 1, pre ++ [40] ++ tl kd ++ ptsL ms ++ wrLs (is.take i) ++ [32], wrLs (is.drop (i + 1)) ++ 41 :: post, rfl, by rw [hz4]; simp, h5 _ hm0, hm, hl, noAbc_its _ post, fun hg => ?_, fun hg => ?_⟩)
      · walk_at "w"
        refine ⟨rfl, ?_⟩
        walk_at "w"
        refine ⟨rfl, ?_⟩
        walk_at "w"
        refine ⟨.inl ⟨rfl, _, I3⟩, ?_⟩
        walk_at "w"
        refine ⟨_, I3, by rw [List.length_map, List.length_take]; exact Nat.lt_of_lt_of_le (show min i is.length < 2000 by omega) (by rw [sizeLine_eq]; decide), is.length - (i + 1), by omega, i + 1, some is[i].w, by omega, rfl, ?_, ?_, ?_, ?_, k3.own hIS⟩
        · rw [tk]
          intro x hx
          rcases List.mem_append.mp hx with hx | hx
          · exact hok x hx
          · rw [List.mem_singleton.mp hx]; exact hg
        · rw [tk, wrLs_app, wrLs_one, appN, show pre ++ [40] ++ tl kd ++ ptsL ms ++ (wrLs (is.take i) ++ 32 :: wrL is[i]) = pre ++ [40] ++ tl kd ++ ptsL ms ++ wrLs (is.take i) ++ [32] ++ wrL is[i] by simp]
          rfl
        · exact (put_ne hIM.symm).trans M3
        · rw [put_same, tk, List.map_append]; rfl
      · exact fgx_sub (fun a c e => k3 a c (by simp) e) (er (hgood _ hm0 hg))
    obtain rfl : i = is.length := by omega
    rw [List.take_length] at I3 hok ⊢
    have hz5 : tl z = (pre ++ [40] ++ tl kd ++ ptsL ms ++ wrLs is) ++ 41 :: post := by rw [hz3]; simp
    have e41 := cut_one hz5
    rw [e41]
    refine ⟨fun h => absurd h (by decide +kernel), fun _ => ?_⟩
    walk_at "w"
    refine if_q ?_
    walk_at "w"
    refine ⟨zsl, ?_⟩
    walk_at "w"
    rw [e41]
    refine ⟨fun h => absurd h (by decide +kernel), fun _ => ?_⟩
    walk_at "w"
    refine Hd.mk ⟨M, ms, rfl, M3, h2, h3, ?_⟩
    refine ⟨fun h => absurd (show (!true) = true from h) (by decide), fun _ => ?_⟩
    walk_at "w"
    refine ⟨_, M3, ?_⟩
    walk_at "w"
    refine ⟨_, I3, ?_⟩
    walk_at "w"
    refine fg_off (ps := []) k3 fun S8 g1 g2 => ?_
    rw [show S8 = S from funext fun a => g1 a (by simp), snocN 41]
    have ql := q (by unfold okD; rw [part_dep]; exact decide_eq_true (by have := deps_ok hok hdd; omega))
    have ew : (Itm.part kd ms is).w = .tup [.str kd, .tup (ms.map W.str), .tup (is.map Itm.w)] := by
      unfold Itm.w
      rw [itmsW_map]
    rw [ew] at ql
    have eL : (((pre ++ [40] ++ tl kd ++ ptsL ms ++ wrLs is ++ [41]).length : Nat) : Int) = (pre.length : Int) + ((wrL (.part kd ms is)).length : Int) := by
      rw [appN]
      congr 2
      unfold wrL
      simp
    rw [eL]
    exact ql⟩
end
end K10
set_option Elab.async false
set_option linter.all false
set_option maxRecDepth 100000
set_option maxHeartbeats 4000000
set_option synthInstance.maxHeartbeats 4000000
set_option synthInstance.maxSize 100000
namespace K10
open PySem PySem.Spec PyProof.Rows L2 Wl
local macro_rules | `(tactic| walk_at "w") => `(tactic| (conv => whnf))
/-! what a store holds -/
local macro_rules | `(tactic| walk_at "ne") => `(tactic| first | assumption | (apply Ne.symm; assumption) | exact ne_free (by assumption) (by assumption) | exact (ne_free (by assumption) (by assumption)).symm | exact Pl.ne (by assumption) (by assumption) | exact (Pl.ne (by assumption) (by assumption)).symm)
local macro_rules | `(tactic| walk_at "s") => `(tactic| first
  | exact put_same
  | assumption
  | (refine (put_ne ?_).trans ?_; (· walk_at "ne"); (· walk_at "s")))
/-! a side condition -/
local macro_rules | `(tactic| walk_at "c") => `(tactic| first
  | exact Or.inl (Or.inl ⟨by omega, by omega⟩)
  | exact Or.inl (Or.inr ⟨by omega, by omega⟩)
  | exact Or.inl ⟨by omega, by omega⟩
  | exact Or.inl ⟨rfl, _, by walk_at "s"⟩
  | rfl
  | omega
  | decide
  | exact Nat.le_trans (by omega) sizeLine_ge)
/-! one question is answered, if the answer is plain -/
local macro_rules | `(tactic| walk_at "g1") => `(tactic| first
  | refine ⟨fun _ => ?_, fun h => absurd (show true = false from h) (by decide)⟩
  | refine ⟨fun h => absurd (show false = true from h) Bool.false_ne_true, fun _ => ?_⟩
  | refine ⟨_, by walk_at "s", ?_⟩
  | refine ⟨_, _, by walk_at "s", by walk_at "s", ?_⟩
  | refine ⟨_, by walk_at "s", by simpa using (by omega), ?_⟩
  | refine ⟨_, rfl, ?_⟩
  | refine ⟨_, _, rfl, (by first | exact isTy_tt | exact isTy_ii | exact isTy_ll | exact isTy_ss | exact isTy_ib | exact isTy_tb | exact isTy_ti | exact isTy_ts | exact isTy_tl | exact isTy_lb | exact isTy_li | exact isTy_ls | exact isTy_lt | exact isTy_sb | exact isTy_si | exact isTy_st | exact isTy_sl | exact isTy_is | exact isTy_it | exact isTy_il | exact isTy_bi | exact isTy_bs | exact isTy_bb | exact isTy_nb | exact isTy_ni | exact isTy_ns | exact isTy_nt | exact isTy_nl | exact isTy_bt | exact isTy_bl | exact isTy_nd | exact isTy_td | exact isTy_ld | exact isTy_sd | exact isTy_id | exact isTy_bd | exact isTy_dd | exact isTy_db | exact isTy_di | exact isTy_ds | exact isTy_dt | exact isTy_dl), ?_⟩
  | refine ⟨_, _, tyName_lst (by walk_at "s"), (by first | exact isTy_ll | exact isTy_lb | exact isTy_li | exact isTy_ls | exact isTy_lt), ?_⟩
  | refine if_q ?_
  | refine ⟨by walk_at "c", ?_⟩)
local macro_rules | `(tactic| walk_at "go") => `(tactic| (walk_at "w"; repeat (walk_at "g1"; walk_at "w")))
/-! a branch that cannot be -/
local macro_rules | `(tactic| walk_at "two") => `(tactic| refine ⟨fun h => ?_, fun h => ?_⟩)
section
variable {P : Program} {w : World} {K : PySem.W.Frag} {mg : Str → Option Value} {base : Heap} {ec : Cls}
theorem ok_pa (T : Txt K mg ec) (c__name_at : CalW P w K mg base 2 "_name_at" (Hd spNa)) (c__text_at : CalW P w K mg base 2 "_text_at" (Hd spTa)) (c_is_marks : CalW P w K mg base 2 "is_marks" (Hd spMks))
    (d1 : DefAt K mg "_part_at" s__part_at ["text", "at", "depth"]) (d2 : DefAt K mg "_item_at" s__item_at ["text", "at", "depth"]) : ∀ n : Nat, CalX P w K mg base (2 * n + 3) "_part_at" (spPx ec.BadDocument n)
  | 0 => pa_step T 2 0 (by decide) (fun _ _ _ _ => False) c__name_at c_is_marks ((calXNever d2 sc__item_at).mono (by decide)).hd (fun u ws S Q E e => by cases e) d1
  | n + 1 => pa_step T (2 * n + 4) (n + 1) (by omega) (spIa ec.BadDocument n) c__name_at c_is_marks (ia_step T (2 * n + 3) n (by omega) c__name_at c__text_at (ok_pa T c__name_at c__text_at c_is_marks d1 d2 n).hd d2).hd (fun u ws S Q E e h => by cases e; exact h) d1
def spRi (C : Addr) : SpX := fun ws S Q E => ∃ (k : Str) (ms : List Str) (is : List Itm) (m : Nat), ws = [.str (strL (wrL (.part k ms is)))] ∧ ItmOk m 20 (.part k ms is) ∧ m ≤ 1000 ∧ (Itm.part k ms is).cnt ≤ 1000 ∧
  (bdI (.part k ms is) = true → Q (Itm.part k ms is).w S) ∧ (bdI (.part k ms is) = false → E (bad C) S)
theorem ok_read_item (T : Txt K mg ec) (c_is_part : CalW P w K mg base 1 "is_part" (Hd spIs)) (c_within_bounds : CalW P w K mg base 6 "within_bounds" (Hd spWb)) (c__item_at : CalX P w K mg base 44 "_item_at" (HdX (spIa ec.BadDocument 20)))
    (d : DefAt K mg "read_item" s_read_item ["text"]) : CalX P w K mg base 45 "read_item" (spRi ec.BadDocument) :=
  have c_is_part := c_is_part.mono (k := 44) (by decide)
  have c_within_bounds := c_within_bounds.mono (k := 44) (by decide)
  calX d sc_read_item (fun ws S Q E ⟨k, ms, is, m, e, _⟩ => by rw [e]; rfl) fun f cdv A outer s H E Ew hr tk px => ⟨_, _,
    (pss_cons (ps_asg (k_x K tk c__item_at hr (by decide) rfl (pa_cons (pv 0) (pa_cons pe_int (pa_cons pe_int pa_nil)))) (k_gtup K (n := 2) rfl (pgs_cons (pg_name (i := 1) sc_read_item.nd rfl (Or.inl rfl)) (pgs_cons (pg_name (i := 2) sc_read_item.nd rfl (Or.inl rfl)) pgs_nil))))
      (pss_cons (ps_if (pt_cmpR (k_ne K hr.units) (pv 2) (pe_callB (k_len K) (by rfl) T.b_len (by decide +kernel) (pa_cons (pv 0) pa_nil)) (nomark _))
       (pss_one (k_raise0 K T.e_BadDocument rfl tk rfl))
       pss_nil)
      (pss_cons (ps_if (PW.pt (pw_and (pt_val (k_w K c_is_part hr (by decide) rfl (pa_cons (pv 1) pa_nil))) (pw_and1 (pt_not (pt_val (k_w K c_within_bounds hr (by decide) rfl (pa_cons (pv 1) pa_nil)))))))
       (pss_one (k_raise0 K T.e_BadDocument rfl tk rfl))
       pss_nil)
      (pss_one (ps_ret (pv 1)))))), inferInstance, by
    rintro ws S Q ⟨k, ms, is, m, rfl, h, hm, hc, q, er⟩
    have hL := wrL_len h
    walk_at "w"
    refine HdX.mk ⟨_, .part k ms is, m, 1, [], [], rfl, by rw [tl_strL]; simp, h, hm, by rw [tl_strL]; omega, (fun c e => by cases e), fun hg => ?_, fun hg => ?_⟩
    · walk_at "w"
      refine ⟨rfl, ?_⟩
      walk_at "w"
      refine ⟨rfl, ?_⟩
      walk_at "w"
      have e1 : ((strL (wrL (.part k ms is))).length : Int) = ((wrL (.part k ms is)).length : Int) := by rw [← tl_len, tl_strL]
      refine ⟨by rw [← tl_len, tl_strL]; exact Nat.le_trans (show (wrL (.part k ms is)).length ≤ 100000 by omega) (by rw [sizeLine_eq]; decide), ?_⟩
      walk_at "w"
      rw [e1]
      refine ⟨fun h => absurd (show (!decide ((([] : List Nat).length : Int) + ((wrL (.part k ms is)).length : Int) = ((wrL (.part k ms is)).length : Int))) = true from h) (by simp), fun _ => ?_⟩
      walk_at "w"
      refine if_q ?_
      refine is_go ?_
      refine ⟨fun _ => ?_, fun h => absurd (show true = false from h) (by decide)⟩
      walk_at "w"
      refine Hd.mk ⟨.part k ms is, m, 20, rfl, h, hm, by decide, hc, ?_⟩
      cases hb : bdI (.part k ms is) with
      | true =>
        refine ⟨fun h => absurd (show (!true) = true from h) (by decide), fun _ => ?_⟩
        walk_at "w"
        exact fg_here (q hb)
      | false =>
        refine ⟨fun _ => ?_, fun h => absurd (show (!false) = false from h) (by decide)⟩
        walk_at "w"
        exact fgx_here (er hb)
    · refine fgx_here (er ?_)
      unfold okD at hg
      have hg := of_decide_eq_false hg
      unfold bdI
      rw [decide_eq_false (show ¬ (Itm.part k ms is).dep ≤ 6 by omega)]
      simp⟩
def spRd (C : Addr) : SpX := fun ws S Q E => spRi C ws S Q E
theorem ok_read_document (T : Txt K mg ec) (c_is_part : CalW P w K mg base 1 "is_part" (Hd spIs)) (c_read_item : CalX P w K mg base 45 "read_item" (HdX (spRi ec.BadDocument)))
    (d : DefAt K mg "read_document" s_read_document ["text"]) : CalX P w K mg base 46 "read_document" (spRd ec.BadDocument) :=
  have c_is_part := c_is_part.mono (k := 45) (by decide)
  calX d sc_read_document (fun ws S Q E ⟨k, ms, is, m, e, _⟩ => by rw [e]; rfl) fun f cdv A outer s H E Ew hr tk px => ⟨_, _,
    (pss_cons (ps_set (i := 1) sc_read_document.nd rfl (Or.inl rfl) (k_x K tk c_read_item hr (by decide) rfl (pa_cons (pv 0) pa_nil)))
      (pss_cons (ps_if (pt_not (pt_val (k_w K c_is_part hr (by decide) rfl (pa_cons (pv 1) pa_nil))))
       (pss_one (k_raise0 K T.e_BadDocument rfl tk rfl))
       pss_nil)
      (pss_one (ps_ret (pv 1))))), inferInstance, by
    rintro ws S Q ⟨k, ms, is, m, rfl, h, hm, hc, q, er⟩
    walk_at "w"
    refine HdX.mk ⟨k, ms, is, m, rfl, h, hm, hc, fun hg => ?_, fun hg => fgx_here (er hg)⟩
    walk_at "w"
    refine is_go ?_
    refine ⟨fun h => absurd (show (!true) = true from h) (by decide), fun _ => ?_⟩
    walk_at "w"
    exact fg_here (q hg)⟩
def spLr : SpW := fun ws S Q => ∃ (k : Str) (ms : List Str) (is : List Itm) (m : Nat), ws = [.str (strL (wrL (.part k ms is)))] ∧ ItmOk m 20 (.part k ms is) ∧ m ≤ 1000 ∧ (Itm.part k ms is).cnt ≤ 1000 ∧
  (bdI (.part k ms is) = true → ∀ D S', S D = none → S' D = some (.lst [(Itm.part k ms is).w]) → KpL [] S S' → Q (.ref D) S') ∧ (bdI (.part k ms is) = false → Q .non S)
theorem ok__law_read (T : Txt K mg ec) (c_read_document : CalX P w K mg base 46 "read_document" (HdX (spRd ec.BadDocument))) (d : DefAt K mg "_law_read" s__law_read ["_law_text_here"]) : CalW P w K mg base 47 "_law_read" spLr :=
  calDI d sc__law_read (fun ws S Q ⟨k, ms, is, m, e, _⟩ => by rw [e]; rfl) fun f cdv A outer s H E hr => ⟨_, _,
    (pss_cons (ps_set (i := 1) sc__law_read.nd rfl (Or.inl rfl) pe_non)
      (pss_cons (by refine' ps_tryO K ?hs ?hf ?hc ?tk ?hb ?hsu ?hbw; (case hs => rfl); (case hf => rfl); (case hc => exact T.e_BadDocument.names rfl); (case tk => exact takes0); (case hb => exact fun W pn xe tkb pob => (pss_one (ps_set (i := 1) sc__law_read.nd rfl (Or.inl rfl) (pe_lst (pa_cons (k_x K tkb c_read_document hr (by decide) rfl (pa_cons (pv 0) pa_nil)) pa_nil))))); (case hsu => exact fun a oe cls d pn hz hf => (pss_one (ps_set (i := 1) sc__law_read.nd rfl (Or.inl rfl) pe_non))); (case hbw => exact fun B1 Xw => inferInstance))
      (pss_one (ps_ret (pv 1))))), inferInstance, by
    rintro ws S Q ⟨k, ms, is, m, rfl, h, hm, hc, q, er⟩
    walk_at "w"
    refine HdX.mk ⟨k, ms, is, m, rfl, h, hm, hc, fun hg => ?_, fun hg => ?_⟩
    · walk_at "w"
      intro D hD
      walk_at "w"
      exact fg_here (q hg D _ hD put_same ((KpL.refl [] S).new hD))
    · refine ⟨true, T.x_BadDocument_BadDocument, fun _ => ?_, fun h => absurd h (by decide)⟩
      walk_at "w"
      exact fg_here (er hg)⟩
end
end K10
set_option Elab.async false
set_option linter.all false
set_option maxRecDepth 100000
set_option maxHeartbeats 4000000
set_option synthInstance.maxHeartbeats 4000000
set_option synthInstance.maxSize 100000
namespace K10
open PySem PySem.Spec PyProof.Rows L2 Wl
local macro_rules | `(tactic| walk_at "w") => `(tactic| (conv => whnf))
/-! what a store holds -/
local macro_rules | `(tactic| walk_at "ne") => `(tactic| first | assumption | (apply Ne.symm; assumption) | exact ne_free (by assumption) (by assumption) | exact (ne_free (by assumption) (by assumption)).symm | exact Pl.ne (by assumption) (by assumption) | exact (Pl.ne (by assumption) (by assumption)).symm)
local macro_rules | `(tactic| walk_at "s") => `(tactic| first
  | exact put_same
  | assumption
  | (refine (put_ne ?_).trans ?_; (· walk_at "ne"); (· walk_at "s")))
/-! a side condition -/
local macro_rules | `(tactic| walk_at "c") => `(tactic| first
  | exact Or.inl (Or.inl ⟨by omega, by omega⟩)
  | exact Or.inl (Or.inr ⟨by omega, by omega⟩)
  | exact Or.inl ⟨by omega, by omega⟩
  | exact Or.inl ⟨rfl, _, by walk_at "s"⟩
  | rfl
  | omega
  | decide
  | exact Nat.le_trans (by omega) sizeLine_ge)
/-! one question is answered, if the answer is plain -/
local macro_rules | `(tactic| walk_at "g1") => `(tactic| first
  | refine ⟨fun _ => ?_, fun h => absurd (show true = false from h) (by decide)⟩
  | refine ⟨fun h => absurd (show false = true from h) Bool.false_ne_true, fun _ => ?_⟩
  | refine ⟨_, by walk_at "s", ?_⟩
  | refine ⟨_, _, by walk_at "s", by walk_at "s", ?_⟩
  | refine ⟨_, by walk_at "s", by simpa using (by omega), ?_⟩
  | refine ⟨_, rfl, ?_⟩
  | refine ⟨_, _, rfl, (by first | exact isTy_tt | exact isTy_ii | exact isTy_ll | exact isTy_ss | exact isTy_ib | exact isTy_tb | exact isTy_ti | exact isTy_ts | exact isTy_tl | exact isTy_lb | exact isTy_li | exact isTy_ls | exact isTy_lt | exact isTy_sb | exact isTy_si | exact isTy_st | exact isTy_sl | exact isTy_is | exact isTy_it | exact isTy_il | exact isTy_bi | exact isTy_bs | exact isTy_bb | exact isTy_nb | exact isTy_ni | exact isTy_ns | exact isTy_nt | exact isTy_nl | exact isTy_bt | exact isTy_bl | exact isTy_nd | exact isTy_td | exact isTy_ld | exact isTy_sd | exact isTy_id | exact isTy_bd | exact isTy_dd | exact isTy_db | exact isTy_di | exact isTy_ds | exact isTy_dt | exact isTy_dl), ?_⟩
  | refine ⟨_, _, tyName_lst (by walk_at "s"), (by first | exact isTy_ll | exact isTy_lb | exact isTy_li | exact isTy_ls | exact isTy_lt), ?_⟩
  | refine if_q ?_
  | refine ⟨by walk_at "c", ?_⟩)
local macro_rules | `(tactic| walk_at "go") => `(tactic| (walk_at "w"; repeat (walk_at "g1"; walk_at "w")))
/-! a branch that cannot be -/
local macro_rules | `(tactic| walk_at "two") => `(tactic| refine ⟨fun h => ?_, fun h => ?_⟩)
section
variable {P : Program} {w : World} {K : PySem.W.Frag} {mg : Str → Option Value} {base : Heap} {ec : Cls}
/-! two things that look the same -/
inductive Alike (S : Sto) : Nat → W → W → Prop where
  | int {n : Nat} {a : Int} : Alike S n (.int a) (.int a)
  | str {n : Nat} {a : Str} : Alike S n (.str a) (.str a)
  | bl {n : Nat} {a : Bool} : Alike S n (.bl a) (.bl a)
  | non {n : Nat} : Alike S n .non .non
  | tup {n : Nat} {xs ys : List W} : xs.length = ys.length → xs.length ≤ 1000000 → (∀ (i : Nat) (x y : W), xs[i]? = some x → ys[i]? = some y → Alike S n x y) → Alike S (n + 1) (.tup xs) (.tup ys)
  | lst {n : Nat} {a b : Addr} {xs ys : List W} : S a = some (.lst xs) → S b = some (.lst ys) → xs.length = ys.length → xs.length ≤ 1000000 → (∀ (i : Nat) (x y : W), xs[i]? = some x → ys[i]? = some y → Alike S n x y) → Alike S (n + 1) (.ref a) (.ref b)
def spSame (n : Nat) : SpW := fun ws S Q => ∃ v w, ws = [v, w] ∧ Alike S n v w ∧ Q (.bl true) S
theorem same_go {n : Nat} {v w : W} {S : Sto} {Q : WK} (h : Alike S n v w) (q : Q (.bl true) S) : Hd (spSame n) [v, w] S Q := Hd.mk ⟨v, w, rfl, h, q⟩
theorem at_zero {xs : List W} {i : Nat} {x : W} (h : xs[i]? = some x) : atI xs (0 + (i : Int)) = some x := by
  rw [Int.zero_add]
  exact atI_nat h
theorem same_step (T : Txt K mg ec) (k n : Nat) (sp' : SpW) (c__law_same : CalW P w K mg base k "_law_same" (Hd sp')) (hn : ∀ (m : Nat) (v w : W) (S : Sto) (Q : WK), n = m + 1 → Alike S m v w → Q (.bl true) S → sp' [v, w] S Q)
    (d : DefAt K mg "_law_same" s__law_same ["_law_one", "_law_two"]) : CalW P w K mg base (k + 1) "_law_same" (spSame n) :=
  calDI d sc__law_same (fun ws S Q ⟨v, w, e, _⟩ => by rw [e]; rfl) fun f cdv A outer s H E hr => ⟨_, _,
    (pss_cons (ps_if (PW.pt (pw_or (pt_val (pe_callB (k_isi K) (by rfl) T.b_isinstance (by decide +kernel) (pa_cons (pv 0) (pa_cons (pe_bltn (v := .ty "bool") (by rfl) T.b_bool (by decide +kernel) rfl) pa_nil)))) (pw_or1 (pt_val (pe_callB (k_isi K) (by rfl) T.b_isinstance (by decide +kernel) (pa_cons (pv 1) (pa_cons (pe_bltn (v := .ty "bool") (by rfl) T.b_bool (by decide +kernel) rfl) pa_nil)))))))
       (pss_one (ps_ret (pe_and (pe_callB (k_isi K) (by rfl) T.b_isinstance (by decide +kernel) (pa_cons (pv 0) (pa_cons (pe_bltn (v := .ty "bool") (by rfl) T.b_bool (by decide +kernel) rfl) pa_nil))) (pe_and (pe_callB (k_isi K) (by rfl) T.b_isinstance (by decide +kernel) (pa_cons (pv 1) (pa_cons (pe_bltn (v := .ty "bool") (by rfl) T.b_bool (by decide +kernel) rfl) pa_nil))) (pe_one (pe_cmpR (k_eq K hr.units) (pv 0) (pv 1) (nomark _)))))))
       pss_nil)
      (pss_cons (ps_if (PW.pt (pw_and (pt_val (pe_callB (k_isi K) (by rfl) T.b_isinstance (by decide +kernel) (pa_cons (pv 0) (pa_cons (pe_bltn (v := .ty "int") (by rfl) T.b_int (by decide +kernel) rfl) pa_nil)))) (pw_and1 (pt_val (pe_callB (k_isi K) (by rfl) T.b_isinstance (by decide +kernel) (pa_cons (pv 1) (pa_cons (pe_bltn (v := .ty "int") (by rfl) T.b_int (by decide +kernel) rfl) pa_nil)))))))
       (pss_one (ps_ret (pe_cmpR (k_eq K hr.units) (pv 0) (pv 1) (nomark _))))
       pss_nil)
      (pss_cons (ps_if (PW.pt (pw_and (pt_val (pe_callB (k_isi K) (by rfl) T.b_isinstance (by decide +kernel) (pa_cons (pv 0) (pa_cons (pe_bltn (v := .ty "str") (by rfl) T.b_str (by decide +kernel) rfl) pa_nil)))) (pw_and1 (pt_val (pe_callB (k_isi K) (by rfl) T.b_isinstance (by decide +kernel) (pa_cons (pv 1) (pa_cons (pe_bltn (v := .ty "str") (by rfl) T.b_str (by decide +kernel) rfl) pa_nil)))))))
       (pss_one (ps_ret (pe_cmpR (k_eq K hr.units) (pv 0) (pv 1) (nomark _))))
       pss_nil)
      (pss_cons (ps_set (i := 2) sc__law_same.nd rfl (Or.inl rfl) (pe_and (pe_callB (k_isi K) (by rfl) T.b_isinstance (by decide +kernel) (pa_cons (pv 0) (pa_cons (pe_bltn (v := .ty "tuple") (by rfl) T.b_tuple (by decide +kernel) rfl) pa_nil))) (pe_one (pe_callB (k_isi K) (by rfl) T.b_isinstance (by decide +kernel) (pa_cons (pv 1) (pa_cons (pe_bltn (v := .ty "tuple") (by rfl) T.b_tuple (by decide +kernel) rfl) pa_nil))))))
      (pss_cons (ps_if (PW.pt (pw_or (k_truth K (pv 2)) (pw_or1 (PW.pt (pw_and (pt_val (pe_callB (k_isi K) (by rfl) T.b_isinstance (by decide +kernel) (pa_cons (pv 0) (pa_cons (pe_bltn (v := .ty "list") (by rfl) T.b_list (by decide +kernel) rfl) pa_nil)))) (pw_and1 (pt_val (pe_callB (k_isi K) (by rfl) T.b_isinstance (by decide +kernel) (pa_cons (pv 1) (pa_cons (pe_bltn (v := .ty "list") (by rfl) T.b_list (by decide +kernel) rfl) pa_nil))))))))))
       (pss_cons (ps_if (pt_cmpR (k_ne K hr.units) (pe_callB (k_len K) (by rfl) T.b_len (by decide +kernel) (pa_cons (pv 0) pa_nil)) (pe_callB (k_len K) (by rfl) T.b_len (by decide +kernel) (pa_cons (pv 1) pa_nil)) (nomark _))
        (pss_one (ps_ret pe_bl))
        pss_nil)
       (pss_cons (ps_for PassesOwn.never rfl (pi_range1 rfl T.b_range (pa_cons (pe_callB (k_len K) (by rfl) T.b_len (by decide +kernel) (pa_cons (pv 0) pa_nil)) pa_nil)) (pg_name (i := 3) sc__law_same.nd rfl (Or.inl rfl))
        (pss_one (ps_if (pt_not (pt_val (k_w K c__law_same hr (Nat.le_refl _) rfl (pa_cons (pe_ix (k_ix K) (pv 0) (pv 3) (fun _ _ => rfl)) (pa_cons (pe_ix (k_ix K) (pv 1) (pv 3) (fun _ _ => rfl)) pa_nil)))))
         (pss_one (ps_ret pe_bl))
         pss_nil)))
       (pss_one (ps_ret pe_bl))))
       pss_nil)
      (pss_one (ps_ret (pe_and (pe_cmpR op_isN (pv 0) pe_non (nomark _)) (pe_one (pe_cmpR op_isN (pv 1) pe_non (nomark _))))))))))), inferInstance, by
    rintro ws S Q ⟨v, w, rfl, h, q⟩
    cases h with
    | @int _ a =>
      walk_at "go"
      rw [decide_eq_true rfl]
      exact fg_here q
    | @str _ a =>
      walk_at "go"
      rw [decide_eq_true rfl]
      exact fg_here q
    | @bl _ a =>
      walk_at "go"
      rw [decide_eq_true rfl]
      exact fg_here q
    | non =>
      walk_at "go"
      exact fg_here q
    | @tup m xs ys hl hz hx =>
      walk_at "go"
      refine ⟨fun h => absurd (show (!decide ((xs.length : Int) = (ys.length : Int))) = true from h) (by rw [hl]; simp), fun _ => ?_⟩
      walk_at "w"
      refine ⟨by omega, by omega, ?_⟩
      refine for_q (fun i ρ' S' => S' = S ∧ ∃ a2 a3, ρ' = [some (.tup xs), some (.tup ys), a2, a3]) ⟨rfl, _, _, rfl⟩ (fun _ _ _ _ => trivial) ?_ ?_
      · rintro i w ρ' S' e ⟨rfl, a2, a3, rfl⟩
        obtain ⟨hi, rfl⟩ := intsW_at e
        have hi : i < xs.length := by
          have : i < ((xs.length : Nat) : Int).toNat := hi
          omega
        have ex : xs[i]? = some xs[i] := List.getElem?_eq_getElem hi
        have ey : ys[i]? = some (ys[i]'(by omega)) := List.getElem?_eq_getElem (by omega)
        walk_at "w"
        rw [at_zero ex]
        walk_at "w"
        rw [at_zero ey]
        walk_at "w"
        refine Hd.mk (hn m _ _ _ _ rfl (hx i _ _ ex ey) ?_)
        refine ⟨fun h => absurd (show false = true from h) Bool.false_ne_true, fun _ => ?_⟩
        exact ⟨rfl, _, _, rfl⟩
      · rintro ρ' S' ⟨rfl, a2, a3, rfl⟩
        exact fg_here q
    | @lst m a b xs ys ha hb hl hz hx =>
      walk_at "go"
      refine ⟨fun h => absurd (show (!decide ((xs.length : Int) = (ys.length : Int))) = true from h) (by rw [hl]; simp), fun _ => ?_⟩
      walk_at "w"
      refine ⟨_, ha, ?_⟩
      walk_at "w"
      refine ⟨by omega, by omega, ?_⟩
      refine for_q (fun i ρ' S' => S' = S ∧ ∃ a2 a3, ρ' = [some (.ref a), some (.ref b), a2, a3]) ⟨rfl, _, _, rfl⟩ (fun _ _ _ _ => trivial) ?_ ?_
      · rintro i w ρ' S' e ⟨rfl, a2, a3, rfl⟩
        obtain ⟨hi, rfl⟩ := intsW_at e
        have hi : i < xs.length := by
          have : i < ((xs.length : Nat) : Int).toNat := hi
          omega
        have ex : xs[i]? = some xs[i] := List.getElem?_eq_getElem hi
        have ey : ys[i]? = some (ys[i]'(by omega)) := List.getElem?_eq_getElem (by omega)
        walk_at "w"
        refine ⟨_, ha, ?_⟩
        refine rdAt_ok (at_zero ex) ?_
        walk_at "w"
        refine ⟨_, hb, ?_⟩
        refine rdAt_ok (at_zero ey) ?_
        walk_at "w"
        refine Hd.mk (hn m _ _ _ _ rfl (hx i _ _ ex ey) ?_)
        refine ⟨fun h => absurd (show false = true from h) Bool.false_ne_true, fun _ => ?_⟩
        exact ⟨rfl, _, _, rfl⟩
      · rintro ρ' S' ⟨rfl, a2, a3, rfl⟩
        exact fg_here q⟩
theorem ok_same (T : Txt K mg ec) (d : DefAt K mg "_law_same" s__law_same ["_law_one", "_law_two"]) : ∀ n : Nat, CalW P w K mg base (n + 2) "_law_same" (spSame n)
  | 0 => same_step T 1 0 spNever ((calNever d sc__law_same).hd) (fun m v w S Q e => by cases e) d
  | n + 1 => same_step T (n + 2) (n + 1) (spSame n) (ok_same T d n).hd (fun m v w S Q e h q => ⟨v, w, rfl, by rw [Nat.succ.inj e]; exact h, q⟩) d
theorem Alike.up {S : Sto} {n m : Nat} {v w : W} (h : Alike S n v w) (l : n ≤ m) : Alike S m v w := by
  induction h generalizing m with
  | int => exact .int
  | str => exact .str
  | bl => exact .bl
  | non => exact .non
  | tup h1 h2 h3 ih =>
    obtain ⟨m, rfl⟩ : ∃ m', m = m' + 1 := ⟨m - 1, by omega⟩
    exact .tup h1 h2 fun i x y e1 e2 => ih i x y e1 e2 (by omega)
  | lst h0 h00 h1 h2 h3 ih =>
    obtain ⟨m, rfl⟩ : ∃ m', m = m' + 1 := ⟨m - 1, by omega⟩
    exact .lst h0 h00 h1 h2 fun i x y e1 e2 => ih i x y e1 e2 (by omega)
def spEd : SpW := fun ws S Q => ∃ (p nl : Addr) (N M sh : Int), ws = [.ref p, .ref nl, .int sh] ∧ Gs p nl N M S ∧ N < 2 ^ 19 ∧ M < 2 ^ 17 ∧ -1 ≤ sh ∧ sh ≤ 2 ∧ ∀ it S', ItmOk 40 20 it → it.cnt ≤ 251 → it.isPart = true → Q it.w S'
theorem ok__law_edge (T : Txt K mg ec) (c__law_take : CalW P w K mg base 1 "_law_take" (Hd spTk)) (c__law_full_row : CalW P w K mg base 5 "_law_full_row" (Hd spFu)) (c__law_full_count : CalW P w K mg base 5 "_law_full_count" (Hd spFu)) (c__law_full_prose : CalW P w K mg base 5 "_law_full_prose" (Hd spFu)) (c__law_full_depth : CalW P w K mg base 5 "_law_full_depth" (Hd spFu)) (c__law_full_refs : CalW P w K mg base 5 "_law_full_refs" (Hd spFu)) (d : DefAt K mg "_law_edge" s__law_edge ["_law_pool_here", "_law_names", "_law_shift"]) : CalW P w K mg base 6 "_law_edge" spEd :=
  have c__law_take := c__law_take.mono (k := 5) (by decide)
  calDI d sc__law_edge (fun ws S Q ⟨p, nl, N, M, sh, e, _⟩ => by rw [e]; rfl) fun f cdv A outer s H E hr => ⟨_, _,
    (pss_cons (ps_set (i := 3) sc__law_edge.nd rfl (Or.inl rfl) (k_w K c__law_take hr (by decide) rfl (pa_cons (pv 0) (pa_cons pe_int pa_nil))))
      (pss_cons (ps_if (pt_cmpR (k_eq K hr.units) (pv 3) pe_int (nomark _))
       (pss_one (ps_ret (k_w K c__law_full_row hr (by decide) rfl (pa_cons (pv 0) (pa_cons (pv 1) (pa_cons (pv 2) pa_nil))))))
       pss_nil)
      (pss_cons (ps_if (pt_cmpR (k_eq K hr.units) (pv 3) pe_int (nomark _))
       (pss_one (ps_ret (k_w K c__law_full_count hr (by decide) rfl (pa_cons (pv 0) (pa_cons (pv 1) (pa_cons (pv 2) pa_nil))))))
       pss_nil)
      (pss_cons (ps_if (pt_cmpR (k_eq K hr.units) (pv 3) pe_int (nomark _))
       (pss_one (ps_ret (k_w K c__law_full_prose hr (by decide) rfl (pa_cons (pv 0) (pa_cons (pv 1) (pa_cons (pv 2) pa_nil))))))
       pss_nil)
      (pss_cons (ps_if (pt_cmpR (k_eq K hr.units) (pv 3) pe_int (nomark _))
       (pss_one (ps_ret (k_w K c__law_full_depth hr (by decide) rfl (pa_cons (pv 0) (pa_cons (pv 1) (pa_cons (pv 2) pa_nil))))))
       pss_nil)
      (pss_one (ps_ret (k_w K c__law_full_refs hr (by decide) rfl (pa_cons (pv 0) (pa_cons (pv 1) (pa_cons (pv 2) pa_nil))))))))))), inferInstance, by
    rintro ws S Q ⟨p, nl, N, M, sh, rfl, h, hN, hM, s0, s1, q⟩
    walk_at "w"
    refine gs_take h (by omega) (by decide) (by decide) fun r S1 r0 r1 g1 o1 => ?_
    have all : Hd spFu [.ref p, .ref nl, .int sh] S1 (FgI Q) := by
      refine Hd.mk ⟨p, nl, N + 1, M, sh, rfl, g1, by omega, hM, s0, s1, fun it S' ok hc ip => fg_here (q it S' ok hc ip)⟩
    walk_at "w"
    refine ⟨fun _ => all, fun _ => ?_⟩
    walk_at "w"
    refine ⟨fun _ => all, fun _ => ?_⟩
    walk_at "w"
    refine ⟨fun _ => all, fun _ => ?_⟩
    walk_at "w"
    exact ⟨fun _ => all, fun _ => all⟩⟩
mutual
theorem cntI : ∀ (x : Itm) (pa : List Nat) (r : List Nat × Itm), r ∈ pthI x pa → r.2.cnt ≤ x.cnt
  | .text y, pa, r, h => by
    unfold pthI at h
    rw [List.mem_singleton] at h
    subst h
    exact Nat.le_refl _
  | .lab y, pa, r, h => by
    unfold pthI at h
    rw [List.mem_singleton] at h
    subst h
    exact Nat.le_refl _
  | .ref y, pa, r, h => by
    unfold pthI at h
    rw [List.mem_singleton] at h
    subst h
    exact Nat.le_refl _
  | .part k ms is, pa, r, h => by
    unfold pthI at h
    rcases List.mem_cons.mp h with h | h
    · subst h
      exact Nat.le_refl _
    · have := cntL is pa 0 r h
      rw [part_cnt]
      omega
theorem cntL : ∀ (is : List Itm) (pa : List Nat) (k : Nat) (r : List Nat × Itm), r ∈ pthL is pa k → r.2.cnt ≤ cnts is
  | [], _, _, _, h => by unfold pthL at h; cases h
  | x :: xs, pa, k, r, h => by
    unfold pthL at h
    rw [cnts_cons]
    rcases List.mem_append.mp h with h | h
    · have := cntI x (pa ++ [k]) r h
      omega
    · have := cntL xs pa (k + 1) r h
      omega
end
theorem alike_strs {S : Sto} {n : Nat} {ms : List Str} (h : ms.length ≤ 1000000) : Alike S (n + 1) (.tup (ms.map W.str)) (.tup (ms.map W.str)) :=
  .tup rfl (by rw [List.length_map]; exact h) fun i x y e1 e2 => by
    rw [e1] at e2
    cases e2
    obtain ⟨s, _, rfl⟩ := List.mem_map.mp (List.mem_of_getElem? e1)
    exact .str
theorem alike_itm {S : Sto} {m n : Nat} {it : Itm} (hm : m ≤ 1000000) (h : ItmOk m n it) : Alike S (2 * n + 2) it.w it.w := by
  induction h with
  | text h => exact .str
  | @lab d x h =>
    refine Alike.tup rfl (show 2 ≤ 1000000 by decide) fun i x y e1 e2 => ?_
    rw [e1] at e2
    cases e2
    match i, e1 with
    | 0, e1 => cases e1; exact .str
    | 1, e1 => cases e1; exact .str
    | i + 2, e1 => cases e1
  | @ref d x h =>
    refine Alike.tup rfl (show 2 ≤ 1000000 by decide) fun i x y e1 e2 => ?_
    rw [e1] at e2
    cases e2
    match i, e1 with
    | 0, e1 => cases e1; exact .str
    | 1, e1 => cases e1; exact .str
    | i + 2, e1 => cases e1
  | @part u kd ms is h1 h2 h3 h4 h5 ih =>
    refine Alike.tup rfl (show 3 ≤ 1000000 by decide) fun i x y e1 e2 => ?_
    rw [e1] at e2
    cases e2
    match i, e1 with
    | 0, e1 => cases e1; exact .str
    | 1, e1 => cases e1; exact alike_strs (by omega)
    | 2, e1 =>
      cases e1
      refine Alike.tup (n := 2 * u + 2) rfl (by rw [itmsW_len]; omega) fun j x y e1 e2 => ?_
      rw [e1] at e2
      cases e2
      rw [itmsW_map] at e1
      obtain ⟨a, ha, rfl⟩ := List.mem_map.mp (List.mem_of_getElem? e1)
      exact ih a ha
    | i + 3, e1 => cases e1
/-- what comes of an edit -/
theorem ItmOk.wide {m n d : Nat} {i : Itm} (h : ItmOk m d i) (l : m ≤ n) : ItmOk n d i := by
  induction h with
  | text h => exact .text h
  | lab h => exact .lab h
  | ref h => exact .ref h
  | part h1 h2 h3 h4 h5 ih => exact .part h1 h2 h3 (by omega) fun i hi => ih i hi
theorem ok_law (T : Txt K mg ec) {f : Addr} {fd : FuncData} (F : Fun K "law" "law" s_law f fd) (c__law_pool : CalW P w K mg base 1 "_law_pool" (Hd spPl)) (c__law_take : CalW P w K mg base 1 "_law_take" (Hd spTk)) (c__law_part : CalW P w K mg base 44 "_law_part" (Hd (spPt 20)))
    (c__law_edge : CalW P w K mg base 6 "_law_edge" (Hd spEd)) (c__law_paths : CalW P w K mg base 22 "_law_paths" (Hd (spPs 20))) (c__law_let : CalW P w K mg base 23 "_law_let" (Hd spLe)) (c_write_document : CalW P w K mg base 23 "write_document" (Hd spWd)) (c__law_written : CalW P w K mg base 22 "_law_written" (Hd (spWi 20)))
    (c__law_read : CalW P w K mg base 47 "_law_read" (Hd spLr)) (c__law_same : CalW P w K mg base 45 "_law_same" (Hd (spSame 43))) : FnOk P w K mg base CX0 48 f fd ["_law_script"] (liftSp K spLaw) :=
  have c__law_pool := c__law_pool.mono (k := 47) (by decide)
  have c__law_take := c__law_take.mono (k := 47) (by decide)
  have c__law_part := c__law_part.mono (k := 47) (by decide)
  have c__law_edge := c__law_edge.mono (k := 47) (by decide)
  have c__law_paths := c__law_paths.mono (k := 47) (by decide)
  have c__law_let := c__law_let.mono (k := 47) (by decide)
  have c_write_document := c_write_document.mono (k := 47) (by decide)
  have c__law_written := c__law_written.mono (k := 47) (by decide)
  have c__law_same := c__law_same.mono (k := 47) (by decide)
  fnDI F sc_law (fun ws S Q ⟨ns, e, _⟩ => by rw [e]; rfl) fun f cdv A outer s H E hr => ⟨_, _,
    (pss_cons (ps_set (i := 1) sc_law.nd rfl (Or.inl rfl) (pe_lst pa_nil))
      (pss_cons (ps_set (i := 2) sc_law.nd rfl (Or.inl rfl) (k_w K c__law_pool hr (by decide) rfl (pa_cons (pv 0) (pa_cons pe_int pa_nil))))
      (pss_cons (ps_set (i := 3) sc_law.nd rfl (Or.inl rfl) (k_w K c__law_take hr (by decide) rfl (pa_cons (pv 2) (pa_cons pe_int pa_nil))))
      (pss_mid (ps_if (pt_cmpR (k_eq K hr.units) (pv 3) pe_int (nomark _))
       (pss_one (ps_set (i := 4) sc_law.nd rfl (Or.inl rfl) (k_w K c__law_part hr (by decide) rfl (pa_cons (pv 2) (pa_cons (pv 1) (pa_cons (pe_lst (pa_cons pe_int (pa_cons pe_int (pa_cons pe_int (pa_cons pe_int (pa_cons pe_int pa_nil)))))) (pa_cons pe_int pa_nil)))))))
       (pss_one (ps_if (PW.pt (pw_or (pt_cmpR (k_eq K hr.units) (pv 3) pe_int (nomark _)) (pw_or1 (pt_cmpR (k_eq K hr.units) (pv 3) pe_int (nomark _)))))
        (pss_one (ps_set (i := 4) sc_law.nd rfl (Or.inl rfl) (k_w K c__law_edge hr (by decide) rfl (pa_cons (pv 2) (pa_cons (pv 1) (pa_cons (pe_op op_sub (k_w K c__law_take hr (by decide) rfl (pa_cons (pv 2) (pa_cons pe_int pa_nil))) pe_int) pa_nil))))))
        (pss_one (ps_set (i := 4) sc_law.nd rfl (Or.inl rfl) (k_w K c__law_part hr (by decide) rfl (pa_cons (pv 2) (pa_cons (pv 1) (pa_cons (pe_lst (pa_cons pe_int (pa_cons pe_int (pa_cons pe_int (pa_cons pe_int (pa_cons pe_int pa_nil)))))) (pa_cons pe_int pa_nil))))))))))
      (pss_cons (ps_for PassesOwn.never rfl (k_any K (k_w K c__law_paths hr (by decide) rfl (pa_cons (pv 4) (pa_cons (pe_tup pa_nil) pa_nil)))) (pg_name (i := 5) sc_law.nd rfl (Or.inl rfl))
       (pss_one (ps_if (PW.pt (pw_and (pt_val (pe_callB (k_isi K) (by rfl) T.b_isinstance (by decide +kernel) (pa_cons (pe_ix (k_ix K) (pv 5) pe_int (fun _ _ => rfl)) (pa_cons (pe_bltn (v := .ty "tuple") (by rfl) T.b_tuple (by decide +kernel) rfl) pa_nil)))) (pw_and1 (pt_cmpR (k_eq K hr.units) (pe_callB (k_len K) (by rfl) T.b_len (by decide +kernel) (pa_cons (pe_ix (k_ix K) (pv 5) pe_int (fun _ _ => rfl)) pa_nil)) pe_int (nomark _)))))
        (pss_one (ps_if (pt_not (pt_val (k_w K c__law_same hr (by decide) rfl (pa_cons (k_w K c_write_document hr (by decide) rfl (pa_cons (pe_ix (k_ix K) (pv 5) pe_int (fun _ _ => rfl)) pa_nil)) (pa_cons (k_w K c__law_written hr (by decide) rfl (pa_cons (pe_ix (k_ix K) (pv 5) pe_int (fun _ _ => rfl)) pa_nil)) pa_nil)))))
         (pss_one (ps_ret pe_bl))
         pss_nil))
        pss_nil)))
      (pss_cons (ps_set (i := 6) sc_law.nd rfl (Or.inl rfl) (k_w K c__law_written hr (by decide) rfl (pa_cons (pv 4) pa_nil)))
      (pss_cons (ps_if (pt_val (k_w K c__law_let hr (by decide) rfl (pa_cons (pv 4) pa_nil)))
       (pss_one (ps_ret (pe_and (k_w K c__law_same hr (by decide) rfl (pa_cons (k_w K c__law_read hr (by decide) rfl (pa_cons (pv 6) pa_nil)) (pa_cons (pe_lst (pa_cons (pv 4) pa_nil)) pa_nil))) (pe_one (k_w K c__law_same hr (by decide) rfl (pa_cons (k_w K c__law_read hr (by decide) rfl (pa_cons (pv 6) pa_nil)) (pa_cons (pe_lst (pa_cons (pv 4) pa_nil)) pa_nil)))))))
       pss_nil)
      (pss_one (ps_ret (pe_or (pe_cmpR op_gtA (pe_callB (k_len K) (by rfl) T.b_len (by decide +kernel) (pa_cons (pv 6) pa_nil)) pe_int (nomark _)) (pe_one (pe_cmpR op_isN (k_w K c__law_read hr (by decide) rfl (pa_cons (pv 6) pa_nil)) pe_non (nomark _))))))))))))), inferInstance, by
    rintro ws S Q ⟨ns, rfl, hl, q⟩
    walk_at "w"
    intro nl hn
    walk_at "w"
    refine pl_go (by decide) (by decide) hl fun p S1 hpf p1 o1 => ?_
    have hpn : p ≠ nl := ne_free put_same hpf
    have n1 : S1 nl = some (.lst (([] : List Str).map W.str)) := (o1 nl (notin1 hpn.symm)).trans put_same
    walk_at "w"
    refine tk_go p1 (by decide) (by decide) (by decide) fun r S2 r0 r1 p2 o2 => ?_
    have n2 := (o2 nl (notin1 hpn.symm)).trans n1
    walk_at "w"
    refine mid_q (fun ρ' S' => ∃ (it : Itm) (a5 a6 : Option W), ρ' = [some (.rl (ns.map W.int)), some (.ref nl), some (.ref p), some (.int r), some it.w, a5, a6] ∧ ItmOk 40 20 it ∧ it.cnt ≤ 251 ∧ it.isPart = true) ?_ ?_
    · have prt : ∀ (b0 b1 b2 b3 b4 : Int), b0 ≤ 250 → 0 ≤ b0 → 0 ≤ b1 → 0 ≤ b2 → b1 < 2 ^ 50 → b3 ≤ 20 → 3 ≤ b4 → b4 ≤ 40 → ∀ (g : Addr) (Q' : WK), S2 g = none →
          (∀ it S', ItmOk 40 20 it → it.cnt ≤ 251 → it.isPart = true → Q' it.w S') → Hd (spPt 20) [.ref p, .ref nl, .ref g, .int 1] (put S2 g (bud b0 b1 b2 b3 b4)) Q' := by
        intro b0 b1 b2 b3 b4 h0 h0' h1 h2 h1' h3 h4 h4' g Q' hg q'
        have hgp := p2.ne hg
        have hgn : g ≠ nl := ne_free n2 hg
        refine pt_go (N := 1) (b0 := b0) (b1 := b1) (b2 := b2) (b3 := b3) (b4 := b4) (ys := []) ⟨(p2.eq (put_ne hgp.symm)).mono (by omega), (put_ne hgn.symm).trans n2, put_same, hgp, hgn, (fun _ h => by cases h), h0', h1, h2, h1', h4, by omega, by omega, by show (0 : Int) + _ < _; omega⟩ (by omega) (by omega) (by decide) fun k ms is zs c0 c1 c2 S' ok co hc hz hzl p4 n4 g4 o4 => ?_
        have := co.n
        have := co.p0
        exact q' _ S' (ok.wide (by omega)) (by rw [part_cnt]; omega) rfl
      walk_at "w"
      refine ⟨fun _ => ?_, fun _ => ?_⟩
      · walk_at "w"
        intro g hg
        refine prt 250 2000 40 20 40 (by decide) (by decide) (by decide) (by decide) (by decide) (by decide) (by decide) (by decide) g _ hg fun it S' ok hc ip => ?_
        exact ⟨it, _, _, rfl, ok, hc, ip⟩
      walk_at "w"
      have A : ∀ (Q' : WK), (∀ it S', ItmOk 40 20 it → it.cnt ≤ 251 → it.isPart = true → Q' it.w S') → ∀ g, S2 g = none → Hd (spPt 20) [.ref p, .ref nl, .ref g, .int 1] (put S2 g (bud 59 400 3 6 12)) Q' := fun Q' q' g hg =>
        prt 59 400 3 6 12 (by decide) (by decide) (by decide) (by decide) (by decide) (by decide) (by decide) (by decide) g _ hg q'
      refine if_ev (decide (r = 0) || decide (r = 2)) (evOr (fun Q q => ?_) (fun _ Q q => ?_)) (fun hc => ?_) (fun hc => ?_)
      · walk_at "w"
        exact q
      · walk_at "w"
        exact q
      · walk_at "w"
        have g3 : Gs p nl 1 0 S2 := ⟨p2.mono (by omega), [], n2, (fun _ h => by cases h), by decide⟩
        refine gs_take g3 (by decide) (by decide) (by decide) fun u S3 u0 u1 g4 o4 => ?_
        walk_at "w"
        refine Hd.mk ⟨p, nl, _, _, _, rfl, g4, by decide, by decide, by omega, by omega, fun it S' ok hc ip => ?_⟩
        exact ⟨it, _, _, rfl, ok, hc, ip⟩
      · walk_at "w"
        intro g hg
        refine A _ (fun it S' ok hc ip => ?_) g hg
        exact ⟨it, _, _, rfl, ok, hc, ip⟩
    · rintro ρ' S' ⟨it, a5, a6, rfl, ok, hc, ip⟩
      obtain ⟨k, ms, is, rfl⟩ : ∃ k ms is, it = .part k ms is := by
        cases it with
        | part k ms is => exact ⟨k, ms, is, rfl⟩
        | _ => cases ip
      walk_at "w"
      refine Hd.mk ⟨.part k ms is, 40, [], rfl, ok, by decide, by decide, by omega, fun L S3 hL _ _ => ?_⟩
      refine ⟨_, hL, ?_⟩
      have rok : ∀ r ∈ pthI (.part k ms is) [], ItmOk 40 20 r.2 ∧ r.2.cnt ≤ 251 := fun r hr => by
        obtain ⟨q, e1, e2⟩ := pthI_at (.part k ms is) [] r hr
        have := cntI (.part k ms is) [] r hr
        exact ⟨(atP_ok ok e2).1, by omega⟩
      refine for_q (fun i ρ' S' => S' = S3 ∧ ∃ (a5 a6 : Option W), ρ' = [some (.rl (ns.map W.int)), some (.ref nl), some (.ref p), some (.int r), some (Itm.part k ms is).w, a5, a6]) ⟨rfl, _, _, rfl⟩ (fun i ρ' S' h => by rw [h.1]; exact hL) ?_ ?_
      · rintro i w ρ' S' e ⟨rfl, a5, a6, rfl⟩
        obtain ⟨⟨pa, y⟩, hr, rfl⟩ := List.mem_map.mp (List.mem_of_getElem? e)
        obtain ⟨oy, cy⟩ := rok _ hr
        walk_at "w"
        refine if_ev y.isPart ?_ (fun h => ?_) (fun h => ?_)
        · intro Q' q'
          walk_at "w"
          cases oy with
          | text h =>
            refine ⟨_, _, rfl, isTy_st, ?_⟩
            exact ⟨fun h => absurd (show false = true from h) Bool.false_ne_true, fun _ => q'⟩
          | lab h =>
            refine ⟨_, _, rfl, isTy_tt, ?_⟩
            refine ⟨fun _ => ?_, fun h => absurd (show true = false from h) (by decide)⟩
            walk_at "w"
            exact q'
          | ref h =>
            refine ⟨_, _, rfl, isTy_tt, ?_⟩
            refine ⟨fun _ => ?_, fun h => absurd (show true = false from h) (by decide)⟩
            walk_at "w"
            exact q'
          | part h1 h2 h3 h4 h5 =>
            refine ⟨_, _, rfl, isTy_tt, ?_⟩
            refine ⟨fun _ => ?_, fun h => absurd (show true = false from h) (by decide)⟩
            walk_at "w"
            exact q'
        · walk_at "w"
          refine Hd.mk ⟨y, 40, rfl, oy, by decide, Nat.le_trans cy (by decide), ?_⟩
          walk_at "w"
          refine Hd.mk ⟨y, 40, rfl, oy, by decide, Nat.le_trans cy (by decide), ?_⟩
          walk_at "w"
          refine same_go .str ?_
          walk_at "w"
          refine ⟨fun h => absurd (show (!true) = true from h) (by decide), fun _ => ?_⟩
          exact ⟨rfl, _, _, rfl⟩
        · exact ⟨rfl, _, _, rfl⟩
      · rintro ρ' S' ⟨rfl, a5, a6, rfl⟩
        have rd : ∀ (Q' : WK) S1, (bdI (.part k ms is) = true → ∀ D S', S1 D = none → S' D = some (.lst [(Itm.part k ms is).w]) → KpL [] S1 S' → Q' (.ref D) S') → (bdI (.part k ms is) = false → Q' .non S1) → Hd spLr [.str (strL (wrL (.part k ms is)))] S1 Q' := fun Q' S1 h1 h2 =>
          Hd.mk ⟨k, ms, is, 40, rfl, ok, by decide, Nat.le_trans hc (by decide), h1, h2⟩
        have al : ∀ (S1 : Sto) (A B : Addr), S1 A = some (.lst [(Itm.part k ms is).w]) → S1 B = some (.lst [(Itm.part k ms is).w]) → Alike S1 43 (.ref A) (.ref B) := fun S1 A B hA hB =>
          .lst hA hB rfl (by show 1 ≤ 1000000; decide) fun i x y e1 e2 => by
            rw [e1] at e2
            cases e2
            have := List.mem_of_getElem? e1
            rw [List.mem_singleton.mp this]
            exact alike_itm (n := 20) (by decide) ok
        walk_at "w"
        refine Hd.mk ⟨.part k ms is, 40, rfl, ok, by decide, Nat.le_trans hc (by decide), ?_⟩
        walk_at "w"
        refine Hd.mk ⟨.part k ms is, 40, rfl, ok, by decide, ?_⟩
        cases hb : bdI (.part k ms is) with
        | true =>
          refine ⟨fun _ => ?_, fun h => absurd (show true = false from h) (by decide)⟩
          walk_at "w"
          refine rd _ _ (fun _ D S1 hD0 hD1 k1 => ?_) (fun h => by rw [hb] at h; cases h)
          walk_at "w"
          intro Z hZ
          walk_at "w"
          refine same_go (al _ D Z ((put_ne (ne_free hD1 hZ).symm).trans hD1) put_same) ?_
          walk_at "w"
          refine ⟨fun _ => ?_, fun h => absurd h (by decide)⟩
          generalize put S1 Z (.lst [(Itm.part k ms is).w]) = S2
          walk_at "w"
          refine rd _ _ (fun _ D2 S3 hD20 hD3 k3 => ?_) (fun h => by rw [hb] at h; cases h)
          walk_at "w"
          intro Z2 hZ2
          walk_at "w"
          refine same_go (al _ D2 Z2 ((put_ne (ne_free hD3 hZ2).symm).trans hD3) put_same) ?_
          exact fg_here (q _)
        | false =>
          refine ⟨fun h => absurd (show false = true from h) (by decide), fun _ => ?_⟩
          walk_at "w"
          have hL := wrL_len ok
          refine ⟨by rw [← tl_len, tl_strL]; exact Nat.le_trans (show (wrL (.part k ms is)).length ≤ 100000 by omega) (by rw [sizeLine_eq]; decide), ?_⟩
          walk_at "w"
          refine ⟨fun _ => ?_, fun _ => ?_⟩
          · exact fg_here (q _)
          walk_at "w"
          refine rd _ _ (fun h => by rw [hb] at h; cases h) (fun _ => ?_)
          walk_at "w"
          exact ⟨rfl, fg_here (q _)⟩⟩
end
theorem all_mk {l : PySem.W.OpenLaw} {w : World} {K : PySem.W.Frag} {h : Heap} {mg : Str → Option Value} {fa : Addr} (X : K.In h) (G : h.Ns mainGlobals mg) (hfa : mg "law" = some (.ref fa))
    {f0 : Addr} {od0 an0 : Option Addr} {sl0 : Array (Option Value)} {oc0 kV0 dc0 pm0 cd0 ct0 : Value} (a0 : PySem.W.nsIn K mainGlobals "is_name" = some (some (.ref f0)))
     (l0 : K.lookup f0 = some ⟨oc0, od0, .func (PySem.W.fnOf "is_name" "is_name" (defArgs s_is_name) (defBody s_is_name) (defScope s_is_name) .none kV0 dc0 pm0 an0 cd0 ct0), sl0⟩)
     (c0 : PySem.W.codeIn K cd0 "is_name" = true)
     (k0 : PySem.W.keepIn K (.ref f0) = true)
    {f1 : Addr} {od1 an1 : Option Addr} {sl1 : Array (Option Value)} {oc1 kV1 dc1 pm1 cd1 ct1 : Value} (a1 : PySem.W.nsIn K mainGlobals "is_text" = some (some (.ref f1)))
     (l1 : K.lookup f1 = some ⟨oc1, od1, .func (PySem.W.fnOf "is_text" "is_text" (defArgs s_is_text) (defBody s_is_text) (defScope s_is_text) .none kV1 dc1 pm1 an1 cd1 ct1), sl1⟩)
     (c1 : PySem.W.codeIn K cd1 "is_text" = true)
     (k1 : PySem.W.keepIn K (.ref f1) = true)
    {f2 : Addr} {od2 an2 : Option Addr} {sl2 : Array (Option Value)} {oc2 kV2 dc2 pm2 cd2 ct2 : Value} (a2 : PySem.W.nsIn K mainGlobals "is_marks" = some (some (.ref f2)))
     (l2 : K.lookup f2 = some ⟨oc2, od2, .func (PySem.W.fnOf "is_marks" "is_marks" (defArgs s_is_marks) (defBody s_is_marks) (defScope s_is_marks) .none kV2 dc2 pm2 an2 cd2 ct2), sl2⟩)
     (c2 : PySem.W.codeIn K cd2 "is_marks" = true)
     (k2 : PySem.W.keepIn K (.ref f2) = true)
    {f3 : Addr} {od3 an3 : Option Addr} {sl3 : Array (Option Value)} {oc3 kV3 dc3 pm3 cd3 ct3 : Value} (a3 : PySem.W.nsIn K mainGlobals "is_part" = some (some (.ref f3)))
     (l3 : K.lookup f3 = some ⟨oc3, od3, .func (PySem.W.fnOf "is_part" "is_part" (defArgs s_is_part) (defBody s_is_part) (defScope s_is_part) .none kV3 dc3 pm3 an3 cd3 ct3), sl3⟩)
     (c3 : PySem.W.codeIn K cd3 "is_part" = true)
     (k3 : PySem.W.keepIn K (.ref f3) = true)
    {f4 : Addr} {od4 an4 : Option Addr} {sl4 : Array (Option Value)} {oc4 kV4 dc4 pm4 cd4 ct4 : Value} (a4 : PySem.W.nsIn K mainGlobals "walk" = some (some (.ref f4)))
     (l4 : K.lookup f4 = some ⟨oc4, od4, .func (PySem.W.fnOf "walk" "walk" (defArgs s_walk) (defBody s_walk) (defScope s_walk) .none kV4 dc4 pm4 an4 cd4 ct4), sl4⟩)
     (c4 : PySem.W.codeIn K cd4 "walk" = true)
     (k4 : PySem.W.keepIn K (.ref f4) = true)
    {f5 : Addr} {od5 an5 : Option Addr} {sl5 : Array (Option Value)} {oc5 kV5 dc5 pm5 cd5 ct5 : Value} (a5 : PySem.W.nsIn K mainGlobals "within_bounds" = some (some (.ref f5)))
     (l5 : K.lookup f5 = some ⟨oc5, od5, .func (PySem.W.fnOf "within_bounds" "within_bounds" (defArgs s_within_bounds) (defBody s_within_bounds) (defScope s_within_bounds) .none kV5 dc5 pm5 an5 cd5 ct5), sl5⟩)
     (c5 : PySem.W.codeIn K cd5 "within_bounds" = true)
     (k5 : PySem.W.keepIn K (.ref f5) = true)
    {f6 : Addr} {od6 an6 : Option Addr} {sl6 : Array (Option Value)} {oc6 kV6 dc6 pm6 cd6 ct6 : Value} (a6 : PySem.W.nsIn K mainGlobals "write_item" = some (some (.ref f6)))
     (l6 : K.lookup f6 = some ⟨oc6, od6, .func (PySem.W.fnOf "write_item" "write_item" (defArgs s_write_item) (defBody s_write_item) (defScope s_write_item) .none kV6 dc6 pm6 an6 cd6 ct6), sl6⟩)
     (c6 : PySem.W.codeIn K cd6 "write_item" = true)
     (k6 : PySem.W.keepIn K (.ref f6) = true)
    {f7 : Addr} {od7 an7 : Option Addr} {sl7 : Array (Option Value)} {oc7 kV7 dc7 pm7 cd7 ct7 : Value} (a7 : PySem.W.nsIn K mainGlobals "write_document" = some (some (.ref f7)))
     (l7 : K.lookup f7 = some ⟨oc7, od7, .func (PySem.W.fnOf "write_document" "write_document" (defArgs s_write_document) (defBody s_write_document) (defScope s_write_document) .none kV7 dc7 pm7 an7 cd7 ct7), sl7⟩)
     (c7 : PySem.W.codeIn K cd7 "write_document" = true)
     (k7 : PySem.W.keepIn K (.ref f7) = true)
    {f8 : Addr} {od8 an8 : Option Addr} {sl8 : Array (Option Value)} {oc8 kV8 dc8 pm8 cd8 ct8 : Value} (a8 : PySem.W.nsIn K mainGlobals "_name_at" = some (some (.ref f8)))
     (l8 : K.lookup f8 = some ⟨oc8, od8, .func (PySem.W.fnOf "_name_at" "_name_at" (defArgs s__name_at) (defBody s__name_at) (defScope s__name_at) .none kV8 dc8 pm8 an8 cd8 ct8), sl8⟩)
     (c8 : PySem.W.codeIn K cd8 "_name_at" = true)
     (k8 : PySem.W.keepIn K (.ref f8) = true)
    {f9 : Addr} {od9 an9 : Option Addr} {sl9 : Array (Option Value)} {oc9 kV9 dc9 pm9 cd9 ct9 : Value} (a9 : PySem.W.nsIn K mainGlobals "_text_at" = some (some (.ref f9)))
     (l9 : K.lookup f9 = some ⟨oc9, od9, .func (PySem.W.fnOf "_text_at" "_text_at" (defArgs s__text_at) (defBody s__text_at) (defScope s__text_at) .none kV9 dc9 pm9 an9 cd9 ct9), sl9⟩)
     (c9 : PySem.W.codeIn K cd9 "_text_at" = true)
     (k9 : PySem.W.keepIn K (.ref f9) = true)
    {f10 : Addr} {od10 an10 : Option Addr} {sl10 : Array (Option Value)} {oc10 kV10 dc10 pm10 cd10 ct10 : Value} (a10 : PySem.W.nsIn K mainGlobals "_part_at" = some (some (.ref f10)))
     (l10 : K.lookup f10 = some ⟨oc10, od10, .func (PySem.W.fnOf "_part_at" "_part_at" (defArgs s__part_at) (defBody s__part_at) (defScope s__part_at) .none kV10 dc10 pm10 an10 cd10 ct10), sl10⟩)
     (c10 : PySem.W.codeIn K cd10 "_part_at" = true)
     (k10 : PySem.W.keepIn K (.ref f10) = true)
    {f11 : Addr} {od11 an11 : Option Addr} {sl11 : Array (Option Value)} {oc11 kV11 dc11 pm11 cd11 ct11 : Value} (a11 : PySem.W.nsIn K mainGlobals "_item_at" = some (some (.ref f11)))
     (l11 : K.lookup f11 = some ⟨oc11, od11, .func (PySem.W.fnOf "_item_at" "_item_at" (defArgs s__item_at) (defBody s__item_at) (defScope s__item_at) .none kV11 dc11 pm11 an11 cd11 ct11), sl11⟩)
     (c11 : PySem.W.codeIn K cd11 "_item_at" = true)
     (k11 : PySem.W.keepIn K (.ref f11) = true)
    {f12 : Addr} {od12 an12 : Option Addr} {sl12 : Array (Option Value)} {oc12 kV12 dc12 pm12 cd12 ct12 : Value} (a12 : PySem.W.nsIn K mainGlobals "read_item" = some (some (.ref f12)))
     (l12 : K.lookup f12 = some ⟨oc12, od12, .func (PySem.W.fnOf "read_item" "read_item" (defArgs s_read_item) (defBody s_read_item) (defScope s_read_item) .none kV12 dc12 pm12 an12 cd12 ct12), sl12⟩)
     (c12 : PySem.W.codeIn K cd12 "read_item" = true)
     (k12 : PySem.W.keepIn K (.ref f12) = true)
    {f13 : Addr} {od13 an13 : Option Addr} {sl13 : Array (Option Value)} {oc13 kV13 dc13 pm13 cd13 ct13 : Value} (a13 : PySem.W.nsIn K mainGlobals "read_document" = some (some (.ref f13)))
     (l13 : K.lookup f13 = some ⟨oc13, od13, .func (PySem.W.fnOf "read_document" "read_document" (defArgs s_read_document) (defBody s_read_document) (defScope s_read_document) .none kV13 dc13 pm13 an13 cd13 ct13), sl13⟩)
     (c13 : PySem.W.codeIn K cd13 "read_document" = true)
     (k13 : PySem.W.keepIn K (.ref f13) = true)
    {f14 : Addr} {od14 an14 : Option Addr} {sl14 : Array (Option Value)} {oc14 kV14 dc14 pm14 cd14 ct14 : Value} (a14 : PySem.W.nsIn K mainGlobals "_law_pool" = some (some (.ref f14)))
     (l14 : K.lookup f14 = some ⟨oc14, od14, .func (PySem.W.fnOf "_law_pool" "_law_pool" (defArgs s__law_pool) (defBody s__law_pool) (defScope s__law_pool) .none kV14 dc14 pm14 an14 cd14 ct14), sl14⟩)
     (c14 : PySem.W.codeIn K cd14 "_law_pool" = true)
     (k14 : PySem.W.keepIn K (.ref f14) = true)
    {f15 : Addr} {od15 an15 : Option Addr} {sl15 : Array (Option Value)} {oc15 kV15 dc15 pm15 cd15 ct15 : Value} (a15 : PySem.W.nsIn K mainGlobals "_law_take" = some (some (.ref f15)))
     (l15 : K.lookup f15 = some ⟨oc15, od15, .func (PySem.W.fnOf "_law_take" "_law_take" (defArgs s__law_take) (defBody s__law_take) (defScope s__law_take) .none kV15 dc15 pm15 an15 cd15 ct15), sl15⟩)
     (c15 : PySem.W.codeIn K cd15 "_law_take" = true)
     (k15 : PySem.W.keepIn K (.ref f15) = true)
    {f16 : Addr} {od16 an16 : Option Addr} {sl16 : Array (Option Value)} {oc16 kV16 dc16 pm16 cd16 ct16 : Value} (a16 : PySem.W.nsIn K mainGlobals "_law_same" = some (some (.ref f16)))
     (l16 : K.lookup f16 = some ⟨oc16, od16, .func (PySem.W.fnOf "_law_same" "_law_same" (defArgs s__law_same) (defBody s__law_same) (defScope s__law_same) .none kV16 dc16 pm16 an16 cd16 ct16), sl16⟩)
     (c16 : PySem.W.codeIn K cd16 "_law_same" = true)
     (k16 : PySem.W.keepIn K (.ref f16) = true)
    {f17 : Addr} {od17 an17 : Option Addr} {sl17 : Array (Option Value)} {oc17 kV17 dc17 pm17 cd17 ct17 : Value} (a17 : PySem.W.nsIn K mainGlobals "_law_letters" = some (some (.ref f17)))
     (l17 : K.lookup f17 = some ⟨oc17, od17, .func (PySem.W.fnOf "_law_letters" "_law_letters" (defArgs s__law_letters) (defBody s__law_letters) (defScope s__law_letters) .none kV17 dc17 pm17 an17 cd17 ct17), sl17⟩)
     (c17 : PySem.W.codeIn K cd17 "_law_letters" = true)
     (k17 : PySem.W.keepIn K (.ref f17) = true)
    {f18 : Addr} {od18 an18 : Option Addr} {sl18 : Array (Option Value)} {oc18 kV18 dc18 pm18 cd18 ct18 : Value} (a18 : PySem.W.nsIn K mainGlobals "_law_name" = some (some (.ref f18)))
     (l18 : K.lookup f18 = some ⟨oc18, od18, .func (PySem.W.fnOf "_law_name" "_law_name" (defArgs s__law_name) (defBody s__law_name) (defScope s__law_name) .none kV18 dc18 pm18 an18 cd18 ct18), sl18⟩)
     (c18 : PySem.W.codeIn K cd18 "_law_name" = true)
     (k18 : PySem.W.keepIn K (.ref f18) = true)
    {f19 : Addr} {od19 an19 : Option Addr} {sl19 : Array (Option Value)} {oc19 kV19 dc19 pm19 cd19 ct19 : Value} (a19 : PySem.W.nsIn K mainGlobals "_law_marks" = some (some (.ref f19)))
     (l19 : K.lookup f19 = some ⟨oc19, od19, .func (PySem.W.fnOf "_law_marks" "_law_marks" (defArgs s__law_marks) (defBody s__law_marks) (defScope s__law_marks) .none kV19 dc19 pm19 an19 cd19 ct19), sl19⟩)
     (c19 : PySem.W.codeIn K cd19 "_law_marks" = true)
     (k19 : PySem.W.keepIn K (.ref f19) = true)
    {f20 : Addr} {od20 an20 : Option Addr} {sl20 : Array (Option Value)} {oc20 kV20 dc20 pm20 cd20 ct20 : Value} (a20 : PySem.W.nsIn K mainGlobals "_law_prose" = some (some (.ref f20)))
     (l20 : K.lookup f20 = some ⟨oc20, od20, .func (PySem.W.fnOf "_law_prose" "_law_prose" (defArgs s__law_prose) (defBody s__law_prose) (defScope s__law_prose) .none kV20 dc20 pm20 an20 cd20 ct20), sl20⟩)
     (c20 : PySem.W.codeIn K cd20 "_law_prose" = true)
     (k20 : PySem.W.keepIn K (.ref f20) = true)
    {f21 : Addr} {od21 an21 : Option Addr} {sl21 : Array (Option Value)} {oc21 kV21 dc21 pm21 cd21 ct21 : Value} (a21 : PySem.W.nsIn K mainGlobals "_law_text" = some (some (.ref f21)))
     (l21 : K.lookup f21 = some ⟨oc21, od21, .func (PySem.W.fnOf "_law_text" "_law_text" (defArgs s__law_text) (defBody s__law_text) (defScope s__law_text) .none kV21 dc21 pm21 an21 cd21 ct21), sl21⟩)
     (c21 : PySem.W.codeIn K cd21 "_law_text" = true)
     (k21 : PySem.W.keepIn K (.ref f21) = true)
    {f22 : Addr} {od22 an22 : Option Addr} {sl22 : Array (Option Value)} {oc22 kV22 dc22 pm22 cd22 ct22 : Value} (a22 : PySem.W.nsIn K mainGlobals "_law_item" = some (some (.ref f22)))
     (l22 : K.lookup f22 = some ⟨oc22, od22, .func (PySem.W.fnOf "_law_item" "_law_item" (defArgs s__law_item) (defBody s__law_item) (defScope s__law_item) .none kV22 dc22 pm22 an22 cd22 ct22), sl22⟩)
     (c22 : PySem.W.codeIn K cd22 "_law_item" = true)
     (k22 : PySem.W.keepIn K (.ref f22) = true)
    {f23 : Addr} {od23 an23 : Option Addr} {sl23 : Array (Option Value)} {oc23 kV23 dc23 pm23 cd23 ct23 : Value} (a23 : PySem.W.nsIn K mainGlobals "_law_part" = some (some (.ref f23)))
     (l23 : K.lookup f23 = some ⟨oc23, od23, .func (PySem.W.fnOf "_law_part" "_law_part" (defArgs s__law_part) (defBody s__law_part) (defScope s__law_part) .none kV23 dc23 pm23 an23 cd23 ct23), sl23⟩)
     (c23 : PySem.W.codeIn K cd23 "_law_part" = true)
     (k23 : PySem.W.keepIn K (.ref f23) = true)
    {f24 : Addr} {od24 an24 : Option Addr} {sl24 : Array (Option Value)} {oc24 kV24 dc24 pm24 cd24 ct24 : Value} (a24 : PySem.W.nsIn K mainGlobals "_law_wrapped" = some (some (.ref f24)))
     (l24 : K.lookup f24 = some ⟨oc24, od24, .func (PySem.W.fnOf "_law_wrapped" "_law_wrapped" (defArgs s__law_wrapped) (defBody s__law_wrapped) (defScope s__law_wrapped) .none kV24 dc24 pm24 an24 cd24 ct24), sl24⟩)
     (c24 : PySem.W.codeIn K cd24 "_law_wrapped" = true)
     (k24 : PySem.W.keepIn K (.ref f24) = true)
    {f25 : Addr} {od25 an25 : Option Addr} {sl25 : Array (Option Value)} {oc25 kV25 dc25 pm25 cd25 ct25 : Value} (a25 : PySem.W.nsIn K mainGlobals "_law_leaf" = some (some (.ref f25)))
     (l25 : K.lookup f25 = some ⟨oc25, od25, .func (PySem.W.fnOf "_law_leaf" "_law_leaf" (defArgs s__law_leaf) (defBody s__law_leaf) (defScope s__law_leaf) .none kV25 dc25 pm25 an25 cd25 ct25), sl25⟩)
     (c25 : PySem.W.codeIn K cd25 "_law_leaf" = true)
     (k25 : PySem.W.keepIn K (.ref f25) = true)
    {f26 : Addr} {od26 an26 : Option Addr} {sl26 : Array (Option Value)} {oc26 kV26 dc26 pm26 cd26 ct26 : Value} (a26 : PySem.W.nsIn K mainGlobals "_law_full_row" = some (some (.ref f26)))
     (l26 : K.lookup f26 = some ⟨oc26, od26, .func (PySem.W.fnOf "_law_full_row" "_law_full_row" (defArgs s__law_full_row) (defBody s__law_full_row) (defScope s__law_full_row) .none kV26 dc26 pm26 an26 cd26 ct26), sl26⟩)
     (c26 : PySem.W.codeIn K cd26 "_law_full_row" = true)
     (k26 : PySem.W.keepIn K (.ref f26) = true)
    {f27 : Addr} {od27 an27 : Option Addr} {sl27 : Array (Option Value)} {oc27 kV27 dc27 pm27 cd27 ct27 : Value} (a27 : PySem.W.nsIn K mainGlobals "_law_full_count" = some (some (.ref f27)))
     (l27 : K.lookup f27 = some ⟨oc27, od27, .func (PySem.W.fnOf "_law_full_count" "_law_full_count" (defArgs s__law_full_count) (defBody s__law_full_count) (defScope s__law_full_count) .none kV27 dc27 pm27 an27 cd27 ct27), sl27⟩)
     (c27 : PySem.W.codeIn K cd27 "_law_full_count" = true)
     (k27 : PySem.W.keepIn K (.ref f27) = true)
    {f28 : Addr} {od28 an28 : Option Addr} {sl28 : Array (Option Value)} {oc28 kV28 dc28 pm28 cd28 ct28 : Value} (a28 : PySem.W.nsIn K mainGlobals "_law_full_prose" = some (some (.ref f28)))
     (l28 : K.lookup f28 = some ⟨oc28, od28, .func (PySem.W.fnOf "_law_full_prose" "_law_full_prose" (defArgs s__law_full_prose) (defBody s__law_full_prose) (defScope s__law_full_prose) .none kV28 dc28 pm28 an28 cd28 ct28), sl28⟩)
     (c28 : PySem.W.codeIn K cd28 "_law_full_prose" = true)
     (k28 : PySem.W.keepIn K (.ref f28) = true)
    {f29 : Addr} {od29 an29 : Option Addr} {sl29 : Array (Option Value)} {oc29 kV29 dc29 pm29 cd29 ct29 : Value} (a29 : PySem.W.nsIn K mainGlobals "_law_full_depth" = some (some (.ref f29)))
     (l29 : K.lookup f29 = some ⟨oc29, od29, .func (PySem.W.fnOf "_law_full_depth" "_law_full_depth" (defArgs s__law_full_depth) (defBody s__law_full_depth) (defScope s__law_full_depth) .none kV29 dc29 pm29 an29 cd29 ct29), sl29⟩)
     (c29 : PySem.W.codeIn K cd29 "_law_full_depth" = true)
     (k29 : PySem.W.keepIn K (.ref f29) = true)
    {f30 : Addr} {od30 an30 : Option Addr} {sl30 : Array (Option Value)} {oc30 kV30 dc30 pm30 cd30 ct30 : Value} (a30 : PySem.W.nsIn K mainGlobals "_law_full_refs" = some (some (.ref f30)))
     (l30 : K.lookup f30 = some ⟨oc30, od30, .func (PySem.W.fnOf "_law_full_refs" "_law_full_refs" (defArgs s__law_full_refs) (defBody s__law_full_refs) (defScope s__law_full_refs) .none kV30 dc30 pm30 an30 cd30 ct30), sl30⟩)
     (c30 : PySem.W.codeIn K cd30 "_law_full_refs" = true)
     (k30 : PySem.W.keepIn K (.ref f30) = true)
    {f31 : Addr} {od31 an31 : Option Addr} {sl31 : Array (Option Value)} {oc31 kV31 dc31 pm31 cd31 ct31 : Value} (a31 : PySem.W.nsIn K mainGlobals "_law_edge" = some (some (.ref f31)))
     (l31 : K.lookup f31 = some ⟨oc31, od31, .func (PySem.W.fnOf "_law_edge" "_law_edge" (defArgs s__law_edge) (defBody s__law_edge) (defScope s__law_edge) .none kV31 dc31 pm31 an31 cd31 ct31), sl31⟩)
     (c31 : PySem.W.codeIn K cd31 "_law_edge" = true)
     (k31 : PySem.W.keepIn K (.ref f31) = true)
    {f32 : Addr} {od32 an32 : Option Addr} {sl32 : Array (Option Value)} {oc32 kV32 dc32 pm32 cd32 ct32 : Value} (a32 : PySem.W.nsIn K mainGlobals "_law_paths" = some (some (.ref f32)))
     (l32 : K.lookup f32 = some ⟨oc32, od32, .func (PySem.W.fnOf "_law_paths" "_law_paths" (defArgs s__law_paths) (defBody s__law_paths) (defScope s__law_paths) .none kV32 dc32 pm32 an32 cd32 ct32), sl32⟩)
     (c32 : PySem.W.codeIn K cd32 "_law_paths" = true)
     (k32 : PySem.W.keepIn K (.ref f32) = true)
    {f33 : Addr} {od33 an33 : Option Addr} {sl33 : Array (Option Value)} {oc33 kV33 dc33 pm33 cd33 ct33 : Value} (a33 : PySem.W.nsIn K mainGlobals "_law_sizes" = some (some (.ref f33)))
     (l33 : K.lookup f33 = some ⟨oc33, od33, .func (PySem.W.fnOf "_law_sizes" "_law_sizes" (defArgs s__law_sizes) (defBody s__law_sizes) (defScope s__law_sizes) .none kV33 dc33 pm33 an33 cd33 ct33), sl33⟩)
     (c33 : PySem.W.codeIn K cd33 "_law_sizes" = true)
     (k33 : PySem.W.keepIn K (.ref f33) = true)
    {f34 : Addr} {od34 an34 : Option Addr} {sl34 : Array (Option Value)} {oc34 kV34 dc34 pm34 cd34 ct34 : Value} (a34 : PySem.W.nsIn K mainGlobals "_law_let" = some (some (.ref f34)))
     (l34 : K.lookup f34 = some ⟨oc34, od34, .func (PySem.W.fnOf "_law_let" "_law_let" (defArgs s__law_let) (defBody s__law_let) (defScope s__law_let) .none kV34 dc34 pm34 an34 cd34 ct34), sl34⟩)
     (c34 : PySem.W.codeIn K cd34 "_law_let" = true)
     (k34 : PySem.W.keepIn K (.ref f34) = true)
    {f35 : Addr} {od35 an35 : Option Addr} {sl35 : Array (Option Value)} {oc35 kV35 dc35 pm35 cd35 ct35 : Value} (a35 : PySem.W.nsIn K mainGlobals "_law_written" = some (some (.ref f35)))
     (l35 : K.lookup f35 = some ⟨oc35, od35, .func (PySem.W.fnOf "_law_written" "_law_written" (defArgs s__law_written) (defBody s__law_written) (defScope s__law_written) .none kV35 dc35 pm35 an35 cd35 ct35), sl35⟩)
     (c35 : PySem.W.codeIn K cd35 "_law_written" = true)
     (k35 : PySem.W.keepIn K (.ref f35) = true)
    {f36 : Addr} {od36 an36 : Option Addr} {sl36 : Array (Option Value)} {oc36 kV36 dc36 pm36 cd36 ct36 : Value} (a36 : PySem.W.nsIn K mainGlobals "_law_read" = some (some (.ref f36)))
     (l36 : K.lookup f36 = some ⟨oc36, od36, .func (PySem.W.fnOf "_law_read" "_law_read" (defArgs s__law_read) (defBody s__law_read) (defScope s__law_read) .none kV36 dc36 pm36 an36 cd36 ct36), sl36⟩)
     (c36 : PySem.W.codeIn K cd36 "_law_read" = true)
     (k36 : PySem.W.keepIn K (.ref f36) = true)
    {f37 : Addr} {od37 an37 : Option Addr} {sl37 : Array (Option Value)} {oc37 kV37 dc37 pm37 cd37 ct37 : Value} (a37 : PySem.W.nsIn K mainGlobals "law" = some (some (.ref f37)))
     (l37 : K.lookup f37 = some ⟨oc37, od37, .func (PySem.W.fnOf "law" "law" (defArgs s_law) (defBody s_law) (defScope s_law) .none kV37 dc37 pm37 an37 cd37 ct37), sl37⟩)
     (c37 : PySem.W.codeIn K cd37 "law" = true)
     (k37 : PySem.W.keepIn K (.ref f37) = true)
     (z_abs : PySem.W.nsIn K mainGlobals "abs" = some none)
     (z_all : PySem.W.nsIn K mainGlobals "all" = some none)
     (z_bool : PySem.W.nsIn K mainGlobals "bool" = some none)
     (z_int : PySem.W.nsIn K mainGlobals "int" = some none)
     (z_isinstance : PySem.W.nsIn K mainGlobals "isinstance" = some none)
     (z_len : PySem.W.nsIn K mainGlobals "len" = some none)
     (z_list : PySem.W.nsIn K mainGlobals "list" = some none)
     (z_max : PySem.W.nsIn K mainGlobals "max" = some none)
     (z_min : PySem.W.nsIn K mainGlobals "min" = some none)
     (z_range : PySem.W.nsIn K mainGlobals "range" = some none)
     (z_set : PySem.W.nsIn K mainGlobals "set" = some none)
     (z_sorted : PySem.W.nsIn K mainGlobals "sorted" = some none)
     (z_str : PySem.W.nsIn K mainGlobals "str" = some none)
     (z_sum : PySem.W.nsIn K mainGlobals "sum" = some none)
     (z_tuple : PySem.W.nsIn K mainGlobals "tuple" = some none)
    {t1 : Tok} (m_LONGEST_NAME : PySem.W.nsIn K mainGlobals "LONGEST_NAME" = some (some (.int (8) t1)))
    {t2 : Tok} (m_LONGEST_TEXT : PySem.W.nsIn K mainGlobals "LONGEST_TEXT" = some (some (.int (60) t2)))
    {t3 : Tok} (m_MOST_DEPTH : PySem.W.nsIn K mainGlobals "MOST_DEPTH" = some (some (.int (6) t3)))
    {t4 : Tok} (m_MOST_ITEMS : PySem.W.nsIn K mainGlobals "MOST_ITEMS" = some (some (.int (60) t4)))
    {t5 : Tok} (m_MOST_ITEMS_OF_A_PART : PySem.W.nsIn K mainGlobals "MOST_ITEMS_OF_A_PART" = some (some (.int (12) t5)))
    {t6 : Tok} (m_MOST_MARKS : PySem.W.nsIn K mainGlobals "MOST_MARKS" = some (some (.int (3) t6)))
    {t7 : Tok} (m_MOST_REFERENCES : PySem.W.nsIn K mainGlobals "MOST_REFERENCES" = some (some (.int (3) t7)))
    {t8 : Tok} (m_MOST_TEXT : PySem.W.nsIn K mainGlobals "MOST_TEXT" = some (some (.int (400) t8)))
    {t9 : Tok} (m_NAME_LETTERS : PySem.W.nsIn K mainGlobals "NAME_LETTERS" = some (some (.str "abcdefghijklmnopqrstuvwxyz" t9)))
    {t10 : Tok} (m_TEXT_CHARACTERS : PySem.W.nsIn K mainGlobals "TEXT_CHARACTERS" = some (some (.str " abcdefghijklmnopqrstuvwxyzABCDEFGHIJKLMNOPQRSTUVWXYZ0123456789.,;:!?'()|" t10)))
    {C_BadDocument : Addr} (ea_BadDocument : PySem.W.nsIn K mainGlobals "BadDocument" = some (some (.ref C_BadDocument)))
     (ex_BadDocument : PySem.W.excIn K C_BadDocument [.type "ValueError", .type "Exception", .type "BaseException", .type "object"] "ValueError.__new__" = true)
     (ek_BadDocument : PySem.W.keepIn K (.ref C_BadDocument) = true)
     (eb_BadDocument : PySem.W.subIn K (.ref C_BadDocument) (.type "BaseException") = some true)
     (et_BadDocument : PySem.W.typeIn K (.ref C_BadDocument) = some (.type "type"))
     (x_BadDocument_BadDocument : PySem.W.exmOne K (.ref C_BadDocument) (.ref C_BadDocument) = some true)
    : ∃ fd : FuncData, (∀ (s : Shared) (v : Value), BindsTo s fd ⟨[v], []⟩ [("_law_script", v)]) ∧ ∀ base : Heap, K.In base → base.Ns mainGlobals mg → FnOk l.prog w K mg base CX0 48 fa fd ["_law_script"] (liftSp K spLaw) := by
  have e := hfa.symm.trans (PySem.W.mg_of X G a37)
  cases e
  have T : Txt K mg ⟨C_BadDocument⟩ := ⟨PySem.W.mg_none_of X G z_abs, PySem.W.mg_none_of X G z_all, PySem.W.mg_none_of X G z_bool, PySem.W.mg_none_of X G z_int, PySem.W.mg_none_of X G z_isinstance, PySem.W.mg_none_of X G z_len, PySem.W.mg_none_of X G z_list, PySem.W.mg_none_of X G z_max, PySem.W.mg_none_of X G z_min, PySem.W.mg_none_of X G z_range, PySem.W.mg_none_of X G z_set, PySem.W.mg_none_of X G z_sorted, PySem.W.mg_none_of X G z_str, PySem.W.mg_none_of X G z_sum, PySem.W.mg_none_of X G z_tuple, const_wr (PySem.W.mg_of X G m_LONGEST_NAME) wr_int, const_wr (PySem.W.mg_of X G m_LONGEST_TEXT) wr_int, const_wr (PySem.W.mg_of X G m_MOST_DEPTH) wr_int, const_wr (PySem.W.mg_of X G m_MOST_ITEMS) wr_int, const_wr (PySem.W.mg_of X G m_MOST_ITEMS_OF_A_PART) wr_int, const_wr (PySem.W.mg_of X G m_MOST_MARKS) wr_int, const_wr (PySem.W.mg_of X G m_MOST_REFERENCES) wr_int, const_wr (PySem.W.mg_of X G m_MOST_TEXT) wr_int, const_wr (PySem.W.mg_of X G m_NAME_LETTERS) wr_str, const_wr (PySem.W.mg_of X G m_TEXT_CHARACTERS) wr_str, ⟨PySem.W.mg_of X G ea_BadDocument, ex_BadDocument, ek_BadDocument, eb_BadDocument, et_BadDocument⟩, x_BadDocument_BadDocument⟩
  have d_is_name : DefAt K mg "is_name" s_is_name ["word"] := ⟨_, _, fun_mk (st := s_is_name) l0 c0 k0, PySem.W.mg_of X G a0, (fun_mk (st := s_is_name) l0 c0 k0).binds (ps := ["word"]) fun _ _ _ _ _ _ us hl => match us, hl with | [_], _ => rfl⟩
  have d_is_text : DefAt K mg "is_text" s_is_text ["word"] := ⟨_, _, fun_mk (st := s_is_text) l1 c1 k1, PySem.W.mg_of X G a1, (fun_mk (st := s_is_text) l1 c1 k1).binds (ps := ["word"]) fun _ _ _ _ _ _ us hl => match us, hl with | [_], _ => rfl⟩
  have d_is_marks : DefAt K mg "is_marks" s_is_marks ["words"] := ⟨_, _, fun_mk (st := s_is_marks) l2 c2 k2, PySem.W.mg_of X G a2, (fun_mk (st := s_is_marks) l2 c2 k2).binds (ps := ["words"]) fun _ _ _ _ _ _ us hl => match us, hl with | [_], _ => rfl⟩
  have d_is_part : DefAt K mg "is_part" s_is_part ["item"] := ⟨_, _, fun_mk (st := s_is_part) l3 c3 k3, PySem.W.mg_of X G a3, (fun_mk (st := s_is_part) l3 c3 k3).binds (ps := ["item"]) fun _ _ _ _ _ _ us hl => match us, hl with | [_], _ => rfl⟩
  have d_walk : DefAt K mg "walk" s_walk ["root"] := ⟨_, _, fun_mk (st := s_walk) l4 c4 k4, PySem.W.mg_of X G a4, (fun_mk (st := s_walk) l4 c4 k4).binds (ps := ["root"]) fun _ _ _ _ _ _ us hl => match us, hl with | [_], _ => rfl⟩
  have d_within_bounds : DefAt K mg "within_bounds" s_within_bounds ["root"] := ⟨_, _, fun_mk (st := s_within_bounds) l5 c5 k5, PySem.W.mg_of X G a5, (fun_mk (st := s_within_bounds) l5 c5 k5).binds (ps := ["root"]) fun _ _ _ _ _ _ us hl => match us, hl with | [_], _ => rfl⟩
  have d_write_item : DefAt K mg "write_item" s_write_item ["item"] := ⟨_, _, fun_mk (st := s_write_item) l6 c6 k6, PySem.W.mg_of X G a6, (fun_mk (st := s_write_item) l6 c6 k6).binds (ps := ["item"]) fun _ _ _ _ _ _ us hl => match us, hl with | [_], _ => rfl⟩
  have d_write_document : DefAt K mg "write_document" s_write_document ["root"] := ⟨_, _, fun_mk (st := s_write_document) l7 c7 k7, PySem.W.mg_of X G a7, (fun_mk (st := s_write_document) l7 c7 k7).binds (ps := ["root"]) fun _ _ _ _ _ _ us hl => match us, hl with | [_], _ => rfl⟩
  have d__name_at : DefAt K mg "_name_at" s__name_at ["text", "at"] := ⟨_, _, fun_mk (st := s__name_at) l8 c8 k8, PySem.W.mg_of X G a8, (fun_mk (st := s__name_at) l8 c8 k8).binds (ps := ["text", "at"]) fun _ _ _ _ _ _ us hl => match us, hl with | [_, _], _ => rfl⟩
  have d__text_at : DefAt K mg "_text_at" s__text_at ["text", "at"] := ⟨_, _, fun_mk (st := s__text_at) l9 c9 k9, PySem.W.mg_of X G a9, (fun_mk (st := s__text_at) l9 c9 k9).binds (ps := ["text", "at"]) fun _ _ _ _ _ _ us hl => match us, hl with | [_, _], _ => rfl⟩
  have d__part_at : DefAt K mg "_part_at" s__part_at ["text", "at", "depth"] := ⟨_, _, fun_mk (st := s__part_at) l10 c10 k10, PySem.W.mg_of X G a10, (fun_mk (st := s__part_at) l10 c10 k10).binds (ps := ["text", "at", "depth"]) fun _ _ _ _ _ _ us hl => match us, hl with | [_, _, _], _ => rfl⟩
  have d__item_at : DefAt K mg "_item_at" s__item_at ["text", "at", "depth"] := ⟨_, _, fun_mk (st := s__item_at) l11 c11 k11, PySem.W.mg_of X G a11, (fun_mk (st := s__item_at) l11 c11 k11).binds (ps := ["text", "at", "depth"]) fun _ _ _ _ _ _ us hl => match us, hl with | [_, _, _], _ => rfl⟩
  have d_read_item : DefAt K mg "read_item" s_read_item ["text"] := ⟨_, _, fun_mk (st := s_read_item) l12 c12 k12, PySem.W.mg_of X G a12, (fun_mk (st := s_read_item) l12 c12 k12).binds (ps := ["text"]) fun _ _ _ _ _ _ us hl => match us, hl with | [_], _ => rfl⟩
  have d_read_document : DefAt K mg "read_document" s_read_document ["text"] := ⟨_, _, fun_mk (st := s_read_document) l13 c13 k13, PySem.W.mg_of X G a13, (fun_mk (st := s_read_document) l13 c13 k13).binds (ps := ["text"]) fun _ _ _ _ _ _ us hl => match us, hl with | [_], _ => rfl⟩
  have d__law_pool : DefAt K mg "_law_pool" s__law_pool ["_law_script", "_law_at"] := ⟨_, _, fun_mk (st := s__law_pool) l14 c14 k14, PySem.W.mg_of X G a14, (fun_mk (st := s__law_pool) l14 c14 k14).binds (ps := ["_law_script", "_law_at"]) fun _ _ _ _ _ _ us hl => match us, hl with | [_, _], _ => rfl⟩
  have d__law_take : DefAt K mg "_law_take" s__law_take ["_law_pool_here", "_law_many"] := ⟨_, _, fun_mk (st := s__law_take) l15 c15 k15, PySem.W.mg_of X G a15, (fun_mk (st := s__law_take) l15 c15 k15).binds (ps := ["_law_pool_here", "_law_many"]) fun _ _ _ _ _ _ us hl => match us, hl with | [_, _], _ => rfl⟩
  have d__law_same : DefAt K mg "_law_same" s__law_same ["_law_one", "_law_two"] := ⟨_, _, fun_mk (st := s__law_same) l16 c16 k16, PySem.W.mg_of X G a16, (fun_mk (st := s__law_same) l16 c16 k16).binds (ps := ["_law_one", "_law_two"]) fun _ _ _ _ _ _ us hl => match us, hl with | [_, _], _ => rfl⟩
  have d__law_letters : DefAt K mg "_law_letters" s__law_letters ["_law_pool_here", "_law_many"] := ⟨_, _, fun_mk (st := s__law_letters) l17 c17 k17, PySem.W.mg_of X G a17, (fun_mk (st := s__law_letters) l17 c17 k17).binds (ps := ["_law_pool_here", "_law_many"]) fun _ _ _ _ _ _ us hl => match us, hl with | [_, _], _ => rfl⟩
  have d__law_name : DefAt K mg "_law_name" s__law_name ["_law_pool_here", "_law_names"] := ⟨_, _, fun_mk (st := s__law_name) l18 c18 k18, PySem.W.mg_of X G a18, (fun_mk (st := s__law_name) l18 c18 k18).binds (ps := ["_law_pool_here", "_law_names"]) fun _ _ _ _ _ _ us hl => match us, hl with | [_, _], _ => rfl⟩
  have d__law_marks : DefAt K mg "_law_marks" s__law_marks ["_law_pool_here", "_law_names"] := ⟨_, _, fun_mk (st := s__law_marks) l19 c19 k19, PySem.W.mg_of X G a19, (fun_mk (st := s__law_marks) l19 c19 k19).binds (ps := ["_law_pool_here", "_law_names"]) fun _ _ _ _ _ _ us hl => match us, hl with | [_, _], _ => rfl⟩
  have d__law_prose : DefAt K mg "_law_prose" s__law_prose ["_law_pool_here", "_law_many"] := ⟨_, _, fun_mk (st := s__law_prose) l20 c20 k20, PySem.W.mg_of X G a20, (fun_mk (st := s__law_prose) l20 c20 k20).binds (ps := ["_law_pool_here", "_law_many"]) fun _ _ _ _ _ _ us hl => match us, hl with | [_, _], _ => rfl⟩
  have d__law_text : DefAt K mg "_law_text" s__law_text ["_law_pool_here", "_law_budget"] := ⟨_, _, fun_mk (st := s__law_text) l21 c21 k21, PySem.W.mg_of X G a21, (fun_mk (st := s__law_text) l21 c21 k21).binds (ps := ["_law_pool_here", "_law_budget"]) fun _ _ _ _ _ _ us hl => match us, hl with | [_, _], _ => rfl⟩
  have d__law_item : DefAt K mg "_law_item" s__law_item ["_law_pool_here", "_law_names", "_law_budget", "_law_depth"] := ⟨_, _, fun_mk (st := s__law_item) l22 c22 k22, PySem.W.mg_of X G a22, (fun_mk (st := s__law_item) l22 c22 k22).binds (ps := ["_law_pool_here", "_law_names", "_law_budget", "_law_depth"]) fun _ _ _ _ _ _ us hl => match us, hl with | [_, _, _, _], _ => rfl⟩
  have d__law_part : DefAt K mg "_law_part" s__law_part ["_law_pool_here", "_law_names", "_law_budget", "_law_depth"] := ⟨_, _, fun_mk (st := s__law_part) l23 c23 k23, PySem.W.mg_of X G a23, (fun_mk (st := s__law_part) l23 c23 k23).binds (ps := ["_law_pool_here", "_law_names", "_law_budget", "_law_depth"]) fun _ _ _ _ _ _ us hl => match us, hl with | [_, _, _, _], _ => rfl⟩
  have d__law_wrapped : DefAt K mg "_law_wrapped" s__law_wrapped ["_law_pool_here", "_law_names", "_law_item_here", "_law_many"] := ⟨_, _, fun_mk (st := s__law_wrapped) l24 c24 k24, PySem.W.mg_of X G a24, (fun_mk (st := s__law_wrapped) l24 c24 k24).binds (ps := ["_law_pool_here", "_law_names", "_law_item_here", "_law_many"]) fun _ _ _ _ _ _ us hl => match us, hl with | [_, _, _, _], _ => rfl⟩
  have d__law_leaf : DefAt K mg "_law_leaf" s__law_leaf ["_law_pool_here", "_law_names"] := ⟨_, _, fun_mk (st := s__law_leaf) l25 c25 k25, PySem.W.mg_of X G a25, (fun_mk (st := s__law_leaf) l25 c25 k25).binds (ps := ["_law_pool_here", "_law_names"]) fun _ _ _ _ _ _ us hl => match us, hl with | [_, _], _ => rfl⟩
  have d__law_full_row : DefAt K mg "_law_full_row" s__law_full_row ["_law_pool_here", "_law_names", "_law_shift"] := ⟨_, _, fun_mk (st := s__law_full_row) l26 c26 k26, PySem.W.mg_of X G a26, (fun_mk (st := s__law_full_row) l26 c26 k26).binds (ps := ["_law_pool_here", "_law_names", "_law_shift"]) fun _ _ _ _ _ _ us hl => match us, hl with | [_, _, _], _ => rfl⟩
  have d__law_full_count : DefAt K mg "_law_full_count" s__law_full_count ["_law_pool_here", "_law_names", "_law_shift"] := ⟨_, _, fun_mk (st := s__law_full_count) l27 c27 k27, PySem.W.mg_of X G a27, (fun_mk (st := s__law_full_count) l27 c27 k27).binds (ps := ["_law_pool_here", "_law_names", "_law_shift"]) fun _ _ _ _ _ _ us hl => match us, hl with | [_, _, _], _ => rfl⟩
  have d__law_full_prose : DefAt K mg "_law_full_prose" s__law_full_prose ["_law_pool_here", "_law_names", "_law_shift"] := ⟨_, _, fun_mk (st := s__law_full_prose) l28 c28 k28, PySem.W.mg_of X G a28, (fun_mk (st := s__law_full_prose) l28 c28 k28).binds (ps := ["_law_pool_here", "_law_names", "_law_shift"]) fun _ _ _ _ _ _ us hl => match us, hl with | [_, _, _], _ => rfl⟩
  have d__law_full_depth : DefAt K mg "_law_full_depth" s__law_full_depth ["_law_pool_here", "_law_names", "_law_shift"] := ⟨_, _, fun_mk (st := s__law_full_depth) l29 c29 k29, PySem.W.mg_of X G a29, (fun_mk (st := s__law_full_depth) l29 c29 k29).binds (ps := ["_law_pool_here", "_law_names", "_law_shift"]) fun _ _ _ _ _ _ us hl => match us, hl with | [_, _, _], _ => rfl⟩
  have d__law_full_refs : DefAt K mg "_law_full_refs" s__law_full_refs ["_law_pool_here", "_law_names", "_law_shift"] := ⟨_, _, fun_mk (st := s__law_full_refs) l30 c30 k30, PySem.W.mg_of X G a30, (fun_mk (st := s__law_full_refs) l30 c30 k30).binds (ps := ["_law_pool_here", "_law_names", "_law_shift"]) fun _ _ _ _ _ _ us hl => match us, hl with | [_, _, _], _ => rfl⟩
  have d__law_edge : DefAt K mg "_law_edge" s__law_edge ["_law_pool_here", "_law_names", "_law_shift"] := ⟨_, _, fun_mk (st := s__law_edge) l31 c31 k31, PySem.W.mg_of X G a31, (fun_mk (st := s__law_edge) l31 c31 k31).binds (ps := ["_law_pool_here", "_law_names", "_law_shift"]) fun _ _ _ _ _ _ us hl => match us, hl with | [_, _, _], _ => rfl⟩
  have d__law_paths : DefAt K mg "_law_paths" s__law_paths ["_law_item_here", "_law_path"] := ⟨_, _, fun_mk (st := s__law_paths) l32 c32 k32, PySem.W.mg_of X G a32, (fun_mk (st := s__law_paths) l32 c32 k32).binds (ps := ["_law_item_here", "_law_path"]) fun _ _ _ _ _ _ us hl => match us, hl with | [_, _], _ => rfl⟩
  have d__law_sizes : DefAt K mg "_law_sizes" s__law_sizes ["_law_item_here", "_law_depth"] := ⟨_, _, fun_mk (st := s__law_sizes) l33 c33 k33, PySem.W.mg_of X G a33, (fun_mk (st := s__law_sizes) l33 c33 k33).binds (ps := ["_law_item_here", "_law_depth"]) fun _ _ _ _ _ _ us hl => match us, hl with | [_, _], _ => rfl⟩
  have d__law_let : DefAt K mg "_law_let" s__law_let ["_law_root"] := ⟨_, _, fun_mk (st := s__law_let) l34 c34 k34, PySem.W.mg_of X G a34, (fun_mk (st := s__law_let) l34 c34 k34).binds (ps := ["_law_root"]) fun _ _ _ _ _ _ us hl => match us, hl with | [_], _ => rfl⟩
  have d__law_written : DefAt K mg "_law_written" s__law_written ["_law_item_here"] := ⟨_, _, fun_mk (st := s__law_written) l35 c35 k35, PySem.W.mg_of X G a35, (fun_mk (st := s__law_written) l35 c35 k35).binds (ps := ["_law_item_here"]) fun _ _ _ _ _ _ us hl => match us, hl with | [_], _ => rfl⟩
  have d__law_read : DefAt K mg "_law_read" s__law_read ["_law_text_here"] := ⟨_, _, fun_mk (st := s__law_read) l36 c36 k36, PySem.W.mg_of X G a36, (fun_mk (st := s__law_read) l36 c36 k36).binds (ps := ["_law_text_here"]) fun _ _ _ _ _ _ us hl => match us, hl with | [_], _ => rfl⟩
  have F37 := fun_mk (st := s_law) l37 c37 k37
  refine ⟨PySem.W.fnOf "law" "law" (defArgs s_law) (defBody s_law) (defScope s_law) .none kV37 dc37 pm37 an37 cd37 ct37, fun s v => .of_eq rfl, fun base _ _ => ?_⟩
  have c_take := (ok__law_take (P := l.prog) (w := w) (base := base) T d__law_take).hd
  have c_pool := ok__law_pool (P := l.prog) (w := w) (base := base) T d__law_pool
  have c_let := (ok__law_letters T c_take d__law_letters).hd
  have c_name := (ok__law_name T c_take c_let d__law_name).hd
  have c_marks := (ok__law_marks T c_take c_name d__law_marks).hd
  have c_prose := (ok__law_prose T c_take d__law_prose).hd
  have c_text := (ok__law_text T c_take c_prose d__law_text).hd
  have c_part := (ok_prt T c_take c_name c_text c_marks d__law_item d__law_part 19 (by decide)).hd
  have c_paths := (ok_ps (P := l.prog) (w := w) (base := base) T d__law_paths 20).hd
  have c_is := (ok_is_part (P := l.prog) (w := w) (base := base) T d_is_part).hd
  have c_walk := (ok_walk T c_is d_walk).hd
  have c_wb := (ok_within_bounds T c_is c_walk d_within_bounds).hd
  have c_sz := (ok_sz (P := l.prog) (w := w) (base := base) T d__law_sizes 20).hd
  have c_le := (ok__law_let T c_sz d__law_let).hd
  have c_lf := (ok__law_leaf T c_take c_name c_prose d__law_leaf).hd
  have c_wr := (ok__law_wrapped T c_name d__law_wrapped).hd
  have c_f1 := (ok__law_full_row T c_take c_name c_marks c_lf c_wr d__law_full_row).hd
  have c_f2 := (ok__law_full_count T c_take c_name c_lf d__law_full_count).hd
  have c_f3 := (ok__law_full_prose T c_take c_name c_prose c_wr d__law_full_prose).hd
  have c_f4 := (ok__law_full_depth T c_take c_name c_marks c_lf d__law_full_depth).hd
  have c_f5 := (ok__law_full_refs T c_take c_name c_lf c_wr d__law_full_refs).hd
  have c_ed := (ok__law_edge T c_take c_f1 c_f2 c_f3 c_f4 c_f5 d__law_edge).hd
  have c_nam := (ok_is_name (P := l.prog) (w := w) (base := base) T d_is_name).hd
  have c_txt := (ok_is_text (P := l.prog) (w := w) (base := base) T d_is_text).hd
  have c_mks := (ok_is_marks T c_nam d_is_marks).hd
  have c_na := (ok__name_at T c_nam d__name_at).hd
  have c_ta := (ok__text_at T c_txt d__text_at).hd
  have c_pa := (ok_pa T c_na c_ta c_mks d__part_at d__item_at 20).hd
  have c_ia := (ia_step T 43 20 (by decide) c_na c_ta c_pa d__item_at).hd
  have c_ri := (ok_read_item T c_is c_wb c_ia d_read_item).hd
  have c_rd := (ok_read_document T c_is c_ri d_read_document).hd
  have c_lr := (ok__law_read T c_rd d__law_read).hd
  have c_wi := (ok_wi T c_is d_write_item 20).hd
  have c_wd := (ok_write_document T c_wi d_write_document).hd
  have c_lw := (ok_lw (P := l.prog) (w := w) (base := base) T d__law_written 20).hd
  have c_same := (ok_same (P := l.prog) (w := w) (base := base) T d__law_same 43).hd
  exact ok_law T F37 c_pool.hd c_take c_part c_ed c_paths c_le c_wd c_lw c_lr c_same
end K10
open PySem PySem.W PyProof.Rows
set_option maxRecDepth 100000 in
set_option maxHeartbeats 0 in
theorem PySem.Challenge.cw_stylepages_k10_whole_written_form_there_holds : PySem.Challenge.rw_stylepages_k10_whole_written_form_there.Holds := by
  w_on; o_law; k_head; (case hw => w_witness2)
  k_fill
  refine L2.walk_of (l := PySem.Challenge.rw_stylepages_k10_whole_written_form_there) (n := 63) (k := 48) (x := "_law_script") (CX := fun _ => L2.CX0) (sp := fun w => Wl.liftSp _ Wl.spLaw) rfl (by decide) rfl ⟨rfl, by decide, by decide⟩ (fun w h Y => PySem.W.kIn_of Y) ?F (fun _ _ a ns hl hO hS => Wl.law_end hl hO hS) (fun _ _ _ _ _ h => h)
  case F =>
    intro w mg fa h KX G hmg
    refine' K10.all_mk KX G hmg ?a0 ?l0 ?c0 ?k0 ?a1 ?l1 ?c1 ?k1 ?a2 ?l2 ?c2 ?k2 ?a3 ?l3 ?c3 ?k3 ?a4 ?l4 ?c4 ?k4 ?a5 ?l5 ?c5 ?k5 ?a6 ?l6 ?c6 ?k6 ?a7 ?l7 ?c7 ?k7 ?a8 ?l8 ?c8 ?k8 ?a9 ?l9 ?c9 ?k9 ?a10 ?l10 ?c10 ?k10 ?a11 ?l11 ?c11 ?k11 ?a12 ?l12 ?c12 ?k12 ?a13 ?l13 ?c13 ?k13 ?a14 ?l14 ?c14 ?k14 ?a15 ?l15 ?c15 ?k15 ?a16 ?l16 ?c16 ?k16 ?a17 ?l17 ?c17 ?k17 ?a18 ?l18 ?c18 ?k18 ?a19 ?l19 ?c19 ?k19 ?a20 ?l20 ?c20 ?k20 ?a21 ?l21 ?c21 ?k21 ?a22 ?l22 ?c22 ?k22 ?a23 ?l23 ?c23 ?k23 ?a24 ?l24 ?c24 ?k24 ?a25 ?l25 ?c25 ?k25 ?a26 ?l26 ?c26 ?k26 ?a27 ?l27 ?c27 ?k27 ?a28 ?l28 ?c28 ?k28 ?a29 ?l29 ?c29 ?k29 ?a30 ?l30 ?c30 ?k30 ?a31 ?l31 ?c31 ?k31 ?a32 ?l32 ?c32 ?k32 ?a33 ?l33 ?c33 ?k33 ?a34 ?l34 ?c34 ?k34 ?a35 ?l35 ?c35 ?k35 ?a36 ?l36 ?c36 ?k36 ?a37 ?l37 ?c37 ?k37 ?z_abs ?z_all ?z_bool ?z_int ?z_isinstance ?z_len ?z_list ?z_max ?z_min ?z_range ?z_set ?z_sorted ?z_str ?z_sum ?z_tuple ?m_LONGEST_NAME ?m_LONGEST_TEXT ?m_MOST_DEPTH ?m_MOST_ITEMS ?m_MOST_ITEMS_OF_A_PART ?m_MOST_MARKS ?m_MOST_REFERENCES ?m_MOST_TEXT ?m_NAME_LETTERS ?m_TEXT_CHARACTERS ?ea_BadDocument ?ex_BadDocument ?ek_BadDocument ?eb_BadDocument ?et_BadDocument ?x_BadDocument_BadDocument
    (case a0 => k_is)
    (case l0 => k_is)
    (case c0 => k_is)
    (case k0 => k_is)
    (case a1 => k_is)
    (case l1 => k_is)
    (case c1 => k_is)
    (case k1 => k_is)
    (case a2 => k_is)
    (case l2 => k_is)
    (case c2 => k_is)
    (case k2 => k_is)
    (case a3 => k_is)
    (case l3 => k_is)
    (case c3 => k_is)
    (case k3 => k_is)
    (case a4 => k_is)
    (case l4 => k_is)
    (case c4 => k_is)
    (case k4 => k_is)
    (case a5 => k_is)
    (case l5 => k_is)
    (case c5 => k_is)
    (case k5 => k_is)
    (case a6 => k_is)
    (case l6 => k_is)
    (case c6 => k_is)
    (case k6 => k_is)
    (case a7 => k_is)
    (case l7 => k_is)
    (case c7 => k_is)
    (case k7 => k_is)
    (case a8 => k_is)
    (case l8 => k_is)
    (case c8 => k_is)
    (case k8 => k_is)
    (case a9 => k_is)
    (case l9 => k_is)
    (case c9 => k_is)
    (case k9 => k_is)
    (case a10 => k_is)
    (case l10 => k_is)
    (case c10 => k_is)
    (case k10 => k_is)
    (case a11 => k_is)
    (case l11 => k_is)
    (case c11 => k_is)
    (case k11 => k_is)
    (case a12 => k_is)
    (case l12 => k_is)
    (case c12 => k_is)
    (case k12 => k_is)
    (case a13 => k_is)
    (case l13 => k_is)
    (case c13 => k_is)
    (case k13 => k_is)
    (case a14 => k_is)
    (case l14 => k_is)
    (case c14 => k_is)
    (case k14 => k_is)
    (case a15 => k_is)
    (case l15 => k_is)
    (case c15 => k_is)
    (case k15 => k_is)
    (case a16 => k_is)
    (case l16 => k_is)
    (case c16 => k_is)
    (case k16 => k_is)
    (case a17 => k_is)
    (case l17 => k_is)
    (case c17 => k_is)
    (case k17 => k_is)
    (case a18 => k_is)
    (case l18 => k_is)
    (case c18 => k_is)
    (case k18 => k_is)
    (case a19 => k_is)
    (case l19 => k_is)
    (case c19 => k_is)
    (case k19 => k_is)
    (case a20 => k_is)
    (case l20 => k_is)
    (case c20 => k_is)
    (case k20 => k_is)
    (case a21 => k_is)
    (case l21 => k_is)
    (case c21 => k_is)
    (case k21 => k_is)
    (case a22 => k_is)
    (case l22 => k_is)
    (case c22 => k_is)
    (case k22 => k_is)
    (case a23 => k_is)
    (case l23 => k_is)
    (case c23 => k_is)
    (case k23 => k_is)
    (case a24 => k_is)
    (case l24 => k_is)
    (case c24 => k_is)
    (case k24 => k_is)
    (case a25 => k_is)
    (case l25 => k_is)
    (case c25 => k_is)
    (case k25 => k_is)
    (case a26 => k_is)
    (case l26 => k_is)
    (case c26 => k_is)
    (case k26 => k_is)
    (case a27 => k_is)
    (case l27 => k_is)
    (case c27 => k_is)
    (case k27 => k_is)
    (case a28 => k_is)
    (case l28 => k_is)
    (case c28 => k_is)
    (case k28 => k_is)
    (case a29 => k_is)
    (case l29 => k_is)
    (case c29 => k_is)
    (case k29 => k_is)
    (case a30 => k_is)
    (case l30 => k_is)
    (case c30 => k_is)
    (case k30 => k_is)
    (case a31 => k_is)
    (case l31 => k_is)
    (case c31 => k_is)
    (case k31 => k_is)
    (case a32 => k_is)
    (case l32 => k_is)
    (case c32 => k_is)
    (case k32 => k_is)
    (case a33 => k_is)
    (case l33 => k_is)
    (case c33 => k_is)
    (case k33 => k_is)
    (case a34 => k_is)
    (case l34 => k_is)
    (case c34 => k_is)
    (case k34 => k_is)
    (case a35 => k_is)
    (case l35 => k_is)
    (case c35 => k_is)
    (case k35 => k_is)
    (case a36 => k_is)
    (case l36 => k_is)
    (case c36 => k_is)
    (case k36 => k_is)
    (case a37 => k_is)
    (case l37 => k_is)
    (case c37 => k_is)
    (case k37 => k_is)
    (case z_abs => k_is)
    (case z_all => k_is)
    (case z_bool => k_is)
    (case z_int => k_is)
    (case z_isinstance => k_is)
    (case z_len => k_is)
    (case z_list => k_is)
    (case z_max => k_is)
    (case z_min => k_is)
    (case z_range => k_is)
    (case z_set => k_is)
    (case z_sorted => k_is)
    (case z_str => k_is)
    (case z_sum => k_is)
    (case z_tuple => k_is)
    (case m_LONGEST_NAME => k_is)
    (case m_LONGEST_TEXT => k_is)
    (case m_MOST_DEPTH => k_is)
    (case m_MOST_ITEMS => k_is)
    (case m_MOST_ITEMS_OF_A_PART => k_is)
    (case m_MOST_MARKS => k_is)
    (case m_MOST_REFERENCES => k_is)
    (case m_MOST_TEXT => k_is)
    (case m_NAME_LETTERS => k_is)
    (case m_TEXT_CHARACTERS => k_is)
    (case ea_BadDocument => k_is)
    (case ex_BadDocument => k_exc)
    (case ek_BadDocument => k_is)
    (case eb_BadDocument => k_is)
    (case et_BadDocument => k_is)
    (case x_BadDocument_BadDocument => first | rfl | k_is)
#print axioms PySem.Challenge.cw_stylepages_k10_whole_written_form_there_holds
