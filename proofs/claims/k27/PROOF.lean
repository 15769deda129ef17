import PyProof.Rows.All
import Wide.All
import OpenK.AllK
import Wide.FinOn
import HandS.Base
import HandS.Call
import HandS.List
import HandS.Comp
import HandS.Ends
import HandS.Dict
import HandS.Iter
import HandS.Text
import HandS.Words
import HandS.Wide
import HandS.IsInst
import PySem.Challenge.RW_stylepages_k27_corners_of_outlines
set_option Elab.async false
set_option linter.all false
set_option maxRecDepth 100000
set_option maxHeartbeats 2000000
/-! Data-level readings: tuples as values, lists as cells of a store. -/
namespace Wl
open PySem L2

inductive W where
  | non | bl (b : Bool) | int (i : Int) | str (x : Str) | ty (n : String) | ref (a : Addr) | tup (ws : List W) | rl (ws : List W)

/-- a list that nobody writes -/
def RdL (K : PySem.W.Frag) (H : Hp) (a : Addr) (xs : List V) : Prop :=
  (∃ o, H a = some (.frz o (.lst xs))) ∨
    ∃ (o : Obj) (its : Array Value) (n : Nat), K.lookup a = some o ∧ o.cls = .type "list" ∧ o.dict = none ∧ o.data = .seq its n ∧ its.size ≤ sizeLine ∧ Vals xs its.toList
theorem RdL.sq {K : PySem.W.Frag} {H : Hp} {a : Addr} {xs : List V} (h : RdL K H a xs) : SqL K H a xs := by
  rcases h with h | h
  · exact .inl (.inr h)
  · exact .inr h

mutual
def Rep (K : PySem.W.Frag) (H : Hp) : W → V → Prop
  | .non, v => v = .non
  | .bl b, v => v = .bl b
  | .int i, v => v = .int i
  | .str x, v => v = .str x
  | .ty n, v => v = .ty n
  | .ref a, v => v = .ref a
  | .tup ws, v => ∃ a xs, v = .ref a ∧ SqT K H a xs ∧ RepL K H ws xs
  | .rl ws, v => ∃ a xs, v = .ref a ∧ RdL K H a xs ∧ RepL K H ws xs
def RepL (K : PySem.W.Frag) (H : Hp) : List W → List V → Prop
  | [], xs => xs = []
  | w :: ws, xs => ∃ x r, xs = x :: r ∧ Rep K H w x ∧ RepL K H ws r
end

/-- tuples, frozen things stay -/
structure Tk (H H' : Hp) : Prop where
  tup : ∀ a xs, H a = some (.tup xs) → H' a = some (.tup xs)
  frz : ∀ a o u, H a = some (.frz o u) → H' a = some (.frz o u)
theorem Tk.refl (H : Hp) : Tk H H := ⟨fun _ _ h => h, fun _ _ _ h => h⟩
theorem Tk.trans {H H1 H2 : Hp} (a : Tk H H1) (b : Tk H1 H2) : Tk H H2 := ⟨fun x xs h => b.tup x xs (a.tup x xs h), fun x o u h => b.frz x o u (a.frz x o u h)⟩
theorem Tk.new {H : Hp} {p : Addr} {o : HO} (h : H p = none) : Tk H (upd H p o) := ⟨fun a xs e => by rw [upd_ne (ne_of_none e h)]; exact e, fun a ob u e => by rw [upd_ne (ne_of_none e h)]; exact e⟩
theorem Tk.mut {H : Hp} {p : Addr} {o o' : HO} (h : H p = some o) (h1 : ∀ xs, o ≠ .tup xs) (h2 : ∀ ob u, o ≠ .frz ob u) : Tk H (upd H p o') :=
  ⟨fun a xs e => by rw [upd_ne (ne_of e h (fun z => h1 xs z.symm))]; exact e, fun a ob u e => by rw [upd_ne (ne_of e h (fun z => h2 ob u z.symm))]; exact e⟩
theorem Tk.rd {H H' : Hp} (t : Tk H H') {a : Addr} {xs : List V} (h : Rd H a (.tup xs)) : Rd H' a (.tup xs) := by
  rcases h with h | ⟨o, h⟩
  · exact .inl (t.tup a xs h)
  · exact .inr ⟨o, t.frz a o _ h⟩
theorem Tk.sqt {K : PySem.W.Frag} {H H' : Hp} (t : Tk H H') {a : Addr} {xs : List V} (h : SqT K H a xs) : SqT K H' a xs := by
  rcases h with h | h
  · exact .inl (t.rd h)
  · exact .inr h
theorem Tk.rdl {K : PySem.W.Frag} {H H' : Hp} (t : Tk H H') {a : Addr} {xs : List V} (h : RdL K H a xs) : RdL K H' a xs := by
  rcases h with ⟨o, h⟩ | h
  · exact .inl ⟨o, t.frz a o _ h⟩
  · exact .inr h
mutual
theorem Rep.tk {K : PySem.W.Frag} {H H' : Hp} (t : Tk H H') : ∀ (w : W) (v : V), Rep K H w v → Rep K H' w v
  | .non, _, h => h
  | .bl _, _, h => h
  | .int _, _, h => h
  | .str _, _, h => h
  | .ty _, _, h => h
  | .ref _, _, h => h
  | .tup ws, v, h => by
    obtain ⟨a, xs, e, h1, h2⟩ := h
    exact ⟨a, xs, e, t.sqt h1, RepL.tk t ws xs h2⟩
  | .rl ws, v, h => by
    obtain ⟨a, xs, e, h1, h2⟩ := h
    exact ⟨a, xs, e, t.rdl h1, RepL.tk t ws xs h2⟩
theorem RepL.tk {K : PySem.W.Frag} {H H' : Hp} (t : Tk H H') : ∀ (ws : List W) (xs : List V), RepL K H ws xs → RepL K H' ws xs
  | [], _, h => h
  | w :: ws, _, h => by
    obtain ⟨x, r, e, h1, h2⟩ := h
    exact ⟨x, r, e, Rep.tk t w x h1, RepL.tk t ws r h2⟩
end
section
variable {K : PySem.W.Frag} {H : Hp}
theorem RepL.nil : RepL K H [] [] := rfl
theorem RepL.cons {w : W} {ws : List W} {x : V} {xs : List V} (h : Rep K H w x) (t : RepL K H ws xs) : RepL K H (w :: ws) (x :: xs) := ⟨x, xs, rfl, h, t⟩
theorem RepL.length : ∀ {ws : List W} {xs : List V}, RepL K H ws xs → xs.length = ws.length
  | [], _, h => by cases (show _ = [] from h); rfl
  | w :: ws, _, h => by
    obtain ⟨x, r, rfl, _, h2⟩ := h
    rw [List.length_cons, List.length_cons, RepL.length h2]
theorem RepL.get : ∀ {ws : List W} {xs : List V} {i : Nat} {w : W}, RepL K H ws xs → ws[i]? = some w → ∃ x, xs[i]? = some x ∧ Rep K H w x
  | [], _, _, _, _, e => by simp at e
  | _ :: _, _, 0, _, h, e => by
    obtain ⟨x, r, rfl, h1, _⟩ := h
    simp at e; subst e
    exact ⟨x, rfl, h1⟩
  | _ :: _, _, i + 1, _, h, e => by
    obtain ⟨x, r, rfl, _, h2⟩ := h
    obtain ⟨y, e1, e2⟩ := RepL.get (i := i) h2 (by simpa using e)
    exact ⟨y, by simpa using e1, e2⟩
theorem RepL.get' : ∀ {ws : List W} {xs : List V} {i : Nat} {x : V}, RepL K H ws xs → xs[i]? = some x → ∃ w, ws[i]? = some w ∧ Rep K H w x
  | [], _, _, _, h, e => by cases (show _ = [] from h); simp at e
  | _ :: _, _, 0, _, h, e => by
    obtain ⟨x, r, rfl, h1, _⟩ := h
    simp at e; subst e
    exact ⟨_, rfl, h1⟩
  | _ :: _, _, i + 1, _, h, e => by
    obtain ⟨x, r, rfl, _, h2⟩ := h
    obtain ⟨y, e1, e2⟩ := RepL.get' (i := i) h2 (by simpa using e)
    exact ⟨y, by simpa using e1, e2⟩
theorem RepL.append : ∀ {ws zs : List W} {xs ys : List V}, RepL K H ws xs → RepL K H zs ys → RepL K H (ws ++ zs) (xs ++ ys)
  | [], _, _, _, h, t => by cases (show _ = [] from h); exact t
  | _ :: _, _, _, _, h, t => by
    obtain ⟨x, r, rfl, h1, h2⟩ := h
    exact ⟨x, r ++ _, rfl, h1, RepL.append h2 t⟩
theorem RepL.one {w : W} {x : V} (h : Rep K H w x) : RepL K H [w] [x] := .cons h .nil
theorem RepL.take : ∀ {ws : List W} {xs : List V} (n : Nat), RepL K H ws xs → RepL K H (ws.take n) (xs.take n)
  | _, _, 0, _ => by simp; rfl
  | [], _, n + 1, h => by cases (show _ = [] from h); rfl
  | _ :: _, _, n + 1, h => by
    obtain ⟨x, r, rfl, h1, h2⟩ := h
    exact ⟨x, r.take n, rfl, h1, RepL.take n h2⟩
theorem RepL.drop : ∀ {ws : List W} {xs : List V} (n : Nat), RepL K H ws xs → RepL K H (ws.drop n) (xs.drop n)
  | _, _, 0, h => by simpa using h
  | [], _, n + 1, h => by cases (show _ = [] from h); rfl
  | _ :: _, _, n + 1, h => by
    obtain ⟨x, r, rfl, h1, h2⟩ := h
    simpa using RepL.drop n h2
theorem RepL.set {w : W} {x : V} (q : Rep K H w x) : ∀ {ws : List W} {xs : List V} (i : Nat), RepL K H ws xs → RepL K H (ws.set i w) (xs.set i x)
  | [], _, _, h => by cases (show _ = [] from h); rfl
  | _ :: _, _, 0, h => by
    obtain ⟨y, r, rfl, h1, h2⟩ := h
    exact ⟨x, r, rfl, q, h2⟩
  | _ :: _, _, i + 1, h => by
    obtain ⟨y, r, rfl, h1, h2⟩ := h
    exact ⟨y, r.set i x, rfl, h1, RepL.set q i h2⟩
theorem RepL.reverse : ∀ {ws : List W} {xs : List V}, RepL K H ws xs → RepL K H ws.reverse xs.reverse
  | [], _, h => by cases (show _ = [] from h); rfl
  | _ :: _, _, h => by
    obtain ⟨y, r, rfl, h1, h2⟩ := h
    rw [List.reverse_cons, List.reverse_cons]
    exact RepL.append (RepL.reverse h2) (.one h1)
theorem RepL.dropLast : ∀ {ws : List W} {xs : List V}, RepL K H ws xs → RepL K H ws.dropLast xs.dropLast := fun {ws xs} h => by
  rw [List.dropLast_eq_take, List.dropLast_eq_take, h.length]
  exact h.take _
theorem RepL.eraseIdx : ∀ {ws : List W} {xs : List V} (i : Nat), RepL K H ws xs → RepL K H (ws.eraseIdx i) (xs.eraseIdx i) := fun {ws xs} i h => by
  rw [List.eraseIdx_eq_take_drop_succ, List.eraseIdx_eq_take_drop_succ]
  exact (h.take i).append (h.drop (i + 1))
theorem RepL.ints {ns : List Int} : ∀ {xs : List V}, RepL K H (ns.map W.int) xs → xs = ns.map V.int := by
  induction ns with
  | nil => intro xs h; exact h
  | cons n ns ih =>
    intro xs h
    obtain ⟨x, r, rfl, h1, h2⟩ := h
    rw [show x = V.int n from h1, ih h2]
    rfl
theorem RepL.ofInts {ns : List Int} : RepL K H (ns.map W.int) (ns.map V.int) := by
  induction ns with
  | nil => rfl
  | cons n ns ih => exact ⟨_, _, rfl, rfl, ih⟩
theorem RepL.bls {ns : List Bool} : ∀ {xs : List V}, RepL K H (ns.map W.bl) xs → xs = ns.map V.bl := by
  induction ns with
  | nil => intro xs h; exact h
  | cons n ns ih =>
    intro xs h
    obtain ⟨x, r, rfl, h1, h2⟩ := h
    rw [show x = V.bl n from h1, ih h2]
    rfl
theorem RepL.strs {ns : List Str} : ∀ {xs : List V}, RepL K H (ns.map W.str) xs → xs = ns.map V.str := by
  induction ns with
  | nil => intro xs h; exact h
  | cons n ns ih =>
    intro xs h
    obtain ⟨x, r, rfl, h1, h2⟩ := h
    rw [show x = V.str n from h1, ih h2]
    rfl
theorem RepL.ofStrs {ns : List Str} : RepL K H (ns.map W.str) (ns.map V.str) := by
  induction ns with
  | nil => rfl
  | cons n ns ih => exact ⟨_, _, rfl, rfl, ih⟩
end

/-! ### the store -/
inductive Cell where
  | lst (ws : List W)
  | dk (kvs : List (Key × W))
  | ins (C : Addr) (fs : List (Str × W))
def RepKV {κ : Type} (K : PySem.W.Frag) (H : Hp) : List (κ × W) → List (κ × V) → Prop
  | [], ys => ys = []
  | p :: ps, ys => ∃ v r, ys = (p.1, v) :: r ∧ Rep K H p.2 v ∧ RepKV K H ps r
theorem RepKV.tk {κ : Type} {K : PySem.W.Frag} {H H' : Hp} (t : Tk H H') : ∀ (ps : List (κ × W)) (ys : List (κ × V)), RepKV K H ps ys → RepKV K H' ps ys
  | [], _, h => h
  | p :: ps, _, h => by
    obtain ⟨v, r, e, h1, h2⟩ := h
    exact ⟨v, r, e, Rep.tk t _ v h1, RepKV.tk t ps r h2⟩
def CRep (K : PySem.W.Frag) (H : Hp) (a : Addr) : Cell → Prop
  | .lst ws => ∃ xs, H a = some (.lst xs) ∧ RepL K H ws xs
  | .dk kvs => ∃ ys, H a = some (.dK ys) ∧ RepKV K H kvs ys
  | .ins C fs => ∃ dx gs, H a = some (.ins C dx gs) ∧ RepKV K H fs gs
abbrev Sto := Addr → Option Cell
def put (S : Sto) (a : Addr) (c : Cell) : Sto := fun b => if b = a then some c else S b
theorem put_same {S : Sto} {a : Addr} {c : Cell} : put S a c a = some c := by unfold put; rw [if_pos rfl]
theorem put_ne {S : Sto} {a b : Addr} {c : Cell} (h : b ≠ a) : put S a c b = S b := by unfold put; rw [if_neg h]
theorem put_put {S : Sto} {a : Addr} {c d : Cell} : put (put S a c) a d = put S a d := by
  funext b; unfold put; split <;> rfl
theorem put_comm {S : Sto} {a b : Addr} {c d : Cell} (h : a ≠ b) : put (put S a c) b d = put (put S b d) a c := by
  funext z; unfold put
  by_cases h1 : z = b
  · rw [if_pos h1]
    by_cases h2 : z = a
    · exact absurd (h2.symm.trans h1) h
    · rw [if_neg h2, if_pos h1]
  · rw [if_neg h1]
    by_cases h2 : z = a
    · rw [if_pos h2, if_pos h2]
    · rw [if_neg h2, if_neg h2, if_neg h1]
theorem put_self {S : Sto} {a : Addr} {c : Cell} (h : S a = some c) : put S a c = S := by
  funext z; unfold put
  by_cases h2 : z = a
  · rw [if_pos h2, h2, h]
  · rw [if_neg h2]
/-- a smaller store -/
def Sub (S S' : Sto) : Prop := ∀ a c, S a = some c → S' a = some c
theorem Sub.refl (S : Sto) : Sub S S := fun _ _ h => h
theorem Sub.trans {S S1 S2 : Sto} (a : Sub S S1) (b : Sub S1 S2) : Sub S S2 := fun x c h => b x c (a x c h)
theorem Sub.new {S : Sto} {p : Addr} {c : Cell} (h : S p = none) : Sub S (put S p c) := fun a d e => by
  by_cases q : a = p
  · rw [q, h] at e; cases e
  · rw [put_ne q]; exact e
theorem Sub.put {S S' : Sto} {p : Addr} {c : Cell} (h : Sub S S') : Sub (put S p c) (put S' p c) := fun a d e => by
  by_cases q : a = p
  · rw [q, put_same] at e ⊢; exact e
  · rw [put_ne q] at e ⊢; exact h a d e
/-- new in the greater, not spoken of in the smaller -/
theorem Sub.put_new {S S' : Sto} {p : Addr} {c : Cell} (h : Sub S S') (n : S p = none) : Sub S (Wl.put S' p c) := fun a d e => by
  by_cases q : a = p
  · rw [q, n] at e; cases e
  · rw [put_ne q]; exact h a d e
theorem Sub.free {S S' : Sto} {p : Addr} (h : Sub S S') (n : S' p = none) : S p = none := by
  cases q : S p with
  | none => rfl
  | some c => rw [h p c q] at n; cases n
def HRep (K : PySem.W.Frag) (H : Hp) (S : Sto) : Prop := ∀ a c, S a = some c → CRep K H a c
theorem CRep.some {K : PySem.W.Frag} {H : Hp} {a : Addr} {c : Cell} (h : CRep K H a c) : ∃ o, H a = some o ∧ (∀ xs, o ≠ .tup xs) ∧ (∀ ob u, o ≠ .frz ob u) := by
  cases c with
  | lst ws => obtain ⟨xs, e, _⟩ := h; exact ⟨_, e, fun _ z => (by cases z), fun _ _ z => (by cases z)⟩
  | dk ws => obtain ⟨xs, e, _⟩ := h; exact ⟨_, e, fun _ z => (by cases z), fun _ _ z => (by cases z)⟩
  | ins C ws => obtain ⟨dx, xs, e, _⟩ := h; exact ⟨_, e, fun _ z => (by cases z), fun _ _ z => (by cases z)⟩
theorem CRep.tk {K : PySem.W.Frag} {H H' : Hp} {a : Addr} {c : Cell} (t : Tk H H') (e : H' a = H a) (h : CRep K H a c) : CRep K H' a c := by
  cases c with
  | lst ws => obtain ⟨xs, q, r⟩ := h; exact ⟨xs, by rw [e]; exact q, RepL.tk t _ _ r⟩
  | dk ws => obtain ⟨xs, q, r⟩ := h; exact ⟨xs, by rw [e]; exact q, RepKV.tk t _ _ r⟩
  | ins C ws => obtain ⟨dx, xs, q, r⟩ := h; exact ⟨dx, xs, by rw [e]; exact q, RepKV.tk t _ _ r⟩
section
variable {K : PySem.W.Frag} {H H' : Hp} {S S' : Sto} {p : Addr} {o : HO} {c : Cell}
theorem HRep.fresh (h : HRep K H S) (n : H p = none) : S p = none := by
  cases q : S p with
  | none => rfl
  | some c =>
    obtain ⟨o, e, _⟩ := (h p c q).some
    rw [n] at e; cases e
theorem HRep.sub (h : HRep K H S') (s : Sub S S') : HRep K H S := fun a c e => h a c (s a c e)
theorem HRep.laid (h : HRep K H S) (n : H p = none) : HRep K (upd H p o) S := fun a c e => by
  obtain ⟨u, q, _⟩ := (h a c e).some
  exact (h a c e).tk (Tk.new n) (upd_ne (ne_of_none q n))
theorem HRep.new (h : HRep K H S) (n : H p = none) (hc : CRep K (upd H p o) p c) : HRep K (upd H p o) (put S p c) := fun a d e => by
  by_cases q : a = p
  · subst q; rw [put_same] at e; cases e; exact hc
  · rw [put_ne q] at e; exact h.laid n a d e
theorem HRep.mut {c' : Cell} (h : HRep K H S) (e : S p = some c) (hc : CRep K (upd H p o) p c') : Tk H (upd H p o) ∧ HRep K (upd H p o) (put S p c') := by
  obtain ⟨u, q, h1, h2⟩ := (h p c e).some
  have t : Tk H (upd H p o) := Tk.mut q h1 h2
  refine ⟨t, fun a d z => ?_⟩
  by_cases y : a = p
  · subst y; rw [put_same] at z; cases z; exact hc
  · rw [put_ne y] at z
    exact (h a d z).tk t (upd_ne y)
end

/-! ### the frame -/
abbrev StW := List (Option W)
structure SRep (K : PySem.W.Frag) (H : Hp) (σ : L2.St) (ρ : StW) : Prop where
  len : σ.length = ρ.length
  at_ : ∀ (i : Nat) (w : W), ρ[i]? = some (some w) → ∃ v, σ[i]? = some (some v) ∧ Rep K H w v
section
variable {K : PySem.W.Frag} {H H' : Hp} {σ : L2.St} {ρ : StW}
theorem SRep.tk (h : SRep K H σ ρ) (t : Tk H H') : SRep K H' σ ρ := ⟨h.len, fun i w e => by
  obtain ⟨v, e1, e2⟩ := h.at_ i w e
  exact ⟨v, e1, Rep.tk t w v e2⟩⟩
theorem SRep.set {w : W} {v : V} (h : SRep K H σ ρ) (i : Nat) (r : Rep K H w v) : SRep K H (σ.set i (some v)) (ρ.set i (some w)) := ⟨by rw [List.length_set, List.length_set, h.len], fun j z e => by
  by_cases q : i = j
  · subst q
    by_cases hl : i < ρ.length
    · rw [List.getElem?_set_self hl] at e
      cases e
      exact ⟨v, List.getElem?_set_self (by rw [h.len]; exact hl), r⟩
    · rw [List.getElem?_eq_none (by rw [List.length_set]; omega)] at e
      cases e
  · rw [List.getElem?_set_ne q] at e ⊢
    exact h.at_ j z e⟩
theorem SRep.init {N : List Str} {ws : List W} {vs : List V} (r : RepL K H ws vs) : SRep K H (L2.start N vs) (ws.map some ++ List.replicate (N.length - ws.length) none) := by
  have hl := r.length
  refine ⟨by unfold L2.start; simp [hl], fun i w e => ?_⟩
  unfold L2.start
  by_cases h : i < ws.length
  · rw [List.getElem?_append_left (by simpa using h), List.getElem?_map] at e
    cases q : ws[i]? with
    | none => rw [q] at e; cases e
    | some z =>
      rw [q] at e
      have e' : z = w := by injection e with e; injection e
      subst e'
      obtain ⟨x, hx, rx⟩ := r.get q
      refine ⟨x, ?_, rx⟩
      rw [List.getElem?_append_left (by simp [hl]; exact h), List.getElem?_map, hx]
      rfl
  · rw [List.getElem?_append_right (by simpa using h), List.getElem?_replicate] at e
    split at e <;> cases e
end
/-- the frame at a def's entry -/
def startW (N : List Str) (ws : List W) : StW := ws.map some ++ List.replicate (N.length - ws.length) none

/-! ### readings over data -/
abbrev WK := W → Sto → Prop
abbrev TEW := StW → Sto → WK → Prop
abbrev TTW := StW → Sto → (Bool → Sto → Prop) → Prop
abbrev TAW := StW → Sto → (List W → Sto → Prop) → Prop
abbrev TOW := StW → Sto → (Option Int → Sto → Prop) → Prop
abbrev RW2 := W → W → Sto → WK → Prop
abbrev RW1 := W → Sto → WK → Prop
abbrev RWC := List W → Sto → WK → Prop
structure EndsW where
  nx : StW → Sto → Prop
  rt : WK
  bk : StW → Sto → Prop := fun _ _ => False
  ct : StW → Sto → Prop := fun _ _ => False
abbrev TSW := EndsW → StW → Sto → Prop

def PoE (K : PySem.W.Frag) (H : Hp) (Q : VK) (Qw : WK) : Prop := ∀ v H' w S', Tk H H' → HRep K H' S' → Rep K H' w v → Qw w S' → Q v H'
def PoT (K : PySem.W.Frag) (H : Hp) (Q : Bool → Hp → Prop) (Qw : Bool → Sto → Prop) : Prop := ∀ b H' S', Tk H H' → HRep K H' S' → Qw b S' → Q b H'
def PoA (K : PySem.W.Frag) (H : Hp) (Q : List V → Hp → Prop) (Qw : List W → Sto → Prop) : Prop := ∀ vs H' ws S', Tk H H' → HRep K H' S' → RepL K H' ws vs → Qw ws S' → Q vs H'
def PoO (K : PySem.W.Frag) (H : Hp) (Q : Option Int → Hp → Prop) (Qw : Option Int → Sto → Prop) : Prop := ∀ b H' S', Tk H H' → HRep K H' S' → Qw b S' → Q b H'
def PoS (K : PySem.W.Frag) (H : Hp) (Q : L2.St → Hp → Prop) (Qw : StW → Sto → Prop) : Prop := ∀ σ' H' ρ' S', Tk H H' → SRep K H' σ' ρ' → HRep K H' S' → Qw ρ' S' → Q σ' H'
theorem PoE.tk {K : PySem.W.Frag} {H H1 : Hp} {Q : VK} {Qw : WK} (h : PoE K H Q Qw) (t : Tk H H1) : PoE K H1 Q Qw := fun v H' w S' t' => h v H' w S' (t.trans t')
theorem PoT.tk {K : PySem.W.Frag} {H H1 : Hp} {Q : Bool → Hp → Prop} {Qw : Bool → Sto → Prop} (h : PoT K H Q Qw) (t : Tk H H1) : PoT K H1 Q Qw := fun v H' S' t' => h v H' S' (t.trans t')
theorem PoA.tk {K : PySem.W.Frag} {H H1 : Hp} {Q : List V → Hp → Prop} {Qw : List W → Sto → Prop} (h : PoA K H Q Qw) (t : Tk H H1) : PoA K H1 Q Qw := fun v H' w S' t' => h v H' w S' (t.trans t')
theorem PoO.tk {K : PySem.W.Frag} {H H1 : Hp} {Q : Option Int → Hp → Prop} {Qw : Option Int → Sto → Prop} (h : PoO K H Q Qw) (t : Tk H H1) : PoO K H1 Q Qw := fun v H' S' t' => h v H' S' (t.trans t')
theorem PoS.tk {K : PySem.W.Frag} {H H1 : Hp} {Q : L2.St → Hp → Prop} {Qw : StW → Sto → Prop} (h : PoS K H Q Qw) (t : Tk H H1) : PoS K H1 Q Qw := fun v H' w S' t' => h v H' w S' (t.trans t')
section
variable {K : PySem.W.Frag} {H H1 : Hp} {S : Sto} {Q : VK} {Qw : WK}
theorem PoE.int {i : Int} (po : PoE K H Q Qw) (t : Tk H H1) (hh : HRep K H1 S) (q : Qw (.int i) S) : Q (.int i) H1 := po _ H1 (.int i) S t hh rfl q
theorem PoE.str {i : Str} (po : PoE K H Q Qw) (t : Tk H H1) (hh : HRep K H1 S) (q : Qw (.str i) S) : Q (.str i) H1 := po _ H1 (.str i) S t hh rfl q
theorem PoE.bl {i : Bool} (po : PoE K H Q Qw) (t : Tk H H1) (hh : HRep K H1 S) (q : Qw (.bl i) S) : Q (.bl i) H1 := po _ H1 (.bl i) S t hh rfl q
theorem PoE.non (po : PoE K H Q Qw) (t : Tk H H1) (hh : HRep K H1 S) (q : Qw .non S) : Q .non H1 := po _ H1 .non S t hh rfl q
theorem PoE.ref {a : Addr} (po : PoE K H Q Qw) (t : Tk H H1) (hh : HRep K H1 S) (q : Qw (.ref a) S) : Q (.ref a) H1 := po _ H1 (.ref a) S t hh rfl q
theorem PoE.tup {a : Addr} {xs : List V} {ws : List W} (po : PoE K H Q Qw) (t : Tk H H1) (hh : HRep K H1 S) (h : SqT K H1 a xs) (r : RepL K H1 ws xs) (q : Qw (.tup ws) S) : Q (.ref a) H1 := po _ H1 (.tup ws) S t hh ⟨a, xs, rfl, h, r⟩ q
/-- a new list -/
theorem PoE.nlst {p : Addr} {xs : List V} {ws : List W} (po : PoE K H Q Qw) (hp : H p = none) (hh : HRep K H S) (r : RepL K H ws xs) (q : ∀ p, S p = none → Qw (.ref p) (Wl.put S p (.lst ws))) : Q (.ref p) (upd H p (.lst xs)) :=
  po.ref (Tk.new hp) (hh.new (c := .lst ws) hp ⟨xs, upd_same, RepL.tk (Tk.new hp) _ _ r⟩) (q p (hh.fresh hp))
theorem PoE.ntup {p : Addr} {xs : List V} {ws : List W} (po : PoE K H Q Qw) (hp : H p = none) (hh : HRep K H S) (r : RepL K H ws xs) (q : Qw (.tup ws) S) : Q (.ref p) (upd H p (.tup xs)) :=
  po.tup (Tk.new hp) (hh.laid hp) (SqT.of upd_same) (RepL.tk (Tk.new hp) _ _ r) q
end
structure PoD (K : PySem.W.Frag) (H : Hp) (D : Ends) (Dw : EndsW) : Prop where
  nx : PoS K H D.nx Dw.nx
  bk : PoS K H D.bk Dw.bk
  ct : PoS K H D.ct Dw.ct
  rt : PoE K H D.rt Dw.rt
theorem PoD.tk {K : PySem.W.Frag} {H H1 : Hp} {D : Ends} {Dw : EndsW} (h : PoD K H D Dw) (t : Tk H H1) : PoD K H1 D Dw := ⟨h.nx.tk t, h.bk.tk t, h.ct.tk t, h.rt.tk t⟩

class LE (K : PySem.W.Frag) (t : TE) (tw : outParam TEW) : Prop where
  l : ∀ σ H ρ S Q Qw, SRep K H σ ρ → HRep K H S → tw ρ S Qw → PoE K H Q Qw → t σ H Q
class LT (K : PySem.W.Frag) (t : TT) (tw : outParam TTW) : Prop where
  l : ∀ σ H ρ S Q Qw, SRep K H σ ρ → HRep K H S → tw ρ S Qw → PoT K H Q Qw → t σ H Q
class LA (K : PySem.W.Frag) (t : TA) (tw : outParam TAW) : Prop where
  l : ∀ σ H ρ S Q Qw, SRep K H σ ρ → HRep K H S → tw ρ S Qw → PoA K H Q Qw → t σ H Q
class LO (K : PySem.W.Frag) (t : TO) (tw : outParam TOW) : Prop where
  l : ∀ σ H ρ S Q Qw, SRep K H σ ρ → HRep K H S → tw ρ S Qw → PoO K H Q Qw → t σ H Q
class LS (K : PySem.W.Frag) (t : TS) (tw : outParam TSW) : Prop where
  l : ∀ σ H ρ S D Dw, SRep K H σ ρ → HRep K H S → tw Dw ρ S → PoD K H D Dw → t D σ H
class L2R (K : PySem.W.Frag) (r : R2) (rw : outParam RW2) : Prop where
  l : ∀ H S x y wx wy Q Qw, HRep K H S → Rep K H wx x → Rep K H wy y → rw wx wy S Qw → PoE K H Q Qw → r x y H Q
class L1R (K : PySem.W.Frag) (r : V → Hp → VK → Prop) (rw : outParam RW1) : Prop where
  l : ∀ H S x wx Q Qw, HRep K H S → Rep K H wx x → rw wx S Qw → PoE K H Q Qw → r x H Q
class LCR (K : PySem.W.Frag) (r : List V → Hp → VK → Prop) (rw : outParam RWC) : Prop where
  l : ∀ H S xs ws Q Qw, HRep K H S → RepL K H ws xs → rw ws S Qw → PoE K H Q Qw → r xs H Q
class LMR (K : PySem.W.Frag) (r : V → List V → Hp → VK → Prop) (rw : outParam (W → List W → Sto → WK → Prop)) : Prop where
  l : ∀ H S x wx xs ws Q Qw, HRep K H S → Rep K H wx x → RepL K H ws xs → rw wx ws S Qw → PoE K H Q Qw → r x xs H Q
abbrev TGW := W → StW → Sto → (StW → Sto → Prop) → Prop
abbrev TGWs := List W → StW → Sto → (StW → Sto → Prop) → Prop
class LG (K : PySem.W.Frag) (g : TG) (gw : outParam TGW) : Prop where
  l : ∀ v w σ H ρ S Q Qw, Rep K H w v → SRep K H σ ρ → HRep K H S → gw w ρ S Qw → PoS K H Q Qw → g v σ H Q
class LGs (K : PySem.W.Frag) (g : TGs) (gw : outParam TGWs) : Prop where
  l : ∀ v w σ H ρ S Q Qw, RepL K H w v → SRep K H σ ρ → HRep K H S → gw w ρ S Qw → PoS K H Q Qw → g v σ H Q
end Wl
set_option Elab.async false
set_option linter.all false
set_option maxRecDepth 100000
set_option maxHeartbeats 2000000
namespace Wl
open PySem L2
variable {K : PySem.W.Frag}

/-! ### names, constants -/
class KR (K : PySem.W.Frag) (v : V) (w : outParam W) : Prop where
  r : ∀ H, Rep K H w v
instance kr_non : KR K .non .non := ⟨fun _ => rfl⟩
instance kr_bl {b : Bool} : KR K (.bl b) (.bl b) := ⟨fun _ => rfl⟩
instance kr_int {i : Int} : KR K (.int i) (.int i) := ⟨fun _ => rfl⟩
instance kr_str {x : Str} : KR K (.str x) (.str x) := ⟨fun _ => rfl⟩
instance kr_ty {n : String} : KR K (.ty n) (.ty n) := ⟨fun _ => rfl⟩

def rdVar (o : Option (Option W)) (S : Sto) (Q : WK) : Prop := match o with
  | some (some w) => Q w S
  | _ => False
def wVar (i : Nat) : TEW := fun ρ S Q => rdVar ρ[i]? S Q
def wC (w : W) : TEW := fun _ S Q => Q w S
instance le_var {i : Nat} : LE K (tVar i) (wVar i) := ⟨fun σ H ρ S Q Qw hs hh q po => by
  obtain ⟨w, e, q⟩ : ∃ w, ρ[i]? = some (some w) ∧ Qw w S := by
    unfold wVar rdVar at q
    split at q
    · rename_i w e
      exact ⟨w, e, q⟩
    · exact q.elim
  obtain ⟨v, e1, r⟩ := hs.at_ i w e
  exact ⟨v, e1, po v H w S (Tk.refl H) hh r q⟩⟩
instance le_c {v : V} {w : W} [k : KR K v w] : LE K (tC v) (wC w) := ⟨fun σ H ρ S Q Qw _ hh q po => po v H w S (Tk.refl H) hh (k.r H) q⟩

/-! ### operators -/
def wOp (r : RW2) (ta tb : TEW) : TEW := fun ρ S Q => ta ρ S fun x S1 => tb ρ S1 fun y S2 => r x y S2 Q
def wUn (r : RW1) (ta : TEW) : TEW := fun ρ S Q => ta ρ S fun x S1 => r x S1 Q
instance le_op {r : R2} {ta tb : TE} {rw : RW2} {wa wb : TEW} [h : L2R K r rw] [a : LE K ta wa] [b : LE K tb wb] : LE K (tOp r ta tb) (wOp rw wa wb) := ⟨fun σ H ρ S Q Qw hs hh q po =>
  a.l σ H ρ S _ _ hs hh q fun x H1 wx S1 t1 hh1 r1 q1 => b.l σ H1 ρ S1 _ _ (hs.tk t1) hh1 q1 fun y H2 wy S2 t2 hh2 r2 q2 =>
    h.l H2 S2 x y wx wy Q Qw hh2 (Rep.tk t2 _ _ r1) r2 q2 (po.tk (t1.trans t2))⟩
instance le_un {r : V → Hp → VK → Prop} {ta : TE} {rw : RW1} {wa : TEW} [h : L1R K r rw] [a : LE K ta wa] : LE K (tUn r ta) (wUn rw wa) := ⟨fun σ H ρ S Q Qw hs hh q po =>
  a.l σ H ρ S _ _ hs hh q fun x H1 wx S1 t1 hh1 r1 q1 => h.l H1 S1 x wx Q Qw hh1 r1 q1 (po.tk t1)⟩

/-! a + b -/
def rAddA (K : PySem.W.Frag) : R2 := fun x y H Q => rI0 (fun i j => .int (i + j)) x y H Q ∨ (∃ i j, x = .str i ∧ y = .str j ∧ i.length + j.length ≤ sizeLine ∧ Q (.str (i ++ j)) H) ∨ rCatT K x y H Q ∨ rCat x y H Q
theorem op_addA {X : Cx} : OpR X (binaryOp .Add) (rAddA X.K) := by
  intro pins s σ H x y v u Q I rx ry h
  rcases h with h | h | h | h
  · exact op_add pins s σ H x y v u Q I rx ry h
  · exact op_add_str pins s σ H x y v u Q I rx ry h
  · exact op_catT pins s σ H x y v u Q I rx ry h
  · exact op_cat pins s σ H x y v u Q I rx ry h
def wAdd : RW2 := fun x y S Q => match x, y with
  | .int i, .int j => Q (.int (i + j)) S
  | .str i, .str j => i.length + j.length ≤ sizeLine ∧ Q (.str (i ++ j)) S
  | .tup a, .tup b => a ≠ [] ∧ a.length + b.length ≤ sizeLine ∧ Q (.tup (a ++ b)) S
  | .ref a, .ref b => ∃ xs ys, S a = some (.lst xs) ∧ S b = some (.lst ys) ∧ xs.length + ys.length ≤ sizeLine ∧ ∀ p, S p = none → Q (.ref p) (put S p (.lst (xs ++ ys)))
  | _, _ => False
instance l2_add : L2R K (rAddA K) wAdd := ⟨fun H S x y wx wy Q Qw hh rx ry q po => by
  cases wx <;> cases wy <;> try exact q.elim
  · cases (show x = _ from rx); cases (show y = _ from ry)
    exact .inl ⟨_, _, rfl, rfl, po.int (Tk.refl H) hh q⟩
  · cases (show x = _ from rx); cases (show y = _ from ry)
    exact .inr (.inl ⟨_, _, rfl, rfl, q.1, po.str (Tk.refl H) hh q.2⟩)
  · cases (show x = _ from rx); cases (show y = _ from ry)
    obtain ⟨xs, ys, e1, e2, hl, q⟩ := q
    obtain ⟨as, h1, r1⟩ := hh _ _ e1
    obtain ⟨bs, h2, r2⟩ := hh _ _ e2
    refine .inr (.inr (.inr ⟨_, _, as, bs, rfl, rfl, h1, h2, by rw [r1.length, r2.length]; exact hl, fun p hp => ?_⟩))
    exact po.nlst hp hh (r1.append r2) q
  · obtain ⟨a, as, rfl, h1, r1⟩ := (show ∃ a xs, x = .ref a ∧ _ from rx)
    obtain ⟨b, bs, rfl, h2, r2⟩ := (show ∃ a xs, y = .ref a ∧ _ from ry)
    obtain ⟨hn, hl, q⟩ := q
    refine .inr (.inr (.inl ⟨a, b, as, bs, rfl, rfl, h1, h2, fun z => ?_, by rw [r1.length, r2.length]; exact hl, fun z => ?_, fun z p hp => ?_⟩))
    · subst z
      have := r1.length
      exact hn (List.length_eq_zero_iff.mp (by simpa using this.symm))
    · subst z
      have e : _ = [] := List.length_eq_zero_iff.mp (by simpa using (r2.length).symm)
      rw [e, List.append_nil] at q
      exact po.tup (Tk.refl H) hh h1 r1 q
    · exact po.ntup hp hh (r1.append r2) q⟩

/-! ints -/
def wII (f : Int → Int → Int) : RW2 := fun x y S Q => match x, y with
  | .int i, .int j => Q (.int (f i j)) S
  | _, _ => False
def wIC (C : Int → Int → Prop) (f : Int → Int → Int) : RW2 := fun x y S Q => match x, y with
  | .int i, .int j => C i j ∧ Q (.int (f i j)) S
  | _, _ => False
instance l2_ii {f : Int → Int → Int} : L2R K (rI0 fun i j => .int (f i j)) (wII f) := ⟨fun H S x y wx wy Q Qw hh rx ry q po => by
  cases wx <;> cases wy <;> try exact q.elim
  cases (show x = _ from rx); cases (show y = _ from ry)
  exact ⟨_, _, rfl, rfl, po.int (Tk.refl H) hh q⟩⟩
instance l2_ic {C : Int → Int → Prop} {f : Int → Int → Int} : L2R K (rI C fun i j => .int (f i j)) (wIC C f) := ⟨fun H S x y wx wy Q Qw hh rx ry q po => by
  cases wx <;> cases wy <;> try exact q.elim
  cases (show x = _ from rx); cases (show y = _ from ry)
  exact ⟨_, _, rfl, rfl, q.1, po.int (Tk.refl H) hh q.2⟩⟩
def CMulA (i j : Int) : Prop := CMul i j ∨ CMulW i j
def CDivA (i j : Int) : Prop := CDiv i j ∨ CDivW i j
theorem op_mulA {X : Cx} : OpR X (binaryOp .Mult) (rI CMulA fun i j => .int (i * j)) := by
  rintro pins s σ H x y v u Q I rx ry ⟨i, j, e1, e2, h | h, q⟩
  · exact op_mul pins s σ H x y v u Q I rx ry ⟨i, j, e1, e2, h, q⟩
  · exact op_mulW pins s σ H x y v u Q I rx ry ⟨i, j, e1, e2, h, q⟩
theorem op_fdivA {X : Cx} : OpR X (binaryOp .FloorDiv) (rI CDivA fun i j => .int (i / j)) := by
  rintro pins s σ H x y v u Q I rx ry ⟨i, j, e1, e2, h | h, q⟩
  · exact op_fdiv pins s σ H x y v u Q I rx ry ⟨i, j, e1, e2, h, q⟩
  · exact op_fdivW pins s σ H x y v u Q I rx ry ⟨i, j, e1, e2, h, q⟩
def wNeg : RW1 := fun x S Q => match x with
  | .int i => Q (.int (-i)) S
  | _ => False
instance l1_neg : L1R K (rU fun i => .int (-i)) wNeg := ⟨fun H S x wx Q Qw hh rx q po => by
  cases wx <;> try exact q.elim
  cases (show x = _ from rx)
  exact ⟨_, rfl, po.int (Tk.refl H) hh q⟩⟩

/-! ### comparisons -/
mutual
def datW : W → Bool
  | .non => true | .bl _ => true | .int _ => true | .str _ => true
  | .tup ws => datWs ws | .rl ws => datWs ws
  | .ref _ => false | .ty _ => false
def datWs : List W → Bool
  | [] => true
  | w :: ws => datW w && datWs ws
end
mutual
def toD : W → PyData
  | .non => .none | .bl b => .bool b | .int i => .int i | .str x => .str x
  | .tup ws => .tuple (toDs ws) | .rl ws => .list (toDs ws)
  | .ref _ => .none | .ty _ => .none
def toDs : List W → List PyData
  | [] => []
  | w :: ws => toD w :: toDs ws
end
mutual
theorem dp_of {H : Hp} : ∀ (w : W) (v : V), datW w = true → Rep K H w v → Dp K H v (toD w)
  | .non, _, _, h => by cases (show _ = _ from h); exact .non
  | .bl b, _, _, h => by cases (show _ = _ from h); exact .bl b
  | .int i, _, _, h => by cases (show _ = _ from h); exact .int i
  | .str x, _, _, h => by cases (show _ = _ from h); exact .str x
  | .tup ws, _, d, h => by
    obtain ⟨a, xs, rfl, h1, h2⟩ := h
    exact .tup h1 (dps_of ws xs (by unfold datW at d; exact d) h2)
  | .rl ws, _, d, h => by
    obtain ⟨a, xs, rfl, h1, h2⟩ := h
    exact .lst h1.sq (dps_of ws xs (by unfold datW at d; exact d) h2)
  | .ref _, _, d, _ => by unfold datW at d; cases d
  | .ty _, _, d, _ => by unfold datW at d; cases d
theorem dps_of {H : Hp} : ∀ (ws : List W) (xs : List V), datWs ws = true → RepL K H ws xs → DpAll K H xs (toDs ws)
  | [], _, _, h => by cases (show _ = [] from h); exact .nil
  | w :: ws, _, d, h => by
    obtain ⟨x, r, rfl, h1, h2⟩ := h
    unfold datWs at d
    rw [Bool.and_eq_true] at d
    exact .cons (dp_of w x d.1 h1) (dps_of ws r d.2 h2)
end
def rEqA (K : PySem.W.Frag) : R2 := fun x y H Q => rEq x y H Q ∨ rEqD K x y H Q
def rNeA (K : PySem.W.Frag) : R2 := fun x y H Q => rNe x y H Q ∨ rNeD K x y H Q
theorem op_eqA {X : Cx} (hu : X.A.units + 64 < cLine) : OpR X (compareOp .Eq) (rEqA X.K) := by
  intro pins s σ H x y v u Q I rx ry h
  rcases h with h | h
  · exact op_eq pins s σ H x y v u Q I rx ry h
  · exact op_eqD hu pins s σ H x y v u Q I rx ry h
theorem op_neA {X : Cx} (hu : X.A.units + 64 < cLine) : OpR X (compareOp .NotEq) (rNeA X.K) := by
  intro pins s σ H x y v u Q I rx ry h
  rcases h with h | h
  · exact op_ne pins s σ H x y v u Q I rx ry h
  · exact op_neD hu pins s σ H x y v u Q I rx ry h
def shW (x : W) : Prop := datW x = true ∧ SeqAt.shaped (toD x) = true
/-- a == b: the answer goes to k -/
def wEqK (x y : W) (S : Sto) (k : Bool → Prop) : Prop := match x, y with
  | .int i, .int j => k (decide (i = j))
  | .str i, .str j => k (decide (i = j))
  | .bl i, .bl j => k (decide (i = j))
  | .non, .non => k true
  | .non, .int _ => k false
  | .int _, .non => k false
  | .non, .str _ => k false
  | .str _, .non => k false
  | .non, .bl _ => k false
  | .bl _, .non => k false
  | .int _, .str _ => k false
  | .str _, .int _ => k false
  | .ref a, .ref b => ∃ xs ys, S a = some (.lst xs) ∧ S b = some (.lst ys) ∧ shW (.rl xs) ∧ shW (.rl ys) ∧ k (PyData.eqvAll (toDs xs) (toDs ys))
  | x, y => shW x ∧ shW y ∧ k (PyData.eqv (toD x) (toD y))
def wEq : RW2 := fun x y S Q => wEqK x y S fun b => Q (.bl b) S
def wNe : RW2 := fun x y S Q => wEqK x y S fun b => Q (.bl (!b)) S
theorem eqK_of {H : Hp} {S : Sto} {x y : V} {wx wy : W} {k : Bool → Prop} (hh : HRep K H S) (rx : Rep K H wx x) (ry : Rep K H wy y) (q : wEqK wx wy S k) :
    (∃ b, scal x y = true ∧ decide (x = y) = b ∧ k b) ∨ ∃ d e, Dp K H x d ∧ Dp K H y e ∧ SeqAt.shaped d = true ∧ SeqAt.shaped e = true ∧ k (PyData.eqv d e) := by
  have gen : shW wx ∧ shW wy ∧ k (PyData.eqv (toD wx) (toD wy)) → ∃ d e, Dp K H x d ∧ Dp K H y e ∧ SeqAt.shaped d = true ∧ SeqAt.shaped e = true ∧ k (PyData.eqv d e) :=
    fun ⟨h1, h2, h3⟩ => ⟨_, _, dp_of _ _ h1.1 rx, dp_of _ _ h2.1 ry, h1.2, h2.2, h3⟩
  cases wx <;> cases wy <;> first
    | exact .inr (gen q)
    | (cases (show x = _ from rx); cases (show y = _ from ry); refine .inl ⟨_, rfl, ?_, q⟩; first | rfl | (rw [dec_int]; rw [Bool.eq_iff_iff]; simp) | (rw [dec_str]; rw [Bool.eq_iff_iff]; simp) | (rw [dec_bl]; rw [Bool.eq_iff_iff]; simp))
    | skip
  · obtain ⟨xs, ys, e1, e2, h1, h2, q⟩ := q
    cases (show x = _ from rx); cases (show y = _ from ry)
    obtain ⟨as, g1, r1⟩ := hh _ _ e1
    obtain ⟨bs, g2, r2⟩ := hh _ _ e2
    refine .inr ⟨.list (toDs xs), .list (toDs ys), .lst (SqL.of g1) (dps_of _ _ ?_ r1), .lst (SqL.of g2) (dps_of _ _ ?_ r2), h1.2, h2.2, ?_⟩
    · have := h1.1; unfold datW at this; exact this
    · have := h2.1; unfold datW at this; exact this
    · rw [show PyData.eqv (.list (toDs xs)) (.list (toDs ys)) = PyData.eqvAll (toDs xs) (toDs ys) by first | rfl | simp [PyData.eqv]]
      exact q
instance l2_eq : L2R K (rEqA K) wEq := ⟨fun H S x y wx wy Q Qw hh rx ry q po => by
  rcases eqK_of hh rx ry q with ⟨b, e, e2, q⟩ | ⟨d, e, h1, h2, h3, h4, q⟩
  · exact .inl ⟨e, by rw [e2]; exact po.bl (Tk.refl H) hh q⟩
  · exact .inr ⟨d, e, h1, h2, h3, h4, po.bl (Tk.refl H) hh q⟩⟩
instance l2_ne : L2R K (rNeA K) wNe := ⟨fun H S x y wx wy Q Qw hh rx ry q po => by
  rcases eqK_of hh rx ry q with ⟨b, e, e2, q⟩ | ⟨d, e, h1, h2, h3, h4, q⟩
  · exact .inl ⟨e, by rw [e2]; exact po.bl (Tk.refl H) hh q⟩
  · exact .inr ⟨d, e, h1, h2, h3, h4, po.bl (Tk.refl H) hh q⟩⟩
/-- orders: ints, texts -/
def rOrd (p : Int → Int → Bool) (s : Str → Str → Bool) : R2 := fun x y H Q => (∃ i j, x = .int i ∧ y = .int j ∧ Q (.bl (p i j)) H) ∨ ∃ i j, x = .str i ∧ y = .str j ∧ Q (.bl (s i j)) H
def wOrd (p : Int → Int → Bool) (s : Str → Str → Bool) : RW2 := fun x y S Q => match x, y with
  | .int i, .int j => Q (.bl (p i j)) S
  | .str i, .str j => Q (.bl (s i j)) S
  | _, _ => False
instance l2_ord {p : Int → Int → Bool} {s : Str → Str → Bool} : L2R K (rOrd p s) (wOrd p s) := ⟨fun H S x y wx wy Q Qw hh rx ry q po => by
  cases wx <;> cases wy <;> try exact q.elim
  · cases (show x = _ from rx); cases (show y = _ from ry)
    exact .inl ⟨_, _, rfl, rfl, po.bl (Tk.refl H) hh q⟩
  · cases (show x = _ from rx); cases (show y = _ from ry)
    exact .inr ⟨_, _, rfl, rfl, po.bl (Tk.refl H) hh q⟩⟩
abbrev sLt (i j : Str) : Bool := decide (i.cps.toList < j.cps.toList)
theorem op_ltA {X : Cx} : OpR X (compareOp .Lt) (rOrd (fun i j => decide (i < j)) fun i j => sLt i j) := by
  intro pins s σ H x y v u Q I rx ry h
  rcases h with h | h
  · exact op_lt pins s σ H x y v u Q I rx ry h
  · exact op_lt_str pins s σ H x y v u Q I rx ry h
theorem op_leA {X : Cx} : OpR X (compareOp .LtE) (rOrd (fun i j => decide (i ≤ j)) fun i j => !sLt j i) := by
  intro pins s σ H x y v u Q I rx ry h
  rcases h with h | h
  · exact op_le pins s σ H x y v u Q I rx ry h
  · exact op_le_str pins s σ H x y v u Q I rx ry h
theorem op_gtA {X : Cx} : OpR X (compareOp .Gt) (rOrd (fun i j => decide (j < i)) fun i j => sLt j i) := by
  intro pins s σ H x y v u Q I rx ry h
  rcases h with h | h
  · exact op_gt pins s σ H x y v u Q I rx ry h
  · exact op_gt_str pins s σ H x y v u Q I rx ry h
theorem op_geA {X : Cx} : OpR X (compareOp .GtE) (rOrd (fun i j => decide (j ≤ i)) fun i j => !sLt i j) := by
  intro pins s σ H x y v u Q I rx ry h
  rcases h with h | h
  · exact op_ge pins s σ H x y v u Q I rx ry h
  · exact op_ge_str pins s σ H x y v u Q I rx ry h

/-! in -/
def flatW : W → Bool
  | .non => true | .bl _ => true | .int _ => true | .str _ => true
  | _ => false
def eqF : W → W → Bool
  | .non, .non => true
  | .bl a, .bl b => a == b
  | .bl a, .int b => (if a then 1 else 0) == b
  | .int a, .bl b => a == (if b then 1 else 0)
  | .int a, .int b => a == b
  | .str a, .str b => a == b
  | _, _ => false
def isInW (x : W) (ws : List W) : Bool := ws.any fun y => eqF y x
theorem flat_of {H : Hp} {w : W} {v : V} (r : Rep K H w v) (f : flatW w = true) : flatV v = true := by
  cases w <;> try (cases f)
  all_goals (cases (show v = _ from r); rfl)
theorem flats_of {H : Hp} : ∀ {ws : List W} {xs : List V}, RepL K H ws xs → ws.all flatW = true → xs.all flatV = true
  | [], _, h, _ => by cases (show _ = [] from h); rfl
  | w :: ws, _, h, f => by
    obtain ⟨x, r, rfl, h1, h2⟩ := h
    rw [List.all_cons, Bool.and_eq_true] at f ⊢
    exact ⟨flat_of h1 f.1, flats_of h2 f.2⟩
theorem eqF_of {H : Hp} {w z : W} {v x : V} (r : Rep K H w v) (f : flatW w = true) (r2 : Rep K H z x) (g : flatW z = true) : eqV v x = eqF w z := by
  cases w <;> cases z <;> first
    | (cases f; done)
    | (cases g; done)
    | (cases (show v = _ from r); cases (show x = _ from r2); rfl)
theorem isIn_of {H : Hp} {z : W} {x : V} (r2 : Rep K H z x) (g : flatW z = true) : ∀ {ws : List W} {xs : List V}, RepL K H ws xs → ws.all flatW = true → inV x xs = isInW z ws
  | [], _, h, _ => by cases (show _ = [] from h); rfl
  | w :: ws, _, h, f => by
    obtain ⟨y, r, rfl, h1, h2⟩ := h
    rw [List.all_cons, Bool.and_eq_true] at f
    have ih := isIn_of r2 g h2 f.2
    unfold inV isInW at ih ⊢
    rw [List.any_cons, List.any_cons, eqF_of h1 f.1 r2 g, ih]
def rInA (K : PySem.W.Frag) (neg : Bool) : R2 := fun x y H Q => rIn K neg x y H Q ∨ ∃ i j, x = .str i ∧ y = .str j ∧ Q (.bl (if neg then !(!(Builtin.Str.occurrences j i 0 j.length 1).isEmpty) else !(Builtin.Str.occurrences j i 0 j.length 1).isEmpty)) H
theorem op_inA {X : Cx} : OpR X (compareOp .In) (rInA X.K false) := by
  intro pins s σ H x y v u Q I rx ry h
  rcases h with h | h
  · exact op_in_seq pins s σ H x y v u Q I rx ry h
  · exact op_in_str pins s σ H x y v u Q I rx ry h
theorem op_notInA {X : Cx} : OpR X (compareOp .NotIn) (rInA X.K true) := by
  intro pins s σ H x y v u Q I rx ry h
  rcases h with h | h
  · exact op_notIn_seq pins s σ H x y v u Q I rx ry h
  · exact op_notin_str pins s σ H x y v u Q I rx ry h
def wInK (x y : W) (S : Sto) (k : Bool → Prop) : Prop := match x, y with
  | .str i, .str j => k (!(Builtin.Str.occurrences j i 0 j.length 1).isEmpty)
  | x, .tup ws => flatW x = true ∧ ws.all flatW = true ∧ k (isInW x ws)
  | x, .rl ws => flatW x = true ∧ ws.all flatW = true ∧ k (isInW x ws)
  | x, .ref a => flatW x = true ∧ ∃ ws, S a = some (.lst ws) ∧ ws.all flatW = true ∧ k (isInW x ws)
  | _, _ => False
def wIn (neg : Bool) : RW2 := fun x y S Q => wInK x y S fun b => Q (.bl (if neg then !b else b)) S
instance l2_in {neg : Bool} : L2R K (rInA K neg) (wIn neg) := ⟨fun H S x y wx wy Q Qw hh rx ry q po => by
  have go : ∀ {p : Addr} {xs : List V} {ws : List W}, y = .ref p → (SqL K H p xs ∨ SqT K H p xs) → RepL K H ws xs → flatW wx = true → ws.all flatW = true → Qw (.bl (if neg then !isInW wx ws else isInW wx ws)) S → rInA K neg x y H Q :=
    fun {p xs ws} e h r f g q => .inl ⟨p, xs, e, h, flat_of rx f, flats_of r g, by rw [isIn_of rx f r g]; exact po.bl (Tk.refl H) hh q⟩
  have tup : ∀ {ws : List W}, Rep K H (.tup ws) y → (flatW wx = true ∧ ws.all flatW = true ∧ Qw (.bl (if neg then !isInW wx ws else isInW wx ws)) S) → rInA K neg x y H Q := fun {ws} r q => by
    obtain ⟨a, xs, e, h1, h2⟩ := r
    exact go e (.inr h1) h2 q.1 q.2.1 q.2.2
  have rl : ∀ {ws : List W}, Rep K H (.rl ws) y → (flatW wx = true ∧ ws.all flatW = true ∧ Qw (.bl (if neg then !isInW wx ws else isInW wx ws)) S) → rInA K neg x y H Q := fun {ws} r q => by
    obtain ⟨a, xs, e, h1, h2⟩ := r
    exact go e (.inl h1.sq) h2 q.1 q.2.1 q.2.2
  have ref : ∀ {a : Addr}, Rep K H (.ref a) y → (flatW wx = true ∧ ∃ ws, S a = some (.lst ws) ∧ ws.all flatW = true ∧ Qw (.bl (if neg then !isInW wx ws else isInW wx ws)) S) → rInA K neg x y H Q := fun {a} r q => by
    obtain ⟨f, ws, e, g, q⟩ := q
    obtain ⟨xs, h1, h2⟩ := hh _ _ e
    exact go r (.inl (SqL.of h1)) h2 f g q
  cases wx <;> cases wy <;> first
    | exact q.elim
    | exact tup ry q
    | exact rl ry q
    | exact ref ry q
    | (cases (show x = _ from rx); cases (show y = _ from ry)
       refine .inr ⟨_, _, rfl, rfl, ?_⟩
       cases neg <;> exact po.bl (Tk.refl H) hh q)⟩

/-! chains -/
def wChain (r r' : RW2) (ta tb tc : TEW) : TEW := fun ρ S Q => ta ρ S fun x S1 => tb ρ S1 fun y S2 => r x y S2 fun z S3 => match z with
  | .bl k => (k = true → tc ρ S3 fun w S4 => r' y w S4 Q) ∧ (k = false → Q (.bl false) S3)
  | _ => False
instance le_chain {r r' : R2} {ta tb tc : TE} {rw rw' : RW2} {wa wb wc : TEW} [h : L2R K r rw] [h' : L2R K r' rw'] [a : LE K ta wa] [b : LE K tb wb] [c : LE K tc wc] : LE K (tChain r r' ta tb tc) (wChain rw rw' wa wb wc) := ⟨fun σ H ρ S Q Qw hs hh q po =>
  a.l σ H ρ S _ _ hs hh q fun x H1 wx S1 t1 hh1 r1 q1 => b.l σ H1 ρ S1 _ _ (hs.tk t1) hh1 q1 fun y H2 wy S2 t2 hh2 r2 q2 =>
    h.l H2 S2 x y wx wy _ _ hh2 (Rep.tk t2 _ _ r1) r2 q2 fun z H3 wz S3 t3 hh3 r3 q3 => by
      cases wz <;> try exact q3.elim
      rename_i k
      cases (show z = _ from r3)
      refine ⟨k, rfl, ?_⟩
      cases k with
      | true =>
        rw [if_pos rfl]
        exact c.l σ H3 ρ S3 _ _ (hs.tk ((t1.trans t2).trans t3)) hh3 (q3.1 rfl) fun w H4 ww S4 t4 hh4 r4 q4 => h'.l H4 S4 y w wy ww Q Qw hh4 (Rep.tk (t3.trans t4) _ _ r2) r4 q4 (po.tk (((t1.trans t2).trans t3).trans t4))
      | false =>
        rw [if_neg Bool.false_ne_true]
        exact po.bl ((t1.trans t2).trans t3) hh3 (q3.2 rfl)⟩

/-! ### tests -/
def wT (t : TEW) : TTW := fun ρ S Q => t ρ S fun x S1 => match x with
  | .bl k => Q k S1
  | _ => False
instance lt_test {t : TE} {tw : TEW} [a : LE K t tw] : LT K (tTest t) (wT tw) := ⟨fun σ H ρ S Q Qw hs hh q po =>
  a.l σ H ρ S _ _ hs hh q fun x H1 wx S1 t1 hh1 r1 q1 => by
    cases wx <;> try exact q1.elim
    rename_i k
    cases (show x = _ from r1)
    exact ⟨k, rfl, po _ H1 S1 t1 hh1 q1⟩⟩
instance lt_B {t : TE} {tw : TEW} [a : LE K t tw] : LT K (tB t) (wT tw) := ⟨fun σ H ρ S Q Qw hs hh q po =>
  a.l σ H ρ S _ _ hs hh q fun x H1 wx S1 t1 hh1 r1 q1 => by
    cases wx <;> try exact q1.elim
    rename_i k
    cases (show x = _ from r1)
    exact ⟨k, rfl, po _ H1 S1 t1 hh1 q1⟩⟩
def wAnd (t u : TTW) : TTW := fun ρ S Q => t ρ S fun c S1 => (c = true → u ρ S1 Q) ∧ (c = false → Q false S1)
def wOr (t u : TTW) : TTW := fun ρ S Q => t ρ S fun c S1 => (c = true → Q true S1) ∧ (c = false → u ρ S1 Q)
def wNot (t : TTW) : TTW := fun ρ S Q => t ρ S fun c S1 => Q (!c) S1
instance lt_and {t u : TT} {tw uw : TTW} [a : LT K t tw] [b : LT K u uw] : LT K (tAnd t u) (wAnd tw uw) := ⟨fun σ H ρ S Q Qw hs hh q po =>
  a.l σ H ρ S _ _ hs hh q fun c H1 S1 t1 hh1 q1 => by
    cases c with
    | true => rw [if_pos rfl]; exact b.l σ H1 ρ S1 _ _ (hs.tk t1) hh1 (q1.1 rfl) (po.tk t1)
    | false => rw [if_neg Bool.false_ne_true]; exact po _ H1 S1 t1 hh1 (q1.2 rfl)⟩
instance lt_or {t u : TT} {tw uw : TTW} [a : LT K t tw] [b : LT K u uw] : LT K (tOr t u) (wOr tw uw) := ⟨fun σ H ρ S Q Qw hs hh q po =>
  a.l σ H ρ S _ _ hs hh q fun c H1 S1 t1 hh1 q1 => by
    cases c with
    | true => rw [if_pos rfl]; exact po _ H1 S1 t1 hh1 (q1.1 rfl)
    | false => rw [if_neg Bool.false_ne_true]; exact b.l σ H1 ρ S1 _ _ (hs.tk t1) hh1 (q1.2 rfl) (po.tk t1)⟩
instance lt_not {t : TT} {tw : TTW} [a : LT K t tw] : LT K (tNot t) (wNot tw) := ⟨fun σ H ρ S Q Qw hs hh q po =>
  a.l σ H ρ S _ _ hs hh q fun c H1 S1 t1 hh1 q1 => po _ H1 S1 t1 hh1 q1⟩
def wYes : TTW := fun _ S Q => Q true S
instance lt_yes : LT K tYes wYes := ⟨fun σ H ρ S Q Qw hs hh q po => po _ H S (Tk.refl H) hh q⟩
def wAndV (t u : TEW) : TEW := fun ρ S Q => t ρ S fun x S1 => match x with
  | .bl c => (c = true → u ρ S1 Q) ∧ (c = false → Q (.bl false) S1)
  | _ => False
def wOrV (t u : TEW) : TEW := fun ρ S Q => t ρ S fun x S1 => match x with
  | .bl c => (c = true → Q (.bl true) S1) ∧ (c = false → u ρ S1 Q)
  | _ => False
def wNotV (t : TEW) : TEW := fun ρ S Q => t ρ S fun x S1 => match x with
  | .bl c => Q (.bl (!c)) S1
  | _ => False
instance le_andV {t u : TE} {tw uw : TEW} [a : LE K t tw] [b : LE K u uw] : LE K (tAndV t u) (wAndV tw uw) := ⟨fun σ H ρ S Q Qw hs hh q po =>
  a.l σ H ρ S _ _ hs hh q fun x H1 wx S1 t1 hh1 r1 q1 => by
    cases wx <;> try exact q1.elim
    rename_i c
    cases (show x = _ from r1)
    refine ⟨c, rfl, ?_⟩
    cases c with
    | true => rw [if_pos rfl]; exact b.l σ H1 ρ S1 _ _ (hs.tk t1) hh1 (q1.1 rfl) (po.tk t1)
    | false => rw [if_neg Bool.false_ne_true]; exact po.bl t1 hh1 (q1.2 rfl)⟩
instance le_orV {t u : TE} {tw uw : TEW} [a : LE K t tw] [b : LE K u uw] : LE K (tOrV t u) (wOrV tw uw) := ⟨fun σ H ρ S Q Qw hs hh q po =>
  a.l σ H ρ S _ _ hs hh q fun x H1 wx S1 t1 hh1 r1 q1 => by
    cases wx <;> try exact q1.elim
    rename_i c
    cases (show x = _ from r1)
    refine ⟨c, rfl, ?_⟩
    cases c with
    | true => rw [if_pos rfl]; exact po.bl t1 hh1 (q1.1 rfl)
    | false => rw [if_neg Bool.false_ne_true]; exact b.l σ H1 ρ S1 _ _ (hs.tk t1) hh1 (q1.2 rfl) (po.tk t1)⟩
instance le_notV {t : TE} {tw : TEW} [a : LE K t tw] : LE K (tNotV t) (wNotV tw) := ⟨fun σ H ρ S Q Qw hs hh q po =>
  a.l σ H ρ S _ _ hs hh q fun x H1 wx S1 t1 hh1 r1 q1 => by
    cases wx <;> try exact q1.elim
    rename_i c
    cases (show x = _ from r1)
    exact ⟨c, rfl, po.bl t1 hh1 q1⟩⟩
def wIfE (t : TTW) (a b : TEW) : TEW := fun ρ S Q => t ρ S fun c S1 => (c = true → a ρ S1 Q) ∧ (c = false → b ρ S1 Q)
instance le_if {t : TT} {a b : TE} {tw : TTW} {aw bw : TEW} [h : LT K t tw] [h1 : LE K a aw] [h2 : LE K b bw] : LE K (tIf t a b) (wIfE tw aw bw) := ⟨fun σ H ρ S Q Qw hs hh q po =>
  h.l σ H ρ S _ _ hs hh q fun c H1 S1 t1 hh1 q1 => by
    cases c with
    | true => rw [if_pos rfl]; exact h1.l σ H1 ρ S1 _ _ (hs.tk t1) hh1 (q1.1 rfl) (po.tk t1)
    | false => rw [if_neg Bool.false_ne_true]; exact h2.l σ H1 ρ S1 _ _ (hs.tk t1) hh1 (q1.2 rfl) (po.tk t1)⟩

/-! ### displays, arguments -/
def wNil : TAW := fun _ S Q => Q [] S
def wCons (ta : TEW) (tr : TAW) : TAW := fun ρ S Q => ta ρ S fun x S1 => tr ρ S1 fun xs S2 => Q (x :: xs) S2
instance la_nil : LA K tNil wNil := ⟨fun σ H ρ S Q Qw hs hh q po => po [] H [] S (Tk.refl H) hh (show RepL K H [] [] from rfl) q⟩
instance la_cons {ta : TE} {tr : TA} {wa : TEW} {wr : TAW} [a : LE K ta wa] [b : LA K tr wr] : LA K (tCons ta tr) (wCons wa wr) := ⟨fun σ H ρ S Q Qw hs hh q po =>
  a.l σ H ρ S _ _ hs hh q fun x H1 wx S1 t1 hh1 r1 q1 => b.l σ H1 ρ S1 _ _ (hs.tk t1) hh1 q1 fun xs H2 ws S2 t2 hh2 r2 q2 =>
    po _ H2 _ S2 (t1.trans t2) hh2 (.cons (Rep.tk t2 _ _ r1) r2) q2⟩
/-- a size that is small at sight asks nothing -/
def fits (n : Nat) (A : Prop) : Prop := match Nat.ble n 1000 with
  | true => A
  | false => n ≤ sizeLine ∧ A
theorem fits_of {n : Nat} {A : Prop} (h : fits n A) : n ≤ sizeLine ∧ A := by
  unfold fits at h
  split at h
  · rename_i e
    exact ⟨Nat.le_trans (Nat.le_of_ble_eq_true e) (by decide), h⟩
  · exact h
theorem fits_mk {n : Nat} {A : Prop} (h : n ≤ sizeLine) (a : A) : fits n A := by
  unfold fits
  split
  · exact a
  · exact ⟨h, a⟩
def wTup (t : TAW) : TEW := fun ρ S Q => t ρ S fun ws S1 => fits ws.length (Q (.tup ws) S1)
def wLst (t : TAW) : TEW := fun ρ S Q => t ρ S fun ws S1 => fits ws.length (∀ p, S1 p = none → Q (.ref p) (put S1 p (.lst ws)))
instance le_tup {t : TA} {tw : TAW} [a : LA K t tw] : LE K (tTup t) (wTup tw) := ⟨fun σ H ρ S Q Qw hs hh q po =>
  a.l σ H ρ S _ _ hs hh q fun xs H1 ws S1 t1 hh1 r1 q1 => ⟨by rw [r1.length]; exact (fits_of q1).1, fun p hp =>
    (po.tk t1).ntup hp hh1 r1 (fits_of q1).2⟩⟩
instance le_lst {t : TA} {tw : TAW} [a : LA K t tw] : LE K (tLst t) (wLst tw) := ⟨fun σ H ρ S Q Qw hs hh q po =>
  a.l σ H ρ S _ _ hs hh q fun xs H1 ws S1 t1 hh1 r1 q1 => ⟨by rw [r1.length]; exact (fits_of q1).1, fun p hp =>
    (po.tk t1).nlst hp hh1 r1 (fits_of q1).2⟩⟩

/-! ### items, slices -/
theorem atI_of {H : Hp} {ws : List W} {xs : List V} {i : Int} {w : W} (r : RepL K H ws xs) (e : atI ws i = some w) : ∃ x, atI xs i = some x ∧ Rep K H w x := by
  unfold atI at e ⊢
  rw [r.length]
  cases q : ixN ws.length i with
  | none => rw [q] at e; cases e
  | some j =>
    rw [q] at e
    exact r.get e
def rdAt (o : Option W) (S : Sto) (Q : WK) : Prop := match o with
  | some w => Q w S
  | none => False
theorem rdAt_of {o : Option W} {S : Sto} {Q : WK} (h : rdAt o S Q) : ∃ w, o = some w ∧ Q w S := by
  cases o with
  | none => exact h.elim
  | some w => exact ⟨w, rfl, h⟩
def wIx : RW2 := fun x y S Q => match x, y with
  | .tup ws, .int i => rdAt (atI ws i) S Q
  | .rl ws, .int i => rdAt (atI ws i) S Q
  | .ref a, .int i => ∃ ws, S a = some (.lst ws) ∧ rdAt (atI ws i) S Q
  | .str z, .int i => z.length ≤ sizeLine ∧ ∃ c, atI z.cps.toList i = some c ∧ Q (.str ⟨#[c]⟩) S
  | _, _ => False
instance l2_ix : L2R K (rIx K) wIx := ⟨fun H S x y wx wy Q Qw hh rx ry q po => by
  cases wx <;> cases wy <;> try exact q.elim
  · cases (show x = _ from rx); cases (show y = _ from ry)
    obtain ⟨hl, c, e, q⟩ := q
    exact .inr (.inr ⟨_, _, c, rfl, rfl, hl, e, po.str (Tk.refl H) hh q⟩)
  · cases (show x = _ from rx); cases (show y = _ from ry)
    obtain ⟨ws, e, q⟩ := q
    obtain ⟨w, e2, q⟩ := rdAt_of q
    obtain ⟨xs, h1, h2⟩ := hh _ _ e
    obtain ⟨v, e3, r⟩ := atI_of h2 e2
    exact .inl ⟨_, xs, _, v, rfl, rfl, SqL.of h1, e3, po v H w S (Tk.refl H) hh r q⟩
  · cases (show y = _ from ry)
    obtain ⟨a, xs, rfl, h1, h2⟩ := rx
    obtain ⟨w, e2, q⟩ := rdAt_of q
    obtain ⟨v, e3, r⟩ := atI_of h2 e2
    exact .inr (.inl ⟨_, xs, _, v, rfl, rfl, h1, e3, po v H w S (Tk.refl H) hh r q⟩)
  · cases (show y = _ from ry)
    obtain ⟨a, xs, rfl, h1, h2⟩ := rx
    obtain ⟨w, e2, q⟩ := rdAt_of q
    obtain ⟨v, e3, r⟩ := atI_of h2 e2
    exact .inl ⟨_, xs, _, v, rfl, rfl, h1.sq, e3, po v H w S (Tk.refl H) hh r q⟩⟩

end Wl
set_option Elab.async false
set_option linter.all false
set_option maxRecDepth 100000
set_option maxHeartbeats 2000000
namespace HT
open PySem PySem.Spec PyProof.Rows L2
variable {prog : Program} {w : World} {A : Around} {E : Value → Shared → Prop} {s : Shared}
theorem getItem_tuple_whole {t sl : Addr} {items : Array Value} {vl vu : Value} {lo hi : Option Int} {Q : Value → Shared → Prop} (ht : IsTup s.heap t items) (hs : s.heap.IsSliceOf sl vl vu .none) (pl : IsPart vl lo) (pu : IsPart vu hi)
    (hw : sIx items.size 0 lo = 0 ∧ sIx items.size items.size hi = items.size)
    (h : Q (.ref t) s) : wpAny (model prog w) A (getItem (.ref t) (.ref sl)) Q E s := by
  obtain ⟨os, hos, hcs, hds⟩ := id hs
  have hTs : s.TypeIs (.ref sl) "slice" := ⟨os, hos, hcs⟩
  unfold getItem
  try with_reducible refine wpAny_holding ?_
  first | refine wpAny_bind (wpAny_pure ?_) | skip
  refine wpAny_bind (wpAny_sequenceKey ht.typeIs (by decide) ?_)
  refine wpAny_bind (wpAny_callSpecial?_slot (name := Str.ofString "__getitem__") ht.typeIs PyProof.Rows.slot_tuple_getitem
    (wpAny_call_entry PyProof.Rows.slot_tuple_getitem ht.typeIs entry_tuple_getitem ?_ (args_tuple_getitem _ _)))
  show wpAny _ _ (Builtin.Tuple.tupleItemsOf (.ref t) >>= _) _ _ s
  refine wpAny_bind (tupleItemsOf_ ht ?_)
  refine wpAny_bind (wpAny_typeOf hTs ?_)
  rw [if_pos (by decide)]
  refine wpAny_bind (sliceApplied_gen hs pl pu ?_)
  have hyes : ((((sIx items.size 0 lo : Nat) : Int) == 0 && (1 : Int) == 1 && (sIx items.size items.size hi - sIx items.size 0 lo) == items.size) = true) := by
    rw [hw.1, hw.2]
    simp
  show wpAny _ _ (if (((sIx items.size 0 lo : Nat) : Int) == 0 && (1 : Int) == 1 && (sIx items.size items.size hi - sIx items.size 0 lo) == items.size) = true then _ else _) _ _ s
  rw [if_pos hyes]
  have hT : s.TypeIs (.ref t) "tuple" := ht.typeIs
  first
    | exact wpAny_pure ⟨_, rfl, wpAny_pure h⟩
    | exact wpAny_bind (wpAny_pure ⟨_, rfl, wpAny_pure h⟩)
    | (refine wpAny_bind (wpAny_typeOf hT ?_); rw [if_pos (by decide)]; exact wpAny_pure ⟨_, rfl, wpAny_pure h⟩)
    | (refine wpAny_bind (wpAny_bind (wpAny_typeOf hT ?_))
       refine wpAny_pure ?_
       rw [if_pos (by decide)]
       exact wpAny_bind (wpAny_rule (wpAny_pure ⟨_, rfl, wpAny_pure h⟩)))
end HT
namespace Wl
open PySem PySem.Spec PyProof.Rows L2
variable {K : PySem.W.Frag}

/-! ### slices -/
def rSlTw (K : PySem.W.Frag) : V → Option Int → Option Int → Hp → VK → Prop := fun x lo hi H Q => ∃ a xs, x = .ref a ∧ SqT K H a xs ∧ (HT.sIx xs.length 0 lo = 0 ∧ HT.sIx xs.length xs.length hi = xs.length) ∧ Q (.ref a) H
theorem sl_tupw {X : Cx} : SlR X (rSlTw X.K) := by
  intro pins s σ H x v vl vu lo hi sl Q I rx hs pl pu h
  obtain ⟨a, xs, rfl, hx, hw, q⟩ := h
  cases rx
  obtain ⟨its, r, ht, hz⟩ := I.tuple hx
  have hlen : its.toArray.size = xs.length := by rw [List.size_toArray]; exact r.length.symm
  refine ⟨"tuple", _, PyProof.Rows.slot_tuple_getitem.lookup, ht.typeIs, ?_⟩
  exact HT.getItem_tuple_whole ht hs pl pu (by rw [hlen]; exact hw) ⟨.ref a, H, I, rfl, q⟩
def rSlA (K : PySem.W.Frag) : V → Option Int → Option Int → Hp → VK → Prop := fun x lo hi H Q => rSlS x lo hi H Q ∨ rSlL K x lo hi H Q ∨ rSlT K x lo hi H Q ∨ rSlTw K x lo hi H Q
theorem sl_A {X : Cx} : SlR X (rSlA X.K) := by
  intro pins s σ H x v vl vu lo hi sl Q I rx hs pl pu h
  rcases h with h | h | h | h
  · exact sl_str pins s σ H x v vl vu lo hi sl Q I rx hs pl pu h
  · exact sl_list pins s σ H x v vl vu lo hi sl Q I rx hs pl pu h
  · exact sl_tup pins s σ H x v vl vu lo hi sl Q I rx hs pl pu h
  · exact sl_tupw pins s σ H x v vl vu lo hi sl Q I rx hs pl pu h
def cutL {α : Type} (xs : List α) (lo hi : Option Int) : List α := (xs.drop (HT.sIx xs.length 0 lo)).take (HT.sIx xs.length xs.length hi - HT.sIx xs.length 0 lo)
theorem cutL_rep {H : Hp} {ws : List W} {xs : List V} (r : RepL K H ws xs) (lo hi : Option Int) : RepL K H (cutL ws lo hi) (cutV xs lo hi) := by
  unfold cutL cutV
  rw [r.length]
  exact (r.drop _).take _
theorem cutL_whole {ws : List W} {lo hi : Option Int} (h : HT.sIx ws.length 0 lo = 0 ∧ HT.sIx ws.length ws.length hi = ws.length) : cutL ws lo hi = ws := by
  unfold cutL
  rw [h.1, h.2]
  simp
def wSlR (x : W) (lo hi : Option Int) (S : Sto) (Q : WK) : Prop := match x with
  | .str z => z.length ≤ sizeLine ∧ Q (.str (cutS z lo hi)) S
  | .tup ws => Q (.tup (cutL ws lo hi)) S
  | .rl ws => ∀ p, S p = none → Q (.ref p) (put S p (.lst (cutL ws lo hi)))
  | .ref a => ∃ ws, S a = some (.lst ws) ∧ ∀ p, S p = none → Q (.ref p) (put S p (.lst (cutL ws lo hi)))
  | _ => False
def wSl (te : TEW) (tl th : TOW) : TEW := fun ρ S Q => te ρ S fun x S1 => tl ρ S1 fun l S2 => th ρ S2 fun u S3 => wSlR x l u S3 Q
def wNoPart : TOW := fun _ S Q => Q none S
def wPart (t : TEW) : TOW := fun ρ S Q => t ρ S fun x S1 => match x with
  | .int i => Q (some i) S1
  | _ => False
instance lo_none : LO K tNoPart wNoPart := ⟨fun σ H ρ S Q Qw hs hh q po => po _ H S (Tk.refl H) hh q⟩
instance lo_some {t : TE} {tw : TEW} [a : LE K t tw] : LO K (tPart t) (wPart tw) := ⟨fun σ H ρ S Q Qw hs hh q po => a.l σ H ρ S _ _ hs hh q fun x H1 wx S1 t1 hh1 r1 q1 => by
  cases wx <;> try exact q1.elim
  cases (show x = _ from r1)
  exact ⟨_, rfl, po _ H1 S1 t1 hh1 q1⟩⟩
instance le_sl {te : TE} {tl th : TO} {we : TEW} {wl wh : TOW} [a : LE K te we] [b : LO K tl wl] [c : LO K th wh] : LE K (tSl (rSlA K) te tl th) (wSl we wl wh) := ⟨fun σ H ρ S Q Qw hs hh q po =>
  a.l σ H ρ S _ _ hs hh q fun x H1 wx S1 t1 hh1 r1 q1 => b.l σ H1 ρ S1 _ _ (hs.tk t1) hh1 q1 fun lo H2 S2 t2 hh2 q2 => c.l σ H2 ρ S2 _ _ (hs.tk (t1.trans t2)) hh2 q2 fun hi H3 S3 t3 hh3 q3 => by
    have rx := Rep.tk (t2.trans t3) _ _ r1
    have t := (t1.trans t2).trans t3
    cases wx <;> try exact q3.elim
    · cases (show x = _ from rx)
      exact .inl ⟨_, rfl, q3.1, po.str t hh3 q3.2⟩
    · cases (show x = _ from rx)
      obtain ⟨ws, e, q⟩ := q3
      obtain ⟨xs, h1, h2⟩ := hh3 _ _ e
      exact .inr (.inl ⟨_, xs, rfl, SqL.of h1, fun p hp => (po.tk t).nlst hp hh3 (cutL_rep h2 lo hi) q⟩)
    · obtain ⟨a, xs, rfl, h1, h2⟩ := rx
      rename_i ws
      by_cases hw : HT.sIx xs.length 0 lo = 0 ∧ HT.sIx xs.length xs.length hi = xs.length
      · refine .inr (.inr (.inr ⟨a, xs, rfl, h1, hw, ?_⟩))
        have q4 : Qw (.tup (cutL ws lo hi)) S3 := q3
        rw [cutL_whole (by rw [← h2.length]; exact hw)] at q4
        exact po.tup t hh3 h1 h2 q4
      · exact .inr (.inr (.inl ⟨a, xs, rfl, h1, hw, fun p hp => (po.tk t).ntup hp hh3 (cutL_rep h2 lo hi) q3⟩))
    · obtain ⟨a, xs, rfl, h1, h2⟩ := rx
      exact .inr (.inl ⟨a, xs, rfl, h1.sq, fun p hp => (po.tk t).nlst hp hh3 (cutL_rep h2 lo hi) q3⟩)⟩

/-! ### built-in calls -/
def wCB (r : RWC) (t : TAW) : TEW := fun ρ S Q => t ρ S fun ws S1 => r ws S1 Q
instance le_cb {r : List V → Hp → VK → Prop} {t : TA} {rw : RWC} {tw : TAW} [h : LCR K r rw] [a : LA K t tw] : LE K (tCB r t) (wCB rw tw) := ⟨fun σ H ρ S Q Qw hs hh q po =>
  a.l σ H ρ S _ _ hs hh q fun xs H1 ws S1 t1 hh1 r1 q1 => h.l H1 S1 xs ws Q Qw hh1 r1 q1 (po.tk t1)⟩
theorem rep1 {H : Hp} {w : W} {xs : List V} (r : RepL K H [w] xs) : ∃ x, xs = [x] ∧ Rep K H w x := by
  obtain ⟨x, r, rfl, h1, h2⟩ := r
  cases (show r = [] from h2)
  exact ⟨x, rfl, h1⟩
theorem rep2 {H : Hp} {w z : W} {xs : List V} (r : RepL K H [w, z] xs) : ∃ x y, xs = [x, y] ∧ Rep K H w x ∧ Rep K H z y := by
  obtain ⟨x, r, rfl, h1, h2⟩ := r
  obtain ⟨y, rfl, h3⟩ := rep1 h2
  exact ⟨x, y, rfl, h1, h3⟩
/-- len -/
def wLen : RWC := fun ws S Q => match ws with
  | [.str z] => z.length ≤ sizeLine ∧ Q (.int z.length) S
  | [.tup ws] => Q (.int ws.length) S
  | [.rl ws] => Q (.int ws.length) S
  | [.ref a] => ∃ ws, S a = some (.lst ws) ∧ Q (.int ws.length) S
  | _ => False
abbrev rLenA (K : PySem.W.Frag) : List V → Hp → VK → Prop := fun xs H Q => ∃ x n, xs = [x] ∧ LenV K x H n ∧ Q (.int n) H
instance lc_len : LCR K (rLenA K) wLen := ⟨fun H S xs ws Q Qw hh r q po => by
  unfold wLen at q
  split at q
  · obtain ⟨x, rfl, h1⟩ := rep1 r
    cases (show x = _ from h1)
    exact ⟨_, _, rfl, ⟨q.1, rfl⟩, po.int (Tk.refl H) hh q.2⟩
  · obtain ⟨x, rfl, a, xs, rfl, h1, h2⟩ := rep1 r
    exact ⟨_, _, rfl, .inr ⟨xs, h1, h2.length.symm⟩, po.int (Tk.refl H) hh q⟩
  · obtain ⟨x, rfl, a, xs, rfl, h1, h2⟩ := rep1 r
    exact ⟨_, _, rfl, .inl ⟨xs, h1.sq, h2.length.symm⟩, po.int (Tk.refl H) hh q⟩
  · obtain ⟨x, rfl, h1⟩ := rep1 r
    cases (show x = _ from h1)
    obtain ⟨ws, e, q⟩ := q
    obtain ⟨xs, h1, h2⟩ := hh _ _ e
    exact ⟨_, _, rfl, .inl ⟨xs, SqL.of h1, h2.length.symm⟩, po.int (Tk.refl H) hh q⟩
  · exact q.elim⟩
/-- one int in, one out -/
def w1I (f : Int → Int) : RWC := fun ws S Q => match ws with
  | [.int i] => Q (.int (f i)) S
  | _ => False
instance lc_abs : LCR K (fun xs H Q => ∃ i, xs = [.int i] ∧ Q (.int (if i < 0 then -i else i)) H) (w1I fun i => if i < 0 then -i else i) := ⟨fun H S xs ws Q Qw hh r q po => by
  unfold w1I at q
  split at q
  · obtain ⟨x, rfl, h1⟩ := rep1 r
    cases (show x = _ from h1)
    exact ⟨_, rfl, po.int (Tk.refl H) hh q⟩
  · exact q.elim⟩
def w2I (f : Int → Int → Int) : RWC := fun ws S Q => match ws with
  | [.int i, .int j] => Q (.int (f i j)) S
  | _ => False
instance lc_2i {f : Int → Int → Int} : LCR K (fun xs H Q => ∃ i j, xs = [.int i, .int j] ∧ Q (.int (f i j)) H) (w2I f) := ⟨fun H S xs ws Q Qw hh r q po => by
  unfold w2I at q
  split at q
  · obtain ⟨x, y, rfl, h1, h2⟩ := rep2 r
    cases (show x = _ from h1)
    cases (show y = _ from h2)
    exact ⟨_, _, rfl, po.int (Tk.refl H) hh q⟩
  · exact q.elim⟩
/-- int(n), int(flag) -/
def wInt1 : RWC := fun ws S Q => match ws with
  | [.int i] => Q (.int i) S
  | [.bl k] => Q (.int (if k then 1 else 0)) S
  | _ => False
instance lc_int : LCR K (fun xs H Q => (∃ i, xs = [.int i] ∧ Q (.int i) H) ∨ ∃ k, xs = [.bl k] ∧ Q (.int (if k then 1 else 0)) H) wInt1 := ⟨fun H S xs ws Q Qw hh r q po => by
  unfold wInt1 at q
  split at q
  · obtain ⟨x, rfl, h1⟩ := rep1 r
    cases (show x = _ from h1)
    exact .inl ⟨_, rfl, po.int (Tk.refl H) hh q⟩
  · obtain ⟨x, rfl, h1⟩ := rep1 r
    cases (show x = _ from h1)
    exact .inr ⟨_, rfl, po.int (Tk.refl H) hh q⟩
  · exact q.elim⟩
/-- str(n) -/
def wStr1 : RWC := fun ws S Q => match ws with
  | [.int i] => i.natAbs.log2 < 1920 ∧ Q (.str (toString i)) S
  | _ => False
instance lc_str : LCR K (fun xs H Q => ∃ i, xs = [.int i] ∧ i.natAbs.log2 < 1920 ∧ Q (.str (toString i)) H) wStr1 := ⟨fun H S xs ws Q Qw hh r q po => by
  unfold wStr1 at q
  split at q
  · obtain ⟨x, rfl, h1⟩ := rep1 r
    cases (show x = _ from h1)
    exact ⟨_, rfl, q.1, po.str (Tk.refl H) hh q.2⟩
  · exact q.elim⟩
/-- list(xs) -/
abbrev rListA (K : PySem.W.Frag) : List V → Hp → VK → Prop := fun xs H Q => ∃ p ys, xs = [.ref p] ∧ (SqL K H p ys ∨ SqT K H p ys) ∧ ∀ l, H l = none → Q (.ref l) (upd H l (.lst ys))
def wList : RWC := fun ws S Q => match ws with
  | [.tup ws] => ∀ p, S p = none → Q (.ref p) (put S p (.lst ws))
  | [.rl ws] => ∀ p, S p = none → Q (.ref p) (put S p (.lst ws))
  | [.ref a] => ∃ ws, S a = some (.lst ws) ∧ ∀ p, S p = none → Q (.ref p) (put S p (.lst ws))
  | _ => False
instance lc_list : LCR K (rListA K) wList := ⟨fun H S xs ws Q Qw hh r q po => by
  unfold wList at q
  split at q
  · obtain ⟨x, rfl, a, xs, rfl, h1, h2⟩ := rep1 r
    exact ⟨a, xs, rfl, .inr h1, fun p hp => po.nlst hp hh h2 q⟩
  · obtain ⟨x, rfl, a, xs, rfl, h1, h2⟩ := rep1 r
    exact ⟨a, xs, rfl, .inl h1.sq, fun p hp => po.nlst hp hh h2 q⟩
  · obtain ⟨x, rfl, h1⟩ := rep1 r
    cases (show x = _ from h1)
    obtain ⟨ws, e, q⟩ := q
    obtain ⟨xs, h1, h2⟩ := hh _ _ e
    exact ⟨_, xs, rfl, .inl (SqL.of h1), fun p hp => po.nlst hp hh h2 q⟩
  · exact q.elim⟩
/-- tuple(xs) -/
abbrev rTupA (K : PySem.W.Frag) : List V → Hp → VK → Prop := fun xs H Q => ∃ p ys, xs = [.ref p] ∧ ((SqL K H p ys ∧ ∀ l, H l = none → Q (.ref l) (upd H l (.tup ys))) ∨ (SqT K H p ys ∧ Q (.ref p) H))
def wTupC : RWC := fun ws S Q => match ws with
  | [.tup ws] => Q (.tup ws) S
  | [.rl ws] => Q (.tup ws) S
  | [.ref a] => ∃ ws, S a = some (.lst ws) ∧ Q (.tup ws) S
  | _ => False
instance lc_tuple : LCR K (rTupA K) wTupC := ⟨fun H S xs ws Q Qw hh r q po => by
  unfold wTupC at q
  split at q
  · obtain ⟨x, rfl, a, xs, rfl, h1, h2⟩ := rep1 r
    exact ⟨a, xs, rfl, .inr ⟨h1, po.tup (Tk.refl H) hh h1 h2 q⟩⟩
  · obtain ⟨x, rfl, a, xs, rfl, h1, h2⟩ := rep1 r
    exact ⟨a, xs, rfl, .inl ⟨h1.sq, fun p hp => po.ntup hp hh h2 q⟩⟩
  · obtain ⟨x, rfl, h1⟩ := rep1 r
    cases (show x = _ from h1)
    obtain ⟨ws, e, q⟩ := q
    obtain ⟨xs, h1, h2⟩ := hh _ _ e
    exact ⟨_, xs, rfl, .inl ⟨SqL.of h1, fun p hp => po.ntup hp hh h2 q⟩⟩
  · exact q.elim⟩
/-- sum, all, any of a list -/
instance lc_sum : LCR K (rSum K) (fun ws S Q => ∃ (a : Addr) (ns : List Int), ws = [.ref a] ∧ S a = some (.lst (ns.map W.int)) ∧ Q (.int ns.sum) S) := ⟨fun H S xs ws Q Qw hh r q po => by
  obtain ⟨a, ns, rfl, e, q⟩ := q
  obtain ⟨x, rfl, h1⟩ := rep1 r
  cases (show x = _ from h1)
  obtain ⟨xs, h1, h2⟩ := hh _ _ e
  rw [h2.ints] at h1
  exact ⟨a, ns, rfl, SqL.of h1, po.int (Tk.refl H) hh q⟩⟩
def wAllC : RWC := fun ws S Q => ∃ (a : Addr) (bs : List Bool), ws = [.ref a] ∧ S a = some (.lst (bs.map W.bl)) ∧ Q (.bl (bs.all id)) S
def wAnyC : RWC := fun ws S Q => ∃ (a : Addr) (bs : List Bool), ws = [.ref a] ∧ S a = some (.lst (bs.map W.bl)) ∧ Q (.bl (bs.any id)) S
instance lc_all : LCR K (rAll K) wAllC := ⟨fun H S xs ws Q Qw hh r q po => by
  obtain ⟨a, ns, rfl, e, q⟩ := q
  obtain ⟨x, rfl, h1⟩ := rep1 r
  cases (show x = _ from h1)
  obtain ⟨xs, h1, h2⟩ := hh _ _ e
  rw [h2.bls] at h1
  exact ⟨a, ns, rfl, SqL.of h1, po.bl (Tk.refl H) hh q⟩⟩
instance lc_any : LCR K (rAny K) wAnyC := ⟨fun H S xs ws Q Qw hh r q po => by
  obtain ⟨a, ns, rfl, e, q⟩ := q
  obtain ⟨x, rfl, h1⟩ := rep1 r
  cases (show x = _ from h1)
  obtain ⟨xs, h1, h2⟩ := hh _ _ e
  rw [h2.bls] at h1
  exact ⟨a, ns, rfl, SqL.of h1, po.bl (Tk.refl H) hh q⟩⟩

/-! isinstance of built-in types -/
def tyName : W → Sto → Option String
  | .non, _ => some "NoneType" | .bl _, _ => some "bool" | .int _, _ => some "int" | .str _, _ => some "str"
  | .tup _, _ => some "tuple" | .rl _, _ => some "list" | .ty _, _ => none
  | .ref a, S => match S a with
    | some (.lst _) => some "list"
    | some (.dk _) => some "dict"
    | _ => none
def isTy (a b : String) : Option Bool :=
  if b = "int" then (if a = "int" ∨ a = "bool" then some true else if a = "str" ∨ a = "tuple" ∨ a = "list" ∨ a = "dict" ∨ a = "NoneType" then some false else none)
  else if b = "bool" ∨ b = "str" ∨ b = "tuple" ∨ b = "list" ∨ b = "dict" then
    (if a = b then some true else if a = "int" ∨ a = "bool" ∨ a = "str" ∨ a = "tuple" ∨ a = "list" ∨ a = "dict" ∨ a = "NoneType" then some false else none)
  else none
theorem isTy_kit {a b : String} {r : Bool} (h : isTy a b = some r) : kitB a b = some r := by
  have hb : b = "int" ∨ b = "bool" ∨ b = "str" ∨ b = "tuple" ∨ b = "list" ∨ b = "dict" := by
    unfold isTy at h
    split at h
    · exact .inl (by assumption)
    · split at h
      · exact .inr (by assumption)
      · cases h
  have ha : a = "int" ∨ a = "bool" ∨ a = "str" ∨ a = "tuple" ∨ a = "list" ∨ a = "dict" ∨ a = "NoneType" := by
    unfold isTy at h
    split at h
    · split at h
      · rename_i q; rcases q with q | q
        · exact .inl q
        · exact .inr (.inl q)
      · split at h
        · rename_i q; exact .inr (.inr q)
        · cases h
    · split at h
      · rename_i q
        split at h
        · rename_i e
          rcases q with q | q | q | q | q
          · exact .inr (.inl (e.trans q))
          · exact .inr (.inr (.inl (e.trans q)))
          · exact .inr (.inr (.inr (.inl (e.trans q))))
          · exact .inr (.inr (.inr (.inr (.inl (e.trans q)))))
          · exact .inr (.inr (.inr (.inr (.inr (.inl (e.trans q))))))
        · split at h
          · assumption
          · cases h
      · cases h
  rcases hb with rfl | rfl | rfl | rfl | rfl | rfl <;> rcases ha with rfl | rfl | rfl | rfl | rfl | rfl | rfl <;>
    (rw [← h]; decide +kernel)
theorem tyX_of {H : Hp} {S : Sto} {w : W} {v : V} {n : String} (hh : HRep K H S) (r : Rep K H w v) (h : tyName w S = some n) : TyX K H v (.type n) := by
  cases w with
  | non => cases (show v = _ from r); cases h; exact .base .non
  | bl b => cases (show v = _ from r); cases h; exact .base (.bl b)
  | int b => cases (show v = _ from r); cases h; exact .base (.int b)
  | str b => cases (show v = _ from r); cases h; exact .base (.str b)
  | ty n => cases h
  | ref a =>
    cases (show v = _ from r)
    unfold tyName at h
    simp only at h
    split at h
    · rename_i e
      cases h
      obtain ⟨xs, h1, _⟩ := hh _ _ e
      exact .base (.lst h1)
    · rename_i e
      cases h
      obtain ⟨xs, h1, _⟩ := hh _ _ e
      exact .base (.dK h1)
    · cases h
  | tup ws =>
    obtain ⟨a, xs, rfl, h1, _⟩ := r
    cases h
    rcases h1 with (h1 | ⟨o, h1⟩) | ⟨o, its, n, h1, h2, _⟩
    · exact .base (.tup h1)
    · exact .fTuple h1
    · exact .kTuple h1 h2
  | rl ws =>
    obtain ⟨a, xs, rfl, h1, _⟩ := r
    cases h
    rcases h1 with ⟨o, h1⟩ | ⟨o, its, n, h1, h2, _⟩
    · exact .base (.frz h1)
    · exact .kList h1 h2
def wIsi : RWC := fun ws S Q => match ws with
  | [x, .ty n] => ∃ t b, tyName x S = some t ∧ isTy t n = some b ∧ Q (.bl b) S
  | _ => False
instance lc_isi : LCR K (rIsi K) wIsi := ⟨fun H S xs ws Q Qw hh r q po => by
  unfold wIsi at q
  split at q
  · obtain ⟨x, y, rfl, h1, h2⟩ := rep2 r
    cases (show y = _ from h2)
    obtain ⟨t, b, e1, e2, q⟩ := q
    exact ⟨x, _, _, _, b, rfl, .ty _, tyX_of hh h1 e1, kit_ty (isTy_kit e2), po.bl (Tk.refl H) hh q⟩
  · exact q.elim⟩

/-! ### calls of the text's own defs -/
abbrev SpW := List W → Sto → WK → Prop
def liftSp (K : PySem.W.Frag) (sp : SpW) : Sp := fun vs H Q _ => ∃ ws S Qw, RepL K H ws vs ∧ HRep K H S ∧ sp ws S Qw ∧ PoE K H Q Qw
def wCall (sp : SpW) (t : TAW) : TEW := fun ρ S Q => t ρ S fun ws S1 => sp ws S1 Q
instance le_call {sp : SpW} {E : XK} {t : TA} {tw : TAW} [a : LA K t tw] : LE K (tCall (liftSp K sp) [] E t) (wCall sp tw) := ⟨fun σ H ρ S Q Qw hs hh q po =>
  a.l σ H ρ S _ _ hs hh q fun xs H1 ws S1 t1 hh1 r1 q1 => ⟨ws, S1, Qw, by rw [List.append_nil]; exact r1, hh1, q1, po.tk t1⟩⟩
section
variable {P : Program} {w : World} {mg : Str → Option Value} {base : Heap}
structure CalW (P : Program) (w : World) (K : PySem.W.Frag) (mg : Str → Option Value) (base : Heap) (k : Nat) (x : Str) (sp : SpW) : Prop where
  ex : ∃ (f : Addr) (fd : FuncData) (ps : List Str), FnOk P w K mg base CX0 k f fd ps (liftSp K sp) ∧ mg x = some (.ref f) ∧ PySem.W.keepIn K (.ref f) = true ∧ Binds K fd ps []
theorem CalW.mono {j k : Nat} {x : Str} {sp : SpW} (c : CalW P w K mg base j x sp) (h : j ≤ k) : CalW P w K mg base k x sp := by
  obtain ⟨f, fd, ps, F, r⟩ := c.ex
  exact ⟨f, fd, ps, F.mono h, r⟩
theorem CalW.imp {k : Nat} {x : Str} {sp sp' : SpW} (c : CalW P w K mg base k x sp) (h : ∀ ws S Q, sp' ws S Q → sp ws S Q) : CalW P w K mg base k x sp' := by
  obtain ⟨f, fd, ps, F, r⟩ := c.ex
  exact ⟨f, fd, ps, F.imp fun vs H Q E ⟨ws, S, Qw, h1, h2, h3, h4⟩ => ⟨ws, S, Qw, h1, h2, h _ _ _ h3, h4⟩, r⟩
theorem pe_w {X : Cx} {k j : Nat} {x : Str} {sp : SpW} {p pos : Pos} {e : Expr} {es : List Expr} {t : TA} (c : CalW X.prog X.w X.K X.mg X.base k x sp) (hr : Room j X.A) (hk : k ≤ j) (hg : Gl X x) (ha : PA X (e :: es) t)
    (hdb : (x == ("__debug__" : Str)) = false := by decide) (he : starEach (e :: es) X.env = (false, eval e X.env) :: starEach es X.env := by rfl) (hpl : (backTo pos (starEach es X.env)).any (·.1) = false := by rfl) :
    PE X (.Call (.Name x p) (e :: es) [] pos) (tCall (liftSp X.K sp) [] E0 t) := by
  obtain ⟨f, fd, ps, F, hm, kp, b⟩ := c.ex
  exact pe_call F (hr.mono hk) hg hm kp b .nil pass0 ha hdb he hpl
theorem pe_w0 {X : Cx} {k j : Nat} {x : Str} {sp : SpW} {p pos : Pos} (c : CalW X.prog X.w X.K X.mg X.base k x sp) (hr : Room j X.A) (hk : k ≤ j) (hg : Gl X x)
    (hdb : (x == ("__debug__" : Str)) = false := by decide) : PE X (.Call (.Name x p) [] [] pos) (tCall (liftSp X.K sp) [] E0 tNil) := by
  obtain ⟨f, fd, ps, F, hm, kp, b⟩ := c.ex
  exact pe_call0 F (hr.mono hk) hg hm kp b .nil pass0 hdb
/-- behind a def's end what is wanted may speak of a smaller store -/
def Fg (Q : WK) : WK := fun v S => ∃ S', Sub S' S ∧ Q v S'
theorem Fg.here {Q : WK} {v : W} {S : Sto} (h : Q v S) : Fg Q v S := ⟨S, Sub.refl S, h⟩
theorem calW {x : Str} {st : Stmt} {f : Addr} {fd : FuncData} {N ps : List Str} {k : Nat} {sp : SpW} (F : Fun K x x st f fd) (hm : mg x = some (.ref f)) (b : Binds K fd ps []) (SC : FnScope N ps (defScope st))
    (len : ∀ ws S Q, sp ws S Q → ws.length = ps.length)
    (hbody : ∀ (cdv : Value) (A : Around) (outer : List Env) (s : Shared) (H : Hp) (E : XK), Room k (A.deeper (envOfC x (defScope st) s.heap.objs.size f cdv)) →
      ∃ t tw, PSs (cxOf CX0 P w K mg base N x (defScope st) f cdv A outer s H E).nox (defBody st) t ∧ LS K t tw ∧ ∀ ws S Q, sp ws S Q → tw { nx := fun _ S' => Fg Q .non S', rt := Fg Q } (startW N ws) S) :
    CalW P w K mg base (k + 1) x sp :=
  ⟨f, fd, ps, F.ok SC (fun vs H Q E ⟨ws, S, Qw, h1, _, h3, _⟩ => by rw [h1.length]; exact len _ _ _ h3) (fun cdv A outer s H vs Q E hr ⟨ws, S, Qw, h1, h2, h3, h4⟩ => by
    obtain ⟨t, tw, ht, hl, hq⟩ := hbody cdv A outer s H E hr
    refine ⟨t, ht, hl.l _ H (startW N ws) S _ _ (SRep.init h1) h2 (hq ws S Qw h3) ⟨?_, fun _ _ _ _ _ _ _ z => z.elim, fun _ _ _ _ _ _ _ z => z.elim, ?_⟩⟩
    · rintro σ' H' ρ' S' t1 _ hh ⟨S2, sub, q⟩
      exact h4.non t1 (hh.sub sub) q
    · rintro v H' w S' t1 hh r ⟨S2, sub, q⟩
      exact h4 v H' w S2 t1 (hh.sub sub) r q), hm, F.kp, b⟩
end

/-! ### methods -/
def tyB (T : String) : W → Sto → Prop
  | .str _, _ => T = "str"
  | .int _, _ => T = "int"
  | .rl _, _ => T = "list"
  | .ref a, S => (T = "list" ∧ ∃ ws, S a = some (.lst ws)) ∨ (T = "dict" ∧ ∃ kvs, S a = some (.dk kvs))
  | _, _ => False
theorem tyB_of {H : Hp} {S : Sto} {T : String} {w : W} {v : V} (hh : HRep K H S) (r : Rep K H w v) (h : tyB T w S) : tyV K T v H := by
  cases w with
  | str x => cases (show v = _ from r); exact h
  | int x => cases (show v = _ from r); exact h
  | rl ws => obtain ⟨a, xs, rfl, h1, _⟩ := r; exact .inl ⟨h, xs, h1.sq⟩
  | ref a =>
    cases (show v = _ from r)
    rcases h with ⟨h, ws, e⟩ | ⟨h, kvs, e⟩
    · obtain ⟨xs, h1, _⟩ := hh _ _ e
      exact .inl ⟨h, xs, SqL.of h1⟩
    · obtain ⟨xs, h1, _⟩ := hh _ _ e
      exact .inr (.inr (.inl ⟨h, .inl ⟨xs, h1⟩⟩))
  | _ => exact h.elim
def wBM (T : String) (r : W → List W → Sto → WK → Prop) (to : TEW) (t : TAW) : TEW := fun ρ S Q => to ρ S fun x S1 => tyB T x S1 ∧ t ρ S1 fun xs S2 => r x xs S2 Q
def wBM0 (T : String) (r : W → List W → Sto → WK → Prop) (to : TEW) : TEW := fun ρ S Q => to ρ S fun x S1 => tyB T x S1 ∧ r x [] S1 Q
instance le_bm {T : String} {r : V → List V → Hp → VK → Prop} {to : TE} {t : TA} {rw : W → List W → Sto → WK → Prop} {wo : TEW} {tw : TAW} [h : LMR K r rw] [a : LE K to wo] [b : LA K t tw] : LE K (tBM K T r to t) (wBM T rw wo tw) := ⟨fun σ H ρ S Q Qw hs hh q po =>
  a.l σ H ρ S _ _ hs hh q fun x H1 wx S1 t1 hh1 r1 q1 => ⟨tyB_of hh1 r1 q1.1, b.l σ H1 ρ S1 _ _ (hs.tk t1) hh1 q1.2 fun xs H2 ws S2 t2 hh2 r2 q2 => h.l H2 S2 x wx xs ws Q Qw hh2 (Rep.tk t2 _ _ r1) r2 q2 (po.tk (t1.trans t2))⟩⟩
instance le_bm0 {T : String} {r : V → List V → Hp → VK → Prop} {to : TE} {rw : W → List W → Sto → WK → Prop} {wo : TEW} [h : LMR K r rw] [a : LE K to wo] : LE K (tBM0 K T r to) (wBM0 T rw wo) := ⟨fun σ H ρ S Q Qw hs hh q po =>
  a.l σ H ρ S _ _ hs hh q fun x H1 wx S1 t1 hh1 r1 q1 => ⟨tyB_of hh1 r1 q1.1, h.l H1 S1 x wx [] [] Q Qw hh1 r1 RepL.nil q1.2 (po.tk t1)⟩⟩
def wAppend : W → List W → Sto → WK → Prop := fun x ws S Q => match x, ws with
  | .ref l, [y] => ∃ xs, S l = some (.lst xs) ∧ xs.length < sizeLine ∧ Q .non (put S l (.lst (xs ++ [y])))
  | _, _ => False
instance lm_append : LMR K rAppend wAppend := ⟨fun H S x wx xs ws Q Qw hh rx r q po => by
  unfold wAppend at q
  split at q
  · cases (show x = _ from rx)
    obtain ⟨y, rfl, ry⟩ := rep1 r
    obtain ⟨zs, e, hl, q⟩ := q
    obtain ⟨vs, h1, h2⟩ := hh _ _ e
    have t : Tk H (upd H _ (.lst (vs ++ [y]))) := Tk.mut h1 (fun _ z => (by cases z)) (fun _ _ z => (by cases z))
    obtain ⟨t, hm⟩ := hh.mut (c' := .lst _) (o := .lst (vs ++ [y])) e ⟨_, upd_same, (RepL.tk t _ _ h2).append (.one (Rep.tk t _ _ ry))⟩
    exact ⟨_, vs, y, rfl, rfl, h1, by rw [h2.length]; exact hl, po.non t hm q⟩
  · exact q.elim⟩
def wPop : W → List W → Sto → WK → Prop := fun x ws S Q => match x, ws with
  | .ref l, [] => ∃ xs y, S l = some (.lst xs) ∧ xs[xs.length - 1]? = some y ∧ Q y (put S l (.lst xs.dropLast))
  | _, _ => False
instance lm_pop : LMR K rPop wPop := ⟨fun H S x wx xs ws Q Qw hh rx r q po => by
  unfold wPop at q
  split at q
  · cases (show x = _ from rx)
    cases (show xs = [] from r)
    obtain ⟨zs, y, e, hy, q⟩ := q
    obtain ⟨vs, h1, h2⟩ := hh _ _ e
    obtain ⟨v, e2, rv⟩ := h2.get hy
    have t : Tk H (upd H _ (.lst vs.dropLast)) := Tk.mut h1 (fun _ z => (by cases z)) (fun _ _ z => (by cases z))
    obtain ⟨t, hm⟩ := hh.mut (c' := .lst _) (o := .lst vs.dropLast) e ⟨_, upd_same, (RepL.tk t _ _ h2).dropLast⟩
    exact ⟨_, vs, v, rfl, rfl, h1, by rw [h2.length]; exact e2, po v _ y _ t hm (Rep.tk t _ _ rv) q⟩
  · exact q.elim⟩
def wPopAt : W → List W → Sto → WK → Prop := fun x ws S Q => match x, ws with
  | .ref l, [.int i] => ∃ xs k y, S l = some (.lst xs) ∧ -(2 ^ 63) ≤ i ∧ i < 2 ^ 63 ∧ seqIndex? i xs.length = some k ∧ xs[k]? = some y ∧ Q y (put S l (.lst (xs.eraseIdx k)))
  | _, _ => False
instance lm_popAt : LMR K rPopAt wPopAt := ⟨fun H S x wx xs ws Q Qw hh rx r q po => by
  unfold wPopAt at q
  split at q
  · cases (show x = _ from rx)
    obtain ⟨i, rfl, ri⟩ := rep1 r
    cases (show i = _ from ri)
    obtain ⟨zs, k, y, e, b1, b2, b3, hy, q⟩ := q
    obtain ⟨vs, h1, h2⟩ := hh _ _ e
    obtain ⟨v, e2, rv⟩ := h2.get hy
    have t : Tk H (upd H _ (.lst (vs.eraseIdx k))) := Tk.mut h1 (fun _ z => (by cases z)) (fun _ _ z => (by cases z))
    obtain ⟨t, hm⟩ := hh.mut (c' := .lst _) (o := .lst (vs.eraseIdx k)) e ⟨_, upd_same, (RepL.tk t _ _ h2).eraseIdx k⟩
    exact ⟨_, vs, _, k, v, rfl, rfl, h1, b1, b2, by rw [h2.length]; exact b3, e2, po v _ y _ t hm (Rep.tk t _ _ rv) q⟩
  · exact q.elim⟩
def wReverse : W → List W → Sto → WK → Prop := fun x ws S Q => match x, ws with
  | .ref l, [] => ∃ xs, S l = some (.lst xs) ∧ Q .non (put S l (.lst xs.reverse))
  | _, _ => False
instance lm_reverse : LMR K rReverse wReverse := ⟨fun H S x wx xs ws Q Qw hh rx r q po => by
  unfold wReverse at q
  split at q
  · cases (show x = _ from rx)
    cases (show xs = [] from r)
    obtain ⟨zs, e, q⟩ := q
    obtain ⟨vs, h1, h2⟩ := hh _ _ e
    have t : Tk H (upd H _ (.lst vs.reverse)) := Tk.mut h1 (fun _ z => (by cases z)) (fun _ _ z => (by cases z))
    obtain ⟨t, hm⟩ := hh.mut (c' := .lst _) (o := .lst vs.reverse) e ⟨_, upd_same, (RepL.tk t _ _ h2).reverse⟩
    exact ⟨_, vs, rfl, rfl, h1, po.non t hm q⟩
  · exact q.elim⟩

/-! ### targets -/
def wName (i : Nat) : TGW := fun w ρ S Q => Q (ρ.set i (some w)) S
instance lg_name {i : Nat} : LG K (gName i) (wName i) := ⟨fun v w σ H ρ S Q Qw r hs hh q po => po _ H _ S (Tk.refl H) (hs.set i r) hh q⟩
def wGNil : TGWs := fun ws ρ S Q => ws = [] ∧ Q ρ S
def wGCons (t : TGW) (u : TGWs) : TGWs := fun ws ρ S Q => match ws with
  | w :: r => t w ρ S fun ρ' S' => u r ρ' S' Q
  | [] => False
instance lgs_nil : LGs K gNil wGNil := ⟨fun v w σ H ρ S Q Qw r hs hh q po => by
  obtain ⟨e, q⟩ := q
  subst e
  exact ⟨r, po _ H _ S (Tk.refl H) hs hh q⟩⟩
instance lgs_cons {t : TG} {u : TGs} {tw : TGW} {uw : TGWs} [a : LG K t tw] [b : LGs K u uw] : LGs K (gCons t u) (wGCons tw uw) := ⟨fun v w σ H ρ S Q Qw r hs hh q po => by
  cases w with
  | nil => exact q.elim
  | cons w ws =>
    obtain ⟨x, xs, rfl, h1, h2⟩ := r
    exact ⟨x, xs, rfl, a.l x w σ H ρ S _ _ h1 hs hh q fun σ' H' ρ' S' t1 hs' hh' q' => b.l xs ws σ' H' ρ' S' _ _ (RepL.tk t1 _ _ h2) hs' hh' q' (po.tk t1)⟩⟩
def wGTup (n : Nat) (u : TGWs) : TGW := fun w ρ S Q => match w with
  | .tup ws => ws.length = n ∧ u ws ρ S Q
  | _ => False
instance lg_tup {n : Nat} {u : TGs} {uw : TGWs} [b : LGs K u uw] : LG K (gTup K n u) (wGTup n uw) := ⟨fun v w σ H ρ S Q Qw r hs hh q po => by
  cases w <;> try exact q.elim
  obtain ⟨a, xs, rfl, h1, h2⟩ := r
  exact ⟨a, xs, rfl, h1, by rw [h2.length]; exact q.1, b.l _ _ σ H ρ S _ _ h2 hs hh q.2 po⟩⟩
/-- xs[i] = e -/
def wGSub (to ti : TEW) : TGW := fun w ρ S Q => to ρ S fun o S1 => ti ρ S1 fun i S2 => match o, i with
  | .ref p, .int k => ∃ ws j, S2 p = some (.lst ws) ∧ ixN ws.length k = some j ∧ Q ρ (put S2 p (.lst (ws.set j w)))
  | _, _ => False
instance lg_sub {to ti : TE} {wo wi : TEW} [a : LE K to wo] [b : LE K ti wi] : LG K (gSub to ti rSetL) (wGSub wo wi) := ⟨fun v w σ H ρ S Q Qw r hs hh q po =>
  a.l σ H ρ S _ _ hs hh q fun o H1 wo S1 t1 hh1 r1 q1 => b.l σ H1 ρ S1 _ _ (hs.tk t1) hh1 q1 fun i H2 wi S2 t2 hh2 r2 q2 => by
    have ro := Rep.tk t2 _ _ r1
    cases wo <;> cases wi <;> try exact q2.elim
    cases (show o = _ from ro)
    cases (show i = _ from r2)
    obtain ⟨ws, j, e, hj, q⟩ := q2
    obtain ⟨xs, h1, h2⟩ := hh2 _ _ e
    have rv := Rep.tk (t1.trans t2) _ _ r
    have t : Tk H2 (upd H2 _ (.lst (xs.set j v))) := Tk.mut h1 (fun _ z => (by cases z)) (fun _ _ z => (by cases z))
    obtain ⟨t, hm⟩ := hh2.mut (c' := .lst _) (o := .lst (xs.set j v)) e ⟨_, upd_same, RepL.set (Rep.tk t _ _ rv) j (RepL.tk t _ _ h2)⟩
    exact ⟨_, xs, _, j, rfl, rfl, h1, by rw [h2.length]; exact hj, po _ _ _ _ ((t1.trans t2).trans t) (hs.tk ((t1.trans t2).trans t)) hm q⟩⟩

/-! ### statements -/
def wNext : TSW := fun D ρ S => D.nx ρ S
def wSeq (t u : TSW) : TSW := fun D ρ S => t { D with nx := u D } ρ S
def wBreak : TSW := fun D ρ S => D.bk ρ S
def wCont : TSW := fun D ρ S => D.ct ρ S
def wAsg (te : TEW) (g : TGW) : TSW := fun D ρ S => te ρ S fun x S1 => g x ρ S1 D.nx
def wDrop (te : TEW) : TSW := fun D ρ S => te ρ S fun _ S1 => D.nx ρ S1
def wRet (te : TEW) : TSW := fun D ρ S => te ρ S D.rt
def wRetN : TSW := fun D _ S => D.rt .non S
def wIfS (c : TTW) (t u : TSW) : TSW := fun D ρ S => c ρ S fun b S1 => (b = true → t D ρ S1) ∧ (b = false → u D ρ S1)
instance ls_next : LS K tNext wNext := ⟨fun σ H ρ S D Dw hs hh q po => po.nx σ H ρ S (Tk.refl H) hs hh q⟩
instance ls_seq {t u : TS} {tw uw : TSW} [a : LS K t tw] [b : LS K u uw] : LS K (tSeq t u) (wSeq tw uw) := ⟨fun σ H ρ S D Dw hs hh q po =>
  a.l σ H ρ S { D with nx := u D } { Dw with nx := uw Dw } hs hh q ⟨fun σ' H' ρ' S' t1 hs' hh' q' => b.l σ' H' ρ' S' D Dw hs' hh' q' (po.tk t1), po.bk, po.ct, po.rt⟩⟩
instance ls_break : LS K tBreak wBreak := ⟨fun σ H ρ S D Dw hs hh q po => po.bk σ H ρ S (Tk.refl H) hs hh q⟩
instance ls_cont : LS K tCont wCont := ⟨fun σ H ρ S D Dw hs hh q po => po.ct σ H ρ S (Tk.refl H) hs hh q⟩
instance ls_asg {te : TE} {g : TG} {we : TEW} {gw : TGW} [a : LE K te we] [b : LG K g gw] : LS K (tAsg te g) (wAsg we gw) := ⟨fun σ H ρ S D Dw hs hh q po =>
  a.l σ H ρ S _ _ hs hh q fun x H1 wx S1 t1 hh1 r1 q1 => b.l x wx σ H1 ρ S1 _ _ r1 (hs.tk t1) hh1 q1 (po.nx.tk t1)⟩
instance ls_drop {te : TE} {we : TEW} [a : LE K te we] : LS K (tDrop te) (wDrop we) := ⟨fun σ H ρ S D Dw hs hh q po =>
  a.l σ H ρ S _ _ hs hh q fun x H1 wx S1 t1 hh1 r1 q1 => po.nx σ H1 ρ S1 t1 (hs.tk t1) hh1 q1⟩
instance ls_ret {te : TE} {we : TEW} [a : LE K te we] : LS K (tRet te) (wRet we) := ⟨fun σ H ρ S D Dw hs hh q po => a.l σ H ρ S _ _ hs hh q po.rt⟩
instance ls_retN : LS K tRetN wRetN := ⟨fun σ H ρ S D Dw hs hh q po => po.rt.non (Tk.refl H) hh q⟩
instance ls_if {c : TT} {t u : TS} {cw : TTW} {tw uw : TSW} [h : LT K c cw] [a : LS K t tw] [b : LS K u uw] : LS K (tIfS c t u) (wIfS cw tw uw) := ⟨fun σ H ρ S D Dw hs hh q po =>
  h.l σ H ρ S _ _ hs hh q fun k H1 S1 t1 hh1 q1 => by
    cases k with
    | true => rw [if_pos rfl]; exact a.l σ H1 ρ S1 D Dw (hs.tk t1) hh1 (q1.1 rfl) (po.tk t1)
    | false => rw [if_neg Bool.false_ne_true]; exact b.l σ H1 ρ S1 D Dw (hs.tk t1) hh1 (q1.2 rfl) (po.tk t1)⟩
/-- x += e, x -= e (ints) -/
def wAugI (i : Nat) (te : TEW) (f : Int → Int → Int) : TSW := fun D ρ S => ∃ x, ρ[i]? = some (some x) ∧ te ρ S fun y S1 => match x, y with
  | .int a, .int b => D.nx (ρ.set i (some (.int (f a b)))) S1
  | _, _ => False
instance ls_aug {i : Nat} {te : TE} {f : Int → Int → Int} {we : TEW} [a : LE K te we] : LS K (tAug i te (ipI f)) (wAugI i we f) := ⟨fun σ H ρ S D Dw hs hh ⟨x, e, q⟩ po => by
  obtain ⟨v, e1, r⟩ := hs.at_ i x e
  refine ⟨v, e1, a.l σ H ρ S _ _ hs hh q fun y H1 wy S1 t1 hh1 r1 q1 => ?_⟩
  cases x <;> cases wy <;> try exact q1.elim
  cases (show v = _ from r)
  cases (show y = _ from r1)
  rename_i n m
  exact ⟨_, _, rfl, rfl, po.nx _ H1 _ S1 t1 ((hs.tk t1).set i (w := .int (f n m)) (show Rep K H1 (.int (f n m)) (.int (f n m)) from rfl)) hh1 q1⟩⟩
def wWhile (c : TTW) (tb : TSW) : TSW := fun D ρ S => ∃ I : Nat → StW → Sto → Prop, (∃ m, I m ρ S) ∧ ∀ m ρ S, I m ρ S → c ρ S fun b S1 =>
  (b = true → tb { D with nx := fun ρ' S' => ∃ m', m' < m ∧ I m' ρ' S', ct := fun ρ' S' => ∃ m', m' < m ∧ I m' ρ' S', bk := D.nx } ρ S1) ∧ (b = false → D.nx ρ S1)
instance ls_while {c : TT} {tb : TS} {cw : TTW} {tw : TSW} [h : LT K c cw] [a : LS K tb tw] : LS K (tWhile c tb) (wWhile cw tw) := ⟨fun σ H ρ S D Dw hs hh ⟨I, ⟨m0, i0⟩, st⟩ po => by
  refine ⟨fun m σ' H' => ∃ ρ' S', Tk H H' ∧ SRep K H' σ' ρ' ∧ HRep K H' S' ∧ I m ρ' S', ⟨m0, ρ, S, Tk.refl H, hs, hh, i0⟩, ?_⟩
  rintro m σ1 H1 ⟨ρ1, S1, t1, hs1, hh1, i1⟩
  refine h.l σ1 H1 ρ1 S1 _ _ hs1 hh1 (st m ρ1 S1 i1) fun b H2 S2 t2 hh2 q2 => ?_
  cases b with
  | true =>
    rw [if_pos rfl]
    refine ⟨fun σ' H' => ∃ m', m' < m ∧ ∃ ρ' S', Tk H H' ∧ SRep K H' σ' ρ' ∧ HRep K H' S' ∧ I m' ρ' S', fun σ' H' z => z, ?_⟩
    refine a.l σ1 H2 ρ1 S2 _ _ (hs1.tk t2) hh2 (q2.1 rfl) ⟨?_, ?_, ?_, po.rt.tk (t1.trans t2)⟩
    · rintro σ' H' ρ' S' t3 hs3 hh3 ⟨m', hm, q⟩
      exact ⟨m', hm, ρ', S', (t1.trans t2).trans t3, hs3, hh3, q⟩
    · exact po.nx.tk (t1.trans t2)
    · rintro σ' H' ρ' S' t3 hs3 hh3 ⟨m', hm, q⟩
      exact ⟨m', hm, ρ', S', (t1.trans t2).trans t3, hs3, hh3, q⟩
  | false =>
    rw [if_neg Bool.false_ne_true]
    exact po.nx σ1 H2 ρ1 S2 (t1.trans t2) (hs1.tk t2) hh2 (q2.2 rfl)⟩
end Wl
set_option Elab.async false
set_option linter.all false
set_option maxRecDepth 100000
set_option maxHeartbeats 2000000
namespace Wl
open PySem PySem.Spec PyProof.Rows L2
variable {K : PySem.W.Frag}

/-! ### what a for walks -/
/-- the iterator J goes over the data ws while ok holds of the store -/
structure IsSrc (K : PySem.W.Frag) (H1 : Hp) (J : It) (ws : List W) (ok : Sto → Prop) : Prop where
  go : ∀ i H S, Tk H1 H → HRep K H S → ok S → i < ws.length → J.go i H
  yld : ∀ i H S x H', Tk H1 H → HRep K H S → ok S → i < ws.length → J.yld i H x H' → Tk H H' ∧ HRep K H' S ∧ ∃ w, ws[i]? = some w ∧ Rep K H' w x
  stop : ∀ i H S, Tk H1 H → HRep K H S → ok S → ws.length ≤ i → J.stop i H
abbrev TIW := StW → Sto → (List W → (Sto → Prop) → Sto → Prop) → Prop
class LI (K : PySem.W.Frag) (t : TI) (tw : outParam TIW) : Prop where
  l : ∀ σ H ρ S R Rw, SRep K H σ ρ → HRep K H S → tw ρ S Rw → (∀ J H' S' ws ok, Tk H H' → HRep K H' S' → IsSrc K H' J ws ok → Rw ws ok S' → R J H') → t σ H R

def anyS : Sto → Prop := fun _ => True
def keepS (a : Addr) (ws : List W) : Sto → Prop := fun S => S a = some (.lst ws)
theorem src_list {H1 : Hp} {a : Addr} {ws : List W} : IsSrc K H1 (Itl K a) ws (keepS a ws) where
  go := fun i H S t hh ok hi => by
    obtain ⟨xs, h1, h2⟩ := hh _ _ ok
    exact ⟨xs, xs[i]'(by rw [h2.length]; exact hi), SqL.of h1, by simp [h2.length, hi]⟩
  yld := fun i H S x H' t hh ok hi y => by
    obtain ⟨e, y⟩ := y
    subst e
    obtain ⟨xs, h1, h2⟩ := hh _ _ ok
    obtain ⟨w, e, r⟩ := h2.get' (y xs (SqL.of h1))
    exact ⟨Tk.refl _, hh, w, e, r⟩
  stop := fun i H S t hh ok hi => by
    obtain ⟨xs, h1, h2⟩ := hh _ _ ok
    exact ⟨xs, SqL.of h1, by rw [h2.length]; exact hi⟩
theorem src_rl {H1 : Hp} {a : Addr} {xs : List V} {ws : List W} (h : RdL K H1 a xs) (r : RepL K H1 ws xs) : IsSrc K H1 (Itl K a) ws anyS where
  go := fun i H S t hh ok hi => ⟨xs, xs[i]'(by rw [r.length]; exact hi), (t.rdl h).sq, by simp [r.length, hi]⟩
  yld := fun i H S x H' t hh ok hi y => by
    obtain ⟨e, y⟩ := y
    subst e
    obtain ⟨w, e, r⟩ := (RepL.tk t _ _ r).get' (y xs (t.rdl h).sq)
    exact ⟨Tk.refl _, hh, w, e, r⟩
  stop := fun i H S t hh ok hi => ⟨xs, (t.rdl h).sq, by rw [r.length]; exact hi⟩
theorem src_tup {H1 : Hp} {a : Addr} {xs : List V} {ws : List W} (h : SqT K H1 a xs) (r : RepL K H1 ws xs) : IsSrc K H1 (Itt K a) ws anyS where
  go := fun i H S t hh ok hi => ⟨xs, xs[i]'(by rw [r.length]; exact hi), t.sqt h, by simp [r.length, hi]⟩
  yld := fun i H S x H' t hh ok hi y => by
    obtain ⟨e, y⟩ := y
    subst e
    obtain ⟨w, e, r⟩ := (RepL.tk t _ _ r).get' (y xs (t.sqt h))
    exact ⟨Tk.refl _, hh, w, e, r⟩
  stop := fun i H S t hh ok hi => ⟨xs, t.sqt h, by rw [r.length]; exact hi⟩
/-- lo, lo + 1, .. n of them -/
def intsW (lo : Int) (n : Nat) : List W := (List.range n).map fun i => W.int (lo + (i : Nat))
theorem intsW_len {lo : Int} {n : Nat} : (intsW lo n).length = n := by unfold intsW; simp
theorem intsW_get {lo : Int} {n i : Nat} (h : i < n) : (intsW lo n)[i]? = some (W.int (lo + (i : Nat))) := by unfold intsW; simp [h]
theorem intsW_at {lo : Int} {n i : Nat} {w : W} (h : (intsW lo n)[i]? = some w) : i < n ∧ w = W.int (lo + (i : Nat)) := by
  unfold intsW at h
  rw [List.getElem?_map] at h
  by_cases q : i < n
  · rw [List.getElem?_range q] at h
    exact ⟨q, (Option.some.inj h).symm⟩
  · rw [List.getElem?_eq_none (by simpa using q)] at h
    cases h
theorem src_range {H1 : Hp} {lo : Int} {n : Nat} : IsSrc K H1 (Itr lo n) (intsW lo n) anyS where
  go := fun i H S t hh ok hi => by rw [intsW_len] at hi; exact hi
  yld := fun i H S x H' t hh ok hi y => by
    obtain ⟨e, y⟩ := y
    subst e y
    rw [intsW_len] at hi
    exact ⟨Tk.refl _, hh, W.int (lo + (i : Nat)), intsW_get hi, (show Rep K _ (W.int (lo + (i : Nat))) _ from rfl)⟩
  stop := fun i H S t hh ok hi => by rw [intsW_len] at hi; exact hi
/-- over a list, a tuple, a text -/
def signs (x : Str) : List W := x.cps.toList.map fun c => W.str ⟨#[c]⟩
theorem src_str {H1 : Hp} {x : Str} : IsSrc K H1 (Its x) (signs x) anyS where
  go := fun i H S t hh ok hi => by
    unfold signs at hi
    rw [List.length_map, Array.length_toList] at hi
    exact hi
  yld := fun i H S z H' t hh ok hi y => by
    obtain ⟨e, c, e2, e3⟩ := y
    subst e e3
    refine ⟨Tk.refl _, hh, .str ⟨#[c]⟩, ?_, (show Rep K _ (.str ⟨#[c]⟩) _ from rfl)⟩
    unfold signs
    rw [List.getElem?_map, Array.getElem?_toList, e2]
    rfl
  stop := fun i H S t hh ok hi => by
    unfold signs at hi
    rw [List.length_map, Array.length_toList] at hi
    exact hi
def iAny (K : PySem.W.Frag) (tl : TE) : TI := fun σ H R => tl σ H fun x H1 => (∃ a, x = .ref a ∧ (∃ xs, SqL K H1 a xs) ∧ R (Itl K a) H1) ∨ (∃ a, x = .ref a ∧ (∃ xs, SqT K H1 a xs) ∧ R (Itt K a) H1) ∨ ∃ z, x = .str z ∧ R (Its z) H1
theorem pi_any {X : Cx} {tg l : Expr} {tl : TE} (hl : PE X l tl) : PI X tg l (iAny X.K tl) := by
  refine ⟨fun pins s σ H R I h => ?_⟩
  refine thn (hl.run pins s σ H _ I h) fun v s1 ⟨x, H1, I1, r1, q1⟩ => ?_
  rcases q1 with ⟨a, e, ⟨xs, hq⟩, q⟩ | ⟨a, e, ⟨xs, hq⟩, q⟩ | ⟨x, ex, q⟩
  · subst e
    cases r1
    obtain ⟨its, rv, p, hz⟩ := I1.list hq
    refine wpAny_pyIter_list p.isList ?_
    refine ⟨s1.heap.objs.size, [s1.heap.objs.size], _, _, H1, rfl, I1.kept (t' := s1.toks) fun b o e => Heap.get?_push_of_some _ e, turn_list a _, ⟨_, Heap.get?_push_size _ rfl, rfl, rfl⟩, fun b hb => ?_, q⟩
    have e : b = s1.heap.objs.size := by simpa using hb
    subst e
    exact I1.fpOk (Nat.le_refl _) (I1.hok.fresh (Nat.le_refl _))
  · subst e
    cases r1
    obtain ⟨its, rv, p, hz⟩ := I1.tuple hq
    refine wpAny_pyIter_tuple (show s1.heap.IsTuple a its.toArray from p) ?_
    refine ⟨s1.heap.objs.size, [s1.heap.objs.size], _, _, H1, rfl, I1.kept (t' := s1.toks) fun b o e => Heap.get?_push_of_some _ e, turn_tuple a _, ⟨_, Heap.get?_push_size _ rfl, rfl, rfl⟩, fun b hb => ?_, q⟩
    have e : b = s1.heap.objs.size := by simpa using hb
    subst e
    exact I1.fpOk (Nat.le_refl _) (I1.hok.fresh (Nat.le_refl _))
  · subst ex
    obtain ⟨t, rfl⟩ := r1
    cases ha : x.cps.all (· < 128)
    · exact wpAny_pyIter_wide ha (pi_one (tk := s1.toks) I1 _ (turn_str _ x t "str_iterator" (.inr rfl)) ⟨_, Heap.get?_push_size _ rfl, rfl, rfl⟩ q)
    · exact wpAny_pyIter_ascii ha (pi_one (tk := s1.toks) I1 _ (turn_str _ x t "str_ascii_iterator" (.inl rfl)) ⟨_, Heap.get?_push_size _ rfl, rfl, rfl⟩ q)
def wiAny (te : TEW) : TIW := fun ρ S R => te ρ S fun x S1 => match x with
  | .tup ws => R ws anyS S1
  | .rl ws => R ws anyS S1
  | .str z => R (signs z) anyS S1
  | .ref a => ∃ ws, S1 a = some (.lst ws) ∧ R ws (keepS a ws) S1
  | _ => False
instance li_any {t : TE} {tw : TEW} [a : LE K t tw] : LI K (iAny K t) (wiAny tw) := ⟨fun σ H ρ S R Rw hs hh q po => a.l σ H ρ S _ _ hs hh q fun x H1 wx S1 t1 hh1 r1 q1 => by
  cases wx <;> try exact q1.elim
  · cases (show x = _ from r1)
    exact .inr (.inr ⟨_, rfl, po _ H1 S1 _ _ t1 hh1 src_str q1⟩)
  · cases (show x = _ from r1)
    obtain ⟨ws, e, q⟩ := q1
    obtain ⟨xs, h1, h2⟩ := hh1 _ _ e
    exact .inl ⟨_, rfl, ⟨xs, SqL.of h1⟩, po _ H1 S1 _ _ t1 hh1 src_list q⟩
  · obtain ⟨a, xs, rfl, h1, h2⟩ := r1
    exact .inr (.inl ⟨a, rfl, ⟨xs, h1⟩, po _ H1 S1 _ _ t1 hh1 (src_tup h1 h2) q1⟩)
  · obtain ⟨a, xs, rfl, h1, h2⟩ := r1
    exact .inl ⟨a, rfl, ⟨xs, h1.sq⟩, po _ H1 S1 _ _ t1 hh1 (src_rl h1 h2) q1⟩⟩
def wiR1 (ta : TAW) : TIW := fun ρ S R => ta ρ S fun ws S1 => match ws with
  | [.int j] => -(2 ^ 62) ≤ j ∧ j < 2 ^ 62 ∧ R (intsW 0 j.toNat) anyS S1
  | _ => False
def wiR2 (ta : TAW) : TIW := fun ρ S R => ta ρ S fun ws S1 => match ws with
  | [.int i, .int j] => (-(2 ^ 62) ≤ i ∧ i < 2 ^ 62 ∧ -(2 ^ 62) ≤ j ∧ j < 2 ^ 62) ∧ R (intsW i (j - i).toNat) anyS S1
  | _ => False
instance li_r1 {t : TA} {tw : TAW} [a : LA K t tw] : LI K (iRng1 t) (wiR1 tw) := ⟨fun σ H ρ S R Rw hs hh q po => a.l σ H ρ S _ _ hs hh q fun xs H1 ws S1 t1 hh1 r1 q1 => by
  split at q1
  · obtain ⟨x, rfl, h1⟩ := rep1 r1
    cases (show x = _ from h1)
    exact ⟨_, rfl, q1.1, q1.2.1, po _ H1 S1 _ _ t1 hh1 src_range q1.2.2⟩
  · exact q1.elim⟩
instance li_r2 {t : TA} {tw : TAW} [a : LA K t tw] : LI K (iRng2 t) (wiR2 tw) := ⟨fun σ H ρ S R Rw hs hh q po => a.l σ H ρ S _ _ hs hh q fun xs H1 ws S1 t1 hh1 r1 q1 => by
  split at q1
  · obtain ⟨x, y, rfl, h1, h2⟩ := rep2 r1
    cases (show x = _ from h1)
    cases (show y = _ from h2)
    exact ⟨_, _, rfl, q1.1, po _ H1 S1 _ _ t1 hh1 src_range q1.2⟩
  · exact q1.elim⟩

/-! ### for -/
def wFor (wi : TIW) (g : TGW) (tb : TSW) : TSW := fun D ρ S => wi ρ S fun ws ok S1 => ∃ P : Nat → StW → Sto → Prop, P 0 ρ S1 ∧ (∀ i ρ' S', P i ρ' S' → ok S') ∧
  (∀ i w ρ' S', ws[i]? = some w → P i ρ' S' → g w ρ' S' fun ρ2 S2 => tb { D with nx := P (i + 1), ct := P (i + 1), bk := D.nx } ρ2 S2) ∧ ∀ ρ' S', P ws.length ρ' S' → D.nx ρ' S'
instance ls_for {wi : TI} {g : TG} {tb : TS} {ww : TIW} {gw : TGW} {tw : TSW} [h : LI K wi ww] [b : LG K g gw] [a : LS K tb tw] : LS K (tFor wi g tb) (wFor ww gw tw) := ⟨fun σ H ρ S D Dw hs hh q po => by
  refine h.l σ H ρ S _ _ hs hh q fun J H1 S1 ws ok t1 hh1 src ⟨P, p0, pok, pst, pend⟩ => ?_
  refine ⟨fun i m σ' H' => m = ws.length - i ∧ i ≤ ws.length ∧ ∃ ρ' S', Tk H1 H' ∧ SRep K H' σ' ρ' ∧ HRep K H' S' ∧ P i ρ' S', ⟨ws.length, by simp, Nat.zero_le _, ρ, S1, Tk.refl H1, hs.tk t1, hh1, p0⟩, ?_⟩
  rintro i m σ2 H2 ⟨rfl, hi, ρ2, S2, t2, hs2, hh2, p2⟩
  by_cases hlt : i < ws.length
  · refine .inr ⟨src.go i H2 S2 t2 hh2 (pok _ _ _ p2) hlt, fun σ' H' => ∃ ρ' S', Tk H1 H' ∧ SRep K H' σ' ρ' ∧ HRep K H' S' ∧ P (i + 1) ρ' S', fun σ' H' z => ⟨ws.length - (i + 1), by omega, rfl, hlt, z⟩, fun x H3 y => ?_⟩
    obtain ⟨t3, hh3, w, e, r⟩ := src.yld i H2 S2 x H3 t2 hh2 (pok _ _ _ p2) hlt y
    refine b.l x w σ2 H3 ρ2 S2 _ _ r (hs2.tk t3) hh3 (pst i w ρ2 S2 e p2) fun σ4 H4 ρ4 S4 t4 hs4 hh4 q4 => ?_
    have t14 := (t2.trans t3).trans t4
    refine a.l σ4 H4 ρ4 S4 _ _ hs4 hh4 q4 ⟨?_, po.nx.tk (t1.trans t14), ?_, po.rt.tk (t1.trans t14)⟩
    · exact fun σ' H' ρ' S' t5 hs5 hh5 q5 => ⟨ρ', S', t14.trans t5, hs5, hh5, q5⟩
    · exact fun σ' H' ρ' S' t5 hs5 hh5 q5 => ⟨ρ', S', t14.trans t5, hs5, hh5, q5⟩
  · have e : i = ws.length := by omega
    subst e
    exact .inl ⟨src.stop _ H2 S2 t2 hh2 (pok _ _ _ p2) (Nat.le_refl _), po.nx σ2 H2 ρ2 S2 (t1.trans t2) hs2 hh2 (pend _ _ p2)⟩⟩

/-! ### comprehensions -/
def wipeW (ρ : StW) : List Nat → StW
  | [] => ρ
  | v :: vs => (wipeW ρ vs).set v none
theorem srep_wipe {H : Hp} {σ : L2.St} {ρ : StW} (h : SRep K H σ ρ) : ∀ vs : List Nat, SRep K H (wipe σ vs) (wipeW ρ vs)
  | [] => h
  | v :: vs => by
    have ih := srep_wipe h vs
    unfold wipe wipeW
    refine ⟨by rw [List.length_set, List.length_set, ih.len], fun j z e => ?_⟩
    by_cases q : v = j
    · subst q
      by_cases hl : v < (wipeW ρ vs).length
      · rw [List.getElem?_set_self hl] at e; cases e
      · rw [List.getElem?_eq_none (by rw [List.length_set]; omega)] at e; cases e
    · rw [List.getElem?_set_ne q] at e ⊢
      exact ih.at_ j z e
/-- a target that stores own names alone -/
class GW (g : TG) (vs : List Nat) : Prop where
  l : ∀ v σ H Q, g v (wipe σ vs) H Q → g v (wipe σ vs) H fun σ2 H2 => wipe σ2 vs = wipe σ vs ∧ Q σ2 H2
theorem wipe_at (σ : L2.St) (vs : List Nat) (i : Nat) : (wipe σ vs)[i]? = if i ∈ vs then (if i < σ.length then some none else none) else σ[i]? := by
  induction vs with
  | nil => simp [wipe]
  | cons v vs ih =>
    unfold wipe
    by_cases q : v = i
    · subst q
      by_cases hl : v < σ.length
      · rw [List.getElem?_set_self (by rw [wipe_length]; exact hl)]
        simp [hl]
      · rw [List.getElem?_eq_none (by rw [List.length_set, wipe_length]; omega)]
        simp [hl]
    · rw [List.getElem?_set_ne q, ih]
      simp [Ne.symm q]
theorem wipe_set {σ : L2.St} {vs : List Nat} {j : Nat} {x : V} (hj : j ∈ vs) : wipe ((wipe σ vs).set j (some x)) vs = wipe σ vs := by
  apply List.ext_getElem?
  intro i
  rw [wipe_at, wipe_at]
  by_cases hi : i ∈ vs
  · simp [hi, wipe_length]
  · rw [if_neg hi, if_neg hi, List.getElem?_set_ne (show j ≠ i from fun e => hi (by rw [← e]; exact hj)), wipe_at, if_neg hi]
class MemN (j : Nat) (vs : List Nat) : Prop where
  h : j ∈ vs
instance mem_hd {j : Nat} {vs : List Nat} : MemN j (j :: vs) := ⟨by simp⟩
instance mem_tl {j v : Nat} {vs : List Nat} [h : MemN j vs] : MemN j (v :: vs) := ⟨by simp [h.h]⟩
instance memm_hd {j : Nat} {x : Str} {vs : List (Str × Nat)} : MemN j (((x, j) :: vs).map (·.2)) := ⟨by simp⟩
instance memm_tl {j : Nat} {y : Str × Nat} {vs : List (Str × Nat)} [h : MemN j (vs.map (·.2))] : MemN j ((y :: vs).map (·.2)) := ⟨by rw [List.map_cons]; exact List.mem_cons_of_mem _ h.h⟩
instance gw_name {j : Nat} {vs : List Nat} [h : MemN j vs] : GW (gName j) vs := ⟨fun v σ H Q q => ⟨wipe_set h.h, q⟩⟩
def wLc (wi : TIW) (g : TGW) (tt : TTW) (te : TEW) (vs : List Nat) : TEW := fun ρ S Q => wi ρ S fun ws ok S1 => ∀ D, S1 D = none → ∃ P : Nat → List W → Sto → Prop, P 0 [] (put S1 D (.lst [])) ∧
  (∀ i acc S', P i acc S' → ok S') ∧
  (∀ i w acc S', ws[i]? = some w → P i acc S' → g w (wipeW ρ vs) S' fun ρ2 S2 => tt ρ2 S2 fun b S3 =>
    (b = true → te ρ2 S3 fun y S4 => S4 D = some (.lst acc) ∧ acc.length < sizeLine ∧ P (i + 1) (acc ++ [y]) (put S4 D (.lst (acc ++ [y])))) ∧ (b = false → P (i + 1) acc S3)) ∧
  ∀ acc S', P ws.length acc S' → Q (.ref D) S'
instance le_lc {wi : TI} {g : TG} {tt : TT} {te : TE} {vs : List Nat} {ww : TIW} {gw : TGW} {tw : TTW} {ew : TEW} [h : LI K wi ww] [b : LG K g gw] [gg : GW g vs] [c : LT K tt tw] [a : LE K te ew] : LE K (tLc wi g tt te vs) (wLc ww gw tw ew vs) := ⟨fun σ H ρ S Q Qw hs hh q po => by
  refine h.l σ H ρ S _ _ hs hh q fun J H1 S1 ws ok t1 hh1 src hD => fun D hDn => ?_
  obtain ⟨P, p0, pok, pst, pend⟩ := hD D (hh1.fresh hDn)
  have tD : Tk H1 (upd H1 D (.lst [])) := Tk.new hDn
  have hhD : HRep K (upd H1 D (.lst [])) (put S1 D (.lst [])) := hh1.new hDn ⟨[], upd_same, rfl⟩
  refine ⟨fun i m H' => m = ws.length - i ∧ i ≤ ws.length ∧ ∃ acc S', Tk H1 H' ∧ HRep K H' S' ∧ P i acc S', ⟨ws.length, by simp, Nat.zero_le _, [], _, tD, hhD, p0⟩, ?_⟩
  rintro i m H2 ⟨rfl, hi, acc, S2, t2, hh2, p2⟩
  by_cases hlt : i < ws.length
  · refine .inr ⟨src.go i H2 S2 t2 hh2 (pok _ _ _ p2) hlt, fun H' => ∃ acc S', Tk H1 H' ∧ HRep K H' S' ∧ P (i + 1) acc S', fun H' z => ⟨ws.length - (i + 1), by omega, rfl, hlt, z⟩, fun x H3 y => ?_⟩
    obtain ⟨t3, hh3, w, e, r⟩ := src.yld i H2 S2 x H3 t2 hh2 (pok _ _ _ p2) hlt y
    refine gg.l x σ H3 _ ?_
    have hs3 : SRep K H3 (wipe σ vs) (wipeW ρ vs) := srep_wipe (hs.tk ((t1.trans t2).trans t3)) vs
    refine b.l x w (wipe σ vs) H3 (wipeW ρ vs) S2 _ _ r hs3 hh3 (pst i w acc S2 e p2) fun σ4 H4 ρ4 S4 t4 hs4 hh4 q4 => ?_
    refine c.l σ4 H4 ρ4 S4 _ _ hs4 hh4 q4 fun bb H5 S5 t5 hh5 q5 => ?_
    have t15 := ((t2.trans t3).trans t4).trans t5
    cases bb with
    | true =>
      rw [if_pos rfl]
      refine a.l σ4 H5 ρ4 S5 _ _ (hs4.tk t5) hh5 (q5.1 rfl) fun z H6 wz S6 t6 hh6 r6 ⟨eD, hl, q6⟩ => ?_
      obtain ⟨vs', h1, h2⟩ := hh6 _ _ eD
      have t : Tk H6 (upd H6 D (.lst (vs' ++ [z]))) := Tk.mut h1 (fun _ z => (by cases z)) (fun _ _ z => (by cases z))
      obtain ⟨t, hm⟩ := hh6.mut (c' := .lst (acc ++ [wz])) (o := .lst (vs' ++ [z])) eD ⟨_, upd_same, (RepL.tk t _ _ h2).append (.one (Rep.tk t _ _ r6))⟩
      exact ⟨vs', h1, by rw [h2.length]; exact hl, _, _, (t15.trans t6).trans t, hm, q6⟩
    | false =>
      rw [if_neg Bool.false_ne_true]
      exact ⟨acc, S5, t15, hh5, q5.2 rfl⟩
  · have e : i = ws.length := by omega
    subst e
    exact .inl ⟨src.stop _ H2 S2 t2 hh2 (pok _ _ _ p2) (Nat.le_refl _), po.ref (t1.trans t2) hh2 (pend _ _ p2)⟩⟩
end Wl
set_option Elab.async false
set_option linter.all false
set_option maxRecDepth 100000
set_option maxHeartbeats 2000000
namespace Wl
open PySem PySem.Spec PyProof.Rows L2
variable {K : PySem.W.Frag}
/-! ### more statements -/
def wPar (i j : Nat) (ta : TAW) : TSW := fun D ρ S => ta ρ S fun ws S1 => match ws with
  | [v, w] => D.nx ((ρ.set i (some v)).set j (some w)) S1
  | _ => False
instance ls_par {i j : Nat} {ta : TA} {wa : TAW} [a : LA K ta wa] : LS K (tPar i j ta) (wPar i j wa) := ⟨fun σ H ρ S D Dw hs hh q po => a.l σ H ρ S _ _ hs hh q fun xs H1 ws S1 t1 hh1 r1 q1 => by
  split at q1
  · obtain ⟨x, y, rfl, h1, h2⟩ := rep2 r1
    exact ⟨x, y, rfl, po.nx _ H1 _ S1 t1 (((hs.tk t1).set i h1).set j h2) hh1 q1⟩
  · exact q1.elim⟩

/-- a statement, then the rest, with a word between them -/
def tMid (t u : TS) : TS := fun D σ H => ∃ M : L2.St → Hp → Prop, t { D with nx := M } σ H ∧ ∀ σ' H', M σ' H' → u D σ' H'
theorem pss_mid {X : Cx} {st : Stmt} {rest : List Stmt} {t u : TS} (h1 : PS X st t) (h2 : PSs X rest u) : PSs X (st :: rest) (tMid t u) := by
  refine ⟨fun pins s σ H D I h => ?_⟩
  obtain ⟨Mid, hm, hu⟩ := h
  refine wpAny_execs_cons (thn (h1.run pins s σ H { D with nx := Mid } I hm) fun f s1 q => ?_)
  cases f with
  | next =>
    obtain ⟨σ', H', I', q⟩ := q
    exact h2.run pins s1 σ' H' D I' (hu σ' H' q)
  | ret v => exact q
  | brk => exact q
  | cont => exact q
def wMid (t u : TSW) : TSW := fun D ρ S => ∃ M : StW → Sto → Prop, t { D with nx := M } ρ S ∧ ∀ ρ' S', M ρ' S' → u D ρ' S'
instance ls_mid {t u : TS} {tw uw : TSW} [a : LS K t tw] [b : LS K u uw] : LS K (tMid t u) (wMid tw uw) := ⟨fun σ H ρ S D Dw hs hh ⟨M, hm, hu⟩ po =>
  ⟨fun σ' H' => ∃ ρ' S', Tk H H' ∧ SRep K H' σ' ρ' ∧ HRep K H' S' ∧ M ρ' S', a.l σ H ρ S _ { Dw with nx := M } hs hh hm ⟨fun σ' H' ρ' S' t1 hs' hh' q' => ⟨ρ', S', t1, hs', hh', q'⟩, po.bk, po.ct, po.rt⟩,
    fun σ' H' ⟨ρ', S', t1, hs', hh', q'⟩ => b.l σ' H' ρ' S' D Dw hs' hh' (hu ρ' S' q') (po.tk t1)⟩⟩

/-! ### the text's defs -/
section
variable {P : Program} {w : World} {mg : Str → Option Value} {base : Heap}
structure DefAt (K : PySem.W.Frag) (mg : Str → Option Value) (x : Str) (st : Stmt) (ps : List Str) : Prop where
  ex : ∃ (f : Addr) (fd : FuncData), Fun K x x st f fd ∧ mg x = some (.ref f) ∧ Binds K fd ps []
theorem calD {x : Str} {st : Stmt} {N ps : List Str} {k : Nat} {sp : SpW} (d : DefAt K mg x st ps) (SC : FnScope N ps (defScope st))
    (len : ∀ ws S Q, sp ws S Q → ws.length = ps.length)
    (hbody : ∀ (f : Addr) (cdv : Value) (A : Around) (outer : List Env) (s : Shared) (H : Hp) (E : XK), Room k (A.deeper (envOfC x (defScope st) s.heap.objs.size f cdv)) →
      ∃ t tw, PSs (cxOf CX0 P w K mg base N x (defScope st) f cdv A outer s H E).nox (defBody st) t ∧ LS K t tw ∧ ∀ ws S Q, sp ws S Q → tw { nx := fun _ S' => Fg Q .non S', rt := Fg Q } (startW N ws) S) :
    CalW P w K mg base (k + 1) x sp := by
  obtain ⟨f, fd, F, hm, b⟩ := d.ex
  exact calW F hm b SC len (hbody f)
/-- the law itself -/
theorem fnD {x : Str} {st : Stmt} {N ps : List Str} {k : Nat} {sp : SpW} {f : Addr} {fd : FuncData} (F : Fun K x x st f fd) (SC : FnScope N ps (defScope st))
    (len : ∀ ws S Q, sp ws S Q → ws.length = ps.length)
    (hbody : ∀ (f : Addr) (cdv : Value) (A : Around) (outer : List Env) (s : Shared) (H : Hp) (E : XK), Room k (A.deeper (envOfC x (defScope st) s.heap.objs.size f cdv)) →
      ∃ t tw, PSs (cxOf CX0 P w K mg base N x (defScope st) f cdv A outer s H E).nox (defBody st) t ∧ LS K t tw ∧ ∀ ws S Q, sp ws S Q → tw { nx := fun _ S' => Fg Q .non S', rt := Fg Q } (startW N ws) S) :
    FnOk P w K mg base CX0 (k + 1) f fd ps (liftSp K sp) :=
  F.ok SC (fun vs H Q E ⟨ws, S, Qw, h1, _, h3, _⟩ => by rw [h1.length]; exact len _ _ _ h3) (fun cdv A outer s H vs Q E hr ⟨ws, S, Qw, h1, h2, h3, h4⟩ => by
    obtain ⟨t, tw, ht, hl, hq⟩ := hbody f cdv A outer s H E hr
    refine ⟨t, ht, hl.l _ H (startW N ws) S _ _ (SRep.init h1) h2 (hq ws S Qw h3) ⟨?_, fun _ _ _ _ _ _ _ z => z.elim, fun _ _ _ _ _ _ _ z => z.elim, ?_⟩⟩
    · rintro σ' H' ρ' S' t1 _ hh ⟨S2, sub, q⟩
      exact h4.non t1 (hh.sub sub) q
    · rintro v H' w S' t1 hh r ⟨S2, sub, q⟩
      exact h4 v H' w S2 t1 (hh.sub sub) r q)
end
/-- the law's promise: True, whatever the script -/
def spLaw : SpW := fun ws _ Q => ∃ ns : List Int, ws = [.rl (ns.map W.int)] ∧ ns.length ≤ 63 ∧ ∀ S', Q (.bl true) S'
theorem law_end {H : Hp} {a : Addr} {ns : List Int} (hl : ns.length ≤ 63) (hO : Only H) (hS : SqL K H a (ns.map V.int)) : liftSp K spLaw [.ref a] H (fun v _ => v = .bl true) (fun _ _ _ => False) := by
  refine ⟨[.rl (ns.map W.int)], fun _ => none, fun v _ => v = .bl true, ?_, fun a c e => (by cases e), ⟨ns, rfl, hl, fun _ => rfl⟩, fun v H' w S' _ _ r q => ?_⟩
  · refine .one ⟨a, ns.map V.int, rfl, ?_, RepL.ofInts⟩
    rcases hS with (h | h) | h
    · rcases hO a with z | ⟨o, xs, z⟩
      · rw [h] at z; cases z
      · rw [h] at z; cases z
    · exact .inl h
    · exact .inr h
  · have q' : w = .bl true := q
    subst q'
    exact r

theorem isTy_tt : isTy "tuple" "tuple" = some true := by decide +kernel
theorem isTy_ii : isTy "int" "int" = some true := by decide +kernel
theorem isTy_ib : isTy "int" "bool" = some false := by decide +kernel
theorem isTy_bb : isTy "bool" "bool" = some true := by decide +kernel
theorem isTy_ll : isTy "list" "list" = some true := by decide +kernel
theorem isTy_ss : isTy "str" "str" = some true := by decide +kernel
theorem tyName_lst {S : Sto} {a : Addr} {ws : List W} (h : S a = some (.lst ws)) : tyName (.ref a) S = some "list" := by
  unfold tyName
  simp only [h]
/-! ### never called -/
def wNever : TSW := fun _ _ _ => False
instance ls_never : LS K tNever wNever := ⟨fun σ H ρ S D Dw hs hh q po => q.elim⟩
def spNever : SpW := fun _ _ _ => False
theorem calNever {P : Program} {w : World} {mg : Str → Option Value} {base : Heap} {x : Str} {st : Stmt} {N ps : List Str} (d : DefAt K mg x st ps) (SC : FnScope N ps (defScope st)) : CalW P w K mg base 1 x spNever :=
  calD d SC (fun _ _ _ h => h.elim) fun f cdv A outer s H E hr => ⟨_, _, pss_never, inferInstance, fun ws S Q h => h.elim⟩

/-! ### stores -/
theorem ne_free {S : Sto} {p q : Addr} {c : Cell} (h : S p = some c) (n : S q = none) : q ≠ p := fun e => by rw [e, h] at n; cases n
theorem sub_new2 {S : Sto} {p : Addr} {c : Cell} (n : S p = none) : Sub S (put S p c) := Sub.new n

/-! ### pools: the drawn numbers of a script -/
/-- a pool's list: what is left, how many were drawn, whether by digits, the seed, three -/
def poolL (c n b s : Int) : List W := [.int c, .int n, .int b, .int s, .int 3]
structure PoolOk (c n s : Int) : Prop where
  c0 : 0 ≤ c
  n0 : 0 ≤ n
  n1 : n ≤ 1000000
  s0 : 0 ≤ s
  s1 : s < 2147483647
/-- a new pool at p; its own cell, anything else as it was -/
def spPool : SpW := fun ws S Q => ∃ (ns : List Int) (k : Int), ws = [.rl (ns.map W.int), .int k] ∧ 0 ≤ k ∧ k ≤ 1000 ∧ ns.length ≤ 63 ∧
  ∀ p c b s, S p = none → PoolOk c 0 s → Q (.ref p) (put S p (.lst (poolL c 0 b s)))
/-- one number is drawn, 0 or more and less than many -/
def spTake : SpW := fun ws S Q => ∃ (p : Addr) (c n b s many : Int), ws = [.ref p, .int many] ∧ S p = some (.lst (poolL c n b s)) ∧ PoolOk c n s ∧ n < 1000000 ∧ 0 < many ∧ many < 2 ^ 64 ∧
  ∀ r c', 0 ≤ r → r < many → PoolOk c' (n + 1) s → Q (.int r) (put S p (.lst (poolL c' (n + 1) b s)))
theorem sizeLine_ge : 1000 ≤ sizeLine := by decide
theorem atI_int {ns : List Int} {i : Int} (h0 : 0 ≤ i) (h1 : i < ns.length) : ∃ n, atI (ns.map W.int) i = some (.int n) := by
  obtain ⟨j, rfl⟩ : ∃ j : Nat, i = (j : Int) := ⟨i.toNat, by omega⟩
  have hj : j < ns.length := by omega
  refine ⟨ns[j], ?_⟩
  unfold atI ixN
  rw [if_pos (by omega), if_pos (by rw [List.length_map]; omega)]
  simp [hj]
end Wl
set_option Elab.async false
set_option linter.all false
set_option maxRecDepth 100000
set_option maxHeartbeats 2000000
/-! The rules with the written part named. -/
namespace Wl
open PySem PySem.Spec PyProof.Rows L2
section
variable {X : Cx} (K : PySem.W.Frag)
theorem k_add (hK : X.K = K := by rfl) : OpR X (binaryOp .Add) (rAddA K) := by subst hK; exact op_addA
theorem k_eq (hu : X.A.units + 64 < cLine) (hK : X.K = K := by rfl) : OpR X (compareOp .Eq) (rEqA K) := by subst hK; exact op_eqA hu
theorem k_ne (hu : X.A.units + 64 < cLine) (hK : X.K = K := by rfl) : OpR X (compareOp .NotEq) (rNeA K) := by subst hK; exact op_neA hu
theorem k_in (hK : X.K = K := by rfl) : OpR X (compareOp .In) (rInA K false) := by subst hK; exact op_inA
theorem k_notIn (hK : X.K = K := by rfl) : OpR X (compareOp .NotIn) (rInA K true) := by subst hK; exact op_notInA
theorem k_ix (hK : X.K = K := by rfl) : IxR X (rIx K) := by subst hK; exact ix_seq
theorem k_sl (hK : X.K = K := by rfl) : SlR X (rSlA K) := by subst hK; exact sl_A
theorem k_any {tg l : Expr} {tl : TE} (hl : PE X l tl) (hK : X.K = K := by rfl) : PI X tg l (iAny K tl) := by subst hK; exact pi_any hl
theorem k_len (hK : X.K = K := by rfl) : CallR X (.builtin "len") (rLenA K) := by subst hK; exact call_len
theorem k_list (hK : X.K = K := by rfl) : CallR X (.type "list") (rListA K) := by subst hK; exact call_list_of
theorem k_tuple (hK : X.K = K := by rfl) : CallR X (.type "tuple") (rTupA K) := by subst hK; exact call_tuple_of
theorem k_sum (hc : X.calm = true) (hK : X.K = K := by rfl) : CallR X (.builtin "sum") (rSum K) := by subst hK; exact cr_sum hc
theorem k_all (hc : X.calm = true) (hK : X.K = K := by rfl) : CallR X (.builtin "all") (rAll K) := by subst hK; exact cr_all hc
theorem k_anyC (hc : X.calm = true) (hK : X.K = K := by rfl) : CallR X (.builtin "any") (rAny K) := by subst hK; exact cr_any hc
theorem k_isi (hK : X.K = K := by rfl) : CallR X (.builtin "isinstance") (rIsi K) := by subst hK; exact call_isi
theorem k_gtup {es : List Expr} {k : Nat} {t : TGs} {n : Nat} {pos : Pos} (hc : X.calm = true) (h : PGs X es t)
    (hn : (assignEach es X.env).length = n := by rfl) (hst : (assignEach es X.env).findIdx? (·.1) = none := by rfl) (hK : X.K = K := by rfl) : PG X (.Tuple es k pos) (gTup K n t) := by subst hK; exact pg_tup hc h hn hst
theorem k_bm {o e : Expr} {es : List Expr} {to : TE} {t : TA} {name : Str} {apos cpos : Pos} {T id : String} {r : V → List V → Hp → VK → Prop} (pa : PlainAttrs T) (slot : Slot T name id) (hty : typeOf (.builtin id) = pure (.type "method_descriptor")) (hm : MtR X id r) (ho : PE X o to) (ha : PA X (e :: es) t)
    (hbase : attributeBase o name X.env (eval o X.env) = eval o X.env := by rfl)
    (hfew : ((backTo cpos (starEach (e :: es) X.env)).all (fun x => !x.1) && (backToKw cpos (keywordEach [] X.env)).all (fun x => x.1.isSome)
      && decide ((e :: es).length + ([] : List Keyword).length + (if ([] : List Keyword).isEmpty then 0 else 1) < 30)) = true := by rfl)
    (hline : (apos.endLine == cpos.line) = true := by rfl) (hs : starEach (e :: es) X.env = (false, eval e X.env) :: starEach es X.env := by rfl) (hplain : (backTo cpos (starEach es X.env)).any (·.1) = false := by rfl)
    (hK : X.K = K := by rfl) : PE X (.Call (.Attribute o name apos) (e :: es) [] cpos) (tBM K T r to t) := by subst hK; exact pe_bm pa slot hty hm ho ha hbase hfew hline hs hplain
theorem k_bm0 {o : Expr} {to : TE} {name : Str} {apos cpos : Pos} {T id : String} {r : V → List V → Hp → VK → Prop} (pa : PlainAttrs T) (slot : Slot T name id) (hty : typeOf (.builtin id) = pure (.type "method_descriptor")) (hm : MtR X id r) (ho : PE X o to)
    (hbase : attributeBase o name X.env (eval o X.env) = eval o X.env := by rfl) (hline : (apos.endLine == cpos.line) = true := by rfl) (hK : X.K = K := by rfl) : PE X (.Call (.Attribute o name apos) [] [] cpos) (tBM0 K T r to) := by subst hK; exact pe_bm0 pa slot hty hm ho hbase hline
theorem k_w {k j : Nat} {x : Str} {sp : SpW} {p pos : Pos} {e : Expr} {es : List Expr} {t : TA} (c : CalW X.prog X.w K X.mg X.base k x sp) (hr : Room j X.A) (hk : k ≤ j) (hg : Gl X x) (ha : PA X (e :: es) t)
    (hdb : (x == ("__debug__" : Str)) = false := by decide) (he : starEach (e :: es) X.env = (false, eval e X.env) :: starEach es X.env := by rfl) (hpl : (backTo pos (starEach es X.env)).any (·.1) = false := by rfl) (hK : X.K = K := by rfl) :
    PE X (.Call (.Name x p) (e :: es) [] pos) (tCall (liftSp K sp) [] E0 t) := by subst hK; exact pe_w c hr hk hg ha hdb he hpl
theorem k_w0 {k j : Nat} {x : Str} {sp : SpW} {p pos : Pos} (c : CalW X.prog X.w K X.mg X.base k x sp) (hr : Room j X.A) (hk : k ≤ j) (hg : Gl X x)
    (hdb : (x == ("__debug__" : Str)) = false := by decide) (hK : X.K = K := by rfl) : PE X (.Call (.Name x p) [] [] pos) (tCall (liftSp K sp) [] E0 tNil) := by subst hK; exact pe_w0 c hr hk hg hdb
end
/-! ### tests that change nothing, told by their answer -/
def EvW (t : TTW) (ρ : StW) (S : Sto) (b : Bool) : Prop := ∀ Q : Bool → Sto → Prop, Q b S → t ρ S Q
section
variable {t u : TTW} {ρ : StW} {S : Sto} {a b : Bool}
theorem evOr (h1 : EvW t ρ S a) (h2 : a = false → EvW u ρ S b) : EvW (wOr t u) ρ S (a || b) := fun Q q => h1 _ ⟨fun e => by rw [e] at q; exact q, fun e => by rw [e] at q; exact h2 e Q q⟩
theorem evAnd (h1 : EvW t ρ S a) (h2 : a = true → EvW u ρ S b) : EvW (wAnd t u) ρ S (a && b) := fun Q q => h1 _ ⟨fun e => by rw [e] at q; exact h2 e Q q, fun e => by rw [e] at q; exact q⟩
theorem evNot (h1 : EvW t ρ S a) : EvW (wNot t) ρ S (!a) := fun Q q => h1 _ q
theorem evIs {c : Bool} (h : EvW t ρ S a) (e : a = c) : EvW t ρ S c := by rw [← e]; exact h
theorem ifEv {p q : TSW} {D : EndsW} (h : EvW t ρ S b) (h1 : b = true → p D ρ S) (h2 : b = false → q D ρ S) : wIfS t p q D ρ S := h _ ⟨h1, h2⟩
end
theorem orGo {t : TTW} {ρ : StW} {S : Sto} {c b d : Bool} {K : Bool → Sto → Prop} (h : c = false → EvW t ρ S b) (e : (c || b) = d) (q : K d S) : (c = false → t ρ S K) ∧ (c = true → K true S) := by
  subst e
  exact ⟨fun e => by rw [e] at q; exact h e K q, fun e => by rw [e] at q; exact q⟩
theorem andGo {t : TTW} {ρ : StW} {S : Sto} {c b d : Bool} {K : Bool → Sto → Prop} (h : c = true → EvW t ρ S b) (e : (c && b) = d) (q : K d S) : (c = true → t ρ S K) ∧ (c = false → K false S) := by
  subst e
  exact ⟨fun e => by rw [e] at q; exact h e K q, fun e => by rw [e] at q; exact q⟩
theorem wEq_t {x y : W} {S : Sto} {Q : WK} (tx : ∃ a, x = .tup a) (ty : ∃ b, y = .tup b) (hx : shW x) (hy : shW y) (q : Q (.bl (PyData.eqv (toD x) (toD y))) S) : wEq x y S Q := by
  obtain ⟨a, rfl⟩ := tx
  obtain ⟨b, rfl⟩ := ty
  exact ⟨hx, hy, q⟩
theorem wNe_t {x y : W} {S : Sto} {Q : WK} (tx : ∃ a, x = .tup a) (ty : ∃ b, y = .tup b) (hx : shW x) (hy : shW y) (q : Q (.bl (!PyData.eqv (toD x) (toD y))) S) : wNe x y S Q := by
  obtain ⟨a, rfl⟩ := tx
  obtain ⟨b, rfl⟩ := ty
  exact ⟨hx, hy, q⟩
theorem rdAt_ok {o : Option W} {w : W} {S : Sto} {Q : WK} (e : o = some w) (q : Q w S) : rdAt o S Q := by rw [e]; exact q
/-- a comprehension whose element changes nothing: map -/
theorem lcMap {wi : TIW} {j : Nat} {te : TEW} {vs : List Nat} {ρ : StW} {S S1 : Sto} {Q : WK} {ws : List W} {ok : Sto → Prop} (f : W → W) (hw : ∀ R : List W → (Sto → Prop) → Sto → Prop, R ws ok S1 → wi ρ S R) (hl : ws.length ≤ 100000)
    (hok : ∀ (D : Addr) (acc : List W), S1 D = none → ok (put S1 D (.lst acc)))
    (he : ∀ (i : Nat) (w : W) (D : Addr) (acc : List W), ws[i]? = some w → S1 D = none → ∀ Q' : WK, Q' (f w) (put S1 D (.lst acc)) → te ((wipeW ρ vs).set j (some w)) (put S1 D (.lst acc)) Q')
    (hd : ∀ (D : Addr), S1 D = none → Q (.ref D) (put S1 D (.lst (ws.map f)))) : wLc wi (wName j) wYes te vs ρ S Q := by
  refine hw _ fun D hD => ⟨fun i acc S' => i ≤ ws.length ∧ acc = (ws.map f).take i ∧ S' = put S1 D (.lst acc), ⟨Nat.zero_le _, rfl, rfl⟩, ?_, ?_, ?_⟩
  · rintro i acc S' ⟨_, _, rfl⟩
    exact hok D acc hD
  · rintro i w acc S' e ⟨_, ha, rfl⟩
    refine ⟨fun _ => he i w D acc e hD _ ⟨put_same, ?_, ?_⟩, fun h => by cases h⟩
    · rw [ha, List.length_take]
      exact Nat.lt_of_le_of_lt (Nat.min_le_left _ _) (Nat.lt_of_lt_of_le (show i < 200000 by have := (List.getElem?_eq_some_iff.mp e).1; omega) (by decide))
    · refine ⟨(List.getElem?_eq_some_iff.mp e).1, ?_, put_put⟩
      rw [List.take_add_one, List.getElem?_map, e, ha]
      rfl
  · rintro acc S' ⟨_, ha, rfl⟩
    rw [List.take_of_length_le (by rw [List.length_map]; exact Nat.le_refl _)] at ha
    rw [ha]
    exact hd D hD
/-! ### is None -/
def isN : W → Bool
  | .non => true
  | _ => false
def wIsN : RW2 := fun x y S Q => y = .non ∧ Q (.bl (isN x)) S
instance l2_isN {K : PySem.W.Frag} : L2R K (fun x y H Q => y = V.non ∧ Q (V.bl (decide (x = V.non))) H) wIsN := ⟨fun H S x y wx wy Q Qw hh rx ry q po => by
  obtain ⟨rfl, q⟩ := q
  refine ⟨ry, ?_⟩
  have e : decide (x = V.non) = isN wx := by
    cases wx with
    | tup ws =>
      obtain ⟨a, xs, rfl, _⟩ := (show ∃ a xs, x = .ref a ∧ _ from rx)
      rfl
    | rl ws =>
      obtain ⟨a, xs, rfl, _⟩ := (show ∃ a xs, x = .ref a ∧ _ from rx)
      rfl
    | _ => cases (show x = _ from rx); rfl
  rw [e]
  exact po.bl (Tk.refl H) hh q⟩
theorem isN_of {K : PySem.W.Frag} {H : Hp} {x : V} {wx : W} (rx : Rep K H wx x) : decide (x = V.non) = isN wx := by
  cases wx with
  | tup ws =>
    obtain ⟨a, xs, rfl, _⟩ := (show ∃ a xs, x = .ref a ∧ _ from rx)
    rfl
  | rl ws =>
    obtain ⟨a, xs, rfl, _⟩ := (show ∃ a xs, x = .ref a ∧ _ from rx)
    rfl
  | _ => cases (show x = _ from rx); rfl
def wNotN : RW2 := fun x y S Q => y = .non ∧ Q (.bl (!isN x)) S
instance l2_notN {K : PySem.W.Frag} : L2R K (fun x y H Q => y = V.non ∧ Q (V.bl (!decide (x = V.non))) H) wNotN := ⟨fun H S x y wx wy Q Qw hh rx ry q po => by
  obtain ⟨rfl, q⟩ := q
  refine ⟨ry, ?_⟩
  rw [isN_of rx]
  exact po.bl (Tk.refl H) hh q⟩
/-! ### more of the types -/
theorem isTy_tb : isTy "tuple" "bool" = some false := by decide +kernel
theorem isTy_ti : isTy "tuple" "int" = some false := by decide +kernel
theorem isTy_ts : isTy "tuple" "str" = some false := by decide +kernel
theorem isTy_tl : isTy "tuple" "list" = some false := by decide +kernel
theorem isTy_lb : isTy "list" "bool" = some false := by decide +kernel
theorem isTy_li : isTy "list" "int" = some false := by decide +kernel
theorem isTy_ls : isTy "list" "str" = some false := by decide +kernel
theorem isTy_lt : isTy "list" "tuple" = some false := by decide +kernel
theorem isTy_sb : isTy "str" "bool" = some false := by decide +kernel
theorem isTy_si : isTy "str" "int" = some false := by decide +kernel
theorem isTy_st : isTy "str" "tuple" = some false := by decide +kernel
theorem isTy_sl : isTy "str" "list" = some false := by decide +kernel
theorem isTy_is : isTy "int" "str" = some false := by decide +kernel
theorem isTy_it : isTy "int" "tuple" = some false := by decide +kernel
theorem isTy_il : isTy "int" "list" = some false := by decide +kernel
theorem isTy_bi : isTy "bool" "int" = some true := by decide +kernel
theorem isTy_bs : isTy "bool" "str" = some false := by decide +kernel
/-! ### shapes -/
def shN (n : Nat) (w : W) : Prop := datW w = true ∧ (toD w).canLay0 = true ∧ (toD w).depth ≤ n
theorem shN_list {n : Nat} : ∀ {ws : List W}, (∀ w ∈ ws, shN n w) → datWs ws = true ∧ PyData.canLayAll0 (toDs ws) = true ∧ PyData.depthAll (toDs ws) ≤ n
  | [], _ => ⟨rfl, rfl, Nat.zero_le _⟩
  | w :: ws, h => by
    obtain ⟨a, b, c⟩ := h w List.mem_cons_self
    obtain ⟨d, e, f⟩ := shN_list fun x hx => h x (List.mem_cons_of_mem _ hx)
    refine ⟨?_, ?_, ?_⟩
    · unfold datWs; rw [a, d]; rfl
    · unfold toDs; unfold PyData.canLayAll0; rw [b, e]; rfl
    · unfold toDs; unfold PyData.depthAll; exact Nat.max_le.mpr ⟨c, f⟩
theorem shN_tup {n : Nat} {ws : List W} (h : ∀ w ∈ ws, shN n w) : shN (n + 1) (.tup ws) := by
  obtain ⟨a, b, c⟩ := shN_list h
  refine ⟨by unfold datW; exact a, by unfold toD; unfold PyData.canLay0; exact b, ?_⟩
  unfold toD
  unfold PyData.depth
  omega
theorem shN_rl {n : Nat} {ws : List W} (h : ∀ w ∈ ws, shN n w) : shN (n + 1) (.rl ws) := by
  obtain ⟨a, b, c⟩ := shN_list h
  refine ⟨by unfold datW; exact a, by unfold toD; unfold PyData.canLay0; exact b, ?_⟩
  unfold toD
  unfold PyData.depth
  omega
theorem shN_int (n : Int) : shN 0 (.int n) := ⟨rfl, rfl, Nat.le_refl 0⟩
theorem shN_str {n : Str} (h : PyData.strOk n = true) : shN 0 (.str n) := ⟨rfl, h, Nat.le_refl 0⟩
theorem shN_bl (n : Bool) : shN 0 (.bl n) := ⟨rfl, rfl, Nat.le_refl 0⟩
theorem shN_up {n m : Nat} {w : W} (h : shN n w) (l : n ≤ m) : shN m w := ⟨h.1, h.2.1, Nat.le_trans h.2.2 l⟩
theorem shN_sh {n : Nat} {w : W} (h : shN n w) (l : n ≤ 64) : shW w := ⟨h.1, by unfold SeqAt.shaped; rw [h.2.1, decide_eq_true (Nat.le_trans h.2.2 l)]; rfl⟩
theorem eqvW_refl {w : W} (h : shW w) : PyData.eqv (toD w) (toD w) = true := SeqAt.eqv_refl _ (by
  have := h.2
  unfold SeqAt.shaped at this
  rw [Bool.and_eq_true] at this
  exact this.1)
theorem eqvAllW_refl {ws : List W} (h : shW (.rl ws)) : PyData.eqvAll (toDs ws) (toDs ws) = true := SeqAt.eqvAll_refl _ (by
  have := h.2
  unfold SeqAt.shaped at this
  rw [Bool.and_eq_true] at this
  exact this.1)
end Wl
set_option Elab.async false
set_option linter.all false
set_option maxRecDepth 100000
set_option maxHeartbeats 4000000
set_option synthInstance.maxHeartbeats 4000000
set_option synthInstance.maxSize 100000
namespace K27
open PySem PySem.Spec PyProof.Rows L2 Wl
/-! ### the text -/
def topS (i : Nat) : Stmt := PySem.Challenge.pw_stylepages_k27_corners_of_outlines.main.body.getD i (.Pass ⟨0, 0, 0, 0⟩)
abbrev s__sign : Stmt := topS 1
theorem sc__sign : FnScope ["number"] ["number"] (defScope s__sign) := ⟨rfl, rfl, rfl, by decide +kernel, rfl, by decide +kernel, by decide +kernel⟩
abbrev s__line_steps : Stmt := topS 2
theorem sc__line_steps : FnScope ["dx", "dy", "across", "many", "level", "upright", "steps", "k", "goes_across"] ["dx", "dy"] (defScope s__line_steps) := ⟨rfl, rfl, rfl, by decide +kernel, rfl, by decide +kernel, by decide +kernel⟩
abbrev s__first_is_nearer : Stmt := topS 3
theorem sc__first_is_nearer : FnScope ["a", "b", "radius", "by_first", "by_second"] ["a", "b", "radius"] (defScope s__first_is_nearer) := ⟨rfl, rfl, rfl, by decide +kernel, rfl, by decide +kernel, by decide +kernel⟩
abbrev s__arc_steps : Stmt := topS 4
theorem sc__arc_steps : FnScope ["radius", "first", "second", "a", "b", "steps"] ["radius", "first", "second"] (defScope s__arc_steps) := ⟨rfl, rfl, rfl, by decide +kernel, rfl, by decide +kernel, by decide +kernel⟩
abbrev s_unit_steps : Stmt := topS 5
theorem sc_unit_steps : FnScope ["stroke", "word", "dx", "dy", "level", "upright"] ["stroke"] (defScope s_unit_steps) := ⟨rfl, rfl, rfl, by decide +kernel, rfl, by decide +kernel, by decide +kernel⟩
abbrev s_corners : Stmt := topS 6
theorem sc_corners : FnScope ["outline", "x", "y", "strokes", "found", "stroke", "dx", "dy"] ["outline"] (defScope s_corners) := ⟨rfl, rfl, rfl, by decide +kernel, rfl, by decide +kernel, by decide +kernel⟩
abbrev s__law_pool : Stmt := topS 8
theorem sc__law_pool : FnScope ["_law_script", "_law_at", "_law_cell"] ["_law_script", "_law_at"] (defScope s__law_pool) := ⟨rfl, rfl, rfl, by decide +kernel, rfl, by decide +kernel, by decide +kernel⟩
abbrev s__law_take : Stmt := topS 9
theorem sc__law_take : FnScope ["_law_pool_here", "_law_many", "_law_got", "_law_one", "_law_two"] ["_law_pool_here", "_law_many"] (defScope s__law_take) := ⟨rfl, rfl, rfl, by decide +kernel, rfl, by decide +kernel, by decide +kernel⟩
abbrev s__law_same : Stmt := topS 10
theorem sc__law_same : FnScope ["_law_one", "_law_two", "_law_both", "_law_k"] ["_law_one", "_law_two"] (defScope s__law_same) := ⟨rfl, rfl, rfl, by decide +kernel, rfl, by decide +kernel, by decide +kernel⟩
abbrev s__law_stroke : Stmt := topS 11
theorem sc__law_stroke : FnScope ["_law_pool_here", "_law_reach", "_law_sort", "_law_bend", "_law_dx", "_law_dy"] ["_law_pool_here", "_law_reach"] (defScope s__law_stroke) := ⟨rfl, rfl, rfl, by decide +kernel, rfl, by decide +kernel, by decide +kernel⟩
abbrev s__law_outline : Stmt := topS 12
theorem sc__law_outline : FnScope ["_law_pool_here", "_law_shape", "_law_many", "_law_reach", "_law_x", "_law_y", "_law_strokes", "_law_k", "_law_dx", "_law_stroke_here", "_law_dy", "_law_one"] ["_law_pool_here"] (defScope s__law_outline) := ⟨rfl, rfl, rfl, by decide +kernel, rfl, by decide +kernel, by decide +kernel⟩
abbrev s__law_sign : Stmt := topS 13
theorem sc__law_sign : FnScope ["_law_number"] ["_law_number"] (defScope s__law_sign) := ⟨rfl, rfl, rfl, by decide +kernel, rfl, by decide +kernel, by decide +kernel⟩
abbrev s__law_line_steps : Stmt := topS 14
theorem sc__law_line_steps : FnScope ["_law_dx", "_law_dy", "_law_wide", "_law_many", "_law_account", "_law_steps_here", "_law_k"] ["_law_dx", "_law_dy"] (defScope s__law_line_steps) := ⟨rfl, rfl, rfl, by decide +kernel, rfl, by decide +kernel, by decide +kernel⟩
abbrev s__law_steps : Stmt := topS 15
theorem sc__law_steps : FnScope ["_law_stroke_here", "_law_moves", "_law_bend", "_law_a", "_law_b", "_law_off", "_law_steps_here", "_law_k", "_law_along", "_law_inward"] ["_law_stroke_here"] (defScope s__law_steps) := ⟨rfl, rfl, rfl, by decide +kernel, rfl, by decide +kernel, by decide +kernel⟩
abbrev s__law_walked : Stmt := topS 16
theorem sc__law_walked : FnScope ["_law_outline_here", "_law_x", "_law_y", "_law_reached", "_law_stroke_here", "_law_step"] ["_law_outline_here"] (defScope s__law_walked) := ⟨rfl, rfl, rfl, by decide +kernel, rfl, by decide +kernel, by decide +kernel⟩
abbrev s_law : Stmt := topS 17
theorem sc_law : FnScope ["_law_script", "_law_pool_here", "_law_outline_here", "_law_dx", "_law_dy", "_law_due", "_law_told", "_law_x", "_law_stroke_here", "_law_y", "_law_moved", "_law_corner"] ["_law_script"] (defScope s_law) := ⟨rfl, rfl, rfl, by decide +kernel, rfl, by decide +kernel, by decide +kernel⟩
structure Txt (K : PySem.W.Frag) (mg : Str → Option Value) : Prop where
  b_abs : mg "abs" = none
  b_bool : mg "bool" = none
  b_int : mg "int" = none
  b_isinstance : mg "isinstance" = none
  b_len : mg "len" = none
  b_list : mg "list" = none
  b_min : mg "min" = none
  b_range : mg "range" = none
  b_str : mg "str" = none
  b_sum : mg "sum" = none
  b_tuple : mg "tuple" = none
local macro_rules | `(tactic| walk_at "w") => `(tactic| (conv => whnf))
section
variable {P : Program} {w : World} {K : PySem.W.Frag} {mg : Str → Option Value} {base : Heap}
def signI (n : Int) : Int := if n = 0 then 0 else if n > 0 then 1 else -1
def spSign : SpW := fun ws S Q => ∃ n, ws = [.int n] ∧ Q (.int (signI n)) S
theorem ok__sign (T : Txt K mg) (d : DefAt K mg "_sign" s__sign ["number"]) : CalW P w K mg base 1 "_sign" spSign :=
  calD d sc__sign (fun ws S Q ⟨n, e, _⟩ => by rw [e]; rfl) fun f cdv A outer s H E hr => ⟨_, _,
    (pss_cons (ps_if (pt_cmpR (k_eq K hr.units) (pv 0) pe_int (nomark _))
       (pss_one (ps_ret pe_int))
       pss_nil)
      (pss_one (ps_ret (pe_ifExp (pt_cmpR op_gtA (pv 0) pe_int (nomark _)) pe_int (pe_un un_neg pe_int))))), inferInstance, by
    rintro ws S Q ⟨n, rfl, q⟩
    unfold signI at q
    walk_at "w"
    refine ⟨fun h => ?_, fun h => ?_⟩
    · have h := of_decide_eq_true h
      rw [if_pos h] at q
      exact Fg.here q
    · have h := of_decide_eq_false h
      rw [if_neg h] at q
      walk_at "w"
      refine ⟨fun h2 => ?_, fun h2 => ?_⟩
      · have h2 := of_decide_eq_true h2
        rw [if_pos h2] at q
        exact Fg.here q
      · have h2 := of_decide_eq_false h2
        rw [if_neg (show ¬ n > 0 from h2)] at q
        exact Fg.here q⟩
theorem ok__law_sign (T : Txt K mg) (d : DefAt K mg "_law_sign" s__law_sign ["_law_number"]) : CalW P w K mg base 1 "_law_sign" spSign :=
  calD d sc__law_sign (fun ws S Q ⟨n, e, _⟩ => by rw [e]; rfl) fun f cdv A outer s H E hr => ⟨_, _,
    (pss_one (ps_ret (pe_op op_sub (pe_callTy call_int1 (by rfl) T.b_int (by decide +kernel) (pa_cons (pe_cmpR op_gtA (pv 0) pe_int (nomark _)) pa_nil)) (pe_callTy call_int1 (by rfl) T.b_int (by decide +kernel) (pa_cons (pe_cmpR op_ltA (pv 0) pe_int (nomark _)) pa_nil))))), inferInstance, by
    rintro ws S Q ⟨n, rfl, q⟩
    have e : signI n = (if decide (0 < n) = true then 1 else 0) - (if decide (n < 0) = true then 1 else 0) := by
      unfold signI
      simp only [decide_eq_true_eq]
      split <;> split <;> (try split) <;> omega
    rw [e] at q
    exact Fg.here q⟩
theorem ok__law_pool (T : Txt K mg) (d : DefAt K mg "_law_pool" s__law_pool ["_law_script", "_law_at"]) : CalW P w K mg base 1 "_law_pool" spPool :=
  calD d sc__law_pool (fun ws S Q ⟨n, k, e, _⟩ => by rw [e]; rfl) fun f cdv A outer s H E hr => ⟨_, _,
    (pss_cons (ps_set (i := 2) sc__law_pool.nd rfl (Or.inl rfl) pe_int)
      (pss_mid (ps_if (pt_cmpR op_ltA (pv 1) (pe_callB (k_len K) (by rfl) T.b_len (by decide +kernel) (pa_cons (pv 0) pa_nil)) (nomark _))
       (pss_one (ps_set (i := 2) sc__law_pool.nd rfl (Or.inl rfl) (pe_callB call_abs (by rfl) T.b_abs (by decide +kernel) (pa_cons (pe_callTy call_int1 (by rfl) T.b_int (by decide +kernel) (pa_cons (pe_ix (k_ix K) (pv 0) (pv 1) (fun _ _ => rfl)) pa_nil)) pa_nil))))
       pss_nil)
      (pss_one (ps_ret (pe_lst (pa_cons (pv 2) (pa_cons pe_int (pa_cons (pe_callTy call_int1 (by rfl) T.b_int (by decide +kernel) (pa_cons (pe_cmpR op_geA (pv 2) (pe_op op_pow pe_int pe_int) (nomark _)) pa_nil)) (pa_cons (pe_op op_mod (pe_callTy call_int1 (by rfl) T.b_int (by decide +kernel) (pa_cons (pe_op (k_add K) (pv 2) (pe_op op_mulA (pv 1) pe_int)) pa_nil)) pe_int) (pa_cons pe_int pa_nil)))))))))), inferInstance, by
    rintro ws S Q ⟨ns, k, rfl, h0, h1, hl, q⟩
    refine ⟨fun ρ S' => S' = S ∧ ∃ c : Int, 0 ≤ c ∧ ρ = [some (.rl (ns.map W.int)), some (.int k), some (.int c)], ?_, ?_⟩
    · walk_at "w"
      refine ⟨fun h => ?_, fun h => ?_⟩
      · have h := of_decide_eq_true h
        rw [List.length_map] at h
        obtain ⟨n, e⟩ := atI_int (ns := ns) h0 h
        show rdAt (atI (ns.map W.int) k) S _
        rw [e]
        refine ⟨rfl, _, ?_, rfl⟩
        show 0 ≤ if n < 0 then -n else n
        split <;> omega
      · exact ⟨rfl, 0, Int.le_refl 0, rfl⟩
    · rintro ρ S' ⟨rfl, c, hc, rfl⟩
      refine ⟨⟨by decide, by decide, by decide⟩, .inl (.inl ⟨by omega, by omega⟩), (by show (0 : Int) < 2147483647; decide), ?_⟩
      intro p hp
      refine Fg.here (q p c _ _ hp ⟨hc, Int.le_refl 0, by decide, ?_, ?_⟩)
      · exact Int.emod_nonneg _ (by decide)
      · exact Int.emod_lt_of_pos _ (by decide)⟩
theorem ok__law_take (T : Txt K mg) (d : DefAt K mg "_law_take" s__law_take ["_law_pool_here", "_law_many"]) : CalW P w K mg base 1 "_law_take" spTake :=
  calD d sc__law_take (fun ws S Q ⟨p, c, n, b, s, many, e, _⟩ => by rw [e]; rfl) fun f cdv A outer s H E hr => ⟨_, _,
    (pss_cons (ps_asg (pe_op (k_add K) (pe_ix (k_ix K) (pv 0) pe_int (fun _ _ => rfl)) pe_int) (pg_sub (pv 0) pe_int set_list))
      (pss_cons (ps_if (pt_cmpR (k_eq K hr.units) (pe_ix (k_ix K) (pv 0) pe_int (fun _ _ => rfl)) pe_int (nomark _))
       (pss_cons (ps_set (i := 2) sc__law_take.nd rfl (Or.inl rfl) (pe_op op_mod (pe_callTy call_int1 (by rfl) T.b_int (by decide +kernel) (pa_cons (pe_ix (k_ix K) (pv 0) pe_int (fun _ _ => rfl)) pa_nil)) (pv 1)))
       (pss_cons (ps_asg (pe_op op_fdivA (pe_ix (k_ix K) (pv 0) pe_int (fun _ _ => rfl)) (pv 1)) (pg_sub (pv 0) pe_int set_list))
       (pss_one (ps_ret (pv 2)))))
       pss_nil)
      (pss_cons (ps_set (i := 3) sc__law_take.nd rfl (Or.inl rfl) (pe_op op_mod (pe_callTy call_int1 (by rfl) T.b_int (by decide +kernel) (pa_cons (pe_op (k_add K) (pe_op (k_add K) (pe_op op_mulA (pe_ix (k_ix K) (pv 0) pe_int (fun _ _ => rfl)) pe_int) (pe_op op_mulA (pe_ix (k_ix K) (pv 0) pe_int (fun _ _ => rfl)) pe_int)) pe_int) pa_nil)) pe_int))
      (pss_cons (ps_set (i := 4) sc__law_take.nd rfl (Or.inl rfl) (pe_op op_mod (pe_callTy call_int1 (by rfl) T.b_int (by decide +kernel) (pa_cons (pe_op (k_add K) (pe_op (k_add K) (pe_op op_mulA (pv 3) pe_int) (pe_op op_fdivA (pv 3) pe_int)) (pe_op op_mulA (pe_op op_mulA (pe_ix (k_ix K) (pv 0) pe_int (fun _ _ => rfl)) (pe_ix (k_ix K) (pv 0) pe_int (fun _ _ => rfl))) pe_int)) pa_nil)) pe_int))
      (pss_one (ps_ret (pe_op op_mod (pe_callTy call_int1 (by rfl) T.b_int (by decide +kernel) (pa_cons (pe_op op_fdivA (pv 4) (pe_op (k_add K) (pe_ix (k_ix K) (pv 0) pe_int (fun _ _ => rfl)) pe_int)) pa_nil)) (pv 1)))))))), inferInstance, by
    rintro ws S Q ⟨p, c, n, b, sd, many, rfl, hp, hk, hn, hm, hm2, q⟩
    walk_at "w"
    refine ⟨_, hp, ?_⟩
    walk_at "w"
    refine ⟨_, 1, hp, rfl, ?_⟩
    walk_at "w"
    refine ⟨_, put_same, ?_⟩
    walk_at "w"
    have ok' : ∀ c', 0 ≤ c' → PoolOk c' (n + 1) sd := fun c' h => ⟨h, by have := hk.n0; omega, by omega, hk.s0, hk.s1⟩
    have dv : CDivA c many := .inr (wide_div hm (b := 64) (by omega) (by decide) (by decide))
    refine ⟨fun h => ?_, fun h => ?_⟩
    · walk_at "w"
      refine ⟨_, put_same, ?_⟩
      walk_at "w"
      refine ⟨hm, ?_⟩
      walk_at "w"
      refine ⟨_, put_same, ?_⟩
      walk_at "w"
      refine ⟨dv, ?_⟩
      walk_at "w"
      refine ⟨_, 0, put_same, rfl, ?_⟩
      rw [put_put]
      exact Fg.here (q _ (c / many) (Int.emod_nonneg _ (by omega)) (Int.emod_lt_of_pos _ hm) (ok' _ (Int.ediv_nonneg hk.c0 (by omega))))
    · have s0 := hk.s0
      have s1 := hk.s1
      have n0 := hk.n0
      walk_at "w"
      refine ⟨_, put_same, ?_⟩
      walk_at "w"
      refine ⟨.inl (.inl ⟨by omega, by omega⟩), ?_⟩
      walk_at "w"
      refine ⟨_, put_same, ?_⟩
      walk_at "w"
      refine ⟨.inl (.inl ⟨by omega, by omega⟩), ?_⟩
      walk_at "w"
      refine ⟨(by show (0 : Int) < 2147483647; decide), ?_⟩
      generalize ho : (sd * 48271 + (n + 1) * 69621 + 11) % 2147483647 = one
      have o0 : 0 ≤ one := by rw [← ho]; exact Int.emod_nonneg _ (by decide)
      have o1 : one < 2147483647 := by rw [← ho]; exact Int.emod_lt_of_pos _ (by decide)
      walk_at "w"
      refine ⟨.inl (.inl ⟨by omega, by omega⟩), ?_⟩
      walk_at "w"
      refine ⟨.inl ⟨by decide, by decide⟩, ?_⟩
      walk_at "w"
      refine ⟨_, put_same, ?_⟩
      walk_at "w"
      refine ⟨_, put_same, ?_⟩
      walk_at "w"
      refine ⟨.inl (.inl ⟨by omega, by omega⟩), ?_⟩
      walk_at "w"
      refine ⟨.inl (.inr ⟨by decide, by decide⟩), ?_⟩
      walk_at "w"
      refine ⟨(by show (0 : Int) < 2147483399; decide), ?_⟩
      generalize ht : (one * 16807 + one / 65536 + (n + 1) * (n + 1) * 40692) % 2147483399 = two
      walk_at "w"
      refine ⟨_, put_same, ?_⟩
      walk_at "w"
      refine ⟨.inl ⟨by omega, by omega⟩, ?_⟩
      walk_at "w"
      refine ⟨hm, ?_⟩
      exact Fg.here (q _ c (Int.emod_nonneg _ (by omega)) (Int.emod_lt_of_pos _ hm) (ok' _ hk.c0))⟩
/-! the steps of a line -/
def ab (n : Int) : Int := if n < 0 then -n else n
theorem ab0 (n : Int) : 0 ≤ ab n := by unfold ab; split <;> omega
theorem ab_sign (n : Int) : signI n * ab n = n := by
  unfold signI ab
  split
  · split <;> omega
  · split <;> split <;> omega
def lvl (dx : Int) : W := .tup [.int (signI dx), .int 0]
def upr (dy : Int) : W := .tup [.int 0, .int (signI dy)]
def acr (a n : Int) (k : Nat) : Bool := decide ((0 + (k : Int)) * a / n < (0 + (k : Int) + 1) * a / n)
def stepAt (dx dy : Int) (k : Nat) : W := if acr (ab dx) (ab dx + ab dy) k = true then lvl dx else upr dy
def stepsL (dx dy : Int) (m : Nat) : List W := (List.range m).map (stepAt dx dy)
theorem stepsL_succ (dx dy : Int) (m : Nat) : stepsL dx dy (m + 1) = stepsL dx dy m ++ [stepAt dx dy m] := by
  unfold stepsL
  rw [List.range_succ, List.map_append]
  rfl
theorem stepsL_len (dx dy : Int) (m : Nat) : (stepsL dx dy m).length = m := by unfold stepsL; simp
def manyOf (dx dy : Int) : Nat := (ab dx + ab dy).toNat
def spLine : SpW := fun ws S Q => ∃ dx dy, ws = [.int dx, .int dy] ∧ ab dx ≤ 1000 ∧ ab dy ≤ 1000 ∧ ∀ p, S p = none → Q (.ref p) (put S p (.lst (stepsL dx dy (manyOf dx dy))))
theorem ok__line_steps (T : Txt K mg) (c__sign : CalW P w K mg base 1 "_sign" spSign) (d : DefAt K mg "_line_steps" s__line_steps ["dx", "dy"]) : CalW P w K mg base 2 "_line_steps" spLine :=
  calD d sc__line_steps (fun ws S Q ⟨a, b, e, _⟩ => by rw [e]; rfl) fun f cdv A outer s H E hr => ⟨_, _,
    (pss_cons (ps_set (i := 2) sc__line_steps.nd rfl (Or.inl rfl) (pe_callB call_abs (by rfl) T.b_abs (by decide +kernel) (pa_cons (pv 0) pa_nil)))
      (pss_cons (ps_set (i := 3) sc__line_steps.nd rfl (Or.inl rfl) (pe_op (k_add K) (pv 2) (pe_callB call_abs (by rfl) T.b_abs (by decide +kernel) (pa_cons (pv 1) pa_nil))))
      (pss_cons (ps_par (i := 4) (j := 5) (by rfl) sc__line_steps.nd rfl rfl (by decide) rfl rfl (pa_cons (pe_tup (pa_cons (k_w K c__sign hr (by decide) rfl (pa_cons (pv 0) pa_nil)) (pa_cons pe_int pa_nil))) (pa_cons (pe_tup (pa_cons pe_int (pa_cons (k_w K c__sign hr (by decide) rfl (pa_cons (pv 1) pa_nil)) pa_nil))) pa_nil)) (by rfl))
      (pss_cons (ps_set (i := 6) sc__line_steps.nd rfl (Or.inl rfl) (pe_lst pa_nil))
      (pss_cons (ps_for PassesOwn.never rfl (pi_range1 rfl T.b_range (pa_cons (pv 3) pa_nil)) (pg_name (i := 7) sc__line_steps.nd rfl (Or.inl rfl))
       (pss_cons (ps_set (i := 8) sc__line_steps.nd rfl (Or.inl rfl) (pe_cmpR op_gtA (pe_op op_fdivA (pe_op op_mulA (pe_op (k_add K) (pv 7) pe_int) (pv 2)) (pv 3)) (pe_op op_fdivA (pe_op op_mulA (pv 7) (pv 2)) (pv 3)) (nomark _)))
       (pss_one (ps_expr (k_bm K PySem.F.plainAttrs_list PySem.F.slot_list_append PySem.F.type_list_append mt_append (pv 6) (pa_cons (pe_ifExp (pt_val (pv 8)) (pv 4) (pv 5)) pa_nil))))))
      (pss_one (ps_ret (pv 6)))))))), inferInstance, by
    rintro ws S Q ⟨dx, dy, rfl, hx, hy, q⟩
    walk_at "w"
    refine ⟨dx, rfl, ?_⟩
    walk_at "w"
    refine ⟨dy, rfl, ?_⟩
    walk_at "w"
    intro p hp
    walk_at "w"
    have x0 := ab0 dx
    have y0 := ab0 dy
    refine ⟨by show -(2 ^ 62) ≤ ab dx + ab dy; omega, by show ab dx + ab dy < 2 ^ 62; omega, ?_⟩
    refine ⟨fun i ρ' S' => i ≤ manyOf dx dy ∧ S' = put S p (.lst (stepsL dx dy i)) ∧ ∃ kk g, ρ' = [some (.int dx), some (.int dy), some (.int (ab dx)), some (.int (ab dx + ab dy)), some (lvl dx), some (upr dy), some (.ref p), kk, g],
      ⟨Nat.zero_le _, rfl, none, none, rfl⟩, fun _ _ _ _ => trivial, ?_, ?_⟩
    · rintro i w ρ' S' e ⟨_, rfl, kk, g, rfl⟩
      obtain ⟨hi, rfl⟩ := intsW_at e
      have hi2 : (i : Int) < ab dx + ab dy := by
        have : i < (ab dx + ab dy).toNat := hi
        omega
      walk_at "w"
      refine ⟨.inl (.inl ⟨by omega, by omega⟩), ?_⟩
      walk_at "w"
      refine ⟨.inl ⟨by omega, by omega⟩, ?_⟩
      walk_at "w"
      refine ⟨.inl (.inl ⟨by omega, by omega⟩), ?_⟩
      walk_at "w"
      refine ⟨.inl ⟨by omega, by omega⟩, ?_⟩
      walk_at "w"
      refine ⟨.inl ⟨rfl, _, put_same⟩, ?_⟩
      walk_at "w"
      have fin : (i + 1 ≤ manyOf dx dy) ∧ put (put S p (.lst (stepsL dx dy i))) p (.lst (stepsL dx dy i ++ [stepAt dx dy i])) = put S p (.lst (stepsL dx dy (i + 1))) := ⟨hi, by rw [put_put, stepsL_succ]⟩
      have sm : (stepsL dx dy i).length < sizeLine := by
        rw [stepsL_len]
        have : manyOf dx dy = (ab dx + ab dy).toNat := rfl
        exact Nat.lt_of_lt_of_le (show i < 10000 by omega) (by decide)
      refine ⟨fun h => ?_, fun h => ?_⟩
      · walk_at "w"
        have es : stepAt dx dy i = lvl dx := if_pos h
        rw [es] at fin
        exact ⟨_, put_same, sm, fin.1, fin.2, _, _, rfl⟩
      · walk_at "w"
        have es : stepAt dx dy i = upr dy := if_neg (by intro z; have z' := h.symm.trans z; cases z')
        rw [es] at fin
        exact ⟨_, put_same, sm, fin.1, fin.2, _, _, rfl⟩
    · rintro ρ' S' ⟨_, rfl, kk, g, rfl⟩
      rw [intsW_len]
      exact Fg.here (q p hp)⟩
theorem acr_n {a n : Int} {k : Nat} (ha : 0 ≤ a) (hn : 0 < n) (hle : a ≤ n) : (0 + (k : Int) + 1) * a / n = (0 + (k : Int)) * a / n + (if acr a n k = true then 1 else 0) := by
  have e : (0 + (k : Int) + 1) * a = (0 + (k : Int)) * a + a := by rw [Int.add_mul]; omega
  have h1 : (0 + (k : Int)) * a / n ≤ (0 + (k : Int) + 1) * a / n := Int.ediv_le_ediv hn (by omega)
  have h2 : (0 + (k : Int) + 1) * a / n ≤ (0 + (k : Int)) * a / n + 1 := by
    have e2 : (0 + (k : Int)) * a / n + 1 = ((0 + (k : Int)) * a + n) / n := by
      rw [Int.add_ediv_of_dvd_right (Int.dvd_refl n), Int.ediv_self (by omega)]
    rw [e2]
    exact Int.ediv_le_ediv hn (by omega)
  unfold acr
  split
  · rename_i h
    have := of_decide_eq_true h
    omega
  · rename_i h
    have : ¬ (0 + (k : Int)) * a / n < (0 + (k : Int) + 1) * a / n := fun z => h (decide_eq_true z)
    omega
/-- how many of the first k steps are level -/
def lev (dx dy : Int) (k : Nat) : Int := (k : Int) * ab dx / (ab dx + ab dy)
theorem lev_succ {dx dy : Int} {k : Nat} (hn : 0 < ab dx + ab dy) : lev dx dy (k + 1) = lev dx dy k + (if acr (ab dx) (ab dx + ab dy) k = true then 1 else 0) := by
  have h := acr_n (a := ab dx) (n := ab dx + ab dy) (k := k) (ab0 dx) hn (by have := ab0 dy; omega)
  unfold lev
  have e1 : ((k + 1 : Nat) : Int) = 0 + (k : Int) + 1 := by omega
  have e2 : (k : Int) = 0 + (k : Int) := by omega
  rw [e1, h, ← e2]
theorem lev_bound {dx dy : Int} {k : Nat} (hn : 0 < ab dx + ab dy) : lev dx dy k * (ab dx + ab dy) ≤ (k : Int) * ab dx ∧ (k : Int) * ab dx < (lev dx dy k + 1) * (ab dx + ab dy) := by
  unfold lev
  constructor
  · exact Int.ediv_mul_le _ (by omega)
  · exact Int.lt_ediv_add_one_mul_self _ hn
theorem lev_nonneg {dx dy : Int} {k : Nat} (hn : 0 < ab dx + ab dy) : 0 ≤ lev dx dy k := Int.ediv_nonneg (Int.mul_nonneg (by omega) (ab0 dx)) (by omega)
theorem lev_le {dx dy : Int} {k : Nat} (hn : 0 < ab dx + ab dy) : lev dx dy k ≤ k := by
  unfold lev
  have h : (k : Int) * ab dx ≤ (k : Int) * (ab dx + ab dy) := Int.mul_le_mul_of_nonneg_left (by have := ab0 dy; omega) (by omega)
  have h2 := Int.ediv_le_ediv hn h
  rw [Int.mul_ediv_cancel _ (by omega)] at h2
  exact h2
def rst (a n : Int) (k : Nat) : Int := (0 + (k : Int)) * a - n * ((0 + (k : Int)) * a / n)
theorem rst_step {a n : Int} {k : Nat} (ha : 0 ≤ a) (hn : 0 < n) (hle : a ≤ n) : (n ≤ rst a n k + a ↔ acr a n k = true) ∧ (acr a n k = true → rst a n (k + 1) = rst a n k + a - n) ∧ (acr a n k = false → rst a n (k + 1) = rst a n k + a) := by
  have e3 : (0 + ((k + 1 : Nat) : Int)) * a = (0 + (k : Int)) * a + a := by
    rw [show (0 + ((k + 1 : Nat) : Int)) = 0 + (k : Int) + 1 by omega, Int.add_mul]; omega
  have h := acr_n (k := k) ha hn hle
  rw [show 0 + (k : Int) + 1 = 0 + ((k + 1 : Nat) : Int) by omega, e3] at h
  have em1 := Int.emod_nonneg ((0 + (k : Int)) * a) (show n ≠ 0 by omega)
  have em2 := Int.emod_lt_of_pos ((0 + (k : Int)) * a) hn
  have en1 := Int.emod_nonneg ((0 + (k : Int)) * a + a) (show n ≠ 0 by omega)
  have en2 := Int.emod_lt_of_pos ((0 + (k : Int)) * a + a) hn
  rw [Int.emod_def] at em1 em2 en1 en2
  unfold rst
  rw [e3]
  rw [h] at en1 en2 ⊢
  generalize (0 + (k : Int)) * a / n = q at *
  generalize (0 + (k : Int)) * a = z at *
  have e4 : n * (q + 1) = n * q + n := by rw [Int.mul_add, Int.mul_one]
  cases hc : acr a n k with
  | true =>
    rw [hc, if_pos rfl, e4] at en1 en2
    rw [if_pos rfl, e4]
    generalize n * q = m at *
    exact ⟨⟨fun _ => rfl, fun _ => by omega⟩, fun _ => by omega, fun z => by cases z⟩
  | false =>
    rw [hc, if_neg (by decide), Int.add_zero] at en1 en2
    rw [if_neg (by decide), Int.add_zero]
    generalize n * q = m at *
    exact ⟨⟨fun _ => by omega, fun z => by cases z⟩, (fun z => by cases z), fun _ => by omega⟩
/-! the steps of an arc: true for the first move -/
def along (r a b : Int) : Int := ab (a * a + (b + 1) * (b + 1) - r * r)
def inward (r a b : Int) : Int := ab ((a - 1) * (a - 1) + b * b - r * r)
def dcs (r a b : Int) : Bool := decide (a = 0) || (decide (b < r) && decide (along r a b ≤ inward r a b))
def arc (r : Int) : Nat → Int → Int → List Bool
  | 0, _, _ => []
  | n + 1, a, b => if dcs r a b = true then true :: arc r n a (b + 1) else false :: arc r n (a - 1) b
def mv (u v : W) (t : Bool) : W := if t = true then u else v
theorem arc_len (r : Int) : ∀ n a b, (arc r n a b).length = n
  | 0, _, _ => rfl
  | n + 1, a, b => by
    unfold arc
    split
    · rw [List.length_cons, arc_len r n]
    · rw [List.length_cons, arc_len r n]
theorem arc_yes {r a b : Int} {n : Nat} (h : dcs r a b = true) : arc r (n + 1) a b = true :: arc r n a (b + 1) := by
  show (if dcs r a b = true then true :: arc r n a (b + 1) else false :: arc r n (a - 1) b) = _
  rw [if_pos h]
theorem arc_no {r a b : Int} {n : Nat} (h : dcs r a b = false) : arc r (n + 1) a b = false :: arc r n (a - 1) b := by
  show (if dcs r a b = true then true :: arc r n a (b + 1) else false :: arc r n (a - 1) b) = _
  rw [if_neg (by rw [h]; decide)]
def spNear : SpW := fun ws S Q => ∃ a b r, ws = [.int a, .int b, .int r] ∧ ab a ≤ 1000 ∧ ab b ≤ 1000 ∧ ab r ≤ 1000 ∧ Q (.bl (decide (along r a b ≤ inward r a b))) S
theorem ok__first_is_nearer (T : Txt K mg) (d : DefAt K mg "_first_is_nearer" s__first_is_nearer ["a", "b", "radius"]) : CalW P w K mg base 1 "_first_is_nearer" spNear :=
  calD d sc__first_is_nearer (fun ws S Q ⟨a, b, r, e, _⟩ => by rw [e]; rfl) fun f cdv A outer s H E hr => ⟨_, _,
    (pss_cons (ps_set (i := 3) sc__first_is_nearer.nd rfl (Or.inl rfl) (pe_callB call_abs (by rfl) T.b_abs (by decide +kernel) (pa_cons (pe_op op_sub (pe_op (k_add K) (pe_op op_mulA (pv 0) (pv 0)) (pe_op op_mulA (pe_op (k_add K) (pv 1) pe_int) (pe_op (k_add K) (pv 1) pe_int))) (pe_op op_mulA (pv 2) (pv 2))) pa_nil)))
      (pss_cons (ps_set (i := 4) sc__first_is_nearer.nd rfl (Or.inl rfl) (pe_callB call_abs (by rfl) T.b_abs (by decide +kernel) (pa_cons (pe_op op_sub (pe_op (k_add K) (pe_op op_mulA (pe_op op_sub (pv 0) pe_int) (pe_op op_sub (pv 0) pe_int)) (pe_op op_mulA (pv 1) (pv 1))) (pe_op op_mulA (pv 2) (pv 2))) pa_nil)))
      (pss_one (ps_ret (pe_cmpR op_leA (pv 3) (pv 4) (nomark _)))))), inferInstance, by
    rintro ws S Q ⟨a, b, r, rfl, ha, hb, hrr, q⟩
    have lim : ∀ n : Int, ab n ≤ 1000 → -1000 ≤ n ∧ n ≤ 1000 := fun n h => by unfold ab at h; split at h <;> omega
    have a1 := lim a ha
    have b1 := lim b hb
    have r1 := lim r hrr
    walk_at "w"
    refine ⟨.inl (.inl ⟨by omega, by omega⟩), ?_⟩
    walk_at "w"
    refine ⟨.inl (.inl ⟨by omega, by omega⟩), ?_⟩
    walk_at "w"
    refine ⟨.inl (.inl ⟨by omega, by omega⟩), ?_⟩
    walk_at "w"
    refine ⟨.inl (.inl ⟨by omega, by omega⟩), ?_⟩
    walk_at "w"
    refine ⟨.inl (.inl ⟨by omega, by omega⟩), ?_⟩
    walk_at "w"
    refine ⟨.inl (.inl ⟨by omega, by omega⟩), ?_⟩
    exact Fg.here q⟩
def arcL (u v : W) (r : Int) : List W := (arc r (2 * r).toNat r 0).map (mv u v)
def spArc : SpW := fun ws S Q => ∃ r u v, ws = [.int r, u, v] ∧ 0 ≤ r ∧ r ≤ 900 ∧ ∀ p, S p = none → Q (.ref p) (put S p (.lst (arcL u v r)))
theorem ok__arc_steps (T : Txt K mg) (c__first_is_nearer : CalW P w K mg base 1 "_first_is_nearer" spNear) (d : DefAt K mg "_arc_steps" s__arc_steps ["radius", "first", "second"]) : CalW P w K mg base 2 "_arc_steps" spArc :=
  calD d sc__arc_steps (fun ws S Q ⟨r, u, v, e, _⟩ => by rw [e]; rfl) fun f cdv A outer s H E hr => ⟨_, _,
    (pss_cons (ps_set (i := 3) sc__arc_steps.nd rfl (Or.inl rfl) (pv 0))
      (pss_cons (ps_set (i := 4) sc__arc_steps.nd rfl (Or.inl rfl) pe_int)
      (pss_cons (ps_set (i := 5) sc__arc_steps.nd rfl (Or.inl rfl) (pe_lst pa_nil))
      (pss_cons (ps_while PassesOwn.never (PW.pt (pw_or (pt_cmpR op_gtA (pv 3) pe_int (nomark _)) (pw_or1 (pt_cmpR op_ltA (pv 4) (pv 0) (nomark _)))))
       (pss_one (ps_if (PW.pt (pw_or (pt_cmpR (k_eq K hr.units) (pv 3) pe_int (nomark _)) (pw_or1 (PW.pt (pw_and (pt_cmpR op_ltA (pv 4) (pv 0) (nomark _)) (pw_and1 (pt_val (k_w K c__first_is_nearer hr (by decide) rfl (pa_cons (pv 3) (pa_cons (pv 4) (pa_cons (pv 0) pa_nil)))))))))))
        (pss_cons (ps_expr (k_bm K PySem.F.plainAttrs_list PySem.F.slot_list_append PySem.F.type_list_append mt_append (pv 5) (pa_cons (pv 1) pa_nil)))
        (pss_one (ps_aug (i := 4) sc__arc_steps.nd rfl (Or.inl rfl) pe_int ip_add)))
        (pss_cons (ps_expr (k_bm K PySem.F.plainAttrs_list PySem.F.slot_list_append PySem.F.type_list_append mt_append (pv 5) (pa_cons (pv 2) pa_nil)))
        (pss_one (ps_aug (i := 3) sc__arc_steps.nd rfl (Or.inl rfl) pe_int ip_sub))))))
      (pss_one (ps_ret (pv 5))))))), inferInstance, by
    rintro ws S Q ⟨r, u, v, rfl, r0, r1, q⟩
    walk_at "w"
    intro p hp
    walk_at "w"
    refine ⟨fun m ρ' S' => ∃ a b pre, 0 ≤ a ∧ a ≤ r ∧ 0 ≤ b ∧ b ≤ r ∧ m = (a + (r - b)).toNat ∧ pre ++ (arc r m a b).map (mv u v) = arcL u v r ∧ pre.length ≤ 2000 - m ∧ S' = put S p (.lst pre) ∧ ρ' = [some (.int r), some u, some v, some (.int a), some (.int b), some (.ref p)], ⟨(r + (r - 0)).toNat, r, 0, [], r0, Int.le_refl r, Int.le_refl 0, r0, rfl, ?_, by simp, rfl, rfl⟩, ?_⟩
    · unfold arcL
      rw [show (r + (r - 0)).toNat = (2 * r).toNat by omega]
      rfl
    · rintro m ρ' S' ⟨a, b, pre, a0, a1, b0, b1, hm, he, hl, rfl, rfl⟩
      have abs : ∀ n : Int, 0 ≤ n → n ≤ 900 → ab n ≤ 1000 := fun n h1 h2 => by unfold ab; split <;> omega
      refine (evOr (a := decide (0 < a)) (b := decide (b < r)) (fun Q q => q) fun _ Q q => q) _ ⟨fun h => ?_, fun h => ?_⟩
      · have hab : 0 < a ∨ b < r := by
          rw [Bool.or_eq_true] at h
          exact h.imp of_decide_eq_true of_decide_eq_true
        obtain ⟨n, en⟩ : ∃ n, m = n + 1 := ⟨m - 1, by omega⟩
        have hl2 : pre.length < sizeLine := Nat.lt_of_lt_of_le (show pre.length < 3000 by omega) (by decide)
        refine ifEv (b := dcs r a b) (evOr (fun Q q => q) fun _ => evAnd (fun Q q => q) fun _ Q q => ⟨a, b, r, rfl, abs a a0 (by omega), abs b b0 (by omega), abs r r0 r1, q⟩) (fun hd => ?_) (fun hd => ?_)
        · have hb : b < r := by
            unfold dcs at hd
            rw [Bool.or_eq_true, Bool.and_eq_true] at hd
            rcases hd with hd | hd
            · have := of_decide_eq_true hd
              omega
            · exact of_decide_eq_true hd.1
          walk_at "w"
          refine ⟨.inl ⟨rfl, _, put_same⟩, ?_⟩
          walk_at "w"
          refine ⟨_, put_same, hl2, ?_⟩
          walk_at "w"
          refine ⟨_, rfl, n, by omega, a, b + 1, pre ++ [u], a0, a1, by omega, by omega, by omega, ?_, ?_, put_put, rfl⟩
          · rw [← he, en, arc_yes hd, List.map_cons, List.append_assoc]
            rfl
          · rw [List.length_append]
            show pre.length + 1 ≤ _
            omega
        · have ha : 0 < a := by
            unfold dcs at hd
            rw [Bool.or_eq_false_iff] at hd
            have := of_decide_eq_false hd.1
            omega
          walk_at "w"
          refine ⟨.inl ⟨rfl, _, put_same⟩, ?_⟩
          walk_at "w"
          refine ⟨_, put_same, hl2, ?_⟩
          walk_at "w"
          refine ⟨_, rfl, n, by omega, a - 1, b, pre ++ [v], by omega, by omega, b0, b1, by omega, ?_, ?_, put_put, rfl⟩
          · rw [← he, en, arc_no hd, List.map_cons, List.append_assoc]
            rfl
          · rw [List.length_append]
            show pre.length + 1 ≤ _
            omega
      · rw [Bool.or_eq_false_iff] at h
        have h1 := of_decide_eq_false h.1
        have h2 := of_decide_eq_false h.2
        have em : m = 0 := by omega
        subst em
        have e2 : pre = arcL u v r := by
          rw [← he]
          unfold arc
          simp
        subst e2
        exact Fg.here (q p hp)⟩
theorem sq_dec (a : Int) : (a - 1) * (a - 1) = a * a - 2 * a + 1 := by
  rw [Int.sub_mul, Int.mul_sub, Int.mul_one, Int.one_mul]; omega
theorem sq_inc (b : Int) : (b + 1) * (b + 1) = b * b + 2 * b + 1 := by
  rw [Int.add_mul, Int.mul_add, Int.mul_one, Int.one_mul]; omega
theorem dcs_yes {r a b : Int} (h : dcs r a b = true) : a = 0 ∨ (b < r ∧ along r a b ≤ inward r a b) := by
  unfold dcs at h
  rw [Bool.or_eq_true, Bool.and_eq_true] at h
  exact h.imp of_decide_eq_true fun z => ⟨of_decide_eq_true z.1, of_decide_eq_true z.2⟩
theorem dcs_no {r a b : Int} (h : dcs r a b = false) : a ≠ 0 ∧ (r ≤ b ∨ inward r a b < along r a b) := by
  unfold dcs at h
  rw [Bool.or_eq_false_iff] at h
  refine ⟨of_decide_eq_false h.1, ?_⟩
  have h2 := h.2
  rw [Bool.and_eq_false_iff] at h2
  rcases h2 with h2 | h2
  · have := of_decide_eq_false h2
    omega
  · have := of_decide_eq_false h2
    omega
theorem sq_le {b r : Int} (h0 : 0 ≤ b) (h : b ≤ r) : b * b ≤ r * r := Int.mul_le_mul h h h0 (by omega)
theorem ab_cases (e : Int) : (0 ≤ e ∧ ab e = e) ∨ (e < 0 ∧ ab e = -e) := by
  unfold ab
  split
  · exact .inr ⟨by assumption, rfl⟩
  · exact .inl ⟨by omega, rfl⟩
/-- e: how far (a, b) is from the circle -/
def ee (r a b : Int) : Int := a * a + b * b - r * r
theorem along_ee (r a b : Int) : along r a b = ab (ee r a b + 2 * b + 1) := by
  unfold along ee
  rw [sq_inc]
  congr 1
  omega
theorem inward_ee (r a b : Int) : inward r a b = ab (ee r a b - 2 * a + 1) := by
  unfold inward ee
  rw [sq_dec]
  congr 1
  omega
theorem ee_inc (r a b : Int) : ee r a (b + 1) = ee r a b + 2 * b + 1 := by
  unfold ee
  rw [sq_inc]
  omega
theorem ee_dec (r a b : Int) : ee r (a - 1) b = ee r a b - 2 * a + 1 := by
  unfold ee
  rw [sq_dec]
  omega
/-! strokes -/
def wd (fl : Bool) : Str := if fl = true then "flat" else "steep"
def fst (fl : Bool) (dx dy : Int) : W := if fl = true then lvl dx else upr dy
def snd (fl : Bool) (dx dy : Int) : W := if fl = true then upr dy else lvl dx
inductive Sk where
  | ln (dx dy : Int)
  | ar (fl : Bool) (dx dy : Int)
def Sk.v : Sk → W
  | .ln dx dy => .tup [.str "line", .int dx, .int dy]
  | .ar fl dx dy => .tup [.str (wd fl), .int dx, .int dy]
def Sk.ok : Sk → Prop
  | .ln dx dy => ab dx ≤ 20 ∧ ab dy ≤ 20
  | .ar _ dx dy => ab dx = ab dy ∧ ab dx ≤ 20
def Sk.dx : Sk → Int
  | .ln dx _ => dx
  | .ar _ dx _ => dx
def Sk.dy : Sk → Int
  | .ln _ dy => dy
  | .ar _ _ dy => dy
def Sk.steps : Sk → List (Int × Int)
  | .ln dx dy => (List.range (manyOf dx dy)).map fun k => if acr (ab dx) (ab dx + ab dy) k = true then (signI dx, 0) else (0, signI dy)
  | .ar fl dx dy => (arc (ab dx) (2 * ab dx).toNat (ab dx) 0).map fun t => if t = fl then (signI dx, 0) else (0, signI dy)
def pairW (z : Int × Int) : W := .tup [.int z.1, .int z.2]
theorem steps_line (dx dy : Int) : (Sk.ln dx dy).steps.map pairW = stepsL dx dy (manyOf dx dy) := by
  unfold Sk.steps stepsL
  rw [List.map_map]
  refine List.map_congr_left fun k _ => ?_
  show pairW (if _ then _ else _) = if _ then _ else _
  split <;> rfl
theorem steps_arc (fl : Bool) (dx dy : Int) : (Sk.ar fl dx dy).steps.map pairW = arcL (fst fl dx dy) (snd fl dx dy) (ab dx) := by
  unfold Sk.steps arcL
  rw [List.map_map]
  refine List.map_congr_left fun t _ => ?_
  cases fl <;> cases t <;> rfl
theorem steps_len {k : Sk} (h : k.ok) : k.steps.length ≤ 40 := by
  cases k with
  | ln dx dy =>
    obtain ⟨h1, h2⟩ := h
    unfold Sk.steps
    rw [List.length_map, List.length_range]
    unfold manyOf
    omega
  | ar fl dx dy =>
    have h2 := h.2
    unfold Sk.steps
    rw [List.length_map, arc_len]
    omega
def spSteps : SpW := fun ws S Q => ∃ k : Sk, ws = [k.v] ∧ k.ok ∧ ∀ p, S p = none → Q (.ref p) (put S p (.lst (k.steps.map pairW)))
theorem ok_unit_steps (T : Txt K mg) (c__line_steps : CalW P w K mg base 2 "_line_steps" spLine) (c__sign : CalW P w K mg base 1 "_sign" spSign) (c__arc_steps : CalW P w K mg base 2 "_arc_steps" spArc) (d : DefAt K mg "unit_steps" s_unit_steps ["stroke"]) :
    CalW P w K mg base 3 "unit_steps" spSteps :=
  calD d sc_unit_steps (fun ws S Q ⟨k, e, _⟩ => by rw [e]; rfl) fun f cdv A outer s H E hr => ⟨_, _,
    (pss_cons (ps_asg (pv 0) (k_gtup K rfl (pgs_cons (pg_name (i := 1) sc_unit_steps.nd rfl (Or.inl rfl)) (pgs_cons (pg_name (i := 2) sc_unit_steps.nd rfl (Or.inl rfl)) (pgs_cons (pg_name (i := 3) sc_unit_steps.nd rfl (Or.inl rfl)) pgs_nil)))))
      (pss_cons (ps_if (pt_cmpR (k_eq K hr.units) (pv 1) pe_str (nomark _))
       (pss_one (ps_ret (k_w K c__line_steps hr (by decide) rfl (pa_cons (pv 2) (pa_cons (pv 3) pa_nil)))))
       pss_nil)
      (pss_cons (ps_par (i := 4) (j := 5) (by rfl) sc_unit_steps.nd rfl rfl (by decide) rfl rfl (pa_cons (pe_tup (pa_cons (k_w K c__sign hr (by decide) rfl (pa_cons (pv 2) pa_nil)) (pa_cons pe_int pa_nil))) (pa_cons (pe_tup (pa_cons pe_int (pa_cons (k_w K c__sign hr (by decide) rfl (pa_cons (pv 3) pa_nil)) pa_nil))) pa_nil)) (by rfl))
      (pss_cons (ps_if (pt_cmpR (k_eq K hr.units) (pv 1) pe_str (nomark _))
       (pss_one (ps_ret (k_w K c__arc_steps hr (by decide) rfl (pa_cons (pe_callB call_abs (by rfl) T.b_abs (by decide +kernel) (pa_cons (pv 2) pa_nil)) (pa_cons (pv 4) (pa_cons (pv 5) pa_nil))))))
       pss_nil)
      (pss_one (ps_ret (k_w K c__arc_steps hr (by decide) rfl (pa_cons (pe_callB call_abs (by rfl) T.b_abs (by decide +kernel) (pa_cons (pv 2) pa_nil)) (pa_cons (pv 5) (pa_cons (pv 4) pa_nil)))))))))), inferInstance, by
    rintro ws S Q ⟨k, rfl, hk, q⟩
    cases k with
    | ln dx dy =>
      obtain ⟨hx, hy⟩ := hk
      rw [steps_line] at q
      walk_at "w"
      refine ⟨rfl, ?_⟩
      walk_at "w"
      refine ⟨rfl, ?_⟩
      walk_at "w"
      refine ⟨fun h => ?_, fun h => absurd rfl (of_decide_eq_false h)⟩
      walk_at "w"
      exact ⟨dx, dy, rfl, by omega, by omega, fun p hp => Fg.here (q p hp)⟩
    | ar fl dx dy =>
      obtain ⟨_, hx⟩ := hk
      rw [steps_arc] at q
      walk_at "w"
      refine ⟨rfl, ?_⟩
      walk_at "w"
      refine ⟨rfl, ?_⟩
      walk_at "w"
      refine ⟨fun h => absurd (of_decide_eq_true h) (by cases fl <;> decide), fun _ => ?_⟩
      walk_at "w"
      refine ⟨dx, rfl, ?_⟩
      walk_at "w"
      refine ⟨dy, rfl, ?_⟩
      walk_at "w"
      cases fl with
      | true =>
        refine ⟨fun _ => ?_, fun h => absurd rfl (of_decide_eq_false h)⟩
        walk_at "w"
        exact ⟨ab dx, lvl dx, upr dy, rfl, ab0 dx, by omega, fun p hp => Fg.here (q p hp)⟩
      | false =>
        refine ⟨fun h => absurd (of_decide_eq_true h) (by decide), fun _ => ?_⟩
        walk_at "w"
        exact ⟨ab dx, upr dy, lvl dx, rfl, ab0 dx, by omega, fun p hp => Fg.here (q p hp)⟩⟩
/-! walks -/
def stp (p s : Int × Int) : Int × Int := (p.1 + s.1, p.2 + s.2)
def nd (p : Int × Int) (ss : List (Int × Int)) : Int × Int := ss.foldl stp p
def wk (p : Int × Int) : List (Int × Int) → List (Int × Int)
  | [] => []
  | s :: ss => stp p s :: wk (stp p s) ss
theorem wk_add (p : Int × Int) (ss : List (Int × Int)) (s : Int × Int) : wk p (ss ++ [s]) = wk p ss ++ [stp (nd p ss) s] := by
  induction ss generalizing p with
  | nil => rfl
  | cons a ss ih =>
    show stp p a :: wk (stp p a) (ss ++ [s]) = stp p a :: (wk (stp p a) ss ++ [stp (nd (stp p a) ss) s])
    rw [ih]
theorem nd_add (p : Int × Int) (ss : List (Int × Int)) (s : Int × Int) : nd p (ss ++ [s]) = stp (nd p ss) s := by
  unfold nd
  rw [List.foldl_append]
  rfl
theorem wk_len (p : Int × Int) (ss : List (Int × Int)) : (wk p ss).length = ss.length := by
  induction ss generalizing p with
  | nil => rfl
  | cons a ss ih =>
    show (wk (stp p a) ss).length + 1 = ss.length + 1
    rw [ih]
def way (ks : List Sk) : List (Int × Int) := ks.flatMap Sk.steps
def run (p : Int × Int) (ss : List (Int × Int)) : List W := (p :: wk p ss).map pairW
theorem run_add (p : Int × Int) (ss : List (Int × Int)) (s : Int × Int) : run p (ss ++ [s]) = run p ss ++ [pairW (stp (nd p ss) s)] := by
  unfold run
  rw [wk_add, ← List.cons_append, List.map_append]
  rfl
theorem run_len (p : Int × Int) (ss : List (Int × Int)) : (run p ss).length = ss.length + 1 := by
  unfold run
  rw [List.length_map, List.length_cons, wk_len]
theorem way_take {ks : List Sk} {i : Nat} {k : Sk} (h : ks[i]? = some k) : way (ks.take (i + 1)) = way (ks.take i) ++ k.steps := by
  unfold way
  rw [List.take_add_one, h, List.flatMap_append]
  simp
theorem way_len {ks : List Sk} (h : ∀ k ∈ ks, k.ok) : ∀ i, (way (ks.take i)).length ≤ 40 * i := by
  intro i
  induction i with
  | zero => simp [way]
  | succ i ih =>
    cases e : ks[i]? with
    | none =>
      rw [List.take_add_one, e]
      simp only [Option.toList_none, List.append_nil]
      omega
    | some k =>
      rw [way_take e, List.length_append]
      have := steps_len (h k (List.mem_of_getElem? e))
      omega
def outlineW (x y : Int) (ks : List Sk) : W := .tup [.int x, .int y, .tup (ks.map Sk.v)]
def spCorners : SpW := fun ws S Q => ∃ x y ks, ws = [outlineW x y ks] ∧ (∀ k ∈ ks, k.ok) ∧ ks.length ≤ 100 ∧ ∀ p, S p = none → Q (.ref p) (put S p (.lst (run (x, y) (way ks))))
theorem ok_corners (T : Txt K mg) (c_unit_steps : CalW P w K mg base 3 "unit_steps" spSteps) (d : DefAt K mg "corners" s_corners ["outline"]) : CalW P w K mg base 4 "corners" spCorners :=
  calD d sc_corners (fun ws S Q ⟨x, y, ks, e, _⟩ => by rw [e]; rfl) fun f cdv A outer s H E hr => ⟨_, _,
    (pss_cons (ps_asg (pv 0) (k_gtup K rfl (pgs_cons (pg_name (i := 1) sc_corners.nd rfl (Or.inl rfl)) (pgs_cons (pg_name (i := 2) sc_corners.nd rfl (Or.inl rfl)) (pgs_cons (pg_name (i := 3) sc_corners.nd rfl (Or.inl rfl)) pgs_nil)))))
      (pss_cons (ps_set (i := 4) sc_corners.nd rfl (Or.inl rfl) (pe_lst (pa_cons (pe_tup (pa_cons (pv 1) (pa_cons (pv 2) pa_nil))) pa_nil)))
      (pss_cons (ps_for PassesOwn.never rfl (k_any K (pv 3)) (pg_name (i := 5) sc_corners.nd rfl (Or.inl rfl))
       (pss_one (ps_for PassesOwn.never rfl (k_any K (k_w K c_unit_steps hr (by decide) rfl (pa_cons (pv 5) pa_nil))) (k_gtup K rfl (pgs_cons (pg_name (i := 6) sc_corners.nd rfl (Or.inl rfl)) (pgs_cons (pg_name (i := 7) sc_corners.nd rfl (Or.inl rfl)) pgs_nil)))
        (pss_cons (ps_set (i := 1) sc_corners.nd rfl (Or.inl rfl) (pe_op (k_add K) (pv 1) (pv 6)))
        (pss_cons (ps_set (i := 2) sc_corners.nd rfl (Or.inl rfl) (pe_op (k_add K) (pv 2) (pv 7)))
        (pss_one (ps_expr (k_bm K PySem.F.plainAttrs_list PySem.F.slot_list_append PySem.F.type_list_append mt_append (pv 4) (pa_cons (pe_tup (pa_cons (pv 1) (pa_cons (pv 2) pa_nil))) pa_nil)))))))))
      (pss_one (ps_ret (pv 4)))))), inferInstance, by
    rintro ws S Q ⟨x, y, ks, rfl, hk, hl, q⟩
    walk_at "w"
    refine ⟨rfl, ?_⟩
    refine ⟨rfl, ?_⟩
    walk_at "w"
    intro p hp
    walk_at "w"
    have item : ∀ {i : Nat} {w : W}, (ks.map Sk.v)[i]? = some w → ∃ k, ks[i]? = some k ∧ w = k.v ∧ k.ok := fun {i w} e => by
      rw [List.getElem?_map] at e
      cases q2 : ks[i]? with
      | none => rw [q2] at e; cases e
      | some k =>
        rw [q2] at e
        exact ⟨k, rfl, (Option.some.inj e).symm, hk k (List.mem_of_getElem? q2)⟩
    refine ⟨fun i ρ' S' => i ≤ ks.length ∧ S' p = some (.lst (run (x, y) (way (ks.take i)))) ∧ Sub S S' ∧ ∃ v5 v6 v7, ρ' = [some (outlineW x y ks), some (.int (nd (x, y) (way (ks.take i))).1), some (.int (nd (x, y) (way (ks.take i))).2), some (.tup (ks.map Sk.v)), some (.ref p), v5, v6, v7],
      ⟨Nat.zero_le _, put_same, Sub.new hp, none, none, none, rfl⟩, fun _ _ _ _ => trivial, ?_, ?_⟩
    · rintro i w ρ' S' e ⟨_, h1, h2, v5, v6, v7, rfl⟩
      obtain ⟨k, ek, rfl, hok⟩ := item e
      have hi : i < ks.length := (List.getElem?_eq_some_iff.mp ek).1
      walk_at "w"
      refine ⟨k, rfl, hok, fun l hlf => ?_⟩
      have hpl : p ≠ l := fun e => by rw [← e, h1] at hlf; cases hlf
      walk_at "w"
      refine ⟨_, put_same, ?_⟩
      refine ⟨fun j ρ' S2 => j ≤ k.steps.length ∧ S2 l = some (.lst (k.steps.map pairW)) ∧ S2 p = some (.lst (run (x, y) (way (ks.take i) ++ k.steps.take j))) ∧ Sub S S2 ∧ ∃ v6 v7, ρ' = [some (outlineW x y ks), some (.int (nd (x, y) (way (ks.take i) ++ k.steps.take j)).1), some (.int (nd (x, y) (way (ks.take i) ++ k.steps.take j)).2), some (.tup (ks.map Sk.v)), some (.ref p), some k.v, v6, v7], ⟨Nat.zero_le _, put_same, ?_, ?_, v6, v7, ?_⟩, fun _ _ _ h => h.2.1, ?_, ?_⟩
      · rw [put_ne hpl, h1]
        simp
      · exact Sub.put_new h2 (Sub.free h2 hlf)
      · simp
      · rintro j w ρ' S2 e2 ⟨_, g1, g2, g3, v6, v7, rfl⟩
        obtain ⟨z, ez, rfl⟩ : ∃ z, k.steps[j]? = some z ∧ w = pairW z := by
          rw [List.getElem?_map] at e2
          cases q2 : k.steps[j]? with
          | none => rw [q2] at e2; cases e2
          | some z => rw [q2] at e2; exact ⟨z, rfl, (Option.some.inj e2).symm⟩
        have hj : j < k.steps.length := (List.getElem?_eq_some_iff.mp ez).1
        have et : way (ks.take i) ++ k.steps.take (j + 1) = (way (ks.take i) ++ k.steps.take j) ++ [z] := by
          rw [List.take_add_one, ez, List.append_assoc]
          rfl
        walk_at "w"
        refine ⟨rfl, ?_⟩
        walk_at "w"
        have wl := way_len hk i
        have sl := steps_len hok
        refine ⟨rfl, ?_⟩
        walk_at "w"
        refine ⟨.inl ⟨rfl, _, g2⟩, ?_⟩
        walk_at "w"
        refine ⟨_, g2, ?_, ?_⟩
        · rw [run_len, List.length_append, List.length_take]
          exact Nat.lt_of_le_of_lt (show _ ≤ 40 * 100 + 40 + 1 by omega) (by decide)
        refine ⟨hj, (put_ne hpl.symm).trans g1, ?_, Sub.put_new g3 hp, some (.int z.1), some (.int z.2), ?_⟩
        · rw [et, run_add]
          exact put_same
        · rw [et, nd_add]
          rfl
      · rintro ρ' S2 ⟨_, g1, g2, g3, v6, v7, rfl⟩
        rw [List.length_map, List.take_of_length_le (Nat.le_refl _), ← way_take ek] at g2 ⊢
        exact ⟨hi, g2, g3, _, _, _, rfl⟩
    · rintro ρ' S' ⟨_, h1, h2, v5, v6, v7, rfl⟩
      rw [List.length_map, List.take_of_length_le (Nat.le_refl _)] at h1
      refine ⟨put S p (.lst (run (x, y) (way ks))), fun a c h => ?_, q p hp⟩
      by_cases ea : a = p
      · rw [ea, put_same] at h
        rw [ea, h1, h]
      · rw [put_ne ea] at h
        exact h2 a c h⟩
/-! the law's own ways -/
theorem ok__law_line_steps (T : Txt K mg) (c__law_sign : CalW P w K mg base 1 "_law_sign" spSign) (d : DefAt K mg "_law_line_steps" s__law_line_steps ["_law_dx", "_law_dy"]) : CalW P w K mg base 2 "_law_line_steps" spLine :=
  calD d sc__law_line_steps (fun ws S Q ⟨a, b, e, _⟩ => by rw [e]; rfl) fun f cdv A outer s H E hr => ⟨_, _,
    (pss_cons (ps_set (i := 2) sc__law_line_steps.nd rfl (Or.inl rfl) (pe_callB call_abs (by rfl) T.b_abs (by decide +kernel) (pa_cons (pv 0) pa_nil)))
      (pss_cons (ps_set (i := 3) sc__law_line_steps.nd rfl (Or.inl rfl) (pe_op (k_add K) (pv 2) (pe_callB call_abs (by rfl) T.b_abs (by decide +kernel) (pa_cons (pv 1) pa_nil))))
      (pss_cons (ps_set (i := 4) sc__law_line_steps.nd rfl (Or.inl rfl) pe_int)
      (pss_cons (ps_set (i := 5) sc__law_line_steps.nd rfl (Or.inl rfl) (pe_lst pa_nil))
      (pss_cons (ps_for PassesOwn.never rfl (pi_range1 rfl T.b_range (pa_cons (pv 3) pa_nil)) (pg_name (i := 6) sc__law_line_steps.nd rfl (Or.inl rfl))
       (pss_cons (ps_set (i := 4) sc__law_line_steps.nd rfl (Or.inl rfl) (pe_op (k_add K) (pv 4) (pv 2)))
       (pss_one (ps_if (pt_cmpR op_geA (pv 4) (pv 3) (nomark _))
        (pss_cons (ps_set (i := 4) sc__law_line_steps.nd rfl (Or.inl rfl) (pe_op op_sub (pv 4) (pv 3)))
        (pss_one (ps_expr (k_bm K PySem.F.plainAttrs_list PySem.F.slot_list_append PySem.F.type_list_append mt_append (pv 5) (pa_cons (pe_tup (pa_cons (k_w K c__law_sign hr (by decide) rfl (pa_cons (pv 0) pa_nil)) (pa_cons pe_int pa_nil))) pa_nil)))))
        (pss_one (ps_expr (k_bm K PySem.F.plainAttrs_list PySem.F.slot_list_append PySem.F.type_list_append mt_append (pv 5) (pa_cons (pe_tup (pa_cons pe_int (pa_cons (k_w K c__law_sign hr (by decide) rfl (pa_cons (pv 1) pa_nil)) pa_nil))) pa_nil))))))))
      (pss_one (ps_ret (pv 5)))))))), inferInstance, by
    rintro ws S Q ⟨dx, dy, rfl, hx, hy, q⟩
    walk_at "w"
    intro p hp
    walk_at "w"
    have x0 := ab0 dx
    have y0 := ab0 dy
    refine ⟨by show -(2 ^ 62) ≤ ab dx + ab dy; omega, by show ab dx + ab dy < 2 ^ 62; omega, ?_⟩
    refine ⟨fun i ρ' S' => i ≤ manyOf dx dy ∧ S' = put S p (.lst (stepsL dx dy i)) ∧ ∃ kk, ρ' = [some (.int dx), some (.int dy), some (.int (ab dx)), some (.int (ab dx + ab dy)), some (.int (rst (ab dx) (ab dx + ab dy) i)), some (.ref p), kk],
      ⟨Nat.zero_le _, rfl, none, by simp [rst]; rfl⟩, fun _ _ _ _ => trivial, ?_, ?_⟩
    · rintro i w ρ' S' e ⟨_, rfl, kk, rfl⟩
      obtain ⟨hi, rfl⟩ := intsW_at e
      have hi2 : (i : Int) < ab dx + ab dy := by
        have : i < (ab dx + ab dy).toNat := hi
        omega
      obtain ⟨r1, r2, r3⟩ := rst_step (a := ab dx) (n := ab dx + ab dy) (k := i) x0 (by omega) (by omega)
      have fin : (i + 1 ≤ manyOf dx dy) ∧ put (put S p (.lst (stepsL dx dy i))) p (.lst (stepsL dx dy i ++ [stepAt dx dy i])) = put S p (.lst (stepsL dx dy (i + 1))) := ⟨hi, by rw [put_put, stepsL_succ]⟩
      have sm : (stepsL dx dy i).length < sizeLine := by
        rw [stepsL_len]
        have : manyOf dx dy = (ab dx + ab dy).toNat := rfl
        exact Nat.lt_of_lt_of_le (show i < 10000 by omega) (by decide)
      walk_at "w"
      refine ⟨fun h => ?_, fun h => ?_⟩
      · have h := r1.mp (of_decide_eq_true h)
        walk_at "w"
        refine ⟨.inl ⟨rfl, _, put_same⟩, ?_⟩
        walk_at "w"
        have es : stepAt dx dy i = lvl dx := if_pos h
        rw [es] at fin
        refine ⟨dx, rfl, ?_⟩
        walk_at "w"
        refine ⟨_, put_same, sm, fin.1, fin.2, some (.int (0 + (i : Int))), ?_⟩
        rw [r2 h]
        rfl
      · have h : acr (ab dx) (ab dx + ab dy) i = false := by
          cases hc : acr (ab dx) (ab dx + ab dy) i with
          | false => rfl
          | true => exact absurd (r1.mpr hc) (of_decide_eq_false h)
        walk_at "w"
        refine ⟨.inl ⟨rfl, _, put_same⟩, ?_⟩
        walk_at "w"
        have es : stepAt dx dy i = upr dy := if_neg (by intro z; have z' := h.symm.trans z; cases z')
        rw [es] at fin
        refine ⟨dy, rfl, ?_⟩
        walk_at "w"
        refine ⟨_, put_same, sm, fin.1, fin.2, some (.int (0 + (i : Int))), ?_⟩
        rw [r3 h]
        rfl
    · rintro ρ' S' ⟨_, rfl, kk, rfl⟩
      rw [intsW_len]
      exact Fg.here (q p hp)⟩
theorem ok__law_steps (T : Txt K mg) (c__law_line_steps : CalW P w K mg base 2 "_law_line_steps" spLine) (c__law_sign : CalW P w K mg base 1 "_law_sign" spSign) (d : DefAt K mg "_law_steps" s__law_steps ["_law_stroke_here"]) : CalW P w K mg base 3 "_law_steps" spSteps :=
  calD d sc__law_steps (fun ws S Q ⟨k, e, _⟩ => by rw [e]; rfl) fun f cdv A outer s H E hr => ⟨_, _,
    (pss_cons (ps_if (pt_cmpR (k_eq K hr.units) (pe_ix (k_ix K) (pv 0) pe_int (fun _ _ => rfl)) pe_str (nomark _))
       (pss_one (ps_ret (k_w K c__law_line_steps hr (by decide) rfl (pa_cons (pe_ix (k_ix K) (pv 0) pe_int (fun _ _ => rfl)) (pa_cons (pe_ix (k_ix K) (pv 0) pe_int (fun _ _ => rfl)) pa_nil)))))
       pss_nil)
      (pss_cons (ps_set (i := 1) sc__law_steps.nd rfl (Or.inl rfl) (pe_lst (pa_cons (pe_tup (pa_cons (k_w K c__law_sign hr (by decide) rfl (pa_cons (pe_ix (k_ix K) (pv 0) pe_int (fun _ _ => rfl)) pa_nil)) (pa_cons pe_int pa_nil))) (pa_cons (pe_tup (pa_cons pe_int (pa_cons (k_w K c__law_sign hr (by decide) rfl (pa_cons (pe_ix (k_ix K) (pv 0) pe_int (fun _ _ => rfl)) pa_nil)) pa_nil))) pa_nil))))
      (pss_mid (ps_if (pt_cmpR (k_eq K hr.units) (pe_ix (k_ix K) (pv 0) pe_int (fun _ _ => rfl)) pe_str (nomark _))
       (pss_one (ps_expr (k_bm0 K PySem.F.plainAttrs_list PySem.F.slot_list_reverse PySem.F.type_list_reverse mt_reverse (pv 1))))
       pss_nil)
      (pss_cons (ps_set (i := 2) sc__law_steps.nd rfl (Or.inl rfl) (pe_callB call_abs (by rfl) T.b_abs (by decide +kernel) (pa_cons (pe_ix (k_ix K) (pv 0) pe_int (fun _ _ => rfl)) pa_nil)))
      (pss_cons (ps_set (i := 3) sc__law_steps.nd rfl (Or.inl rfl) (pv 2))
      (pss_cons (ps_set (i := 4) sc__law_steps.nd rfl (Or.inl rfl) pe_int)
      (pss_cons (ps_set (i := 5) sc__law_steps.nd rfl (Or.inl rfl) pe_int)
      (pss_cons (ps_set (i := 6) sc__law_steps.nd rfl (Or.inl rfl) (pe_lst pa_nil))
      (pss_cons (ps_for PassesOwn.never rfl (pi_range1 rfl T.b_range (pa_cons (pe_op op_mulA pe_int (pv 2)) pa_nil)) (pg_name (i := 7) sc__law_steps.nd rfl (Or.inl rfl))
       (pss_cons (ps_set (i := 8) sc__law_steps.nd rfl (Or.inl rfl) (pe_op (k_add K) (pe_op (k_add K) (pv 5) (pe_op op_mulA pe_int (pv 4))) pe_int))
       (pss_cons (ps_set (i := 9) sc__law_steps.nd rfl (Or.inl rfl) (pe_op (k_add K) (pe_op op_sub (pv 5) (pe_op op_mulA pe_int (pv 3))) pe_int))
       (pss_one (ps_if (PW.pt (pw_or (pt_cmpR (k_eq K hr.units) (pv 3) pe_int (nomark _)) (pw_or1 (PW.pt (pw_and (pt_cmpR op_ltA (pv 4) (pv 2) (nomark _)) (pw_and1 (pt_cmpR op_leA (pe_callB call_abs (by rfl) T.b_abs (by decide +kernel) (pa_cons (pv 8) pa_nil)) (pe_callB call_abs (by rfl) T.b_abs (by decide +kernel) (pa_cons (pv 9) pa_nil)) (nomark _))))))))
        (pss_cons (ps_expr (k_bm K PySem.F.plainAttrs_list PySem.F.slot_list_append PySem.F.type_list_append mt_append (pv 6) (pa_cons (pe_ix (k_ix K) (pv 1) pe_int (fun _ _ => rfl)) pa_nil)))
        (pss_cons (ps_set (i := 5) sc__law_steps.nd rfl (Or.inl rfl) (pv 8))
        (pss_one (ps_set (i := 4) sc__law_steps.nd rfl (Or.inl rfl) (pe_op (k_add K) (pv 4) pe_int)))))
        (pss_cons (ps_expr (k_bm K PySem.F.plainAttrs_list PySem.F.slot_list_append PySem.F.type_list_append mt_append (pv 6) (pa_cons (pe_ix (k_ix K) (pv 1) pe_int (fun _ _ => rfl)) pa_nil)))
        (pss_cons (ps_set (i := 5) sc__law_steps.nd rfl (Or.inl rfl) (pv 9))
        (pss_one (ps_set (i := 3) sc__law_steps.nd rfl (Or.inl rfl) (pe_op op_sub (pv 3) pe_int))))))))))
      (pss_one (ps_ret (pv 6)))))))))))), inferInstance, by
    rintro ws S Q ⟨k, rfl, hk, q⟩
    cases k with
    | ln dx dy =>
      obtain ⟨hx, hy⟩ := hk
      rw [steps_line] at q
      walk_at "w"
      refine ⟨fun h => ?_, fun h => absurd rfl (of_decide_eq_false h)⟩
      walk_at "w"
      exact ⟨dx, dy, rfl, by omega, by omega, fun p hp => Fg.here (q p hp)⟩
    | ar fl dx dy =>
      obtain ⟨hxy, hx⟩ := hk
      rw [steps_arc] at q
      walk_at "w"
      refine ⟨fun h => absurd (of_decide_eq_true h) (by cases fl <;> decide), fun _ => ?_⟩
      walk_at "w"
      refine ⟨dx, rfl, ?_⟩
      walk_at "w"
      refine ⟨dy, rfl, ?_⟩
      walk_at "w"
      intro m hm
      walk_at "w"
      refine ⟨fun ρ' S' => S' = put S m (.lst [fst fl dx dy, snd fl dx dy]) ∧ ρ' = [some (Sk.ar fl dx dy).v, some (.ref m), none, none, none, none, none, none, none, none], ?_, ?_⟩
      · cases fl with
        | true =>
          walk_at "w"
          exact ⟨fun h => absurd (of_decide_eq_true h) (by decide), fun _ => ⟨rfl, rfl⟩⟩
        | false =>
          walk_at "w"
          refine ⟨fun _ => ?_, fun h => absurd rfl (of_decide_eq_false h)⟩
          walk_at "w"
          refine ⟨.inl ⟨rfl, _, put_same⟩, ?_⟩
          walk_at "w"
          refine ⟨_, put_same, put_put, rfl⟩
      · rintro ρ' S' ⟨rfl, rfl⟩
        walk_at "w"
        have x0 := ab0 dx
        intro t ht
        walk_at "w"
        have hmt : m ≠ t := fun e => by rw [← e, put_same] at ht; cases ht
        have cm : ∀ b : Int, 0 ≤ b → b ≤ 20 → CMulA 2 b := fun b h1 h2 => .inl (.inl ⟨by omega, by omega⟩)
        obtain ⟨r, er⟩ : ∃ r, ab dx = r := ⟨_, rfl⟩
        have er2 : (if dx < 0 then -dx else dx) = r := er
        rw [er] at q x0 hx hxy
        obtain ⟨u, eu⟩ : ∃ u, fst fl dx dy = u := ⟨_, rfl⟩
        obtain ⟨v, ev⟩ : ∃ v, snd fl dx dy = v := ⟨_, rfl⟩
        rw [eu, ev] at q ht ⊢
        refine ⟨by show CMulA 2 (if dx < 0 then -dx else dx); rw [er2]; exact cm r x0 hx, ?_⟩
        walk_at "w"
        refine ⟨by show -(2 ^ 62) ≤ 2 * (if dx < 0 then -dx else dx); omega, by show 2 * (if dx < 0 then -dx else dx) < 2 ^ 62; omega, ?_⟩
        have e00 : ee r r 0 = 0 := by unfold ee; omega
        refine ⟨fun i ρ' S' => ∃ a b pre v7 v8 v9, 0 ≤ a ∧ a ≤ r ∧ 0 ≤ b ∧ b ≤ r ∧ (i : Int) ≤ 2 * r ∧ 2 * r - (i : Int) = a + (r - b) ∧ pre ++ (arc r (a + (r - b)).toNat a b).map (mv u v) = arcL u v r ∧ pre.length = i ∧ S' = put (put S m (.lst [u, v])) t (.lst pre) ∧
            ρ' = [some (Sk.ar fl dx dy).v, some (.ref m), some (.int r), some (.int a), some (.int b), some (.int (ee r a b)), some (.ref t), v7, v8, v9],
          ⟨r, 0, [], none, none, none, x0, Int.le_refl r, Int.le_refl 0, x0, by omega, by omega, ?_, rfl, rfl, ?_⟩, fun _ _ _ _ => trivial, ?_, ?_⟩
        · unfold arcL
          rw [show (r + (r - 0)).toNat = (2 * r).toNat by omega]
          rfl
        · rw [e00, ← er2]
          rfl
        · rintro i w ρ' S' e ⟨a, b, pre, v7, v8, v9, a0, a1, b0, b1, i1, i2, he, hl, rfl, rfl⟩
          obtain ⟨hi, rfl⟩ := intsW_at e
          have hi : i < (2 * (if dx < 0 then -dx else dx)).toNat := hi
          rw [er2] at hi
          obtain ⟨n, en⟩ : ∃ n : Nat, (a + (r - b)).toNat = n + 1 := ⟨(a + (r - b)).toNat - 1, by omega⟩
          walk_at "w"
          refine ⟨cm b b0 (by omega), ?_⟩
          walk_at "w"
          refine ⟨cm a a0 (by omega), ?_⟩
          have ed : (decide (a = 0) || (decide (b < r) && decide (ab (ee r a b + 2 * b + 1) ≤ ab (ee r a b - 2 * a + 1)))) = dcs r a b := by
            unfold dcs
            rw [along_ee, inward_ee]
          have hl2 : pre.length < sizeLine := Nat.lt_of_lt_of_le (show pre.length < 3000 by omega) (by decide)
          walk_at "w"
          refine And.symm (orGo (d := dcs r a b) (fun _ => ?_) ed ?_)
          · exact evAnd (fun Q q => q) fun _ Q q => q
          refine ⟨fun hd => ?_, fun hd => ?_⟩
          · have hb : b < r := by
              rcases dcs_yes hd with h | h
              · omega
              · exact h.1
            walk_at "w"
            refine ⟨.inl ⟨rfl, _, put_same⟩, ?_⟩
            walk_at "w"
            refine ⟨_, (put_ne hmt).trans put_same, ?_⟩
            walk_at "w"
            refine ⟨_, put_same, hl2, ?_⟩
            refine ⟨a, b + 1, pre ++ [u], some (.int (0 + (i : Int))), some (.int (ee r a b + 2 * b + 1)), some (.int (ee r a b - 2 * a + 1)), a0, a1, by omega, by omega, by omega, by omega, ?_, ?_, put_put, ?_⟩
            · rw [← he, en, arc_yes hd, List.map_cons, List.append_assoc, show (a + (r - (b + 1))).toNat = n by omega]
              rfl
            · rw [List.length_append, hl]
              rfl
            · rw [ee_inc]
              rfl
          · have ha : 0 < a := by
              have := (dcs_no hd).1
              omega
            walk_at "w"
            refine ⟨.inl ⟨rfl, _, put_same⟩, ?_⟩
            walk_at "w"
            refine ⟨_, (put_ne hmt).trans put_same, ?_⟩
            walk_at "w"
            refine ⟨_, put_same, hl2, ?_⟩
            refine ⟨a - 1, b, pre ++ [v], some (.int (0 + (i : Int))), some (.int (ee r a b + 2 * b + 1)), some (.int (ee r a b - 2 * a + 1)), by omega, by omega, by omega, by omega, by omega, by omega, ?_, ?_, put_put, ?_⟩
            · rw [← he, en, arc_no hd, List.map_cons, List.append_assoc, show (a - 1 + (r - b)).toNat = n by omega]
              rfl
            · rw [List.length_append, hl]
              rfl
            · rw [ee_dec]
              rfl
        · rintro ρ' S' ⟨a, b, pre, v7, v8, v9, a0, a1, b0, b1, i1, i2, he, hl, rfl, rfl⟩
          rw [intsW_len] at i2
          have i3 : 2 * r - ((2 * r).toNat : Int) = a + (r - b) := by rw [← er2]; rw [← er2] at i2; exact i2
          have e0 : (a + (r - b)).toNat = 0 := by omega
          rw [e0] at he
          have e2 : pre = arcL u v r := by
            rw [← he]
            unfold arc
            simp
          rw [e2]
          have htm : S t = none := Sub.free (Sub.new hm) ht
          exact ⟨put S t (.lst (arcL u v r)), Sub.put (Sub.new hm), q t htm⟩⟩
theorem ok__law_walked (T : Txt K mg) (c__law_steps : CalW P w K mg base 3 "_law_steps" spSteps) (d : DefAt K mg "_law_walked" s__law_walked ["_law_outline_here"]) : CalW P w K mg base 4 "_law_walked" spCorners :=
  calD d sc__law_walked (fun ws S Q ⟨x, y, ks, e, _⟩ => by rw [e]; rfl) fun f cdv A outer s H E hr => ⟨_, _,
    (pss_cons (ps_set (i := 1) sc__law_walked.nd rfl (Or.inl rfl) (pe_ix (k_ix K) (pv 0) pe_int (fun _ _ => rfl)))
      (pss_cons (ps_set (i := 2) sc__law_walked.nd rfl (Or.inl rfl) (pe_ix (k_ix K) (pv 0) pe_int (fun _ _ => rfl)))
      (pss_cons (ps_set (i := 3) sc__law_walked.nd rfl (Or.inl rfl) (pe_lst (pa_cons (pe_tup (pa_cons (pv 1) (pa_cons (pv 2) pa_nil))) pa_nil)))
      (pss_cons (ps_for PassesOwn.never rfl (k_any K (pe_ix (k_ix K) (pv 0) pe_int (fun _ _ => rfl))) (pg_name (i := 4) sc__law_walked.nd rfl (Or.inl rfl))
       (pss_one (ps_for PassesOwn.never rfl (k_any K (k_w K c__law_steps hr (by decide) rfl (pa_cons (pv 4) pa_nil))) (pg_name (i := 5) sc__law_walked.nd rfl (Or.inl rfl))
        (pss_cons (ps_set (i := 1) sc__law_walked.nd rfl (Or.inl rfl) (pe_op (k_add K) (pv 1) (pe_ix (k_ix K) (pv 5) pe_int (fun _ _ => rfl))))
        (pss_cons (ps_set (i := 2) sc__law_walked.nd rfl (Or.inl rfl) (pe_op (k_add K) (pv 2) (pe_ix (k_ix K) (pv 5) pe_int (fun _ _ => rfl))))
        (pss_one (ps_expr (k_bm K PySem.F.plainAttrs_list PySem.F.slot_list_append PySem.F.type_list_append mt_append (pv 3) (pa_cons (pe_tup (pa_cons (pv 1) (pa_cons (pv 2) pa_nil))) pa_nil)))))))))
      (pss_one (ps_ret (pv 3))))))), inferInstance, by
    rintro ws S Q ⟨x, y, ks, rfl, hk, hl, q⟩
    walk_at "w"
    intro p hp
    walk_at "w"
    have item : ∀ {i : Nat} {w : W}, (ks.map Sk.v)[i]? = some w → ∃ k, ks[i]? = some k ∧ w = k.v ∧ k.ok := fun {i w} e => by
      rw [List.getElem?_map] at e
      cases q2 : ks[i]? with
      | none => rw [q2] at e; cases e
      | some k =>
        rw [q2] at e
        exact ⟨k, rfl, (Option.some.inj e).symm, hk k (List.mem_of_getElem? q2)⟩
    refine ⟨fun i ρ' S' => i ≤ ks.length ∧ S' p = some (.lst (run (x, y) (way (ks.take i)))) ∧ Sub S S' ∧ ∃ v5 v6, ρ' = [some (outlineW x y ks), some (.int (nd (x, y) (way (ks.take i))).1), some (.int (nd (x, y) (way (ks.take i))).2), some (.ref p), v5, v6],
      ⟨Nat.zero_le _, put_same, Sub.new hp, none, none, rfl⟩, fun _ _ _ _ => trivial, ?_, ?_⟩
    · rintro i w ρ' S' e ⟨_, h1, h2, v5, v6, rfl⟩
      obtain ⟨k, ek, rfl, hok⟩ := item e
      have hi : i < ks.length := (List.getElem?_eq_some_iff.mp ek).1
      walk_at "w"
      refine ⟨k, rfl, hok, fun l hlf => ?_⟩
      have hpl : p ≠ l := fun e => by rw [← e, h1] at hlf; cases hlf
      walk_at "w"
      refine ⟨_, put_same, ?_⟩
      refine ⟨fun j ρ' S2 => j ≤ k.steps.length ∧ S2 l = some (.lst (k.steps.map pairW)) ∧ S2 p = some (.lst (run (x, y) (way (ks.take i) ++ k.steps.take j))) ∧ Sub S S2 ∧ ∃ v6, ρ' = [some (outlineW x y ks), some (.int (nd (x, y) (way (ks.take i) ++ k.steps.take j)).1), some (.int (nd (x, y) (way (ks.take i) ++ k.steps.take j)).2), some (.ref p), some k.v, v6], ⟨Nat.zero_le _, put_same, ?_, ?_, v6, ?_⟩, fun _ _ _ h => h.2.1, ?_, ?_⟩
      · rw [put_ne hpl, h1]
        simp
      · exact Sub.put_new h2 (Sub.free h2 hlf)
      · simp
      · rintro j w ρ' S2 e2 ⟨_, g1, g2, g3, v6, rfl⟩
        obtain ⟨z, ez, rfl⟩ : ∃ z, k.steps[j]? = some z ∧ w = pairW z := by
          rw [List.getElem?_map] at e2
          cases q2 : k.steps[j]? with
          | none => rw [q2] at e2; cases e2
          | some z => rw [q2] at e2; exact ⟨z, rfl, (Option.some.inj e2).symm⟩
        have hj : j < k.steps.length := (List.getElem?_eq_some_iff.mp ez).1
        have et : way (ks.take i) ++ k.steps.take (j + 1) = (way (ks.take i) ++ k.steps.take j) ++ [z] := by
          rw [List.take_add_one, ez, List.append_assoc]
          rfl
        walk_at "w"
        refine ⟨.inl ⟨rfl, _, g2⟩, ?_⟩
        walk_at "w"
        have wl := way_len hk i
        have sl := steps_len hok
        refine ⟨_, g2, ?_, ?_⟩
        · rw [run_len, List.length_append, List.length_take]
          exact Nat.lt_of_le_of_lt (show _ ≤ 40 * 100 + 40 + 1 by omega) (by decide)
        refine ⟨hj, (put_ne hpl.symm).trans g1, ?_, Sub.put_new g3 hp, some (pairW z), ?_⟩
        · rw [et, run_add]
          exact put_same
        · rw [et, nd_add]
          rfl
      · rintro ρ' S2 ⟨_, g1, g2, g3, v6, rfl⟩
        rw [List.length_map, List.take_of_length_le (Nat.le_refl _), ← way_take ek] at g2 ⊢
        exact ⟨hi, g2, g3, _, _, rfl⟩
    · rintro ρ' S' ⟨_, h1, h2, v5, v6, rfl⟩
      rw [List.length_map, List.take_of_length_le (Nat.le_refl _)] at h1
      refine ⟨put S p (.lst (run (x, y) (way ks))), fun a c h => ?_, q p hp⟩
      by_cases ea : a = p
      · rw [ea, put_same] at h
        rw [ea, h1, h]
      · rw [put_ne ea] at h
        exact h2 a c h⟩
/-! two things of one form -/
def sp0 : SpW := fun ws S Q => ∃ a, ws = [.int a, .int a] ∧ Q (.bl true) S
def sp1 : SpW := fun ws S Q => ∃ z, ws = [pairW z, pairW z] ∧ Q (.bl true) S
def sp2 : SpW := fun ws S Q => ∃ (a b : Addr) (zs : List (Int × Int)), ws = [.ref a, .ref b] ∧ S a = some (.lst (zs.map pairW)) ∧ S b = some (.lst (zs.map pairW)) ∧ zs.length ≤ 10000 ∧ Q (.bl true) S
theorem ok0__law_same (T : Txt K mg) (c__law_same : CalW P w K mg base 1 "_law_same" spNever) (d : DefAt K mg "_law_same" s__law_same ["_law_one", "_law_two"]) : CalW P w K mg base 2 "_law_same" sp0 :=
  calD d sc__law_same (fun ws S Q ⟨a, e, _⟩ => by rw [e]; rfl) fun f cdv A outer s H E hr => ⟨_, _,
    (pss_cons (ps_if (PW.pt (pw_or (pt_val (pe_callB (k_isi K) (by rfl) T.b_isinstance (by decide +kernel) (pa_cons (pv 0) (pa_cons (pe_bltn (v := .ty "bool") (by rfl) T.b_bool (by decide +kernel) rfl) pa_nil)))) (pw_or1 (pt_val (pe_callB (k_isi K) (by rfl) T.b_isinstance (by decide +kernel) (pa_cons (pv 1) (pa_cons (pe_bltn (v := .ty "bool") (by rfl) T.b_bool (by decide +kernel) rfl) pa_nil)))))))
       (pss_one (ps_ret (pe_and (pe_callB (k_isi K) (by rfl) T.b_isinstance (by decide +kernel) (pa_cons (pv 0) (pa_cons (pe_bltn (v := .ty "bool") (by rfl) T.b_bool (by decide +kernel) rfl) pa_nil))) (pe_and (pe_callB (k_isi K) (by rfl) T.b_isinstance (by decide +kernel) (pa_cons (pv 1) (pa_cons (pe_bltn (v := .ty "bool") (by rfl) T.b_bool (by decide +kernel) rfl) pa_nil))) (pe_one (pe_cmpR (k_eq K hr.units) (pv 0) (pv 1) (nomark _)))))))
       pss_nil)
      (pss_cons (ps_if (PW.pt (pw_and (pt_val (pe_callB (k_isi K) (by rfl) T.b_isinstance (by decide +kernel) (pa_cons (pv 0) (pa_cons (pe_bltn (v := .ty "int") (by rfl) T.b_int (by decide +kernel) rfl) pa_nil)))) (pw_and1 (pt_val (pe_callB (k_isi K) (by rfl) T.b_isinstance (by decide +kernel) (pa_cons (pv 1) (pa_cons (pe_bltn (v := .ty "int") (by rfl) T.b_int (by decide +kernel) rfl) pa_nil)))))))
       (pss_one (ps_ret (pe_cmpR (k_eq K hr.units) (pv 0) (pv 1) (nomark _))))
       pss_nil)
      (pss_cons (ps_if (PW.pt (pw_and (pt_val (pe_callB (k_isi K) (by rfl) T.b_isinstance (by decide +kernel) (pa_cons (pv 0) (pa_cons (pe_bltn (v := .ty "str") (by rfl) T.b_str (by decide +kernel) rfl) pa_nil)))) (pw_and1 (pt_val (pe_callB (k_isi K) (by rfl) T.b_isinstance (by decide +kernel) (pa_cons (pv 1) (pa_cons (pe_bltn (v := .ty "str") (by rfl) T.b_str (by decide +kernel) rfl) pa_nil)))))))
       (pss_one (ps_ret (pe_cmpR (k_eq K hr.units) (pv 0) (pv 1) (nomark _))))
       pss_nil)
      (pss_cons (ps_set (i := 2) sc__law_same.nd rfl (Or.inl rfl) (pe_and (pe_callB (k_isi K) (by rfl) T.b_isinstance (by decide +kernel) (pa_cons (pv 0) (pa_cons (pe_bltn (v := .ty "tuple") (by rfl) T.b_tuple (by decide +kernel) rfl) pa_nil))) (pe_one (pe_callB (k_isi K) (by rfl) T.b_isinstance (by decide +kernel) (pa_cons (pv 1) (pa_cons (pe_bltn (v := .ty "tuple") (by rfl) T.b_tuple (by decide +kernel) rfl) pa_nil))))))
      (pss_cons (ps_if (PW.pt (pw_or (pt_val (pv 2)) (pw_or1 (PW.pt (pw_and (pt_val (pe_callB (k_isi K) (by rfl) T.b_isinstance (by decide +kernel) (pa_cons (pv 0) (pa_cons (pe_bltn (v := .ty "list") (by rfl) T.b_list (by decide +kernel) rfl) pa_nil)))) (pw_and1 (pt_val (pe_callB (k_isi K) (by rfl) T.b_isinstance (by decide +kernel) (pa_cons (pv 1) (pa_cons (pe_bltn (v := .ty "list") (by rfl) T.b_list (by decide +kernel) rfl) pa_nil))))))))))
       (pss_cons (ps_if (pt_cmpR (k_ne K hr.units) (pe_callB (k_len K) (by rfl) T.b_len (by decide +kernel) (pa_cons (pv 0) pa_nil)) (pe_callB (k_len K) (by rfl) T.b_len (by decide +kernel) (pa_cons (pv 1) pa_nil)) (nomark _))
        (pss_one (ps_ret pe_bl))
        pss_nil)
       (pss_cons (ps_for PassesOwn.never rfl (pi_range1 rfl T.b_range (pa_cons (pe_callB (k_len K) (by rfl) T.b_len (by decide +kernel) (pa_cons (pv 0) pa_nil)) pa_nil)) (pg_name (i := 3) sc__law_same.nd rfl (Or.inl rfl))
        (pss_one (ps_if (pt_not (pt_val (k_w K c__law_same hr (by decide) rfl (pa_cons (pe_ix (k_ix K) (pv 0) (pv 3) (fun _ _ => rfl)) (pa_cons (pe_ix (k_ix K) (pv 1) (pv 3) (fun _ _ => rfl)) pa_nil)))))
         (pss_one (ps_ret pe_bl))
         pss_nil)))
       (pss_one (ps_ret pe_bl))))
       pss_nil)
      (pss_one (ps_ret (pe_and (pe_cmpR op_isN (pv 0) pe_non (nomark _)) (pe_one (pe_cmpR op_isN (pv 1) pe_non (nomark _))))))))))), inferInstance, by
    rintro ws S Q ⟨a, rfl, q⟩
    walk_at "w"
    refine ⟨_, _, rfl, isTy_ib, ?_⟩
    walk_at "w"
    refine ⟨fun h => absurd (show false = true from h) Bool.false_ne_true, fun _ => ?_⟩
    walk_at "w"
    refine ⟨_, _, rfl, isTy_ib, ?_⟩
    walk_at "w"
    refine ⟨fun h => absurd (show false = true from h) Bool.false_ne_true, fun _ => ?_⟩
    walk_at "w"
    refine ⟨_, _, rfl, isTy_ii, ?_⟩
    walk_at "w"
    refine ⟨fun _ => ?_, fun h => absurd (show true = false from h) (by decide)⟩
    walk_at "w"
    refine ⟨_, _, rfl, isTy_ii, ?_⟩
    walk_at "w"
    refine ⟨fun _ => ?_, fun h => absurd (show true = false from h) (by decide)⟩
    walk_at "w"
    rw [decide_eq_true rfl]
    exact Fg.here q⟩
theorem ok1__law_same (T : Txt K mg) (c__law_same : CalW P w K mg base 2 "_law_same" sp0) (d : DefAt K mg "_law_same" s__law_same ["_law_one", "_law_two"]) : CalW P w K mg base 3 "_law_same" sp1 :=
  calD d sc__law_same (fun ws S Q ⟨a, e, _⟩ => by rw [e]; rfl) fun f cdv A outer s H E hr => ⟨_, _,
    (pss_cons (ps_if (PW.pt (pw_or (pt_val (pe_callB (k_isi K) (by rfl) T.b_isinstance (by decide +kernel) (pa_cons (pv 0) (pa_cons (pe_bltn (v := .ty "bool") (by rfl) T.b_bool (by decide +kernel) rfl) pa_nil)))) (pw_or1 (pt_val (pe_callB (k_isi K) (by rfl) T.b_isinstance (by decide +kernel) (pa_cons (pv 1) (pa_cons (pe_bltn (v := .ty "bool") (by rfl) T.b_bool (by decide +kernel) rfl) pa_nil)))))))
       (pss_one (ps_ret (pe_and (pe_callB (k_isi K) (by rfl) T.b_isinstance (by decide +kernel) (pa_cons (pv 0) (pa_cons (pe_bltn (v := .ty "bool") (by rfl) T.b_bool (by decide +kernel) rfl) pa_nil))) (pe_and (pe_callB (k_isi K) (by rfl) T.b_isinstance (by decide +kernel) (pa_cons (pv 1) (pa_cons (pe_bltn (v := .ty "bool") (by rfl) T.b_bool (by decide +kernel) rfl) pa_nil))) (pe_one (pe_cmpR (k_eq K hr.units) (pv 0) (pv 1) (nomark _)))))))
       pss_nil)
      (pss_cons (ps_if (PW.pt (pw_and (pt_val (pe_callB (k_isi K) (by rfl) T.b_isinstance (by decide +kernel) (pa_cons (pv 0) (pa_cons (pe_bltn (v := .ty "int") (by rfl) T.b_int (by decide +kernel) rfl) pa_nil)))) (pw_and1 (pt_val (pe_callB (k_isi K) (by rfl) T.b_isinstance (by decide +kernel) (pa_cons (pv 1) (pa_cons (pe_bltn (v := .ty "int") (by rfl) T.b_int (by decide +kernel) rfl) pa_nil)))))))
       (pss_one (ps_ret (pe_cmpR (k_eq K hr.units) (pv 0) (pv 1) (nomark _))))
       pss_nil)
      (pss_cons (ps_if (PW.pt (pw_and (pt_val (pe_callB (k_isi K) (by rfl) T.b_isinstance (by decide +kernel) (pa_cons (pv 0) (pa_cons (pe_bltn (v := .ty "str") (by rfl) T.b_str (by decide +kernel) rfl) pa_nil)))) (pw_and1 (pt_val (pe_callB (k_isi K) (by rfl) T.b_isinstance (by decide +kernel) (pa_cons (pv 1) (pa_cons (pe_bltn (v := .ty "str") (by rfl) T.b_str (by decide +kernel) rfl) pa_nil)))))))
       (pss_one (ps_ret (pe_cmpR (k_eq K hr.units) (pv 0) (pv 1) (nomark _))))
       pss_nil)
      (pss_cons (ps_set (i := 2) sc__law_same.nd rfl (Or.inl rfl) (pe_and (pe_callB (k_isi K) (by rfl) T.b_isinstance (by decide +kernel) (pa_cons (pv 0) (pa_cons (pe_bltn (v := .ty "tuple") (by rfl) T.b_tuple (by decide +kernel) rfl) pa_nil))) (pe_one (pe_callB (k_isi K) (by rfl) T.b_isinstance (by decide +kernel) (pa_cons (pv 1) (pa_cons (pe_bltn (v := .ty "tuple") (by rfl) T.b_tuple (by decide +kernel) rfl) pa_nil))))))
      (pss_cons (ps_if (PW.pt (pw_or (pt_val (pv 2)) (pw_or1 (PW.pt (pw_and (pt_val (pe_callB (k_isi K) (by rfl) T.b_isinstance (by decide +kernel) (pa_cons (pv 0) (pa_cons (pe_bltn (v := .ty "list") (by rfl) T.b_list (by decide +kernel) rfl) pa_nil)))) (pw_and1 (pt_val (pe_callB (k_isi K) (by rfl) T.b_isinstance (by decide +kernel) (pa_cons (pv 1) (pa_cons (pe_bltn (v := .ty "list") (by rfl) T.b_list (by decide +kernel) rfl) pa_nil))))))))))
       (pss_cons (ps_if (pt_cmpR (k_ne K hr.units) (pe_callB (k_len K) (by rfl) T.b_len (by decide +kernel) (pa_cons (pv 0) pa_nil)) (pe_callB (k_len K) (by rfl) T.b_len (by decide +kernel) (pa_cons (pv 1) pa_nil)) (nomark _))
        (pss_one (ps_ret pe_bl))
        pss_nil)
       (pss_cons (ps_for PassesOwn.never rfl (pi_range1 rfl T.b_range (pa_cons (pe_callB (k_len K) (by rfl) T.b_len (by decide +kernel) (pa_cons (pv 0) pa_nil)) pa_nil)) (pg_name (i := 3) sc__law_same.nd rfl (Or.inl rfl))
        (pss_one (ps_if (pt_not (pt_val (k_w K c__law_same hr (by decide) rfl (pa_cons (pe_ix (k_ix K) (pv 0) (pv 3) (fun _ _ => rfl)) (pa_cons (pe_ix (k_ix K) (pv 1) (pv 3) (fun _ _ => rfl)) pa_nil)))))
         (pss_one (ps_ret pe_bl))
         pss_nil)))
       (pss_one (ps_ret pe_bl))))
       pss_nil)
      (pss_one (ps_ret (pe_and (pe_cmpR op_isN (pv 0) pe_non (nomark _)) (pe_one (pe_cmpR op_isN (pv 1) pe_non (nomark _))))))))))), inferInstance, by
    rintro ws S Q ⟨z, rfl, q⟩
    walk_at "w"
    refine ⟨_, _, rfl, isTy_tb, ?_⟩
    walk_at "w"
    refine ⟨fun h => absurd (show false = true from h) Bool.false_ne_true, fun _ => ?_⟩
    walk_at "w"
    refine ⟨_, _, rfl, isTy_tb, ?_⟩
    walk_at "w"
    refine ⟨fun h => absurd (show false = true from h) Bool.false_ne_true, fun _ => ?_⟩
    walk_at "w"
    refine ⟨_, _, rfl, isTy_ti, ?_⟩
    walk_at "w"
    refine ⟨fun h => absurd (show false = true from h) Bool.false_ne_true, fun _ => ?_⟩
    walk_at "w"
    refine ⟨fun h => absurd (show false = true from h) Bool.false_ne_true, fun _ => ?_⟩
    walk_at "w"
    refine ⟨_, _, rfl, isTy_ts, ?_⟩
    walk_at "w"
    refine ⟨fun h => absurd (show false = true from h) Bool.false_ne_true, fun _ => ?_⟩
    walk_at "w"
    refine ⟨fun h => absurd (show false = true from h) Bool.false_ne_true, fun _ => ?_⟩
    walk_at "w"
    refine ⟨_, _, rfl, isTy_tt, ?_⟩
    walk_at "w"
    refine ⟨fun _ => ?_, fun h => absurd (show true = false from h) (by decide)⟩
    walk_at "w"
    refine ⟨_, _, rfl, isTy_tt, ?_⟩
    walk_at "w"
    refine ⟨fun _ => ?_, fun h => absurd (show true = false from h) (by decide)⟩
    walk_at "w"
    refine ⟨fun _ => ?_, fun h => absurd (show true = false from h) (by decide)⟩
    walk_at "w"
    refine ⟨fun h => absurd (show false = true from h) Bool.false_ne_true, fun _ => ?_⟩
    walk_at "w"
    refine ⟨by show (-2 ^ 62 : Int) ≤ 2; decide, by show (2 : Int) < 2 ^ 62; decide, ?_⟩
    refine ⟨fun i ρ' S' => S' = S ∧ ∃ v3, ρ' = [some (pairW z), some (pairW z), some (.bl true), v3], ⟨rfl, none, rfl⟩, fun _ _ _ _ => trivial, ?_, ?_⟩
    · rintro i w ρ' S' e ⟨rfl, v3, rfl⟩
      obtain ⟨hi, rfl⟩ := intsW_at e
      have hi : i < 2 := hi
      obtain ⟨n, en⟩ : ∃ n, atI [W.int z.1, W.int z.2] (0 + (i : Int)) = some (.int n) := by
        match i, hi with
        | 0, _ => exact ⟨z.1, rfl⟩
        | 1, _ => exact ⟨z.2, rfl⟩
      walk_at "w"
      rw [en]
      walk_at "w"
      rw [en]
      walk_at "w"
      refine ⟨n, rfl, ?_⟩
      walk_at "w"
      refine ⟨fun h => absurd (show false = true from h) Bool.false_ne_true, fun _ => ?_⟩
      exact ⟨rfl, _, rfl⟩
    · rintro ρ' S' ⟨rfl, v3, rfl⟩
      exact Fg.here q⟩
theorem ok2__law_same (T : Txt K mg) (c__law_same : CalW P w K mg base 3 "_law_same" sp1) (d : DefAt K mg "_law_same" s__law_same ["_law_one", "_law_two"]) : CalW P w K mg base 4 "_law_same" sp2 :=
  calD d sc__law_same (fun ws S Q ⟨a, b, zs, e, _⟩ => by rw [e]; rfl) fun f cdv A outer s H E hr => ⟨_, _,
    (pss_cons (ps_if (PW.pt (pw_or (pt_val (pe_callB (k_isi K) (by rfl) T.b_isinstance (by decide +kernel) (pa_cons (pv 0) (pa_cons (pe_bltn (v := .ty "bool") (by rfl) T.b_bool (by decide +kernel) rfl) pa_nil)))) (pw_or1 (pt_val (pe_callB (k_isi K) (by rfl) T.b_isinstance (by decide +kernel) (pa_cons (pv 1) (pa_cons (pe_bltn (v := .ty "bool") (by rfl) T.b_bool (by decide +kernel) rfl) pa_nil)))))))
       (pss_one (ps_ret (pe_and (pe_callB (k_isi K) (by rfl) T.b_isinstance (by decide +kernel) (pa_cons (pv 0) (pa_cons (pe_bltn (v := .ty "bool") (by rfl) T.b_bool (by decide +kernel) rfl) pa_nil))) (pe_and (pe_callB (k_isi K) (by rfl) T.b_isinstance (by decide +kernel) (pa_cons (pv 1) (pa_cons (pe_bltn (v := .ty "bool") (by rfl) T.b_bool (by decide +kernel) rfl) pa_nil))) (pe_one (pe_cmpR (k_eq K hr.units) (pv 0) (pv 1) (nomark _)))))))
       pss_nil)
      (pss_cons (ps_if (PW.pt (pw_and (pt_val (pe_callB (k_isi K) (by rfl) T.b_isinstance (by decide +kernel) (pa_cons (pv 0) (pa_cons (pe_bltn (v := .ty "int") (by rfl) T.b_int (by decide +kernel) rfl) pa_nil)))) (pw_and1 (pt_val (pe_callB (k_isi K) (by rfl) T.b_isinstance (by decide +kernel) (pa_cons (pv 1) (pa_cons (pe_bltn (v := .ty "int") (by rfl) T.b_int (by decide +kernel) rfl) pa_nil)))))))
       (pss_one (ps_ret (pe_cmpR (k_eq K hr.units) (pv 0) (pv 1) (nomark _))))
       pss_nil)
      (pss_cons (ps_if (PW.pt (pw_and (pt_val (pe_callB (k_isi K) (by rfl) T.b_isinstance (by decide +kernel) (pa_cons (pv 0) (pa_cons (pe_bltn (v := .ty "str") (by rfl) T.b_str (by decide +kernel) rfl) pa_nil)))) (pw_and1 (pt_val (pe_callB (k_isi K) (by rfl) T.b_isinstance (by decide +kernel) (pa_cons (pv 1) (pa_cons (pe_bltn (v := .ty "str") (by rfl) T.b_str (by decide +kernel) rfl) pa_nil)))))))
       (pss_one (ps_ret (pe_cmpR (k_eq K hr.units) (pv 0) (pv 1) (nomark _))))
       pss_nil)
      (pss_cons (ps_set (i := 2) sc__law_same.nd rfl (Or.inl rfl) (pe_and (pe_callB (k_isi K) (by rfl) T.b_isinstance (by decide +kernel) (pa_cons (pv 0) (pa_cons (pe_bltn (v := .ty "tuple") (by rfl) T.b_tuple (by decide +kernel) rfl) pa_nil))) (pe_one (pe_callB (k_isi K) (by rfl) T.b_isinstance (by decide +kernel) (pa_cons (pv 1) (pa_cons (pe_bltn (v := .ty "tuple") (by rfl) T.b_tuple (by decide +kernel) rfl) pa_nil))))))
      (pss_cons (ps_if (PW.pt (pw_or (pt_val (pv 2)) (pw_or1 (PW.pt (pw_and (pt_val (pe_callB (k_isi K) (by rfl) T.b_isinstance (by decide +kernel) (pa_cons (pv 0) (pa_cons (pe_bltn (v := .ty "list") (by rfl) T.b_list (by decide +kernel) rfl) pa_nil)))) (pw_and1 (pt_val (pe_callB (k_isi K) (by rfl) T.b_isinstance (by decide +kernel) (pa_cons (pv 1) (pa_cons (pe_bltn (v := .ty "list") (by rfl) T.b_list (by decide +kernel) rfl) pa_nil))))))))))
       (pss_cons (ps_if (pt_cmpR (k_ne K hr.units) (pe_callB (k_len K) (by rfl) T.b_len (by decide +kernel) (pa_cons (pv 0) pa_nil)) (pe_callB (k_len K) (by rfl) T.b_len (by decide +kernel) (pa_cons (pv 1) pa_nil)) (nomark _))
        (pss_one (ps_ret pe_bl))
        pss_nil)
       (pss_cons (ps_for PassesOwn.never rfl (pi_range1 rfl T.b_range (pa_cons (pe_callB (k_len K) (by rfl) T.b_len (by decide +kernel) (pa_cons (pv 0) pa_nil)) pa_nil)) (pg_name (i := 3) sc__law_same.nd rfl (Or.inl rfl))
        (pss_one (ps_if (pt_not (pt_val (k_w K c__law_same hr (by decide) rfl (pa_cons (pe_ix (k_ix K) (pv 0) (pv 3) (fun _ _ => rfl)) (pa_cons (pe_ix (k_ix K) (pv 1) (pv 3) (fun _ _ => rfl)) pa_nil)))))
         (pss_one (ps_ret pe_bl))
         pss_nil)))
       (pss_one (ps_ret pe_bl))))
       pss_nil)
      (pss_one (ps_ret (pe_and (pe_cmpR op_isN (pv 0) pe_non (nomark _)) (pe_one (pe_cmpR op_isN (pv 1) pe_non (nomark _))))))))))), inferInstance, by
    rintro ws S Q ⟨a, b, zs, rfl, ha, hb, hl, q⟩
    walk_at "w"
    refine ⟨_, _, tyName_lst ha, isTy_lb, ?_⟩
    walk_at "w"
    refine ⟨fun h => absurd (show false = true from h) Bool.false_ne_true, fun _ => ?_⟩
    walk_at "w"
    refine ⟨_, _, tyName_lst hb, isTy_lb, ?_⟩
    walk_at "w"
    refine ⟨fun h => absurd (show false = true from h) Bool.false_ne_true, fun _ => ?_⟩
    walk_at "w"
    refine ⟨_, _, tyName_lst ha, isTy_li, ?_⟩
    walk_at "w"
    refine ⟨fun h => absurd (show false = true from h) Bool.false_ne_true, fun _ => ?_⟩
    walk_at "w"
    refine ⟨fun h => absurd (show false = true from h) Bool.false_ne_true, fun _ => ?_⟩
    walk_at "w"
    refine ⟨_, _, tyName_lst ha, isTy_ls, ?_⟩
    walk_at "w"
    refine ⟨fun h => absurd (show false = true from h) Bool.false_ne_true, fun _ => ?_⟩
    walk_at "w"
    refine ⟨fun h => absurd (show false = true from h) Bool.false_ne_true, fun _ => ?_⟩
    walk_at "w"
    refine ⟨_, _, tyName_lst ha, isTy_lt, ?_⟩
    walk_at "w"
    refine ⟨fun h => absurd (show false = true from h) Bool.false_ne_true, fun _ => ?_⟩
    walk_at "w"
    refine ⟨fun h => absurd (show false = true from h) Bool.false_ne_true, fun _ => ?_⟩
    walk_at "w"
    refine ⟨_, _, tyName_lst ha, isTy_ll, ?_⟩
    walk_at "w"
    refine ⟨fun _ => ?_, fun h => absurd (show true = false from h) (by decide)⟩
    walk_at "w"
    refine ⟨_, _, tyName_lst hb, isTy_ll, ?_⟩
    walk_at "w"
    refine ⟨fun _ => ?_, fun h => absurd (show true = false from h) (by decide)⟩
    walk_at "w"
    refine ⟨_, ha, ?_⟩
    walk_at "w"
    refine ⟨_, hb, ?_⟩
    walk_at "w"
    refine ⟨fun h => absurd h (by simp), fun _ => ?_⟩
    walk_at "w"
    refine ⟨_, ha, ?_⟩
    walk_at "w"
    refine ⟨by rw [List.length_map]; omega, by rw [List.length_map]; omega, ?_⟩
    refine ⟨fun i ρ' S' => S' = S ∧ ∃ v3, ρ' = [some (.ref a), some (.ref b), some (.bl false), v3], ⟨rfl, none, rfl⟩, fun _ _ _ _ => trivial, ?_, ?_⟩
    · rintro i w ρ' S' e ⟨rfl, v3, rfl⟩
      obtain ⟨hi, rfl⟩ := intsW_at e
      have hi : i < zs.length := by
        have h : i < (((zs.map pairW).length : Nat) : Int).toNat := hi
        rw [List.length_map] at h
        omega
      obtain ⟨n, en⟩ : ∃ n, atI (zs.map pairW) (0 + (i : Int)) = some (pairW n) := by
        refine ⟨zs[i], ?_⟩
        rw [Int.zero_add]
        refine atI_nat ?_
        rw [List.getElem?_map, List.getElem?_eq_getElem hi]
        rfl
      walk_at "w"
      refine ⟨_, ha, ?_⟩
      refine rdAt_ok en ?_
      walk_at "w"
      refine ⟨_, hb, ?_⟩
      refine rdAt_ok en ?_
      walk_at "w"
      refine ⟨n, rfl, ?_⟩
      walk_at "w"
      refine ⟨fun h => absurd (show false = true from h) Bool.false_ne_true, fun _ => ?_⟩
      exact ⟨rfl, _, rfl⟩
    · rintro ρ' S' ⟨rfl, v3, rfl⟩
      exact Fg.here q⟩
end
end K27
set_option Elab.async false
set_option linter.all false
set_option maxRecDepth 100000
set_option maxHeartbeats 2000000
/-! Words that whnf does not open. -/
namespace Wl
open PySem PySem.Spec PyProof.Rows L2
section
variable {K : PySem.W.Frag} {P : Program} {w : World} {mg : Str → Option Value} {base : Heap}
@[irreducible] def Hd (sp : SpW) : SpW := sp
theorem Hd_eq (sp : SpW) : Hd sp = sp := by unfold Hd; rfl
theorem Hd.mk {sp : SpW} {ws : List W} {S : Sto} {Q : WK} (h : sp ws S Q) : Hd sp ws S Q := by rw [Hd_eq]; exact h
theorem CalW.hd {k : Nat} {x : Str} {sp : SpW} (c : CalW P w K mg base k x sp) : CalW P w K mg base k x (Hd sp) := by rw [Hd_eq]; exact c
@[irreducible] def FgI (Q : WK) : WK := Fg Q
theorem FgI_eq (Q : WK) : FgI Q = Fg Q := by unfold FgI; rfl
theorem fg_here {Q : WK} {v : W} {S : Sto} (h : Q v S) : FgI Q v S := by rw [FgI_eq]; exact ⟨S, Sub.refl S, h⟩
theorem fg_sub {Q : WK} {v : W} {S S' : Sto} (h : Sub S' S) (q : Q v S') : FgI Q v S := by rw [FgI_eq]; exact ⟨S', h, q⟩
theorem calDI {x : Str} {st : Stmt} {N ps : List Str} {k : Nat} {sp : SpW} (d : DefAt K mg x st ps) (SC : FnScope N ps (defScope st))
    (len : ∀ ws S Q, sp ws S Q → ws.length = ps.length)
    (hbody : ∀ (f : Addr) (cdv : Value) (A : Around) (outer : List Env) (s : Shared) (H : Hp) (E : XK), Room k (A.deeper (envOfC x (defScope st) s.heap.objs.size f cdv)) →
      ∃ t tw, PSs (cxOf CX0 P w K mg base N x (defScope st) f cdv A outer s H E).nox (defBody st) t ∧ LS K t tw ∧ ∀ ws S Q, sp ws S Q → tw { nx := fun _ S' => FgI Q .non S', rt := FgI Q } (startW N ws) S) :
    CalW P w K mg base (k + 1) x sp := calD d SC len fun f cdv A outer s H E hr => by
  obtain ⟨t, tw, h1, h2, h3⟩ := hbody f cdv A outer s H E hr
  refine ⟨t, tw, h1, h2, fun ws S Q h => ?_⟩
  have h4 := h3 ws S Q h
  rw [FgI_eq] at h4
  exact h4
theorem fnDI {x : Str} {st : Stmt} {N ps : List Str} {k : Nat} {sp : SpW} {f : Addr} {fd : FuncData} (F : Fun K x x st f fd) (SC : FnScope N ps (defScope st))
    (len : ∀ ws S Q, sp ws S Q → ws.length = ps.length)
    (hbody : ∀ (f : Addr) (cdv : Value) (A : Around) (outer : List Env) (s : Shared) (H : Hp) (E : XK), Room k (A.deeper (envOfC x (defScope st) s.heap.objs.size f cdv)) →
      ∃ t tw, PSs (cxOf CX0 P w K mg base N x (defScope st) f cdv A outer s H E).nox (defBody st) t ∧ LS K t tw ∧ ∀ ws S Q, sp ws S Q → tw { nx := fun _ S' => FgI Q .non S', rt := FgI Q } (startW N ws) S) :
    FnOk P w K mg base CX0 (k + 1) f fd ps (liftSp K sp) := fnD F SC len fun f cdv A outer s H E hr => by
  obtain ⟨t, tw, h1, h2, h3⟩ := hbody f cdv A outer s H E hr
  refine ⟨t, tw, h1, h2, fun ws S Q h => ?_⟩
  have h4 := h3 ws S Q h
  rw [FgI_eq] at h4
  exact h4
@[irreducible] def wLcI (wi : TIW) (g : TGW) (tt : TTW) (te : TEW) (vs : List Nat) : TEW := wLc wi g tt te vs
theorem wLcI_eq (wi : TIW) (g : TGW) (tt : TTW) (te : TEW) (vs : List Nat) : wLcI wi g tt te vs = wLc wi g tt te vs := by unfold wLcI; rfl
instance (priority := high) le_lcI {wi : TI} {g : TG} {tt : TT} {te : TE} {vs : List Nat} {ww : TIW} {gw : TGW} {tw : TTW} {ew : TEW} [h : LI K wi ww] [b : LG K g gw] [gg : GW g vs] [c : LT K tt tw] [a : LE K te ew] : LE K (tLc wi g tt te vs) (wLcI ww gw tw ew vs) := by
  rw [wLcI_eq]; infer_instance
theorem lc_mk {wi : TIW} {g : TGW} {tt : TTW} {te : TEW} {vs : List Nat} {ρ : StW} {S : Sto} {Q : WK} (h : wi ρ S fun ws ok S1 => ∀ D, S1 D = none → ∃ P : Nat → List W → Sto → Prop, P 0 [] (put S1 D (.lst [])) ∧
  (∀ i acc S', P i acc S' → ok S') ∧
  (∀ i w acc S', ws[i]? = some w → P i acc S' → g w (wipeW ρ vs) S' fun ρ2 S2 => tt ρ2 S2 fun b S3 =>
    (b = true → te ρ2 S3 fun y S4 => S4 D = some (.lst acc) ∧ acc.length < sizeLine ∧ P (i + 1) (acc ++ [y]) (put S4 D (.lst (acc ++ [y])))) ∧ (b = false → P (i + 1) acc S3)) ∧
  ∀ acc S', P ws.length acc S' → Q (.ref D) S') : wLcI wi g tt te vs ρ S Q := by rw [wLcI_eq]; exact h
theorem lcMapI {wi : TIW} {j : Nat} {te : TEW} {vs : List Nat} {ρ : StW} {S S1 : Sto} {Q : WK} {ws : List W} {ok : Sto → Prop} (f : W → W) (hw : ∀ R : List W → (Sto → Prop) → Sto → Prop, R ws ok S1 → wi ρ S R) (hl : ws.length ≤ 100000)
    (hok : ∀ (D : Addr) (acc : List W), S1 D = none → ok (put S1 D (.lst acc)))
    (he : ∀ (i : Nat) (w : W) (D : Addr) (acc : List W), ws[i]? = some w → S1 D = none → ∀ Q' : WK, Q' (f w) (put S1 D (.lst acc)) → te ((wipeW ρ vs).set j (some w)) (put S1 D (.lst acc)) Q')
    (hd : ∀ (D : Addr), S1 D = none → Q (.ref D) (put S1 D (.lst (ws.map f)))) : wLcI wi (wName j) wYes te vs ρ S Q := by rw [wLcI_eq]; exact lcMap f hw hl hok he hd
/-- all but p is as it was -/
@[irreducible] def Kp (S : Sto) (p : Addr) (S' : Sto) : Prop := ∀ a c, a ≠ p → S a = some c → S' a = some c
theorem Kp_eq (S : Sto) (p : Addr) (S' : Sto) : Kp S p S' = ∀ a c, a ≠ p → S a = some c → S' a = some c := by unfold Kp; rfl
theorem Kp.refl (S : Sto) (p : Addr) : Kp S p S := by rw [Kp_eq]; exact fun _ _ _ h => h
theorem Kp.at {S S' : Sto} {p : Addr} {c : Cell} (h : Kp S p S') : Kp S p (put S' p c) := by
  rw [Kp_eq] at *
  exact fun a d ha e => by rw [put_ne ha]; exact h a d ha e
theorem Kp.free {S S' : Sto} {p d : Addr} {c : Cell} (h : Kp S p S') (hp : S' p = some c) (n : S' d = none) : S d = none := by
  rw [Kp_eq] at h
  cases e : S d with
  | none => rfl
  | some x =>
    have hd : d ≠ p := fun z => by rw [z, hp] at n; cases n
    rw [h d x hd e] at n; cases n
theorem Kp.new {S S' : Sto} {p d : Addr} {c : Cell} (h : Kp S p S') (n : S d = none) : Kp S p (put S' d c) := by
  rw [Kp_eq] at *
  exact fun a e ha q => by
    have hd : a ≠ d := fun z => by rw [z, n] at q; cases q
    rw [put_ne hd]; exact h a e ha q
theorem Kp.sub {S S' : Sto} {p : Addr} {c : Cell} (h : Kp S p S') (hp : S' p = some c) : Sub (put S p c) S' := by
  rw [Kp_eq] at h
  exact fun a d e => by
    by_cases q : a = p
    · rw [q, put_same] at e; rw [q, hp]; exact e
    · rw [put_ne q] at e; exact h a d q e
/-! pools -/
theorem take_go {p : Addr} {c n b s many : Int} {S : Sto} {Q : WK} (h : S p = some (.lst (poolL c n b s))) (ok : PoolOk c n s) (hn : n < 1000000) (h0 : 0 < many) (h1 : many < 2 ^ 64)
    (q : ∀ r c', 0 ≤ r → r < many → PoolOk c' (n + 1) s → Q (.int r) (put S p (.lst (poolL c' (n + 1) b s)))) : Hd spTake [.ref p, .int many] S Q := Hd.mk ⟨p, c, n, b, s, many, rfl, h, ok, hn, h0, h1, q⟩
theorem pool_go {ns : List Int} {k : Int} {S : Sto} {Q : WK} (h0 : 0 ≤ k) (h1 : k ≤ 1000) (hl : ns.length ≤ 63) (q : ∀ p c b s, S p = none → PoolOk c 0 s → Q (.ref p) (put S p (.lst (poolL c 0 b s)))) : Hd spPool [.rl (ns.map W.int), .int k] S Q := Hd.mk ⟨ns, k, rfl, h0, h1, hl, q⟩
theorem sh_pr (a b : Int) : shW (.tup [.int a, .int b]) := shN_sh (n := 1) (shN_tup fun w hw => by
  rw [List.mem_cons, List.mem_cons] at hw
  rcases hw with rfl | rfl | hw
  · exact shN_int _
  · exact shN_int _
  · cases hw) (by decide)
end
end Wl
set_option Elab.async false
set_option linter.all false
set_option maxRecDepth 100000
set_option maxHeartbeats 4000000
set_option synthInstance.maxHeartbeats 4000000
set_option synthInstance.maxSize 100000
namespace K27
open PySem PySem.Spec PyProof.Rows L2 Wl
local macro_rules | `(tactic| walk_at "w") => `(tactic| (conv => whnf))
/-! what a store holds -/
local macro_rules | `(tactic| walk_at "ne") => `(tactic| first | assumption | (apply Ne.symm; assumption) | exact ne_free (by assumption) (by assumption) | exact (ne_free (by assumption) (by assumption)).symm)
local macro_rules | `(tactic| walk_at "s") => `(tactic| first
  | exact put_same
  | assumption
  | (refine (put_ne ?_).trans ?_; (· walk_at "ne"); (· walk_at "s")))
/-! a side condition -/
local macro_rules | `(tactic| walk_at "c") => `(tactic| first
  | exact Or.inl (Or.inl ⟨by omega, by omega⟩)
  | exact Or.inl (Or.inr ⟨by omega, by omega⟩)
  | exact Or.inl ⟨by omega, by omega⟩
  | exact Or.inl ⟨rfl, _, by walk_at "s"⟩
  | rfl
  | omega
  | decide)
/-! one question is answered, if the answer is plain -/
local macro_rules | `(tactic| walk_at "g1") => `(tactic| first
  | refine ⟨fun _ => ?_, fun h => absurd (show true = false from h) (by decide)⟩
  | refine ⟨fun h => absurd (show false = true from h) Bool.false_ne_true, fun _ => ?_⟩
  | refine ⟨_, by walk_at "s", ?_⟩
  | refine ⟨_, _, by walk_at "s", by walk_at "s", ?_⟩
  | refine ⟨_, by walk_at "s", by simpa using (by omega), ?_⟩
  | refine ⟨_, rfl, ?_⟩
  | refine ⟨_, _, rfl, (by first | exact isTy_tt | exact isTy_ii | exact isTy_ll | exact isTy_ss | exact isTy_ib | exact isTy_tb | exact isTy_ti | exact isTy_ts | exact isTy_tl | exact isTy_lb | exact isTy_li | exact isTy_ls | exact isTy_lt | exact isTy_sb | exact isTy_si | exact isTy_st | exact isTy_sl | exact isTy_is | exact isTy_it | exact isTy_il | exact isTy_bi | exact isTy_bs), ?_⟩
  | refine ⟨_, _, tyName_lst (by walk_at "s"), (by first | exact isTy_ll | exact isTy_lb | exact isTy_li | exact isTy_ls | exact isTy_lt), ?_⟩
  | refine ⟨by walk_at "c", ?_⟩)
local macro_rules | `(tactic| walk_at "go") => `(tactic| (walk_at "w"; repeat (walk_at "g1"; walk_at "w")))
section
variable {P : Program} {w : World} {K : PySem.W.Frag} {mg : Str → Option Value} {base : Heap}
/-! outlines that are drawn -/
def Sk.within (k : Sk) (r : Int) : Prop := match k with
  | .ln dx dy => ab dx ≤ r ∧ ab dy ≤ r
  | .ar _ dx dy => ab dx = ab dy ∧ ab dx ≤ r
def spStrk : SpW := fun ws S Q => ∃ (p : Addr) (c n b s r : Int), ws = [.ref p, .int r] ∧ S p = some (.lst (poolL c n b s)) ∧ PoolOk c n s ∧ n ≤ 1000 ∧ 1 ≤ r ∧ r ≤ 20 ∧ ∀ (k : Sk) (c' n' : Int), k.within r → PoolOk c' n' s → n' ≤ n + 4 → Q k.v (put S p (.lst (poolL c' n' b s)))
theorem ab_le {n r : Int} (h1 : -r ≤ n) (h2 : n ≤ r) : ab n ≤ r := by unfold ab; split <;> omega
theorem ok__law_stroke (T : Txt K mg) (c__law_take : CalW P w K mg base 1 "_law_take" (Hd spTake)) (d : DefAt K mg "_law_stroke" s__law_stroke ["_law_pool_here", "_law_reach"]) : CalW P w K mg base 2 "_law_stroke" spStrk :=
  calDI d sc__law_stroke (fun ws S Q ⟨p, c, n, b, s, r, e, _⟩ => by rw [e]; rfl) fun f cdv A outer s H E hr => ⟨_, _,
    (pss_cons (ps_set (i := 2) sc__law_stroke.nd rfl (Or.inl rfl) (k_w K c__law_take hr (by decide) rfl (pa_cons (pv 0) (pa_cons pe_int pa_nil))))
      (pss_cons (ps_if (pt_cmpR (k_eq K hr.units) (pv 2) pe_int (nomark _))
       (pss_cons (ps_set (i := 4) sc__law_stroke.nd rfl (Or.inl rfl) (pe_op op_sub (k_w K c__law_take hr (by decide) rfl (pa_cons (pv 0) (pa_cons (pe_op (k_add K) (pe_op op_mulA pe_int (pv 1)) pe_int) pa_nil))) (pv 1)))
       (pss_cons (ps_set (i := 5) sc__law_stroke.nd rfl (Or.inl rfl) (pe_op op_sub (k_w K c__law_take hr (by decide) rfl (pa_cons (pv 0) (pa_cons (pe_op (k_add K) (pe_op op_mulA pe_int (pv 1)) pe_int) pa_nil))) (pv 1)))
       (pss_one (ps_ret (pe_tup (pa_cons pe_str (pa_cons (pe_op (k_add K) (pv 4) (pe_callTy call_int1 (by rfl) T.b_int (by decide +kernel) (pa_cons (pe_and (pe_cmpR (k_eq K hr.units) (pv 4) pe_int (nomark _)) (pe_one (pe_cmpR (k_eq K hr.units) (pv 5) pe_int (nomark _)))) pa_nil))) (pa_cons (pv 5) pa_nil))))))))
       pss_nil)
      (pss_cons (ps_set (i := 3) sc__law_stroke.nd rfl (Or.inl rfl) (pe_op (k_add K) pe_int (k_w K c__law_take hr (by decide) rfl (pa_cons (pv 0) (pa_cons (pe_callB (call_min2 rfl) (by rfl) T.b_min (by decide +kernel) (pa_cons pe_int (pa_cons (pv 1) pa_nil))) pa_nil)))))
      (pss_cons (ps_set (i := 4) sc__law_stroke.nd rfl (Or.inl rfl) (pe_op op_mulA (pv 3) (pe_op op_sub pe_int (pe_op op_mulA pe_int (k_w K c__law_take hr (by decide) rfl (pa_cons (pv 0) (pa_cons pe_int pa_nil)))))))
      (pss_cons (ps_set (i := 5) sc__law_stroke.nd rfl (Or.inl rfl) (pe_op op_mulA (pv 3) (pe_op op_sub pe_int (pe_op op_mulA pe_int (k_w K c__law_take hr (by decide) rfl (pa_cons (pv 0) (pa_cons pe_int pa_nil)))))))
      (pss_one (ps_ret (pe_tup (pa_cons (pe_ix (k_ix K) (pe_lst (pa_cons pe_str (pa_cons pe_str pa_nil))) (pe_op op_sub (pv 2) pe_int) (fun _ _ => rfl)) (pa_cons (pv 4) (pa_cons (pv 5) pa_nil))))))))))), inferInstance, by
    rintro ws S Q ⟨p, c, n, b, sd, r, rfl, hp, ok, hn, r0, r1, q⟩
    walk_at "go"
    refine take_go hp ok (by omega) (by decide) (by decide) fun so c1 so0 so1 ok1 => ?_
    walk_at "go"
    refine ⟨fun h => ?_, fun h => ?_⟩
    · walk_at "go"
      refine take_go put_same ok1 (by omega) (by omega) (by omega) fun x c2 x0 x1 ok2 => ?_
      walk_at "go"
      refine take_go put_same ok2 (by omega) (by omega) (by omega) fun y c3 y0 y1 ok3 => ?_
      walk_at "go"
      have fin : ∀ z : Int, (z = 0 ∨ (z = 1 ∧ x - r = 0)) → FgI Q (.tup [.str "line", .int (x - r + z), .int (y - r)]) (put (put (put S p (.lst (poolL c1 (n + 1) b sd))) p (.lst (poolL c2 (n + 1 + 1) b sd))) p (.lst (poolL c3 (n + 1 + 1 + 1) b sd))) := fun z hz => by
        rw [put_put, put_put]
        exact fg_here (q (.ln (x - r + z) (y - r)) c3 _ ⟨ab_le (by omega) (by omega), ab_le (by omega) (by omega)⟩ ok3 (by omega))
      refine ⟨fun e => ?_, fun e => ?_⟩
      · walk_at "go"
        refine fin (if decide (y - r = 0) = true then 1 else 0) ?_
        have := of_decide_eq_true e
        split
        · exact .inr ⟨rfl, this⟩
        · exact .inl rfl
      · walk_at "go"
        exact fin 0 (.inl rfl)
    · have hso := of_decide_eq_false h
      obtain ⟨r2, er2⟩ : ∃ r2, (if r < 12 then r else 12) = r2 := ⟨_, rfl⟩
      have hr2 : 1 ≤ r2 ∧ r2 ≤ r ∧ r2 ≤ 12 := by rw [← er2]; split <;> omega
      walk_at "go"
      change Hd spTake [.ref p, .int (if r < 12 then r else 12)] _ _
      rw [er2]
      refine take_go put_same ok1 (by omega) (by omega) (by omega) fun x c2 x0 x1 ok2 => ?_
      walk_at "go"
      refine take_go put_same ok2 (by omega) (by omega) (by omega) fun y c3 y0 y1 ok3 => ?_
      have dx : ∃ u : Int, (1 + x) * (1 - 2 * y) = u ∧ (u = 1 + x ∨ u = -(1 + x)) := ⟨_, rfl, by
        obtain rfl | rfl : y = 0 ∨ y = 1 := by omega
        · left; omega
        · right; omega⟩
      obtain ⟨u, eu, hu⟩ := dx
      walk_at "go"
      rw [eu]
      refine take_go put_same ok3 (by omega) (by omega) (by omega) fun z c4 z0 z1 ok4 => ?_
      have dy : ∃ v : Int, (1 + x) * (1 - 2 * z) = v ∧ (v = 1 + x ∨ v = -(1 + x)) := ⟨_, rfl, by
        obtain rfl | rfl : z = 0 ∨ z = 1 := by omega
        · left; omega
        · right; omega⟩
      obtain ⟨v, ev, hv⟩ := dy
      walk_at "go"
      rw [ev]
      have fin : ∀ fl : Bool, Q (.tup [.str (wd fl), .int u, .int v]) (put (put (put (put S p (.lst (poolL c1 (n + 1) b sd))) p (.lst (poolL c2 (n + 1 + 1) b sd))) p (.lst (poolL c3 (n + 1 + 1 + 1) b sd))) p (.lst (poolL c4 (n + 1 + 1 + 1 + 1) b sd))) := fun fl => by
        rw [put_put, put_put, put_put]
        refine q (.ar fl u v) c4 _ ⟨?_, ab_le (by omega) (by omega)⟩ ok4 (by omega)
        unfold ab; split <;> split <;> omega
      intro m hm
      obtain rfl | rfl : so = 1 ∨ so = 2 := by omega
      · walk_at "go"
        exact fg_sub (Sub.new hm) (fin true)
      · walk_at "go"
        exact fg_sub (Sub.new hm) (fin false)⟩
theorem strk_go {p : Addr} {c n b s r : Int} {S : Sto} {Q : WK} (h : S p = some (.lst (poolL c n b s))) (ok : PoolOk c n s) (hn : n ≤ 1000) (h0 : 1 ≤ r) (h1 : r ≤ 20)
    (q : ∀ (k : Sk) (c' n' : Int), k.within r → PoolOk c' n' s → n' ≤ n + 4 → Q k.v (put S p (.lst (poolL c' n' b s)))) : Hd spStrk [.ref p, .int r] S Q := Hd.mk ⟨p, c, n, b, s, r, rfl, h, ok, hn, h0, h1, q⟩
def Sk.ng : Sk → Sk
  | .ln dx dy => .ln (-dx) (-dy)
  | .ar fl dx dy => .ar fl (-dx) (-dy)
theorem ab_neg (n : Int) : ab (-n) = ab n := by unfold ab; split <;> split <;> omega
theorem ng_ok {k : Sk} (h : k.ok) : k.ng.ok := by
  cases k with
  | ln dx dy => exact ⟨by rw [ab_neg]; exact h.1, by rw [ab_neg]; exact h.2⟩
  | ar fl dx dy => exact ⟨by rw [ab_neg, ab_neg]; exact h.1, by rw [ab_neg]; exact h.2⟩
theorem within_ok {k : Sk} {r : Int} (h : k.within r) (hr : r ≤ 20) : k.ok := by
  cases k with
  | ln dx dy => obtain ⟨h1, h2⟩ := h; exact ⟨by omega, by omega⟩
  | ar fl dx dy => obtain ⟨h1, h2⟩ := h; exact ⟨h1, by omega⟩
theorem ab_bound {n r : Int} (h : ab n ≤ r) : -r ≤ n ∧ n ≤ r := by unfold ab at h; split at h <;> omega
theorem within_bound {k : Sk} {r : Int} (h : k.within r) : (-r ≤ k.dx ∧ k.dx ≤ r) ∧ (-r ≤ k.dy ∧ k.dy ≤ r) := by
  cases k with
  | ln dx dy => obtain ⟨h1, h2⟩ := h; exact ⟨ab_bound h1, ab_bound h2⟩
  | ar fl dx dy => obtain ⟨h1, h2⟩ := h; exact ⟨ab_bound h2, ab_bound (show ab dy ≤ r by omega)⟩
theorem sum_bound {r : Int} : ∀ (ns : List Int), (∀ n ∈ ns, -r ≤ n ∧ n ≤ r) → -(r * (ns.length : Int)) ≤ ns.sum ∧ ns.sum ≤ r * (ns.length : Int)
  | [], _ => by simp
  | a :: ns, h => by
    have ih := sum_bound ns fun n hn => h n (List.mem_cons_of_mem _ hn)
    have ha := h a List.mem_cons_self
    rw [List.sum_cons, List.length_cons]
    have e : r * ((ns.length + 1 : Nat) : Int) = r * (ns.length : Int) + r := by
      rw [Int.natCast_add, Int.mul_add]; simp
    rw [e]
    omega
/-- item 1, item 2, the stroke back -/
def f1 : W → W
  | .tup [_, b, _] => b
  | w => w
def f2 : W → W
  | .tup [_, _, c] => c
  | w => w
def f3 : W → W
  | .tup [a, .int b, .int c] => .tup [a, .int (-b), .int (-c)]
  | w => w
theorem f1_map (ks : List Sk) : (ks.map Sk.v).map f1 = (ks.map Sk.dx).map W.int := by
  rw [List.map_map, List.map_map]
  exact List.map_congr_left fun k _ => by cases k <;> rfl
theorem f2_map (ks : List Sk) : (ks.map Sk.v).map f2 = (ks.map Sk.dy).map W.int := by
  rw [List.map_map, List.map_map]
  exact List.map_congr_left fun k _ => by cases k <;> rfl
theorem f3_map (ks : List Sk) : (ks.map Sk.v).map f3 = (ks.map Sk.ng).map Sk.v := by
  rw [List.map_map, List.map_map]
  exact List.map_congr_left fun k _ => by cases k <;> rfl
theorem item_v {ks : List Sk} {i : Nat} {w : W} (e : (ks.map Sk.v)[i]? = some w) : ∃ k, k ∈ ks ∧ w = k.v := by
  rw [List.getElem?_map] at e
  cases q2 : ks[i]? with
  | none => rw [q2] at e; cases e
  | some k =>
    rw [q2] at e
    exact ⟨k, List.mem_of_getElem? q2, (Option.some.inj e).symm⟩
def spOutl : SpW := fun ws S Q => ∃ (p : Addr) (c n b s : Int), ws = [.ref p] ∧ S p = some (.lst (poolL c n b s)) ∧ PoolOk c n s ∧ n ≤ 100 ∧
  ∀ (x y : Int) (ks : List Sk) (c' n' : Int), (-20 ≤ x ∧ x ≤ 40) → (-20 ≤ y ∧ y ≤ 40) → (∀ k ∈ ks, k.ok) → ks.length ≤ 20 → PoolOk c' n' s → n' ≤ n + 100 → Q (outlineW x y ks) (put S p (.lst (poolL c' n' b s)))
theorem ok__law_outline (T : Txt K mg) (c__law_take : CalW P w K mg base 1 "_law_take" (Hd spTake)) (c__law_stroke : CalW P w K mg base 2 "_law_stroke" (Hd spStrk)) (d : DefAt K mg "_law_outline" s__law_outline ["_law_pool_here"]) : CalW P w K mg base 3 "_law_outline" spOutl :=
  calDI d sc__law_outline (fun ws S Q ⟨p, c, n, b, s, e, _⟩ => by rw [e]; rfl) fun f cdv A outer s H E hr => ⟨_, _,
    (pss_cons (ps_set (i := 1) sc__law_outline.nd rfl (Or.inl rfl) (k_w K c__law_take hr (by decide) rfl (pa_cons (pv 0) (pa_cons pe_int pa_nil))))
      (pss_cons (ps_set (i := 2) sc__law_outline.nd rfl (Or.inl rfl) (pe_op (k_add K) pe_int (k_w K c__law_take hr (by decide) rfl (pa_cons (pv 0) (pa_cons pe_int pa_nil)))))
      (pss_cons (ps_set (i := 3) sc__law_outline.nd rfl (Or.inr rfl) (pe_ix (k_ix K) (pe_lst (pa_cons pe_int (pa_cons pe_int (pa_cons pe_int pa_nil)))) (k_w K c__law_take hr (by decide) rfl (pa_cons (pv 0) (pa_cons pe_int pa_nil))) (fun _ _ => rfl)))
      (pss_cons (ps_set (i := 4) sc__law_outline.nd rfl (Or.inl rfl) (pe_op op_sub (k_w K c__law_take hr (by decide) rfl (pa_cons (pv 0) (pa_cons pe_int pa_nil))) pe_int))
      (pss_cons (ps_set (i := 5) sc__law_outline.nd rfl (Or.inl rfl) (pe_op op_sub (k_w K c__law_take hr (by decide) rfl (pa_cons (pv 0) (pa_cons pe_int pa_nil))) pe_int))
      (pss_mid (ps_if (pt_cmpR (k_eq K hr.units) (pv 1) pe_int (nomark _))
       (pss_one (ps_set (i := 2) sc__law_outline.nd rfl (Or.inl rfl) (pe_callB (call_min2 rfl) (by rfl) T.b_min (by decide +kernel) (pa_cons (pv 2) (pa_cons pe_int pa_nil)))))
       pss_nil)
      (pss_mid (ps_if (pt_cmpR (k_eq K hr.units) (pv 1) pe_int (nomark _))
       (pss_cons (ps_set (i := 2) sc__law_outline.nd rfl (Or.inl rfl) (pe_callB (call_min2 rfl) (by rfl) T.b_min (by decide +kernel) (pa_cons (pv 2) (pa_cons pe_int pa_nil))))
       (pss_one (ps_set (i := 3) sc__law_outline.nd rfl (Or.inr rfl) pe_int)))
       pss_nil)
      (pss_cons (ps_setLc (i := 6) (own := [("_law_k", 7)]) rfl sc__law_outline.nd rfl rfl (sw_true rfl rfl rfl (by decide +kernel)) (pi_range1 rfl T.b_range (pa_cons (pv 2) pa_nil)) (blkOk_by (own := [("_law_k", 7)]) (N := ["_law_pool_here", "_law_shape", "_law_many", "_law_reach", "_law_x", "_law_y", "_law_strokes", "_law_k", "_law_dx", "_law_stroke_here", "_law_dy", "_law_one"]) (sc := defScope s__law_outline) (by decide +kernel)) (fun _ _ _ _ _ => (pg_name (i := 7) sc__law_outline.nd rfl (Or.inl rfl))) (fun _ _ _ _ _ => pts_nil) (fun _ _ _ _ _ => (k_w K c__law_stroke hr (by decide) rfl (pa_cons (pv 0) (pa_cons (pv 3) pa_nil)))))
      (pss_cons (ps_set (i := 8) sc__law_outline.nd rfl (Or.inl rfl) (pe_callB (k_sum K rfl) (by rfl) T.b_sum (by decide +kernel) (pa_cons (pe_lc (own := [("_law_stroke_here", 9)]) rfl sc__law_outline.nd (k_any K (pv 6)) (blkOk_by (own := [("_law_stroke_here", 9)]) (N := ["_law_pool_here", "_law_shape", "_law_many", "_law_reach", "_law_x", "_law_y", "_law_strokes", "_law_k", "_law_dx", "_law_stroke_here", "_law_dy", "_law_one"]) (sc := defScope s__law_outline) (by decide +kernel)) (fun _ _ _ _ _ => (pg_name (i := 9) sc__law_outline.nd rfl (Or.inl rfl))) (fun _ _ _ _ _ => pts_nil) (fun _ _ _ _ _ => (pe_ix (k_ix K) (pv 9) pe_int (fun _ _ => rfl)))) pa_nil)))
      (pss_cons (ps_set (i := 10) sc__law_outline.nd rfl (Or.inl rfl) (pe_callB (k_sum K rfl) (by rfl) T.b_sum (by decide +kernel) (pa_cons (pe_lc (own := [("_law_stroke_here", 9)]) rfl sc__law_outline.nd (k_any K (pv 6)) (blkOk_by (own := [("_law_stroke_here", 9)]) (N := ["_law_pool_here", "_law_shape", "_law_many", "_law_reach", "_law_x", "_law_y", "_law_strokes", "_law_k", "_law_dx", "_law_stroke_here", "_law_dy", "_law_one"]) (sc := defScope s__law_outline) (by decide +kernel)) (fun _ _ _ _ _ => (pg_name (i := 9) sc__law_outline.nd rfl (Or.inl rfl))) (fun _ _ _ _ _ => pts_nil) (fun _ _ _ _ _ => (pe_ix (k_ix K) (pv 9) pe_int (fun _ _ => rfl)))) pa_nil)))
      (pss_mid (ps_if (pt_cmpR (k_eq K hr.units) (pv 1) pe_int (nomark _))
       (pss_one (ps_set (i := 6) sc__law_outline.nd rfl (Or.inl rfl) (pe_op (k_add K) (pv 6) (pe_lc (own := [("_law_one", 11)]) rfl sc__law_outline.nd (k_any K (pv 6)) (blkOk_by (own := [("_law_one", 11)]) (N := ["_law_pool_here", "_law_shape", "_law_many", "_law_reach", "_law_x", "_law_y", "_law_strokes", "_law_k", "_law_dx", "_law_stroke_here", "_law_dy", "_law_one"]) (sc := defScope s__law_outline) (by decide +kernel)) (fun _ _ _ _ _ => (pg_name (i := 11) sc__law_outline.nd rfl (Or.inl rfl))) (fun _ _ _ _ _ => pts_nil) (fun _ _ _ _ _ => (pe_tup (pa_cons (pe_ix (k_ix K) (pv 11) pe_int (fun _ _ => rfl)) (pa_cons (pe_un un_neg (pe_ix (k_ix K) (pv 11) pe_int (fun _ _ => rfl))) (pa_cons (pe_un un_neg (pe_ix (k_ix K) (pv 11) pe_int (fun _ _ => rfl))) pa_nil)))))))))
       pss_nil)
      (pss_mid (ps_if (PW.pt (pw_and (pt_cmpR (k_eq K hr.units) (pv 1) pe_int (nomark _)) (pw_and1 (PW.pt (pw_or (pt_cmpR (k_ne K hr.units) (pv 8) pe_int (nomark _)) (pw_or1 (pt_cmpR (k_ne K hr.units) (pv 10) pe_int (nomark _))))))))
       (pss_one (ps_expr (k_bm K PySem.F.plainAttrs_list PySem.F.slot_list_append PySem.F.type_list_append mt_append (pv 6) (pa_cons (pe_tup (pa_cons pe_str (pa_cons (pe_un un_neg (pv 8)) (pa_cons (pe_un un_neg (pv 10)) pa_nil)))) pa_nil))))
       pss_nil)
      (pss_one (ps_ret (pe_tup (pa_cons (pv 4) (pa_cons (pv 5) (pa_cons (pe_callTy (k_tuple K) (by rfl) T.b_tuple (by decide +kernel) (pa_cons (pv 6) pa_nil)) pa_nil)))))))))))))))))), inferInstance, by
    rintro ws S Q ⟨p, c, n, b, sd, rfl, hp, ok, hn, q⟩
    walk_at "go"
    refine take_go hp ok (by omega) (by decide) (by decide) fun sh c1 sh0 sh1 ok1 => ?_
    walk_at "go"
    refine take_go put_same ok1 (by omega) (by omega) (by omega) fun many c2 m0 m1 ok2 => ?_
    walk_at "go"
    intro l hl
    walk_at "go"
    have hl : put S p (.lst (poolL c2 (n + 1 + 1) b sd)) l = none := by rw [put_put] at hl; exact hl
    rw [put_put]
    have hlp : p ≠ l := (ne_free put_same hl).symm
    have k0 : Kp S p (put S p (.lst (poolL c2 (n + 1 + 1) b sd))) := (Kp.refl S p).at
    have hSl := k0.free put_same hl
    refine take_go ((put_ne hlp).trans put_same) ok2 (by omega) (by omega) (by omega) fun rr c3 r0 r1 ok3 => ?_
    have ht : ∃ reach : Int, atI [W.int 20, .int 5, .int 5] rr = some (.int reach) ∧ 1 ≤ reach ∧ reach ≤ 20 := by
      obtain rfl | rfl | rfl : rr = 0 ∨ rr = 1 ∨ rr = 2 := by omega
      · exact ⟨20, rfl, by decide, by decide⟩
      · exact ⟨5, rfl, by decide, by decide⟩
      · exact ⟨5, rfl, by decide, by decide⟩
    obtain ⟨reach, er, hr1, hr2⟩ := ht
    walk_at "w"
    refine ⟨_, (put_ne hlp.symm).trans put_same, ?_⟩
    refine rdAt_ok er ?_
    walk_at "go"
    refine take_go put_same ok3 (by omega) (by omega) (by omega) fun x c4 x0 x1 ok4 => ?_
    walk_at "go"
    refine take_go put_same ok4 (by omega) (by omega) (by omega) fun y c5 y0 y1 ok5 => ?_
    have k1 : Kp S p (put (put S p (.lst (poolL c2 (n + 1 + 1) b sd))) l (.lst [.int 20, .int 5, .int 5])) := k0.new hSl
    have kT := (k1.at (c := .lst (poolL c3 (n + 1 + 1 + 1) b sd))).at (c := .lst (poolL c4 (n + 1 + 1 + 1 + 1) b sd)) |>.at (c := .lst (poolL c5 (n + 1 + 1 + 1 + 1 + 1) b sd))
    have hT : (put (put (put (put (put S p (.lst (poolL c2 (n + 1 + 1) b sd))) l (.lst [.int 20, .int 5, .int 5])) p (.lst (poolL c3 (n + 1 + 1 + 1) b sd))) p (.lst (poolL c4 (n + 1 + 1 + 1 + 1) b sd))) p (.lst (poolL c5 (n + 1 + 1 + 1 + 1 + 1) b sd))) p = some (.lst (poolL c5 (n + 1 + 1 + 1 + 1 + 1) b sd)) := put_same
    revert kT hT
    generalize put (put (put (put (put S p (.lst (poolL c2 (n + 1 + 1) b sd))) l (.lst [.int 20, .int 5, .int 5])) p (.lst (poolL c3 (n + 1 + 1 + 1) b sd))) p (.lst (poolL c4 (n + 1 + 1 + 1 + 1) b sd))) p (.lst (poolL c5 (n + 1 + 1 + 1 + 1 + 1) b sd)) = T0
    intro kT hT
    generalize en : n + 1 + 1 + 1 + 1 + 1 = n5 at *
    walk_at "w"
    refine ⟨fun ρ' S' => S' = T0 ∧ ∃ m2, ρ' = [some (.ref p), some (.int sh), some (.int m2), some (.int reach), some (.int (x - 20)), some (.int (y - 20)), none, none, none, none, none, none] ∧ 1 ≤ m2 ∧ m2 ≤ 12 ∧ (sh = 0 → m2 ≤ 6), ?_, ?_⟩
    · walk_at "go"
      refine ⟨fun h => ?_, fun h => ?_⟩
      · walk_at "w"
        refine ⟨rfl, if 6 < 1 + many then 6 else 1 + many, rfl, ?_⟩
        split <;> omega
      · have h := of_decide_eq_false h
        walk_at "w"
        exact ⟨rfl, 1 + many, rfl, by omega, by omega, by omega⟩
    rintro ρ' S' ⟨rfl, m2, rfl, g1, g2, g3⟩
    walk_at "w"
    refine ⟨fun ρ' S1 => S1 = S' ∧ ∃ m2 r2, ρ' = [some (.ref p), some (.int sh), some (.int m2), some (.int r2), some (.int (x - 20)), some (.int (y - 20)), none, none, none, none, none, none] ∧ 1 ≤ m2 ∧ m2 ≤ 12 ∧ (sh = 0 → m2 ≤ 6) ∧ 1 ≤ r2 ∧ r2 ≤ 20 ∧ (sh = 1 → m2 ≤ 4 ∧ r2 ≤ 5), ?_, ?_⟩
    · walk_at "go"
      refine ⟨fun h => ?_, fun h => ?_⟩
      · walk_at "w"
        refine ⟨rfl, if 4 < m2 then 4 else m2, 5, rfl, ?_⟩
        split <;> omega
      · have h := of_decide_eq_false h
        walk_at "w"
        exact ⟨rfl, m2, reach, rfl, by omega, by omega, by omega, by omega, by omega, by omega⟩
    clear g1 g2 g3 m2
    rintro ρ' S1 ⟨rfl, m2, r2, rfl, g1, g2, g3, g4, g5, g6⟩
    walk_at "w"
    refine lc_mk ?_
    walk_at "w"
    refine ⟨by omega, by omega, ?_⟩
    intro D hD
    have hDp : D ≠ p := ne_free hT hD
    have hSD := kT.free hT hD
    refine ⟨fun i acc S2 => ∃ (ks : List Sk) (c' n' : Int), acc = ks.map Sk.v ∧ ks.length = i ∧ (∀ k ∈ ks, k.within r2) ∧ PoolOk c' n' sd ∧ n' ≤ n5 + 4 * (i : Int) ∧ i ≤ m2.toNat ∧ S2 p = some (.lst (poolL c' n' b sd)) ∧ S2 D = some (.lst acc) ∧ Kp S p S2,
      ⟨[], c5, n5, rfl, rfl, (fun _ h => by cases h), ok5, by omega, Nat.zero_le _, (put_ne hDp.symm).trans hT, put_same, kT.new hSD⟩, fun _ _ _ _ => trivial, ?_, ?_⟩
    · rintro i w acc S2 e ⟨ks, c', n', rfl, hl2, hw, okk, hn', hi, h1, h2, h3⟩
      obtain ⟨hi2, rfl⟩ := intsW_at e
      have hi3 : i < m2.toNat := hi2
      walk_at "w"
      refine ⟨fun _ => ?_, fun h => absurd (show true = false from h) (by decide)⟩
      refine strk_go h1 okk (by omega) (by omega) (by omega) fun k c'' n'' hk ok'' hn'' => ?_
      refine ⟨(put_ne hDp).trans h2, ?_, ks ++ [k], c'', n'', by rw [List.map_append]; rfl, by rw [List.length_append, hl2]; rfl, ?_, ok'', by omega, by omega, ?_, put_same, ?_⟩
      · rw [List.length_map, hl2]
        exact Nat.lt_of_lt_of_le (show i < 100 by omega) (by decide)
      · intro k' hk'
        rw [List.mem_append] at hk'
        rcases hk' with hk' | hk'
        · exact hw k' hk'
        · rw [List.mem_singleton] at hk'; subst hk'; exact hk
      · rw [put_ne hDp.symm]; exact put_same
      · exact h3.at.new hSD
    · rintro acc S2 ⟨ks, c', n', rfl, hl2, hw, okk, hn', _, h1, h2, h3⟩
      rw [intsW_len] at hl2 hn'
      have bx := sum_bound (r := r2) (ks.map Sk.dx) fun n hn => by
        obtain ⟨k, hk, rfl⟩ := List.mem_map.mp hn
        exact (within_bound (hw k hk)).1
      have bxy := sum_bound (r := r2) (ks.map Sk.dy) fun n hn => by
        obtain ⟨k, hk, rfl⟩ := List.mem_map.mp hn
        exact (within_bound (hw k hk)).2
      rw [List.length_map, hl2] at bx bxy
      generalize esx : (ks.map Sk.dx).sum = sx at *
      generalize esy : (ks.map Sk.dy).sum = sy at *
      have hs1 : sh = 1 → (-20 ≤ sx ∧ sx ≤ 20) ∧ (-20 ≤ sy ∧ sy ≤ 20) := fun h => by
        have h4 := g6 h
        have : r2 * ((m2.toNat : Nat) : Int) ≤ 5 * 4 := Int.mul_le_mul (by omega) (by omega) (by omega) (by omega)
        omega
      have kso : ∀ k ∈ ks, k.ok := fun k hk => within_ok (hw k hk) g5
      have itm : ∀ (j : Nat) (w : W), (ks.map Sk.v)[j]? = some w → ∃ a b c, w = .tup [.str a, .int b, .int c] := fun j w e => by
        obtain ⟨k, _, rfl⟩ := item_v e
        cases k with
        | ln dx dy => exact ⟨_, _, _, rfl⟩
        | ar fl dx dy => exact ⟨_, _, _, rfl⟩
      have hl3 : (ks.map Sk.v).length ≤ 100000 := by rw [List.length_map]; omega
      walk_at "w"
      refine lcMapI (ws := ks.map Sk.v) (S1 := S2) (ok := keepS D (ks.map Sk.v)) f1 (fun R h => ⟨_, h2, h⟩) hl3 (fun E acc hE => (put_ne (ne_free h2 hE).symm).trans h2) ?_ ?_
      · intro i w E acc e hE Q' q'
        obtain ⟨a, b, c, rfl⟩ := itm _ _ e
        walk_at "w"
        exact q'
      intro E1 hE1
      rw [f1_map]
      have hE1D := ne_free h2 hE1
      have hE1p := ne_free h1 hE1
      have hSE1 := h3.free h1 hE1
      refine ⟨E1, ks.map Sk.dx, rfl, put_same, ?_⟩
      rw [esx]
      walk_at "w"
      have h2' : (put S2 E1 (.lst ((ks.map Sk.dx).map W.int))) D = some (.lst (ks.map Sk.v)) := (put_ne hE1D.symm).trans h2
      have h1' : (put S2 E1 (.lst ((ks.map Sk.dx).map W.int))) p = some (.lst (poolL c' n' b sd)) := (put_ne hE1p.symm).trans h1
      have h3' := h3.new (c := .lst ((ks.map Sk.dx).map W.int)) hSE1
      refine lcMapI (ws := ks.map Sk.v) (S1 := put S2 E1 (.lst ((ks.map Sk.dx).map W.int))) (ok := keepS D (ks.map Sk.v)) f2 (fun R h => ⟨_, h2', h⟩) hl3 (fun E acc hE => (put_ne (ne_free h2' hE).symm).trans h2') ?_ ?_
      · intro i w E acc e hE Q' q'
        obtain ⟨a, b, c, rfl⟩ := itm _ _ e
        walk_at "w"
        exact q'
      intro E2 hE2
      rw [f2_map]
      have hE2D := ne_free h2' hE2
      have hE2p := ne_free h1' hE2
      have hSE2 := h3'.free h1' hE2
      refine ⟨E2, ks.map Sk.dy, rfl, put_same, ?_⟩
      rw [esy]
      have h2 := (put_ne (c := .lst ((ks.map Sk.dy).map W.int)) hE2D.symm).trans h2'
      have h1 := (put_ne (c := .lst ((ks.map Sk.dy).map W.int)) hE2p.symm).trans h1'
      have h3 := h3'.new (c := .lst ((ks.map Sk.dy).map W.int)) hSE2
      revert h2 h1 h3
      generalize put (put S2 E1 (.lst ((ks.map Sk.dx).map W.int))) E2 (.lst ((ks.map Sk.dy).map W.int)) = T1
      intro h2 h1 h3
      walk_at "w"
      refine ⟨fun ρ' S' => ∃ (L : Addr) (ks' : List Sk), ρ' = [some (.ref p), some (.int sh), some (.int m2), some (.int r2), some (.int (x - 20)), some (.int (y - 20)), some (.ref L), none, some (.int sx), none, some (.int sy), none] ∧
        S' L = some (.lst (ks'.map Sk.v)) ∧ (∀ k ∈ ks', k.ok) ∧ ks'.length ≤ 12 ∧ S' p = some (.lst (poolL c' n' b sd)) ∧ Kp S p S' ∧ S L = none, ?_, ?_⟩
      · walk_at "w"
        refine ⟨fun h => ?_, fun h => ?_⟩
        · have h := of_decide_eq_true h
          have := g3 h
          walk_at "w"
          refine lcMapI (ws := ks.map Sk.v) (S1 := T1) (ok := keepS D (ks.map Sk.v)) f3 (fun R h => ⟨_, h2, h⟩) hl3 (fun E acc hE => (put_ne (ne_free h2 hE).symm).trans h2) ?_ ?_
          · intro i w E acc e hE Q' q'
            obtain ⟨a, b, c, rfl⟩ := itm _ _ e
            walk_at "w"
            exact q'
          intro E3 hE3
          rw [f3_map]
          have hE3D := ne_free h2 hE3
          have hE3p := ne_free h1 hE3
          have hSE3 := h3.free h1 hE3
          refine ⟨_, _, (put_ne hE3D.symm).trans h2, put_same, ?_, ?_⟩
          · rw [List.length_map, List.length_map, List.length_map]
            exact Nat.le_trans (show ks.length + ks.length ≤ 100 by omega) (by decide)
          intro L hL
          have hL1 : T1 L = none := Sub.free (Sub.new hE3) hL
          have hLp := ne_free h1 hL1
          refine ⟨L, ks ++ ks.map Sk.ng, rfl, ?_, ?_, ?_, ?_, ?_, h3.free h1 hL1⟩
          · rw [List.map_append]; exact put_same
          · intro k hk
            rw [List.mem_append] at hk
            rcases hk with hk | hk
            · exact kso k hk
            · obtain ⟨k2, hk2, rfl⟩ := List.mem_map.mp hk
              exact ng_ok (kso k2 hk2)
          · rw [List.length_append, List.length_map]; omega
          · exact (put_ne hLp.symm).trans ((put_ne hE3p.symm).trans h1)
          · exact (h3.new hSE3).new (h3.free h1 hL1)
        · walk_at "w"
          exact ⟨D, ks, rfl, h2, kso, by omega, h1, h3, hSD⟩
      rintro ρ' S' ⟨L, ks', rfl, i1, i2, i3, i4, i5, i6⟩
      walk_at "w"
      refine ⟨fun ρ' S' => ∃ (L : Addr) (ks' : List Sk), ρ' = [some (.ref p), some (.int sh), some (.int m2), some (.int r2), some (.int (x - 20)), some (.int (y - 20)), some (.ref L), none, some (.int sx), none, some (.int sy), none] ∧
        S' L = some (.lst (ks'.map Sk.v)) ∧ (∀ k ∈ ks', k.ok) ∧ ks'.length ≤ 13 ∧ S' p = some (.lst (poolL c' n' b sd)) ∧ Kp S p S' ∧ S L = none, ?_, ?_⟩
      · have hLp : p ≠ L := fun e => by rw [e, i6] at hp; cases hp
        walk_at "w"
        refine ⟨fun h => ?_, fun h => ?_⟩
        · have h := of_decide_eq_true h
          have h20 := hs1 h
          walk_at "w"
          refine ⟨fun h2 => ?_, fun h2 => ?_⟩
          · walk_at "w"
            refine ⟨fun _ => ?_, fun h => absurd (show true = false from h) (by decide)⟩
            walk_at "w"
            refine ⟨.inl ⟨rfl, _, i1⟩, ?_⟩
            walk_at "w"
            refine ⟨_, i1, ?_, L, ks' ++ [.ln (-sx) (-sy)], rfl, ?_, ?_, ?_, ?_, ?_, i6⟩
            · rw [List.length_map]
              exact Nat.lt_of_le_of_lt (show ks'.length ≤ 100 by omega) (by decide)
            · rw [List.map_append]; exact put_same
            · intro k hk
              rw [List.mem_append] at hk
              rcases hk with hk | hk
              · exact i2 k hk
              · rw [List.mem_singleton] at hk; subst hk
                exact ⟨by rw [ab_neg]; exact ab_le (by omega) (by omega), by rw [ab_neg]; exact ab_le (by omega) (by omega)⟩
            · rw [List.length_append]; exact Nat.succ_le_succ i3
            · exact (put_ne hLp).trans i4
            · exact i5.new i6
          · walk_at "w"
            refine ⟨fun _ => ?_, fun h => ?_⟩
            · walk_at "w"
              refine ⟨.inl ⟨rfl, _, i1⟩, ?_⟩
              walk_at "w"
              refine ⟨_, i1, ?_, L, ks' ++ [.ln (-sx) (-sy)], rfl, ?_, ?_, ?_, ?_, ?_, i6⟩
              · rw [List.length_map]
                exact Nat.lt_of_le_of_lt (show ks'.length ≤ 100 by omega) (by decide)
              · rw [List.map_append]; exact put_same
              · intro k hk
                rw [List.mem_append] at hk
                rcases hk with hk | hk
                · exact i2 k hk
                · rw [List.mem_singleton] at hk; subst hk
                  exact ⟨by rw [ab_neg]; exact ab_le (by omega) (by omega), by rw [ab_neg]; exact ab_le (by omega) (by omega)⟩
              · rw [List.length_append]; exact Nat.succ_le_succ i3
              · exact (put_ne hLp).trans i4
              · exact i5.new i6
            · walk_at "w"
              exact ⟨L, ks', rfl, i1, i2, by omega, i4, i5, i6⟩
        · walk_at "w"
          refine ⟨fun h => absurd (show false = true from h) Bool.false_ne_true, fun _ => ?_⟩
          exact ⟨L, ks', rfl, i1, i2, by omega, i4, i5, i6⟩
      clear i1 i2 i3 i4 i5 i6 L ks'
      rintro ρ' S' ⟨L, ks', rfl, i1, i2, i3, i4, i5, i6⟩
      walk_at "w"
      refine ⟨_, i1, ?_⟩
      exact fg_sub (i5.sub i4) (q _ _ _ _ _ ⟨by omega, by omega⟩ ⟨by omega, by omega⟩ i2 (by omega) okk (by omega))⟩
end
end K27
set_option Elab.async false
set_option linter.all false
set_option maxRecDepth 100000
set_option maxHeartbeats 4000000
set_option synthInstance.maxHeartbeats 4000000
set_option synthInstance.maxSize 100000
namespace K27
open PySem PySem.Spec PyProof.Rows L2 Wl
local macro_rules | `(tactic| walk_at "w") => `(tactic| (conv => whnf))
/-! what a store holds -/
local macro_rules | `(tactic| walk_at "ne") => `(tactic| first | assumption | (apply Ne.symm; assumption) | exact ne_free (by assumption) (by assumption) | exact (ne_free (by assumption) (by assumption)).symm)
local macro_rules | `(tactic| walk_at "s") => `(tactic| first
  | exact put_same
  | assumption
  | (refine (put_ne ?_).trans ?_; (· walk_at "ne"); (· walk_at "s")))
/-! a side condition -/
local macro_rules | `(tactic| walk_at "c") => `(tactic| first
  | exact Or.inl (Or.inl ⟨by omega, by omega⟩)
  | exact Or.inl (Or.inr ⟨by omega, by omega⟩)
  | exact Or.inl ⟨by omega, by omega⟩
  | exact Or.inl ⟨rfl, _, by walk_at "s"⟩
  | rfl
  | omega
  | decide)
/-! one question is answered, if the answer is plain -/
local macro_rules | `(tactic| walk_at "g1") => `(tactic| first
  | refine ⟨fun _ => ?_, fun h => absurd (show true = false from h) (by decide)⟩
  | refine ⟨fun h => absurd (show false = true from h) Bool.false_ne_true, fun _ => ?_⟩
  | refine ⟨_, by walk_at "s", ?_⟩
  | refine ⟨_, _, by walk_at "s", by walk_at "s", ?_⟩
  | refine ⟨_, by walk_at "s", by simpa using (by omega), ?_⟩
  | refine ⟨_, rfl, ?_⟩
  | refine ⟨_, _, rfl, (by first | exact isTy_tt | exact isTy_ii | exact isTy_ll | exact isTy_ss | exact isTy_ib | exact isTy_tb | exact isTy_ti | exact isTy_ts | exact isTy_tl | exact isTy_lb | exact isTy_li | exact isTy_ls | exact isTy_lt | exact isTy_sb | exact isTy_si | exact isTy_st | exact isTy_sl | exact isTy_is | exact isTy_it | exact isTy_il | exact isTy_bi | exact isTy_bs), ?_⟩
  | refine ⟨_, _, tyName_lst (by walk_at "s"), (by first | exact isTy_ll | exact isTy_lb | exact isTy_li | exact isTy_ls | exact isTy_lt), ?_⟩
  | refine ⟨by walk_at "c", ?_⟩)
local macro_rules | `(tactic| walk_at "go") => `(tactic| (walk_at "w"; repeat (walk_at "g1"; walk_at "w")))
section
variable {P : Program} {w : World} {K : PySem.W.Frag} {mg : Str → Option Value} {base : Heap}
/-! where a stroke ends -/
def sx (ss : List (Int × Int)) : Int := (ss.map (·.1)).sum
def sy (ss : List (Int × Int)) : Int := (ss.map (·.2)).sum
theorem nd_sum (p : Int × Int) (ss : List (Int × Int)) : nd p ss = (p.1 + sx ss, p.2 + sy ss) := by
  induction ss generalizing p with
  | nil => unfold nd sx sy; simp
  | cons a ss ih =>
    show nd (stp p a) ss = _
    rw [ih]
    unfold sx sy stp
    simp only [List.map_cons, List.sum_cons]
    ext
    · show p.1 + a.1 + _ = _; omega
    · show p.2 + a.2 + _ = _; omega
theorem sx_app (a b : List (Int × Int)) : sx (a ++ b) = sx a + sx b := by unfold sx; rw [List.map_append, List.sum_append]
theorem sy_app (a b : List (Int × Int)) : sy (a ++ b) = sy a + sy b := by unfold sy; rw [List.map_append, List.sum_append]
def cnt (t : Bool) (l : List Bool) : Int := (l.count t : Nat)
theorem arc_cnt (r : Int) : ∀ (n : Nat) (a b : Int), 0 ≤ a → 0 ≤ b → b ≤ r → (n : Int) = a + (r - b) → cnt true (arc r n a b) = r - b ∧ cnt false (arc r n a b) = a
  | 0, a, b, h1, h2, h3, h4 => by
    unfold arc cnt
    simp
    omega
  | n + 1, a, b, h1, h2, h3, h4 => by
    cases hd : dcs r a b with
    | true =>
      rw [arc_yes hd]
      have hb : b < r := by
        rcases dcs_yes hd with h | h
        · omega
        · exact h.1
      obtain ⟨g1, g2⟩ := arc_cnt r n a (b + 1) h1 (by omega) (by omega) (by omega)
      unfold cnt at g1 g2 ⊢
      rw [List.count_cons_self, List.count_cons_of_ne (by decide)]
      omega
    | false =>
      rw [arc_no hd]
      have ha := (dcs_no hd).1
      obtain ⟨g1, g2⟩ := arc_cnt r n (a - 1) b (by omega) h2 h3 (by omega)
      unfold cnt at g1 g2 ⊢
      rw [List.count_cons_self, List.count_cons_of_ne (by decide)]
      omega
theorem s_cnt (fl : Bool) (u v : Int) : ∀ l : List Bool, sx (l.map fun t => if t = fl then (u, 0) else (0, v)) = u * cnt fl l ∧ sy (l.map fun t => if t = fl then (u, 0) else (0, v)) = v * cnt (!fl) l
  | [] => by unfold sx sy cnt; simp
  | t :: l => by
    obtain ⟨h1, h2⟩ := s_cnt fl u v l
    simp only [sx, sy, cnt] at h1 h2 ⊢
    rw [List.map_cons, List.map_cons, List.map_cons, List.sum_cons, List.sum_cons, h1, h2]
    cases fl <;> cases t <;> simp <;> (try rw [Int.mul_add]) <;> omega
theorem s_line (dx dy : Int) (hn : 0 < ab dx + ab dy) : ∀ m : Nat,
    sx ((List.range m).map fun k => if acr (ab dx) (ab dx + ab dy) k = true then (signI dx, 0) else (0, signI dy)) = signI dx * lev dx dy m ∧
    sy ((List.range m).map fun k => if acr (ab dx) (ab dx + ab dy) k = true then (signI dx, 0) else (0, signI dy)) = signI dy * ((m : Int) - lev dx dy m)
  | 0 => by unfold sx sy lev; simp
  | m + 1 => by
    obtain ⟨h1, h2⟩ := s_line dx dy hn m
    rw [List.range_succ, List.map_append, sx_app, sy_app, h1, h2, lev_succ hn]
    by_cases hc : acr (ab dx) (ab dx + ab dy) m = true
    · simp only [sx, sy, List.map_cons, List.map_nil, List.sum_cons, List.sum_nil, hc, if_true]
      rw [Int.mul_add, show ((m + 1 : Nat) : Int) - (lev dx dy m + 1) = (m : Int) - lev dx dy m by omega]
      omega
    · simp only [sx, sy, List.map_cons, List.map_nil, List.sum_cons, List.sum_nil, hc, if_false, Bool.false_eq_true]
      rw [show ((m + 1 : Nat) : Int) - (lev dx dy m + 0) = ((m : Int) - lev dx dy m) + 1 by omega, Int.mul_add (signI dy)]
      simp only [Int.add_zero]
      exact ⟨trivial, by omega⟩
theorem steps_sum {k : Sk} (h : k.ok) : sx k.steps = k.dx ∧ sy k.steps = k.dy := by
  cases k with
  | ln dx dy =>
    unfold Sk.steps
    by_cases hn : 0 < ab dx + ab dy
    · obtain ⟨h1, h2⟩ := s_line dx dy hn (manyOf dx dy)
      have hm : ((manyOf dx dy : Nat) : Int) = ab dx + ab dy := by unfold manyOf; omega
      have hl : lev dx dy (manyOf dx dy) = ab dx := by
        unfold lev
        rw [hm, Int.mul_ediv_cancel_left _ (by omega)]
      rw [hl] at h1 h2
      rw [hm] at h2
      exact ⟨h1.trans (ab_sign dx), h2.trans (by rw [show ab dx + ab dy - ab dx = ab dy by omega]; exact ab_sign dy)⟩
    · have x0 := ab0 dx
      have y0 := ab0 dy
      have e1 : dx = 0 := by have := ab_sign dx; rw [show ab dx = 0 by omega] at this; omega
      have e2 : dy = 0 := by have := ab_sign dy; rw [show ab dy = 0 by omega] at this; omega
      subst e1 e2
      exact ⟨rfl, rfl⟩
  | ar fl dx dy =>
    obtain ⟨h1, h2⟩ := h
    unfold Sk.steps
    have x0 := ab0 dx
    obtain ⟨c1, c2⟩ := arc_cnt (ab dx) (2 * ab dx).toNat (ab dx) 0 x0 (Int.le_refl 0) x0 (by omega)
    have cc : ∀ t, cnt t (arc (ab dx) (2 * ab dx).toNat (ab dx) 0) = ab dx := fun t => by
      cases t
      · exact c2
      · rw [c1]; omega
    obtain ⟨s1, s2⟩ := s_cnt fl (signI dx) (signI dy) (arc (ab dx) (2 * ab dx).toNat (ab dx) 0)
    rw [cc] at s1 s2
    exact ⟨s1.trans (ab_sign dx), s2.trans (by rw [h1]; exact ab_sign dy)⟩
theorem way_sum : ∀ {ks : List Sk}, (∀ k ∈ ks, k.ok) → sx (way ks) = (ks.map Sk.dx).sum ∧ sy (way ks) = (ks.map Sk.dy).sum
  | [], _ => by unfold way sx sy; simp
  | k :: ks, h => by
    obtain ⟨h1, h2⟩ := way_sum (ks := ks) fun k' hk => h k' (List.mem_cons_of_mem _ hk)
    obtain ⟨h3, h4⟩ := steps_sum (h k List.mem_cons_self)
    have e : way (k :: ks) = k.steps ++ way ks := by unfold way; rw [List.flatMap_cons]
    rw [e, sx_app, sy_app, h1, h2, h3, h4, List.map_cons, List.map_cons, List.sum_cons, List.sum_cons]
    exact ⟨rfl, rfl⟩
theorem nd_way {ks : List Sk} (h : ∀ k ∈ ks, k.ok) (x y : Int) : nd (x, y) (way ks) = (x + (ks.map Sk.dx).sum, y + (ks.map Sk.dy).sum) := by
  rw [nd_sum, (way_sum h).1, (way_sum h).2]
theorem run_last (p : Int × Int) (ss : List (Int × Int)) : ∃ pre, run p ss = pre ++ [pairW (nd p ss)] := by
  induction ss generalizing p with
  | nil => exact ⟨[], rfl⟩
  | cons a ss ih =>
    obtain ⟨pre, e⟩ := ih (stp p a)
    refine ⟨pairW p :: pre, ?_⟩
    have : run p (a :: ss) = pairW p :: run (stp p a) ss := rfl
    rw [this, e]
    rfl
/-- a corner moved -/
def f4 (dx dy : Int) : W → W
  | .tup [.int a, .int b] => .tup [.int (a + dx), .int (b + dy)]
  | w => w
theorem run_move (x y dx dy : Int) (ss : List (Int × Int)) : (run (x, y) ss).map (f4 dx dy) = run (x + dx, y + dy) ss := by
  induction ss generalizing x y with
  | nil => rfl
  | cons a ss ih =>
    have e1 : ∀ p : Int × Int, run p (a :: ss) = pairW p :: run (stp p a) ss := fun _ => rfl
    rw [e1, e1, List.map_cons]
    have e2 : stp (x, y) a = (x + a.1, y + a.2) := rfl
    have e3 : stp (x + dx, y + dy) a = (x + a.1 + dx, y + a.2 + dy) := by unfold stp; ext <;> simp <;> omega
    rw [e2, e3, ih]
    rfl
theorem outl_go {p : Addr} {c n b s : Int} {S : Sto} {Q : WK} (h : S p = some (.lst (poolL c n b s))) (ok : PoolOk c n s) (hn : n ≤ 100)
    (q : ∀ (x y : Int) (ks : List Sk) (c' n' : Int), (-20 ≤ x ∧ x ≤ 40) → (-20 ≤ y ∧ y ≤ 40) → (∀ k ∈ ks, k.ok) → ks.length ≤ 20 → PoolOk c' n' s → n' ≤ n + 100 → Q (outlineW x y ks) (put S p (.lst (poolL c' n' b s)))) : Hd spOutl [.ref p] S Q := Hd.mk ⟨p, c, n, b, s, rfl, h, ok, hn, q⟩
theorem corn_go {x y : Int} {ks : List Sk} {S : Sto} {Q : WK} (h : ∀ k ∈ ks, k.ok) (hl : ks.length ≤ 100) (q : ∀ p, S p = none → Q (.ref p) (put S p (.lst (run (x, y) (way ks))))) : Hd spCorners [outlineW x y ks] S Q := Hd.mk ⟨x, y, ks, rfl, h, hl, q⟩
theorem same_go {a b : Addr} {zs : List (Int × Int)} {S : Sto} {Q : WK} (h1 : S a = some (.lst (zs.map pairW))) (h2 : S b = some (.lst (zs.map pairW))) (hl : zs.length ≤ 10000) (q : Q (.bl true) S) : Hd sp2 [.ref a, .ref b] S Q := Hd.mk ⟨a, b, zs, rfl, h1, h2, hl, q⟩
theorem ok_law (T : Txt K mg) {f : Addr} {fd : FuncData} (F : Fun K "law" "law" s_law f fd) (c_corners : CalW P w K mg base 4 "corners" (Hd spCorners)) (c__law_walked : CalW P w K mg base 4 "_law_walked" (Hd spCorners)) (c__law_outline : CalW P w K mg base 3 "_law_outline" (Hd spOutl))
    (c__law_same : CalW P w K mg base 4 "_law_same" (Hd sp2)) (c__law_take : CalW P w K mg base 1 "_law_take" (Hd spTake)) (c__law_pool : CalW P w K mg base 1 "_law_pool" (Hd spPool)) : FnOk P w K mg base CX0 5 f fd ["_law_script"] (liftSp K spLaw) :=
  fnDI F sc_law (fun ws S Q ⟨ns, e, _⟩ => by rw [e]; rfl) fun f cdv A outer s H E hr => ⟨_, _,
    (pss_cons (ps_set (i := 1) sc_law.nd rfl (Or.inl rfl) (k_w K c__law_pool hr (by decide) rfl (pa_cons (pv 0) (pa_cons pe_int pa_nil))))
      (pss_cons (ps_set (i := 2) sc_law.nd rfl (Or.inl rfl) (k_w K c__law_outline hr (by decide) rfl (pa_cons (pv 1) pa_nil)))
      (pss_cons (ps_set (i := 3) sc_law.nd rfl (Or.inr rfl) (pe_op op_sub (pe_op op_sub (k_w K c__law_take hr (by decide) rfl (pa_cons (pv 1) (pa_cons pe_int pa_nil))) pe_int) (pe_ix (k_ix K) (pv 2) pe_int (fun _ _ => rfl))))
      (pss_cons (ps_set (i := 4) sc_law.nd rfl (Or.inr rfl) (pe_op op_sub (pe_op op_sub (k_w K c__law_take hr (by decide) rfl (pa_cons (pv 1) (pa_cons pe_int pa_nil))) pe_int) (pe_ix (k_ix K) (pv 2) pe_int (fun _ _ => rfl))))
      (pss_cons (ps_set (i := 5) sc_law.nd rfl (Or.inl rfl) (k_w K c__law_walked hr (by decide) rfl (pa_cons (pv 2) pa_nil)))
      (pss_cons (ps_set (i := 6) sc_law.nd rfl (Or.inl rfl) (k_w K c_corners hr (by decide) rfl (pa_cons (pv 2) pa_nil)))
      (pss_cons (ps_if (pt_not (pt_val (k_w K c__law_same hr (by decide) rfl (pa_cons (pv 6) (pa_cons (pv 5) pa_nil)))))
       (pss_one (ps_ret pe_bl))
       pss_nil)
      (pss_cons (ps_set (i := 7) sc_law.nd rfl (Or.inl rfl) (pe_op (k_add K) (pe_ix (k_ix K) (pv 2) pe_int (fun _ _ => rfl)) (pe_callB (k_sum K rfl) (by rfl) T.b_sum (by decide +kernel) (pa_cons (pe_lc (own := [("_law_stroke_here", 8)]) rfl sc_law.nd (k_any K (pe_ix (k_ix K) (pv 2) pe_int (fun _ _ => rfl))) (blkOk_by (own := [("_law_stroke_here", 8)]) (N := ["_law_script", "_law_pool_here", "_law_outline_here", "_law_dx", "_law_dy", "_law_due", "_law_told", "_law_x", "_law_stroke_here", "_law_y", "_law_moved", "_law_corner"]) (sc := defScope s_law) (by decide +kernel)) (fun _ _ _ _ _ => (pg_name (i := 8) sc_law.nd rfl (Or.inl rfl))) (fun _ _ _ _ _ => pts_nil) (fun _ _ _ _ _ => (pe_ix (k_ix K) (pv 8) pe_int (fun _ _ => rfl)))) pa_nil))))
      (pss_cons (ps_set (i := 9) sc_law.nd rfl (Or.inl rfl) (pe_op (k_add K) (pe_ix (k_ix K) (pv 2) pe_int (fun _ _ => rfl)) (pe_callB (k_sum K rfl) (by rfl) T.b_sum (by decide +kernel) (pa_cons (pe_lc (own := [("_law_stroke_here", 8)]) rfl sc_law.nd (k_any K (pe_ix (k_ix K) (pv 2) pe_int (fun _ _ => rfl))) (blkOk_by (own := [("_law_stroke_here", 8)]) (N := ["_law_script", "_law_pool_here", "_law_outline_here", "_law_dx", "_law_dy", "_law_due", "_law_told", "_law_x", "_law_stroke_here", "_law_y", "_law_moved", "_law_corner"]) (sc := defScope s_law) (by decide +kernel)) (fun _ _ _ _ _ => (pg_name (i := 8) sc_law.nd rfl (Or.inl rfl))) (fun _ _ _ _ _ => pts_nil) (fun _ _ _ _ _ => (pe_ix (k_ix K) (pv 8) pe_int (fun _ _ => rfl)))) pa_nil))))
      (pss_cons (ps_if (pt_cmpR (k_ne K hr.units) (pe_ix (k_ix K) (pv 6) (pe_un un_neg pe_int) (fun _ _ => rfl)) (pe_tup (pa_cons (pv 7) (pa_cons (pv 9) pa_nil))) (nomark _))
       (pss_one (ps_ret pe_bl))
       pss_nil)
      (pss_cons (ps_expr (k_bm0 K PySem.F.plainAttrs_list PySem.F.slot_list_reverse PySem.F.type_list_reverse mt_reverse (pv 6)))
      (pss_cons (ps_expr (k_bm K PySem.F.plainAttrs_list PySem.F.slot_list_append PySem.F.type_list_append mt_append (pv 6) (pa_cons (pe_tup (pa_cons pe_int (pa_cons pe_int pa_nil))) pa_nil)))
      (pss_cons (ps_set (i := 10) sc_law.nd rfl (Or.inl rfl) (k_w K c_corners hr (by decide) rfl (pa_cons (pe_tup (pa_cons (pe_op (k_add K) (pe_ix (k_ix K) (pv 2) pe_int (fun _ _ => rfl)) (pv 3)) (pa_cons (pe_op (k_add K) (pe_ix (k_ix K) (pv 2) pe_int (fun _ _ => rfl)) (pv 4)) (pa_cons (pe_ix (k_ix K) (pv 2) pe_int (fun _ _ => rfl)) pa_nil)))) pa_nil)))
      (pss_cons (ps_if (pt_not (pt_val (k_w K c__law_same hr (by decide) rfl (pa_cons (pv 10) (pa_cons (pe_lc (own := [("_law_corner", 11)]) rfl sc_law.nd (k_any K (pv 5)) (blkOk_by (own := [("_law_corner", 11)]) (N := ["_law_script", "_law_pool_here", "_law_outline_here", "_law_dx", "_law_dy", "_law_due", "_law_told", "_law_x", "_law_stroke_here", "_law_y", "_law_moved", "_law_corner"]) (sc := defScope s_law) (by decide +kernel)) (fun _ _ _ _ _ => (pg_name (i := 11) sc_law.nd rfl (Or.inl rfl))) (fun _ _ _ _ _ => pts_nil) (fun _ _ _ _ _ => (pe_tup (pa_cons (pe_op (k_add K) (pe_ix (k_ix K) (pv 11) pe_int (fun _ _ => rfl)) (pv 3)) (pa_cons (pe_op (k_add K) (pe_ix (k_ix K) (pv 11) pe_int (fun _ _ => rfl)) (pv 4)) pa_nil))))) pa_nil)))))
       (pss_one (ps_ret pe_bl))
       pss_nil)
      (pss_one (ps_ret (k_w K c__law_same hr (by decide) rfl (pa_cons (k_w K c_corners hr (by decide) rfl (pa_cons (pv 2) pa_nil)) (pa_cons (pv 5) pa_nil))))))))))))))))))), inferInstance, by
    rintro ws S Q ⟨ns, rfl, hl, q⟩
    walk_at "w"
    refine pool_go (by decide) (by decide) hl fun p c b sd hp ok => ?_
    walk_at "w"
    refine outl_go put_same ok (by decide) fun x y ks c1 n1 hx hy hk hkl ok1 hn1 => ?_
    walk_at "go"
    refine take_go put_same ok1 (by omega) (by decide) (by decide) fun r1 c2 a1 b1 ok2 => ?_
    walk_at "go"
    refine take_go put_same ok2 (by omega) (by decide) (by decide) fun r2 c3 a2 b2 ok3 => ?_
    walk_at "go"
    refine corn_go hk (by omega) fun due hdue => ?_
    walk_at "go"
    refine corn_go hk (by omega) fun told htold => ?_
    have hdt : due ≠ told := (ne_free put_same htold).symm
    have h0 : (put (put (put (put (put (put S p (.lst (poolL c 0 b sd))) p (.lst (poolL c1 n1 b sd))) p (.lst (poolL c2 (n1 + 1) b sd))) p (.lst (poolL c3 (n1 + 1 + 1) b sd))) due (.lst (run (x, y) (way ks)))) told (.lst (run (x, y) (way ks)))) told = some (.lst (run (x, y) (way ks))) := put_same
    have h1 : (put (put (put (put (put (put S p (.lst (poolL c 0 b sd))) p (.lst (poolL c1 n1 b sd))) p (.lst (poolL c2 (n1 + 1) b sd))) p (.lst (poolL c3 (n1 + 1 + 1) b sd))) due (.lst (run (x, y) (way ks)))) told (.lst (run (x, y) (way ks)))) due = some (.lst (run (x, y) (way ks))) := (put_ne hdt).trans put_same
    revert h0 h1
    generalize put (put (put (put (put (put S p (.lst (poolL c 0 b sd))) p (.lst (poolL c1 n1 b sd))) p (.lst (poolL c2 (n1 + 1) b sd))) p (.lst (poolL c3 (n1 + 1 + 1) b sd))) due (.lst (run (x, y) (way ks)))) told (.lst (run (x, y) (way ks))) = T
    intro h0 h1
    generalize ess : way ks = ss at *
    have wl : ss.length ≤ 4000 := by
      have := way_len hk ks.length
      rw [List.take_of_length_le (Nat.le_refl _), ess] at this
      omega
    have rl : ∀ q : Int × Int, (q :: wk q ss).length ≤ 10000 := fun q => by rw [List.length_cons, wk_len]; omega
    generalize edx : r1 - 20 - x = dx at *
    generalize edy : r2 - 20 - y = dy at *
    walk_at "w"
    refine same_go (zs := (x, y) :: wk (x, y) ss) h0 h1 (rl _) ?_
    walk_at "go"
    have itm : ∀ (j : Nat) (w : W), (ks.map Sk.v)[j]? = some w → ∃ a b c, w = .tup [.str a, .int b, .int c] := fun j w e => by
      obtain ⟨k, _, rfl⟩ := item_v e
      cases k with
      | ln dx dy => exact ⟨_, _, _, rfl⟩
      | ar fl dx dy => exact ⟨_, _, _, rfl⟩
    have hl3 : (ks.map Sk.v).length ≤ 100000 := by rw [List.length_map]; omega
    have E2 := nd_way hk x y
    rw [ess] at E2
    generalize eX : (ks.map Sk.dx).sum = X at *
    generalize eY : (ks.map Sk.dy).sum = Y at *
    refine lcMapI (ws := ks.map Sk.v) (S1 := T) (ok := anyS) f1 (fun R h => h) hl3 (fun _ _ _ => trivial) ?_ ?_
    · intro i w E acc e hE Q' q'
      obtain ⟨a, b, c, rfl⟩ := itm _ _ e
      walk_at "w"
      exact q'
    intro E1 hE1
    rw [f1_map]
    refine ⟨E1, ks.map Sk.dx, rfl, put_same, ?_⟩
    rw [eX]
    walk_at "w"
    refine lcMapI (ws := ks.map Sk.v) (S1 := put T E1 (.lst ((ks.map Sk.dx).map W.int))) (ok := anyS) f2 (fun R h => h) hl3 (fun _ _ _ => trivial) ?_ ?_
    · intro i w E acc e hE Q' q'
      obtain ⟨a, b, c, rfl⟩ := itm _ _ e
      walk_at "w"
      exact q'
    intro E3 hE3
    rw [f2_map]
    refine ⟨E3, ks.map Sk.dy, rfl, put_same, ?_⟩
    rw [eY]
    have h0 := (put_ne (c := .lst ((ks.map Sk.dy).map W.int)) (ne_free ((put_ne (c := .lst ((ks.map Sk.dx).map W.int)) (ne_free h0 hE1).symm).trans h0) hE3).symm).trans ((put_ne (c := .lst ((ks.map Sk.dx).map W.int)) (ne_free h0 hE1).symm).trans h0)
    have h1 := (put_ne (c := .lst ((ks.map Sk.dy).map W.int)) (ne_free ((put_ne (c := .lst ((ks.map Sk.dx).map W.int)) (ne_free h1 hE1).symm).trans h1) hE3).symm).trans ((put_ne (c := .lst ((ks.map Sk.dx).map W.int)) (ne_free h1 hE1).symm).trans h1)
    revert h0 h1
    generalize put (put T E1 (.lst ((ks.map Sk.dx).map W.int))) E3 (.lst ((ks.map Sk.dy).map W.int)) = T1
    intro h0 h1
    walk_at "w"
    refine ⟨_, h0, ?_⟩
    obtain ⟨pre, epre⟩ := run_last (x, y) ss
    refine rdAt_ok (w := pairW (x + X, y + Y)) (by rw [epre, E2]; exact atI_last _ _) ?_
    walk_at "w"
    refine ⟨sh_pr _ _, sh_pr _ _, ?_⟩
    have er := eqvW_refl (sh_pr (x + X) (y + Y))
    have er : PyData.eqv (toD (pairW (x + X, y + Y))) (toD (.tup [.int (x + X), .int (y + Y)])) = true := er
    rw [er]
    walk_at "go"
    refine ⟨by rw [List.length_reverse, run_len]; exact Nat.lt_of_le_of_lt (show _ ≤ 10000 by omega) (by decide), ?_⟩
    have h1 : put (put T1 told (.lst (run (x, y) ss).reverse)) told (.lst ((run (x, y) ss).reverse ++ [.tup [.int 99, .int 99]])) due = some (.lst (run (x, y) ss)) := (put_ne hdt).trans ((put_ne hdt).trans h1)
    revert h1
    generalize put (put T1 told (.lst (run (x, y) ss).reverse)) told (.lst ((run (x, y) ss).reverse ++ [.tup [.int 99, .int 99]])) = T2
    intro h1
    walk_at "w"
    refine corn_go (x := x + dx) (y := y + dy) (ks := ks) hk (by omega) fun mv hmv => ?_
    rw [ess]
    have hmd := ne_free h1 hmv
    have h1 := (put_ne (c := .lst (run (x + dx, y + dy) ss)) hmd.symm).trans h1
    walk_at "w"
    refine lcMapI (ws := run (x, y) ss) (S1 := put T2 mv (.lst (run (x + dx, y + dy) ss))) (ok := keepS due (run (x, y) ss)) (f4 dx dy) (fun R h => ⟨_, h1, h⟩) ?_ (fun E acc hE => (put_ne (ne_free h1 hE).symm).trans h1) ?_ ?_
    · rw [run_len]; omega
    · intro i w E acc e hE Q' q'
      obtain ⟨z, _, rfl⟩ : ∃ z : Int × Int, z ∈ (x, y) :: wk (x, y) ss ∧ pairW z = w := List.mem_map.mp (List.mem_of_getElem? e)
      walk_at "w"
      exact q'
    intro E4 hE4
    rw [run_move]
    walk_at "w"
    refine same_go (zs := (x + dx, y + dy) :: wk (x + dx, y + dy) ss) ((put_ne (ne_free put_same hE4).symm).trans put_same) put_same (rl _) ?_
    walk_at "go"
    refine corn_go (x := x) (y := y) (ks := ks) hk (by omega) fun t2 ht2 => ?_
    rw [ess]
    have h1 := (put_ne (c := .lst (run (x + dx, y + dy) ss)) (ne_free h1 hE4).symm).trans h1
    have h1 := (put_ne (c := .lst (run (x, y) ss)) (ne_free h1 ht2).symm).trans h1
    walk_at "w"
    refine same_go (zs := (x, y) :: wk (x, y) ss) put_same h1 (rl _) ?_
    exact fg_here (q _)⟩
end
theorem all_mk {l : PySem.W.OpenLaw} {w : World} {K : PySem.W.Frag} {h : Heap} {mg : Str → Option Value} {fa : Addr} (X : K.In h) (G : h.Ns mainGlobals mg) (hfa : mg "law" = some (.ref fa))
    {f0 : Addr} {od0 an0 : Option Addr} {sl0 : Array (Option Value)} {oc0 kV0 dc0 pm0 cd0 ct0 : Value}
    (a0 : PySem.W.nsIn K mainGlobals "_sign" = some (some (.ref f0))) (l0 : K.lookup f0 = some ⟨oc0, od0, .func (PySem.W.fnOf "_sign" "_sign" (defArgs s__sign) (defBody s__sign) (defScope s__sign) .none kV0 dc0 pm0 an0 cd0 ct0), sl0⟩) (c0 : PySem.W.codeIn K cd0 "_sign" = true) (k0 : PySem.W.keepIn K (.ref f0) = true)
    {f1 : Addr} {od1 an1 : Option Addr} {sl1 : Array (Option Value)} {oc1 kV1 dc1 pm1 cd1 ct1 : Value}
    (a1 : PySem.W.nsIn K mainGlobals "_line_steps" = some (some (.ref f1))) (l1 : K.lookup f1 = some ⟨oc1, od1, .func (PySem.W.fnOf "_line_steps" "_line_steps" (defArgs s__line_steps) (defBody s__line_steps) (defScope s__line_steps) .none kV1 dc1 pm1 an1 cd1 ct1), sl1⟩) (c1 : PySem.W.codeIn K cd1 "_line_steps" = true) (k1 : PySem.W.keepIn K (.ref f1) = true)
    {f2 : Addr} {od2 an2 : Option Addr} {sl2 : Array (Option Value)} {oc2 kV2 dc2 pm2 cd2 ct2 : Value}
    (a2 : PySem.W.nsIn K mainGlobals "_first_is_nearer" = some (some (.ref f2))) (l2 : K.lookup f2 = some ⟨oc2, od2, .func (PySem.W.fnOf "_first_is_nearer" "_first_is_nearer" (defArgs s__first_is_nearer) (defBody s__first_is_nearer) (defScope s__first_is_nearer) .none kV2 dc2 pm2 an2 cd2 ct2), sl2⟩) (c2 : PySem.W.codeIn K cd2 "_first_is_nearer" = true) (k2 : PySem.W.keepIn K (.ref f2) = true)
    {f3 : Addr} {od3 an3 : Option Addr} {sl3 : Array (Option Value)} {oc3 kV3 dc3 pm3 cd3 ct3 : Value}
    (a3 : PySem.W.nsIn K mainGlobals "_arc_steps" = some (some (.ref f3))) (l3 : K.lookup f3 = some ⟨oc3, od3, .func (PySem.W.fnOf "_arc_steps" "_arc_steps" (defArgs s__arc_steps) (defBody s__arc_steps) (defScope s__arc_steps) .none kV3 dc3 pm3 an3 cd3 ct3), sl3⟩) (c3 : PySem.W.codeIn K cd3 "_arc_steps" = true) (k3 : PySem.W.keepIn K (.ref f3) = true)
    {f4 : Addr} {od4 an4 : Option Addr} {sl4 : Array (Option Value)} {oc4 kV4 dc4 pm4 cd4 ct4 : Value}
    (a4 : PySem.W.nsIn K mainGlobals "unit_steps" = some (some (.ref f4))) (l4 : K.lookup f4 = some ⟨oc4, od4, .func (PySem.W.fnOf "unit_steps" "unit_steps" (defArgs s_unit_steps) (defBody s_unit_steps) (defScope s_unit_steps) .none kV4 dc4 pm4 an4 cd4 ct4), sl4⟩) (c4 : PySem.W.codeIn K cd4 "unit_steps" = true) (k4 : PySem.W.keepIn K (.ref f4) = true)
    {f5 : Addr} {od5 an5 : Option Addr} {sl5 : Array (Option Value)} {oc5 kV5 dc5 pm5 cd5 ct5 : Value}
    (a5 : PySem.W.nsIn K mainGlobals "corners" = some (some (.ref f5))) (l5 : K.lookup f5 = some ⟨oc5, od5, .func (PySem.W.fnOf "corners" "corners" (defArgs s_corners) (defBody s_corners) (defScope s_corners) .none kV5 dc5 pm5 an5 cd5 ct5), sl5⟩) (c5 : PySem.W.codeIn K cd5 "corners" = true) (k5 : PySem.W.keepIn K (.ref f5) = true)
    {f6 : Addr} {od6 an6 : Option Addr} {sl6 : Array (Option Value)} {oc6 kV6 dc6 pm6 cd6 ct6 : Value}
    (a6 : PySem.W.nsIn K mainGlobals "_law_pool" = some (some (.ref f6))) (l6 : K.lookup f6 = some ⟨oc6, od6, .func (PySem.W.fnOf "_law_pool" "_law_pool" (defArgs s__law_pool) (defBody s__law_pool) (defScope s__law_pool) .none kV6 dc6 pm6 an6 cd6 ct6), sl6⟩) (c6 : PySem.W.codeIn K cd6 "_law_pool" = true) (k6 : PySem.W.keepIn K (.ref f6) = true)
    {f7 : Addr} {od7 an7 : Option Addr} {sl7 : Array (Option Value)} {oc7 kV7 dc7 pm7 cd7 ct7 : Value}
    (a7 : PySem.W.nsIn K mainGlobals "_law_take" = some (some (.ref f7))) (l7 : K.lookup f7 = some ⟨oc7, od7, .func (PySem.W.fnOf "_law_take" "_law_take" (defArgs s__law_take) (defBody s__law_take) (defScope s__law_take) .none kV7 dc7 pm7 an7 cd7 ct7), sl7⟩) (c7 : PySem.W.codeIn K cd7 "_law_take" = true) (k7 : PySem.W.keepIn K (.ref f7) = true)
    {f8 : Addr} {od8 an8 : Option Addr} {sl8 : Array (Option Value)} {oc8 kV8 dc8 pm8 cd8 ct8 : Value}
    (a8 : PySem.W.nsIn K mainGlobals "_law_same" = some (some (.ref f8))) (l8 : K.lookup f8 = some ⟨oc8, od8, .func (PySem.W.fnOf "_law_same" "_law_same" (defArgs s__law_same) (defBody s__law_same) (defScope s__law_same) .none kV8 dc8 pm8 an8 cd8 ct8), sl8⟩) (c8 : PySem.W.codeIn K cd8 "_law_same" = true) (k8 : PySem.W.keepIn K (.ref f8) = true)
    {f9 : Addr} {od9 an9 : Option Addr} {sl9 : Array (Option Value)} {oc9 kV9 dc9 pm9 cd9 ct9 : Value}
    (a9 : PySem.W.nsIn K mainGlobals "_law_stroke" = some (some (.ref f9))) (l9 : K.lookup f9 = some ⟨oc9, od9, .func (PySem.W.fnOf "_law_stroke" "_law_stroke" (defArgs s__law_stroke) (defBody s__law_stroke) (defScope s__law_stroke) .none kV9 dc9 pm9 an9 cd9 ct9), sl9⟩) (c9 : PySem.W.codeIn K cd9 "_law_stroke" = true) (k9 : PySem.W.keepIn K (.ref f9) = true)
    {f10 : Addr} {od10 an10 : Option Addr} {sl10 : Array (Option Value)} {oc10 kV10 dc10 pm10 cd10 ct10 : Value}
    (a10 : PySem.W.nsIn K mainGlobals "_law_outline" = some (some (.ref f10))) (l10 : K.lookup f10 = some ⟨oc10, od10, .func (PySem.W.fnOf "_law_outline" "_law_outline" (defArgs s__law_outline) (defBody s__law_outline) (defScope s__law_outline) .none kV10 dc10 pm10 an10 cd10 ct10), sl10⟩) (c10 : PySem.W.codeIn K cd10 "_law_outline" = true) (k10 : PySem.W.keepIn K (.ref f10) = true)
    {f11 : Addr} {od11 an11 : Option Addr} {sl11 : Array (Option Value)} {oc11 kV11 dc11 pm11 cd11 ct11 : Value}
    (a11 : PySem.W.nsIn K mainGlobals "_law_sign" = some (some (.ref f11))) (l11 : K.lookup f11 = some ⟨oc11, od11, .func (PySem.W.fnOf "_law_sign" "_law_sign" (defArgs s__law_sign) (defBody s__law_sign) (defScope s__law_sign) .none kV11 dc11 pm11 an11 cd11 ct11), sl11⟩) (c11 : PySem.W.codeIn K cd11 "_law_sign" = true) (k11 : PySem.W.keepIn K (.ref f11) = true)
    {f12 : Addr} {od12 an12 : Option Addr} {sl12 : Array (Option Value)} {oc12 kV12 dc12 pm12 cd12 ct12 : Value}
    (a12 : PySem.W.nsIn K mainGlobals "_law_line_steps" = some (some (.ref f12))) (l12 : K.lookup f12 = some ⟨oc12, od12, .func (PySem.W.fnOf "_law_line_steps" "_law_line_steps" (defArgs s__law_line_steps) (defBody s__law_line_steps) (defScope s__law_line_steps) .none kV12 dc12 pm12 an12 cd12 ct12), sl12⟩) (c12 : PySem.W.codeIn K cd12 "_law_line_steps" = true) (k12 : PySem.W.keepIn K (.ref f12) = true)
    {f13 : Addr} {od13 an13 : Option Addr} {sl13 : Array (Option Value)} {oc13 kV13 dc13 pm13 cd13 ct13 : Value}
    (a13 : PySem.W.nsIn K mainGlobals "_law_steps" = some (some (.ref f13))) (l13 : K.lookup f13 = some ⟨oc13, od13, .func (PySem.W.fnOf "_law_steps" "_law_steps" (defArgs s__law_steps) (defBody s__law_steps) (defScope s__law_steps) .none kV13 dc13 pm13 an13 cd13 ct13), sl13⟩) (c13 : PySem.W.codeIn K cd13 "_law_steps" = true) (k13 : PySem.W.keepIn K (.ref f13) = true)
    {f14 : Addr} {od14 an14 : Option Addr} {sl14 : Array (Option Value)} {oc14 kV14 dc14 pm14 cd14 ct14 : Value}
    (a14 : PySem.W.nsIn K mainGlobals "_law_walked" = some (some (.ref f14))) (l14 : K.lookup f14 = some ⟨oc14, od14, .func (PySem.W.fnOf "_law_walked" "_law_walked" (defArgs s__law_walked) (defBody s__law_walked) (defScope s__law_walked) .none kV14 dc14 pm14 an14 cd14 ct14), sl14⟩) (c14 : PySem.W.codeIn K cd14 "_law_walked" = true) (k14 : PySem.W.keepIn K (.ref f14) = true)
    {f15 : Addr} {od15 an15 : Option Addr} {sl15 : Array (Option Value)} {oc15 kV15 dc15 pm15 cd15 ct15 : Value}
    (a15 : PySem.W.nsIn K mainGlobals "law" = some (some (.ref f15))) (l15 : K.lookup f15 = some ⟨oc15, od15, .func (PySem.W.fnOf "law" "law" (defArgs s_law) (defBody s_law) (defScope s_law) .none kV15 dc15 pm15 an15 cd15 ct15), sl15⟩) (c15 : PySem.W.codeIn K cd15 "law" = true) (k15 : PySem.W.keepIn K (.ref f15) = true)
    (z_abs : PySem.W.nsIn K mainGlobals "abs" = some none)
    (z_bool : PySem.W.nsIn K mainGlobals "bool" = some none)
    (z_int : PySem.W.nsIn K mainGlobals "int" = some none)
    (z_isinstance : PySem.W.nsIn K mainGlobals "isinstance" = some none)
    (z_len : PySem.W.nsIn K mainGlobals "len" = some none)
    (z_list : PySem.W.nsIn K mainGlobals "list" = some none)
    (z_min : PySem.W.nsIn K mainGlobals "min" = some none)
    (z_range : PySem.W.nsIn K mainGlobals "range" = some none)
    (z_str : PySem.W.nsIn K mainGlobals "str" = some none)
    (z_sum : PySem.W.nsIn K mainGlobals "sum" = some none)
    (z_tuple : PySem.W.nsIn K mainGlobals "tuple" = some none)
    : ∃ fd : FuncData, (∀ (s : Shared) (v : Value), BindsTo s fd ⟨[v], []⟩ [("_law_script", v)]) ∧ ∀ base : Heap, K.In base → base.Ns mainGlobals mg → FnOk l.prog w K mg base CX0 5 fa fd ["_law_script"] (liftSp K spLaw) := by
  have e := hfa.symm.trans (PySem.W.mg_of X G a15)
  cases e
  have T : Txt K mg := ⟨PySem.W.mg_none_of X G z_abs, PySem.W.mg_none_of X G z_bool, PySem.W.mg_none_of X G z_int, PySem.W.mg_none_of X G z_isinstance, PySem.W.mg_none_of X G z_len, PySem.W.mg_none_of X G z_list, PySem.W.mg_none_of X G z_min, PySem.W.mg_none_of X G z_range, PySem.W.mg_none_of X G z_str, PySem.W.mg_none_of X G z_sum, PySem.W.mg_none_of X G z_tuple⟩
  have d__sign : DefAt K mg "_sign" s__sign ["number"] := ⟨_, _, fun_mk (st := s__sign) l0 c0 k0, PySem.W.mg_of X G a0, (fun_mk (st := s__sign) l0 c0 k0).binds (ps := ["number"]) fun _ _ _ _ _ _ us hl => match us, hl with | [_], _ => rfl⟩
  have d__line_steps : DefAt K mg "_line_steps" s__line_steps ["dx", "dy"] := ⟨_, _, fun_mk (st := s__line_steps) l1 c1 k1, PySem.W.mg_of X G a1, (fun_mk (st := s__line_steps) l1 c1 k1).binds (ps := ["dx", "dy"]) fun _ _ _ _ _ _ us hl => match us, hl with | [_, _], _ => rfl⟩
  have d__first_is_nearer : DefAt K mg "_first_is_nearer" s__first_is_nearer ["a", "b", "radius"] := ⟨_, _, fun_mk (st := s__first_is_nearer) l2 c2 k2, PySem.W.mg_of X G a2, (fun_mk (st := s__first_is_nearer) l2 c2 k2).binds (ps := ["a", "b", "radius"]) fun _ _ _ _ _ _ us hl => match us, hl with | [_, _, _], _ => rfl⟩
  have d__arc_steps : DefAt K mg "_arc_steps" s__arc_steps ["radius", "first", "second"] := ⟨_, _, fun_mk (st := s__arc_steps) l3 c3 k3, PySem.W.mg_of X G a3, (fun_mk (st := s__arc_steps) l3 c3 k3).binds (ps := ["radius", "first", "second"]) fun _ _ _ _ _ _ us hl => match us, hl with | [_, _, _], _ => rfl⟩
  have d_unit_steps : DefAt K mg "unit_steps" s_unit_steps ["stroke"] := ⟨_, _, fun_mk (st := s_unit_steps) l4 c4 k4, PySem.W.mg_of X G a4, (fun_mk (st := s_unit_steps) l4 c4 k4).binds (ps := ["stroke"]) fun _ _ _ _ _ _ us hl => match us, hl with | [_], _ => rfl⟩
  have d_corners : DefAt K mg "corners" s_corners ["outline"] := ⟨_, _, fun_mk (st := s_corners) l5 c5 k5, PySem.W.mg_of X G a5, (fun_mk (st := s_corners) l5 c5 k5).binds (ps := ["outline"]) fun _ _ _ _ _ _ us hl => match us, hl with | [_], _ => rfl⟩
  have d__law_pool : DefAt K mg "_law_pool" s__law_pool ["_law_script", "_law_at"] := ⟨_, _, fun_mk (st := s__law_pool) l6 c6 k6, PySem.W.mg_of X G a6, (fun_mk (st := s__law_pool) l6 c6 k6).binds (ps := ["_law_script", "_law_at"]) fun _ _ _ _ _ _ us hl => match us, hl with | [_, _], _ => rfl⟩
  have d__law_take : DefAt K mg "_law_take" s__law_take ["_law_pool_here", "_law_many"] := ⟨_, _, fun_mk (st := s__law_take) l7 c7 k7, PySem.W.mg_of X G a7, (fun_mk (st := s__law_take) l7 c7 k7).binds (ps := ["_law_pool_here", "_law_many"]) fun _ _ _ _ _ _ us hl => match us, hl with | [_, _], _ => rfl⟩
  have d__law_same : DefAt K mg "_law_same" s__law_same ["_law_one", "_law_two"] := ⟨_, _, fun_mk (st := s__law_same) l8 c8 k8, PySem.W.mg_of X G a8, (fun_mk (st := s__law_same) l8 c8 k8).binds (ps := ["_law_one", "_law_two"]) fun _ _ _ _ _ _ us hl => match us, hl with | [_, _], _ => rfl⟩
  have d__law_stroke : DefAt K mg "_law_stroke" s__law_stroke ["_law_pool_here", "_law_reach"] := ⟨_, _, fun_mk (st := s__law_stroke) l9 c9 k9, PySem.W.mg_of X G a9, (fun_mk (st := s__law_stroke) l9 c9 k9).binds (ps := ["_law_pool_here", "_law_reach"]) fun _ _ _ _ _ _ us hl => match us, hl with | [_, _], _ => rfl⟩
  have d__law_outline : DefAt K mg "_law_outline" s__law_outline ["_law_pool_here"] := ⟨_, _, fun_mk (st := s__law_outline) l10 c10 k10, PySem.W.mg_of X G a10, (fun_mk (st := s__law_outline) l10 c10 k10).binds (ps := ["_law_pool_here"]) fun _ _ _ _ _ _ us hl => match us, hl with | [_], _ => rfl⟩
  have d__law_sign : DefAt K mg "_law_sign" s__law_sign ["_law_number"] := ⟨_, _, fun_mk (st := s__law_sign) l11 c11 k11, PySem.W.mg_of X G a11, (fun_mk (st := s__law_sign) l11 c11 k11).binds (ps := ["_law_number"]) fun _ _ _ _ _ _ us hl => match us, hl with | [_], _ => rfl⟩
  have d__law_line_steps : DefAt K mg "_law_line_steps" s__law_line_steps ["_law_dx", "_law_dy"] := ⟨_, _, fun_mk (st := s__law_line_steps) l12 c12 k12, PySem.W.mg_of X G a12, (fun_mk (st := s__law_line_steps) l12 c12 k12).binds (ps := ["_law_dx", "_law_dy"]) fun _ _ _ _ _ _ us hl => match us, hl with | [_, _], _ => rfl⟩
  have d__law_steps : DefAt K mg "_law_steps" s__law_steps ["_law_stroke_here"] := ⟨_, _, fun_mk (st := s__law_steps) l13 c13 k13, PySem.W.mg_of X G a13, (fun_mk (st := s__law_steps) l13 c13 k13).binds (ps := ["_law_stroke_here"]) fun _ _ _ _ _ _ us hl => match us, hl with | [_], _ => rfl⟩
  have d__law_walked : DefAt K mg "_law_walked" s__law_walked ["_law_outline_here"] := ⟨_, _, fun_mk (st := s__law_walked) l14 c14 k14, PySem.W.mg_of X G a14, (fun_mk (st := s__law_walked) l14 c14 k14).binds (ps := ["_law_outline_here"]) fun _ _ _ _ _ _ us hl => match us, hl with | [_], _ => rfl⟩
  have F15 := fun_mk (st := s_law) l15 c15 k15
  refine ⟨PySem.W.fnOf "law" "law" (defArgs s_law) (defBody s_law) (defScope s_law) .none kV15 dc15 pm15 an15 cd15 ct15, fun s v => .of_eq rfl, fun base _ _ => ?_⟩
  exact ok_law T F15 (ok_corners T (ok_unit_steps T (ok__line_steps T (ok__sign T d__sign) d__line_steps) (ok__sign T d__sign) (ok__arc_steps T (ok__first_is_nearer T d__first_is_nearer) d__arc_steps) d_unit_steps) d_corners).hd (ok__law_walked T (ok__law_steps T (ok__law_line_steps T (ok__law_sign T d__law_sign) d__law_line_steps) (ok__law_sign T d__law_sign) d__law_steps) d__law_walked).hd (ok__law_outline T (ok__law_take T d__law_take).hd (ok__law_stroke T (ok__law_take T d__law_take).hd d__law_stroke).hd d__law_outline).hd (ok2__law_same T (ok1__law_same T (ok0__law_same T (calNever d__law_same sc__law_same) d__law_same) d__law_same) d__law_same).hd (ok__law_take T d__law_take).hd (ok__law_pool T d__law_pool).hd
end K27
open PySem PySem.W PyProof.Rows
set_option maxRecDepth 100000 in
set_option maxHeartbeats 0 in
theorem PySem.Challenge.cw_stylepages_k27_corners_of_outlines_holds : PySem.Challenge.rw_stylepages_k27_corners_of_outlines.Holds := by
  w_on; o_law; k_head; (case hw => w_witness2)
  k_fill
  refine L2.walk_of (l := PySem.Challenge.rw_stylepages_k27_corners_of_outlines) (n := 63) (k := 5) (x := "_law_script") (CX := fun _ => L2.CX0) (sp := fun w => Wl.liftSp _ Wl.spLaw) rfl (by decide) rfl ⟨rfl, by decide, by decide⟩ (fun w h Y => PySem.W.kIn_of Y) ?F (fun _ _ a ns hl hO hS => Wl.law_end hl hO hS) (fun _ _ _ _ _ h => h)
  case F =>
    intro w mg fa h KX G hmg
    refine' K27.all_mk KX G hmg ?a0 ?l0 ?c0 ?k0 ?a1 ?l1 ?c1 ?k1 ?a2 ?l2 ?c2 ?k2 ?a3 ?l3 ?c3 ?k3 ?a4 ?l4 ?c4 ?k4 ?a5 ?l5 ?c5 ?k5 ?a6 ?l6 ?c6 ?k6 ?a7 ?l7 ?c7 ?k7 ?a8 ?l8 ?c8 ?k8 ?a9 ?l9 ?c9 ?k9 ?a10 ?l10 ?c10 ?k10 ?a11 ?l11 ?c11 ?k11 ?a12 ?l12 ?c12 ?k12 ?a13 ?l13 ?c13 ?k13 ?a14 ?l14 ?c14 ?k14 ?a15 ?l15 ?c15 ?k15 ?z_abs ?z_bool ?z_int ?z_isinstance ?z_len ?z_list ?z_min ?z_range ?z_str ?z_sum ?z_tuple
    (case a0 => k_is)
    (case l0 => k_is)
    (case c0 => k_is)
    (case k0 => k_is)
    (case a1 => k_is)
    (case l1 => k_is)
    (case c1 => k_is)
    (case k1 => k_is)
    (case a2 => k_is)
    (case l2 => k_is)
    (case c2 => k_is)
    (case k2 => k_is)
    (case a3 => k_is)
    (case l3 => k_is)
    (case c3 => k_is)
    (case k3 => k_is)
    (case a4 => k_is)
    (case l4 => k_is)
    (case c4 => k_is)
    (case k4 => k_is)
    (case a5 => k_is)
    (case l5 => k_is)
    (case c5 => k_is)
    (case k5 => k_is)
    (case a6 => k_is)
    (case l6 => k_is)
    (case c6 => k_is)
    (case k6 => k_is)
    (case a7 => k_is)
    (case l7 => k_is)
    (case c7 => k_is)
    (case k7 => k_is)
    (case a8 => k_is)
    (case l8 => k_is)
    (case c8 => k_is)
    (case k8 => k_is)
    (case a9 => k_is)
    (case l9 => k_is)
    (case c9 => k_is)
    (case k9 => k_is)
    (case a10 => k_is)
    (case l10 => k_is)
    (case c10 => k_is)
    (case k10 => k_is)
    (case a11 => k_is)
    (case l11 => k_is)
    (case c11 => k_is)
    (case k11 => k_is)
    (case a12 => k_is)
    (case l12 => k_is)
    (case c12 => k_is)
    (case k12 => k_is)
    (case a13 => k_is)
    (case l13 => k_is)
    (case c13 => k_is)
    (case k13 => k_is)
    (case a14 => k_is)
    (case l14 => k_is)
    (case c14 => k_is)
    (case k14 => k_is)
    (case a15 => k_is)
    (case l15 => k_is)
    (case c15 => k_is)
    (case k15 => k_is)
    (case z_abs => k_is)
    (case z_bool => k_is)
    (case z_int => k_is)
    (case z_isinstance => k_is)
    (case z_len => k_is)
    (case z_list => k_is)
    (case z_min => k_is)
    (case z_range => k_is)
    (case z_str => k_is)
    (case z_sum => k_is)
    (case z_tuple => k_is)
#print axioms PySem.Challenge.cw_stylepages_k27_corners_of_outlines_holds
