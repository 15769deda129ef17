import PyProof.Rows.All
import Wide.All
import OpenK.AllK
import Wide.FinOn
import HandS.Base
import HandS.Call
import HandS.List
import HandS.Comp
import HandS.Ends
import HandS.Dict
import HandS.Iter
import HandS.Text
import HandS.Words
import HandS.Wide
import HandS.IsInst
import HandS.Exc
import HandS.ExcOwn
import HandS.WordsExc
import HandS.TryOnly
import HandS.Small
import HandS.TupAny
import HandS.More
import HandS.RaiseMore
import PyProof.Rows.StrMul
import PySem.Challenge.RW_stylepages_k14_selectors_match
set_option Elab.async false
set_option linter.all false
set_option maxRecDepth 100000
set_option maxHeartbeats 2000000
/-! Data-level readings: tuples as values, lists as cells of a store. -/
namespace Wl
open PySem L2

inductive W where
  | non | bl (b : Bool) | int (i : Int) | str (x : Str) | ty (n : String) | ref (a : Addr) | tup (ws : List W) | rl (ws : List W)

/-- a list that nobody writes -/
def RdL (K : PySem.W.Frag) (H : Hp) (a : Addr) (xs : List V) : Prop :=
  (∃ o, H a = some (.frz o (.lst xs))) ∨
    ∃ (o : Obj) (its : Array Value) (n : Nat), K.lookup a = some o ∧ o.cls = .type "list" ∧ o.dict = none ∧ o.data = .seq its n ∧ its.size ≤ sizeLine ∧ Vals xs its.toList
theorem RdL.sq {K : PySem.W.Frag} {H : Hp} {a : Addr} {xs : List V} (h : RdL K H a xs) : SqL K H a xs := by
  rcases h with h | h
  · exact .inl (.inr h)
  · exact .inr h

mutual
def Rep (K : PySem.W.Frag) (H : Hp) : W → V → Prop
  | .non, v => v = .non
  | .bl b, v => v = .bl b
  | .int i, v => v = .int i
  | .str x, v => v = .str x
  | .ty n, v => v = .ty n
  | .ref a, v => v = .ref a
  | .tup ws, v => ∃ a xs, v = .ref a ∧ SqT K H a xs ∧ RepL K H ws xs
  | .rl ws, v => ∃ a xs, v = .ref a ∧ RdL K H a xs ∧ RepL K H ws xs
def RepL (K : PySem.W.Frag) (H : Hp) : List W → List V → Prop
  | [], xs => xs = []
  | w :: ws, xs => ∃ x r, xs = x :: r ∧ Rep K H w x ∧ RepL K H ws r
end

/-- tuples, frozen things stay -/
structure Tk (H H' : Hp) : Prop where
  tup : ∀ a xs, H a = some (.tup xs) → H' a = some (.tup xs)
  frz : ∀ a o u, H a = some (.frz o u) → H' a = some (.frz o u)
theorem Tk.refl (H : Hp) : Tk H H := ⟨fun _ _ h => h, fun _ _ _ h => h⟩
theorem Tk.trans {H H1 H2 : Hp} (a : Tk H H1) (b : Tk H1 H2) : Tk H H2 := ⟨fun x xs h => b.tup x xs (a.tup x xs h), fun x o u h => b.frz x o u (a.frz x o u h)⟩
theorem Tk.new {H : Hp} {p : Addr} {o : HO} (h : H p = none) : Tk H (upd H p o) := ⟨fun a xs e => by rw [upd_ne (ne_of_none e h)]; exact e, fun a ob u e => by rw [upd_ne (ne_of_none e h)]; exact e⟩
theorem Tk.mut {H : Hp} {p : Addr} {o o' : HO} (h : H p = some o) (h1 : ∀ xs, o ≠ .tup xs) (h2 : ∀ ob u, o ≠ .frz ob u) : Tk H (upd H p o') :=
  ⟨fun a xs e => by rw [upd_ne (ne_of e h (fun z => h1 xs z.symm))]; exact e, fun a ob u e => by rw [upd_ne (ne_of e h (fun z => h2 ob u z.symm))]; exact e⟩
theorem Tk.rd {H H' : Hp} (t : Tk H H') {a : Addr} {xs : List V} (h : Rd H a (.tup xs)) : Rd H' a (.tup xs) := by
  rcases h with h | ⟨o, h⟩
  · exact .inl (t.tup a xs h)
  · exact .inr ⟨o, t.frz a o _ h⟩
theorem Tk.sqt {K : PySem.W.Frag} {H H' : Hp} (t : Tk H H') {a : Addr} {xs : List V} (h : SqT K H a xs) : SqT K H' a xs := by
  rcases h with h | h
  · exact .inl (t.rd h)
  · exact .inr h
theorem Tk.rdl {K : PySem.W.Frag} {H H' : Hp} (t : Tk H H') {a : Addr} {xs : List V} (h : RdL K H a xs) : RdL K H' a xs := by
  rcases h with ⟨o, h⟩ | h
  · exact .inl ⟨o, t.frz a o _ h⟩
  · exact .inr h
mutual
theorem Rep.tk {K : PySem.W.Frag} {H H' : Hp} (t : Tk H H') : ∀ (w : W) (v : V), Rep K H w v → Rep K H' w v
  | .non, _, h => h
  | .bl _, _, h => h
  | .int _, _, h => h
  | .str _, _, h => h
  | .ty _, _, h => h
  | .ref _, _, h => h
  | .tup ws, v, h => by
    obtain ⟨a, xs, e, h1, h2⟩ := h
    exact ⟨a, xs, e, t.sqt h1, RepL.tk t ws xs h2⟩
  | .rl ws, v, h => by
    obtain ⟨a, xs, e, h1, h2⟩ := h
    exact ⟨a, xs, e, t.rdl h1, RepL.tk t ws xs h2⟩
theorem RepL.tk {K : PySem.W.Frag} {H H' : Hp} (t : Tk H H') : ∀ (ws : List W) (xs : List V), RepL K H ws xs → RepL K H' ws xs
  | [], _, h => h
  | w :: ws, _, h => by
    obtain ⟨x, r, e, h1, h2⟩ := h
    exact ⟨x, r, e, Rep.tk t w x h1, RepL.tk t ws r h2⟩
end
section
variable {K : PySem.W.Frag} {H : Hp}
theorem RepL.nil : RepL K H [] [] := rfl
theorem RepL.cons {w : W} {ws : List W} {x : V} {xs : List V} (h : Rep K H w x) (t : RepL K H ws xs) : RepL K H (w :: ws) (x :: xs) := ⟨x, xs, rfl, h, t⟩
theorem RepL.length : ∀ {ws : List W} {xs : List V}, RepL K H ws xs → xs.length = ws.length
  | [], _, h => by cases (show _ = [] from h); rfl
  | w :: ws, _, h => by
    obtain ⟨x, r, rfl, _, h2⟩ := h
    rw [List.length_cons, List.length_cons, RepL.length h2]
theorem RepL.get : ∀ {ws : List W} {xs : List V} {i : Nat} {w : W}, RepL K H ws xs → ws[i]? = some w → ∃ x, xs[i]? = some x ∧ Rep K H w x
  | [], _, _, _, _, e => by simp at e
  | _ :: _, _, 0, _, h, e => by
    obtain ⟨x, r, rfl, h1, _⟩ := h
    simp at e; subst e
    exact ⟨x, rfl, h1⟩
  | _ :: _, _, i + 1, _, h, e => by
    obtain ⟨x, r, rfl, _, h2⟩ := h
    obtain ⟨y, e1, e2⟩ := RepL.get (i := i) h2 (by simpa using e)
    exact ⟨y, by simpa using e1, e2⟩
theorem RepL.get' : ∀ {ws : List W} {xs : List V} {i : Nat} {x : V}, RepL K H ws xs → xs[i]? = some x → ∃ w, ws[i]? = some w ∧ Rep K H w x
  | [], _, _, _, h, e => by cases (show _ = [] from h); simp at e
  | _ :: _, _, 0, _, h, e => by
    obtain ⟨x, r, rfl, h1, _⟩ := h
    simp at e; subst e
    exact ⟨_, rfl, h1⟩
  | _ :: _, _, i + 1, _, h, e => by
    obtain ⟨x, r, rfl, _, h2⟩ := h
    obtain ⟨y, e1, e2⟩ := RepL.get' (i := i) h2 (by simpa using e)
    exact ⟨y, by simpa using e1, e2⟩
theorem RepL.append : ∀ {ws zs : List W} {xs ys : List V}, RepL K H ws xs → RepL K H zs ys → RepL K H (ws ++ zs) (xs ++ ys)
  | [], _, _, _, h, t => by cases (show _ = [] from h); exact t
  | _ :: _, _, _, _, h, t => by
    obtain ⟨x, r, rfl, h1, h2⟩ := h
    exact ⟨x, r ++ _, rfl, h1, RepL.append h2 t⟩
theorem RepL.one {w : W} {x : V} (h : Rep K H w x) : RepL K H [w] [x] := .cons h .nil
theorem RepL.take : ∀ {ws : List W} {xs : List V} (n : Nat), RepL K H ws xs → RepL K H (ws.take n) (xs.take n)
  | _, _, 0, _ => by simp; rfl
  | [], _, n + 1, h => by cases (show _ = [] from h); rfl
  | _ :: _, _, n + 1, h => by
    obtain ⟨x, r, rfl, h1, h2⟩ := h
    exact ⟨x, r.take n, rfl, h1, RepL.take n h2⟩
theorem RepL.drop : ∀ {ws : List W} {xs : List V} (n : Nat), RepL K H ws xs → RepL K H (ws.drop n) (xs.drop n)
  | _, _, 0, h => by simpa using h
  | [], _, n + 1, h => by cases (show _ = [] from h); rfl
  | _ :: _, _, n + 1, h => by
    obtain ⟨x, r, rfl, h1, h2⟩ := h
    simpa using RepL.drop n h2
theorem RepL.set {w : W} {x : V} (q : Rep K H w x) : ∀ {ws : List W} {xs : List V} (i : Nat), RepL K H ws xs → RepL K H (ws.set i w) (xs.set i x)
  | [], _, _, h => by cases (show _ = [] from h); rfl
  | _ :: _, _, 0, h => by
    obtain ⟨y, r, rfl, h1, h2⟩ := h
    exact ⟨x, r, rfl, q, h2⟩
  | _ :: _, _, i + 1, h => by
    obtain ⟨y, r, rfl, h1, h2⟩ := h
    exact ⟨y, r.set i x, rfl, h1, RepL.set q i h2⟩
theorem RepL.reverse : ∀ {ws : List W} {xs : List V}, RepL K H ws xs → RepL K H ws.reverse xs.reverse
  | [], _, h => by cases (show _ = [] from h); rfl
  | _ :: _, _, h => by
    obtain ⟨y, r, rfl, h1, h2⟩ := h
    rw [List.reverse_cons, List.reverse_cons]
    exact RepL.append (RepL.reverse h2) (.one h1)
theorem RepL.dropLast : ∀ {ws : List W} {xs : List V}, RepL K H ws xs → RepL K H ws.dropLast xs.dropLast := fun {ws xs} h => by
  rw [List.dropLast_eq_take, List.dropLast_eq_take, h.length]
  exact h.take _
theorem RepL.eraseIdx : ∀ {ws : List W} {xs : List V} (i : Nat), RepL K H ws xs → RepL K H (ws.eraseIdx i) (xs.eraseIdx i) := fun {ws xs} i h => by
  rw [List.eraseIdx_eq_take_drop_succ, List.eraseIdx_eq_take_drop_succ]
  exact (h.take i).append (h.drop (i + 1))
theorem RepL.ints {ns : List Int} : ∀ {xs : List V}, RepL K H (ns.map W.int) xs → xs = ns.map V.int := by
  induction ns with
  | nil => intro xs h; exact h
  | cons n ns ih =>
    intro xs h
    obtain ⟨x, r, rfl, h1, h2⟩ := h
    rw [show x = V.int n from h1, ih h2]
    rfl
theorem RepL.ofInts {ns : List Int} : RepL K H (ns.map W.int) (ns.map V.int) := by
  induction ns with
  | nil => rfl
  | cons n ns ih => exact ⟨_, _, rfl, rfl, ih⟩
theorem RepL.bls {ns : List Bool} : ∀ {xs : List V}, RepL K H (ns.map W.bl) xs → xs = ns.map V.bl := by
  induction ns with
  | nil => intro xs h; exact h
  | cons n ns ih =>
    intro xs h
    obtain ⟨x, r, rfl, h1, h2⟩ := h
    rw [show x = V.bl n from h1, ih h2]
    rfl
theorem RepL.strs {ns : List Str} : ∀ {xs : List V}, RepL K H (ns.map W.str) xs → xs = ns.map V.str := by
  induction ns with
  | nil => intro xs h; exact h
  | cons n ns ih =>
    intro xs h
    obtain ⟨x, r, rfl, h1, h2⟩ := h
    rw [show x = V.str n from h1, ih h2]
    rfl
theorem RepL.ofStrs {ns : List Str} : RepL K H (ns.map W.str) (ns.map V.str) := by
  induction ns with
  | nil => rfl
  | cons n ns ih => exact ⟨_, _, rfl, rfl, ih⟩
end

/-! ### the store -/
inductive Cell where
  | lst (ws : List W)
  | dk (kvs : List (Key × W))
  | ins (C : Addr) (fs : List (Str × W))
def RepKV {κ : Type} (K : PySem.W.Frag) (H : Hp) : List (κ × W) → List (κ × V) → Prop
  | [], ys => ys = []
  | p :: ps, ys => ∃ v r, ys = (p.1, v) :: r ∧ Rep K H p.2 v ∧ RepKV K H ps r
theorem RepKV.tk {κ : Type} {K : PySem.W.Frag} {H H' : Hp} (t : Tk H H') : ∀ (ps : List (κ × W)) (ys : List (κ × V)), RepKV K H ps ys → RepKV K H' ps ys
  | [], _, h => h
  | p :: ps, _, h => by
    obtain ⟨v, r, e, h1, h2⟩ := h
    exact ⟨v, r, e, Rep.tk t _ v h1, RepKV.tk t ps r h2⟩
def CRep (K : PySem.W.Frag) (H : Hp) (a : Addr) : Cell → Prop
  | .lst ws => ∃ xs, H a = some (.lst xs) ∧ RepL K H ws xs
  | .dk kvs => ∃ ys, H a = some (.dK ys) ∧ RepKV K H kvs ys
  | .ins C fs => ∃ dx gs, H a = some (.ins C dx gs) ∧ RepKV K H fs gs
abbrev Sto := Addr → Option Cell
def put (S : Sto) (a : Addr) (c : Cell) : Sto := fun b => if b = a then some c else S b
theorem put_same {S : Sto} {a : Addr} {c : Cell} : put S a c a = some c := by unfold put; rw [if_pos rfl]
theorem put_ne {S : Sto} {a b : Addr} {c : Cell} (h : b ≠ a) : put S a c b = S b := by unfold put; rw [if_neg h]
theorem put_put {S : Sto} {a : Addr} {c d : Cell} : put (put S a c) a d = put S a d := by
  funext b; unfold put; split <;> rfl
theorem put_comm {S : Sto} {a b : Addr} {c d : Cell} (h : a ≠ b) : put (put S a c) b d = put (put S b d) a c := by
  funext z; unfold put
  by_cases h1 : z = b
  · rw [if_pos h1]
    by_cases h2 : z = a
    · exact absurd (h2.symm.trans h1) h
    · rw [if_neg h2, if_pos h1]
  · rw [if_neg h1]
    by_cases h2 : z = a
    · rw [if_pos h2, if_pos h2]
    · rw [if_neg h2, if_neg h2, if_neg h1]
theorem put_self {S : Sto} {a : Addr} {c : Cell} (h : S a = some c) : put S a c = S := by
  funext z; unfold put
  by_cases h2 : z = a
  · rw [if_pos h2, h2, h]
  · rw [if_neg h2]
/-- a smaller store -/
def Sub (S S' : Sto) : Prop := ∀ a c, S a = some c → S' a = some c
theorem Sub.refl (S : Sto) : Sub S S := fun _ _ h => h
theorem Sub.trans {S S1 S2 : Sto} (a : Sub S S1) (b : Sub S1 S2) : Sub S S2 := fun x c h => b x c (a x c h)
theorem Sub.new {S : Sto} {p : Addr} {c : Cell} (h : S p = none) : Sub S (put S p c) := fun a d e => by
  by_cases q : a = p
  · rw [q, h] at e; cases e
  · rw [put_ne q]; exact e
theorem Sub.put {S S' : Sto} {p : Addr} {c : Cell} (h : Sub S S') : Sub (put S p c) (put S' p c) := fun a d e => by
  by_cases q : a = p
  · rw [q, put_same] at e ⊢; exact e
  · rw [put_ne q] at e ⊢; exact h a d e
/-- new in the greater, not spoken of in the smaller -/
theorem Sub.put_new {S S' : Sto} {p : Addr} {c : Cell} (h : Sub S S') (n : S p = none) : Sub S (Wl.put S' p c) := fun a d e => by
  by_cases q : a = p
  · rw [q, n] at e; cases e
  · rw [put_ne q]; exact h a d e
theorem Sub.free {S S' : Sto} {p : Addr} (h : Sub S S') (n : S' p = none) : S p = none := by
  cases q : S p with
  | none => rfl
  | some c => rw [h p c q] at n; cases n
def HRep (K : PySem.W.Frag) (H : Hp) (S : Sto) : Prop := ∀ a c, S a = some c → CRep K H a c
theorem CRep.some {K : PySem.W.Frag} {H : Hp} {a : Addr} {c : Cell} (h : CRep K H a c) : ∃ o, H a = some o ∧ (∀ xs, o ≠ .tup xs) ∧ (∀ ob u, o ≠ .frz ob u) := by
  cases c with
  | lst ws => obtain ⟨xs, e, _⟩ := h; exact ⟨_, e, fun _ z => (by cases z), fun _ _ z => (by cases z)⟩
  | dk ws => obtain ⟨xs, e, _⟩ := h; exact ⟨_, e, fun _ z => (by cases z), fun _ _ z => (by cases z)⟩
  | ins C ws => obtain ⟨dx, xs, e, _⟩ := h; exact ⟨_, e, fun _ z => (by cases z), fun _ _ z => (by cases z)⟩
theorem CRep.tk {K : PySem.W.Frag} {H H' : Hp} {a : Addr} {c : Cell} (t : Tk H H') (e : H' a = H a) (h : CRep K H a c) : CRep K H' a c := by
  cases c with
  | lst ws => obtain ⟨xs, q, r⟩ := h; exact ⟨xs, by rw [e]; exact q, RepL.tk t _ _ r⟩
  | dk ws => obtain ⟨xs, q, r⟩ := h; exact ⟨xs, by rw [e]; exact q, RepKV.tk t _ _ r⟩
  | ins C ws => obtain ⟨dx, xs, q, r⟩ := h; exact ⟨dx, xs, by rw [e]; exact q, RepKV.tk t _ _ r⟩
section
variable {K : PySem.W.Frag} {H H' : Hp} {S S' : Sto} {p : Addr} {o : HO} {c : Cell}
theorem HRep.fresh (h : HRep K H S) (n : H p = none) : S p = none := by
  cases q : S p with
  | none => rfl
  | some c =>
    obtain ⟨o, e, _⟩ := (h p c q).some
    rw [n] at e; cases e
theorem HRep.sub (h : HRep K H S') (s : Sub S S') : HRep K H S := fun a c e => h a c (s a c e)
theorem HRep.laid (h : HRep K H S) (n : H p = none) : HRep K (upd H p o) S := fun a c e => by
  obtain ⟨u, q, _⟩ := (h a c e).some
  exact (h a c e).tk (Tk.new n) (upd_ne (ne_of_none q n))
theorem HRep.new (h : HRep K H S) (n : H p = none) (hc : CRep K (upd H p o) p c) : HRep K (upd H p o) (put S p c) := fun a d e => by
  by_cases q : a = p
  · subst q; rw [put_same] at e; cases e; exact hc
  · rw [put_ne q] at e; exact h.laid n a d e
theorem HRep.mut {c' : Cell} (h : HRep K H S) (e : S p = some c) (hc : CRep K (upd H p o) p c') : Tk H (upd H p o) ∧ HRep K (upd H p o) (put S p c') := by
  obtain ⟨u, q, h1, h2⟩ := (h p c e).some
  have t : Tk H (upd H p o) := Tk.mut q h1 h2
  refine ⟨t, fun a d z => ?_⟩
  by_cases y : a = p
  · subst y; rw [put_same] at z; cases z; exact hc
  · rw [put_ne y] at z
    exact (h a d z).tk t (upd_ne y)
end

/-! ### the frame -/
abbrev StW := List (Option W)
structure SRep (K : PySem.W.Frag) (B H : Hp) (σ : L2.St) (ρ : StW) : Prop where
  bs : Tk B H
  len : σ.length = ρ.length
  at_ : ∀ (i : Nat) (w : W), ρ[i]? = some (some w) → ∃ v, σ[i]? = some (some v) ∧ Rep K H w v
section
variable {K : PySem.W.Frag} {B H H' : Hp} {σ : L2.St} {ρ : StW}
theorem SRep.tk (h : SRep K B H σ ρ) (t : Tk H H') : SRep K B H' σ ρ := ⟨h.bs.trans t, h.len, fun i w e => by
  obtain ⟨v, e1, e2⟩ := h.at_ i w e
  exact ⟨v, e1, Rep.tk t w v e2⟩⟩
theorem SRep.set {w : W} {v : V} (h : SRep K B H σ ρ) (i : Nat) (r : Rep K H w v) : SRep K B H (σ.set i (some v)) (ρ.set i (some w)) := ⟨h.bs, by rw [List.length_set, List.length_set, h.len], fun j z e => by
  by_cases q : i = j
  · subst q
    by_cases hl : i < ρ.length
    · rw [List.getElem?_set_self hl] at e
      cases e
      exact ⟨v, List.getElem?_set_self (by rw [h.len]; exact hl), r⟩
    · rw [List.getElem?_eq_none (by rw [List.length_set]; omega)] at e
      cases e
  · rw [List.getElem?_set_ne q] at e ⊢
    exact h.at_ j z e⟩
theorem SRep.init {N : List Str} {ws : List W} {vs : List V} (r : RepL K H ws vs) : SRep K H H (L2.start N vs) (ws.map some ++ List.replicate (N.length - ws.length) none) := by
  have hl := r.length
  refine ⟨Tk.refl H, by unfold L2.start; simp [hl], fun i w e => ?_⟩
  unfold L2.start
  by_cases h : i < ws.length
  · rw [List.getElem?_append_left (by simpa using h), List.getElem?_map] at e
    cases q : ws[i]? with
    | none => rw [q] at e; cases e
    | some z =>
      rw [q] at e
      have e' : z = w := by injection e with e; injection e
      subst e'
      obtain ⟨x, hx, rx⟩ := r.get q
      refine ⟨x, ?_, rx⟩
      rw [List.getElem?_append_left (by simp [hl]; exact h), List.getElem?_map, hx]
      rfl
  · rw [List.getElem?_append_right (by simpa using h), List.getElem?_replicate] at e
    split at e <;> cases e
end
/-- the frame at a def's entry -/
def startW (N : List Str) (ws : List W) : StW := ws.map some ++ List.replicate (N.length - ws.length) none

/-! ### readings over data -/
abbrev WK := W → Sto → Prop
abbrev TEW := StW → Sto → WK → Prop
abbrev TTW := StW → Sto → (Bool → Sto → Prop) → Prop
abbrev TAW := StW → Sto → (List W → Sto → Prop) → Prop
abbrev TOW := StW → Sto → (Option Int → Sto → Prop) → Prop
abbrev RW2 := W → W → Sto → WK → Prop
abbrev RW1 := W → Sto → WK → Prop
abbrev RWC := List W → Sto → WK → Prop
structure EndsW where
  nx : StW → Sto → Prop
  rt : WK
  bk : StW → Sto → Prop := fun _ _ => False
  ct : StW → Sto → Prop := fun _ _ => False
abbrev TSW := EndsW → StW → Sto → Prop

def PoE (K : PySem.W.Frag) (H : Hp) (Q : VK) (Qw : WK) : Prop := ∀ v H' w S', Tk H H' → HRep K H' S' → Rep K H' w v → Qw w S' → Q v H'
def PoT (K : PySem.W.Frag) (H : Hp) (Q : Bool → Hp → Prop) (Qw : Bool → Sto → Prop) : Prop := ∀ b H' S', Tk H H' → HRep K H' S' → Qw b S' → Q b H'
def PoA (K : PySem.W.Frag) (H : Hp) (Q : List V → Hp → Prop) (Qw : List W → Sto → Prop) : Prop := ∀ vs H' ws S', Tk H H' → HRep K H' S' → RepL K H' ws vs → Qw ws S' → Q vs H'
def PoO (K : PySem.W.Frag) (H : Hp) (Q : Option Int → Hp → Prop) (Qw : Option Int → Sto → Prop) : Prop := ∀ b H' S', Tk H H' → HRep K H' S' → Qw b S' → Q b H'
def PoS (K : PySem.W.Frag) (B H : Hp) (Q : L2.St → Hp → Prop) (Qw : StW → Sto → Prop) : Prop := ∀ σ' H' ρ' S', Tk H H' → SRep K B H' σ' ρ' → HRep K H' S' → Qw ρ' S' → Q σ' H'
theorem PoE.tk {K : PySem.W.Frag} {H H1 : Hp} {Q : VK} {Qw : WK} (h : PoE K H Q Qw) (t : Tk H H1) : PoE K H1 Q Qw := fun v H' w S' t' => h v H' w S' (t.trans t')
theorem PoT.tk {K : PySem.W.Frag} {H H1 : Hp} {Q : Bool → Hp → Prop} {Qw : Bool → Sto → Prop} (h : PoT K H Q Qw) (t : Tk H H1) : PoT K H1 Q Qw := fun v H' S' t' => h v H' S' (t.trans t')
theorem PoA.tk {K : PySem.W.Frag} {H H1 : Hp} {Q : List V → Hp → Prop} {Qw : List W → Sto → Prop} (h : PoA K H Q Qw) (t : Tk H H1) : PoA K H1 Q Qw := fun v H' w S' t' => h v H' w S' (t.trans t')
theorem PoO.tk {K : PySem.W.Frag} {H H1 : Hp} {Q : Option Int → Hp → Prop} {Qw : Option Int → Sto → Prop} (h : PoO K H Q Qw) (t : Tk H H1) : PoO K H1 Q Qw := fun v H' S' t' => h v H' S' (t.trans t')
theorem PoS.tk {K : PySem.W.Frag} {B H H1 : Hp} {Q : L2.St → Hp → Prop} {Qw : StW → Sto → Prop} (h : PoS K B H Q Qw) (t : Tk H H1) : PoS K B H1 Q Qw := fun v H' w S' t' => h v H' w S' (t.trans t')
section
variable {K : PySem.W.Frag} {H H1 : Hp} {S : Sto} {Q : VK} {Qw : WK}
theorem PoE.int {i : Int} (po : PoE K H Q Qw) (t : Tk H H1) (hh : HRep K H1 S) (q : Qw (.int i) S) : Q (.int i) H1 := po _ H1 (.int i) S t hh rfl q
theorem PoE.str {i : Str} (po : PoE K H Q Qw) (t : Tk H H1) (hh : HRep K H1 S) (q : Qw (.str i) S) : Q (.str i) H1 := po _ H1 (.str i) S t hh rfl q
theorem PoE.bl {i : Bool} (po : PoE K H Q Qw) (t : Tk H H1) (hh : HRep K H1 S) (q : Qw (.bl i) S) : Q (.bl i) H1 := po _ H1 (.bl i) S t hh rfl q
theorem PoE.non (po : PoE K H Q Qw) (t : Tk H H1) (hh : HRep K H1 S) (q : Qw .non S) : Q .non H1 := po _ H1 .non S t hh rfl q
theorem PoE.ref {a : Addr} (po : PoE K H Q Qw) (t : Tk H H1) (hh : HRep K H1 S) (q : Qw (.ref a) S) : Q (.ref a) H1 := po _ H1 (.ref a) S t hh rfl q
theorem PoE.tup {a : Addr} {xs : List V} {ws : List W} (po : PoE K H Q Qw) (t : Tk H H1) (hh : HRep K H1 S) (h : SqT K H1 a xs) (r : RepL K H1 ws xs) (q : Qw (.tup ws) S) : Q (.ref a) H1 := po _ H1 (.tup ws) S t hh ⟨a, xs, rfl, h, r⟩ q
/-- a new list -/
theorem PoE.nlst {p : Addr} {xs : List V} {ws : List W} (po : PoE K H Q Qw) (hp : H p = none) (hh : HRep K H S) (r : RepL K H ws xs) (q : ∀ p, S p = none → Qw (.ref p) (Wl.put S p (.lst ws))) : Q (.ref p) (upd H p (.lst xs)) :=
  po.ref (Tk.new hp) (hh.new (c := .lst ws) hp ⟨xs, upd_same, RepL.tk (Tk.new hp) _ _ r⟩) (q p (hh.fresh hp))
theorem PoE.ntup {p : Addr} {xs : List V} {ws : List W} (po : PoE K H Q Qw) (hp : H p = none) (hh : HRep K H S) (r : RepL K H ws xs) (q : Qw (.tup ws) S) : Q (.ref p) (upd H p (.tup xs)) :=
  po.tup (Tk.new hp) (hh.laid hp) (SqT.of upd_same) (RepL.tk (Tk.new hp) _ _ r) q
end
structure PoD (K : PySem.W.Frag) (B H : Hp) (D : Ends) (Dw : EndsW) : Prop where
  nx : PoS K B H D.nx Dw.nx
  bk : PoS K B H D.bk Dw.bk
  ct : PoS K B H D.ct Dw.ct
  rt : PoE K H D.rt Dw.rt
theorem PoD.tk {K : PySem.W.Frag} {B H H1 : Hp} {D : Ends} {Dw : EndsW} (h : PoD K B H D Dw) (t : Tk H H1) : PoD K B H1 D Dw := ⟨h.nx.tk t, h.bk.tk t, h.ct.tk t, h.rt.tk t⟩

class LE (K : PySem.W.Frag) (B : Hp) (t : TE) (tw : outParam TEW) : Prop where
  l : ∀ σ H ρ S Q Qw, SRep K B H σ ρ → HRep K H S → tw ρ S Qw → PoE K H Q Qw → t σ H Q
class LT (K : PySem.W.Frag) (B : Hp) (t : TT) (tw : outParam TTW) : Prop where
  l : ∀ σ H ρ S Q Qw, SRep K B H σ ρ → HRep K H S → tw ρ S Qw → PoT K H Q Qw → t σ H Q
class LA (K : PySem.W.Frag) (B : Hp) (t : TA) (tw : outParam TAW) : Prop where
  l : ∀ σ H ρ S Q Qw, SRep K B H σ ρ → HRep K H S → tw ρ S Qw → PoA K H Q Qw → t σ H Q
class LO (K : PySem.W.Frag) (B : Hp) (t : TO) (tw : outParam TOW) : Prop where
  l : ∀ σ H ρ S Q Qw, SRep K B H σ ρ → HRep K H S → tw ρ S Qw → PoO K H Q Qw → t σ H Q
class LS (K : PySem.W.Frag) (B : Hp) (t : TS) (tw : outParam TSW) : Prop where
  l : ∀ σ H ρ S D Dw, SRep K B H σ ρ → HRep K H S → tw Dw ρ S → PoD K B H D Dw → t D σ H
class L2R (K : PySem.W.Frag) (r : R2) (rw : outParam RW2) : Prop where
  l : ∀ H S x y wx wy Q Qw, HRep K H S → Rep K H wx x → Rep K H wy y → rw wx wy S Qw → PoE K H Q Qw → r x y H Q
class L1R (K : PySem.W.Frag) (r : V → Hp → VK → Prop) (rw : outParam RW1) : Prop where
  l : ∀ H S x wx Q Qw, HRep K H S → Rep K H wx x → rw wx S Qw → PoE K H Q Qw → r x H Q
class LCR (K : PySem.W.Frag) (r : List V → Hp → VK → Prop) (rw : outParam RWC) : Prop where
  l : ∀ H S xs ws Q Qw, HRep K H S → RepL K H ws xs → rw ws S Qw → PoE K H Q Qw → r xs H Q
class LMR (K : PySem.W.Frag) (r : V → List V → Hp → VK → Prop) (rw : outParam (W → List W → Sto → WK → Prop)) : Prop where
  l : ∀ H S x wx xs ws Q Qw, HRep K H S → Rep K H wx x → RepL K H ws xs → rw wx ws S Qw → PoE K H Q Qw → r x xs H Q
abbrev TGW := W → StW → Sto → (StW → Sto → Prop) → Prop
abbrev TGWs := List W → StW → Sto → (StW → Sto → Prop) → Prop
class LG (K : PySem.W.Frag) (B : Hp) (g : TG) (gw : outParam TGW) : Prop where
  l : ∀ v w σ H ρ S Q Qw, Rep K H w v → SRep K B H σ ρ → HRep K H S → gw w ρ S Qw → PoS K B H Q Qw → g v σ H Q
class LGs (K : PySem.W.Frag) (B : Hp) (g : TGs) (gw : outParam TGWs) : Prop where
  l : ∀ v w σ H ρ S Q Qw, RepL K H w v → SRep K B H σ ρ → HRep K H S → gw w ρ S Qw → PoS K B H Q Qw → g v σ H Q
end Wl
set_option Elab.async false
set_option linter.all false
set_option maxRecDepth 100000
set_option maxHeartbeats 2000000
namespace Wl
open PySem L2
variable {K : PySem.W.Frag} {B : Hp}

/-! ### names, constants -/
class KR (K : PySem.W.Frag) (v : V) (w : outParam W) : Prop where
  r : ∀ H, Rep K H w v
instance kr_non : KR K .non .non := ⟨fun _ => rfl⟩
instance kr_bl {b : Bool} : KR K (.bl b) (.bl b) := ⟨fun _ => rfl⟩
instance kr_int {i : Int} : KR K (.int i) (.int i) := ⟨fun _ => rfl⟩
instance kr_str {x : Str} : KR K (.str x) (.str x) := ⟨fun _ => rfl⟩
instance kr_ty {n : String} : KR K (.ty n) (.ty n) := ⟨fun _ => rfl⟩

def rdVar (o : Option (Option W)) (S : Sto) (Q : WK) : Prop := match o with
  | some (some w) => Q w S
  | _ => False
def wVar (i : Nat) : TEW := fun ρ S Q => rdVar ρ[i]? S Q
def wC (w : W) : TEW := fun _ S Q => Q w S
instance le_var {i : Nat} : LE K B (tVar i) (wVar i) := ⟨fun σ H ρ S Q Qw hs hh q po => by
  obtain ⟨w, e, q⟩ : ∃ w, ρ[i]? = some (some w) ∧ Qw w S := by
    unfold wVar rdVar at q
    split at q
    · rename_i w e
      exact ⟨w, e, q⟩
    · exact q.elim
  obtain ⟨v, e1, r⟩ := hs.at_ i w e
  exact ⟨v, e1, po v H w S (Tk.refl H) hh r q⟩⟩
instance le_c {v : V} {w : W} [k : KR K v w] : LE K B (tC v) (wC w) := ⟨fun σ H ρ S Q Qw _ hh q po => po v H w S (Tk.refl H) hh (k.r H) q⟩

/-! ### operators -/
def wOp (r : RW2) (ta tb : TEW) : TEW := fun ρ S Q => ta ρ S fun x S1 => tb ρ S1 fun y S2 => r x y S2 Q
def wUn (r : RW1) (ta : TEW) : TEW := fun ρ S Q => ta ρ S fun x S1 => r x S1 Q
instance le_op {r : R2} {ta tb : TE} {rw : RW2} {wa wb : TEW} [h : L2R K r rw] [a : LE K B ta wa] [b : LE K B tb wb] : LE K B (tOp r ta tb) (wOp rw wa wb) := ⟨fun σ H ρ S Q Qw hs hh q po =>
  a.l σ H ρ S _ _ hs hh q fun x H1 wx S1 t1 hh1 r1 q1 => b.l σ H1 ρ S1 _ _ (hs.tk t1) hh1 q1 fun y H2 wy S2 t2 hh2 r2 q2 =>
    h.l H2 S2 x y wx wy Q Qw hh2 (Rep.tk t2 _ _ r1) r2 q2 (po.tk (t1.trans t2))⟩
instance le_un {r : V → Hp → VK → Prop} {ta : TE} {rw : RW1} {wa : TEW} [h : L1R K r rw] [a : LE K B ta wa] : LE K B (tUn r ta) (wUn rw wa) := ⟨fun σ H ρ S Q Qw hs hh q po =>
  a.l σ H ρ S _ _ hs hh q fun x H1 wx S1 t1 hh1 r1 q1 => h.l H1 S1 x wx Q Qw hh1 r1 q1 (po.tk t1)⟩

/-! a + b -/
def rAddA (K : PySem.W.Frag) : R2 := fun x y H Q => rI0 (fun i j => .int (i + j)) x y H Q ∨ (∃ i j, x = .str i ∧ y = .str j ∧ i.length + j.length ≤ sizeLine ∧ Q (.str (i ++ j)) H) ∨ rCatT K x y H Q ∨ rCat x y H Q
theorem op_addA {X : Cx} : OpR X (binaryOp .Add) (rAddA X.K) := by
  intro pins s σ H x y v u Q I rx ry h
  rcases h with h | h | h | h
  · exact op_add pins s σ H x y v u Q I rx ry h
  · exact op_add_str pins s σ H x y v u Q I rx ry h
  · exact op_catT pins s σ H x y v u Q I rx ry h
  · exact op_cat pins s σ H x y v u Q I rx ry h
def wAdd : RW2 := fun x y S Q => match x, y with
  | .int i, .int j => Q (.int (i + j)) S
  | .str i, .str j => i.length + j.length ≤ sizeLine ∧ Q (.str (i ++ j)) S
  | .tup a, .tup b => a ≠ [] ∧ a.length + b.length ≤ sizeLine ∧ Q (.tup (a ++ b)) S
  | .ref a, .ref b => ∃ xs ys, S a = some (.lst xs) ∧ S b = some (.lst ys) ∧ xs.length + ys.length ≤ sizeLine ∧ ∀ p, S p = none → Q (.ref p) (put S p (.lst (xs ++ ys)))
  | _, _ => False
instance l2_add : L2R K (rAddA K) wAdd := ⟨fun H S x y wx wy Q Qw hh rx ry q po => by
  cases wx <;> cases wy <;> try exact q.elim
  · cases (show x = _ from rx); cases (show y = _ from ry)
    exact .inl ⟨_, _, rfl, rfl, po.int (Tk.refl H) hh q⟩
  · cases (show x = _ from rx); cases (show y = _ from ry)
    exact .inr (.inl ⟨_, _, rfl, rfl, q.1, po.str (Tk.refl H) hh q.2⟩)
  · cases (show x = _ from rx); cases (show y = _ from ry)
    obtain ⟨xs, ys, e1, e2, hl, q⟩ := q
    obtain ⟨as, h1, r1⟩ := hh _ _ e1
    obtain ⟨bs, h2, r2⟩ := hh _ _ e2
    refine .inr (.inr (.inr ⟨_, _, as, bs, rfl, rfl, h1, h2, by rw [r1.length, r2.length]; exact hl, fun p hp => ?_⟩))
    exact po.nlst hp hh (r1.append r2) q
  · obtain ⟨a, as, rfl, h1, r1⟩ := (show ∃ a xs, x = .ref a ∧ _ from rx)
    obtain ⟨b, bs, rfl, h2, r2⟩ := (show ∃ a xs, y = .ref a ∧ _ from ry)
    obtain ⟨hn, hl, q⟩ := q
    refine .inr (.inr (.inl ⟨a, b, as, bs, rfl, rfl, h1, h2, fun z => ?_, by rw [r1.length, r2.length]; exact hl, fun z => ?_, fun z p hp => ?_⟩))
    · subst z
      have := r1.length
      exact hn (List.length_eq_zero_iff.mp (by simpa using this.symm))
    · subst z
      have e : _ = [] := List.length_eq_zero_iff.mp (by simpa using (r2.length).symm)
      rw [e, List.append_nil] at q
      exact po.tup (Tk.refl H) hh h1 r1 q
    · exact po.ntup hp hh (r1.append r2) q⟩

/-! ints -/
def wII (f : Int → Int → Int) : RW2 := fun x y S Q => match x, y with
  | .int i, .int j => Q (.int (f i j)) S
  | _, _ => False
def wIC (C : Int → Int → Prop) (f : Int → Int → Int) : RW2 := fun x y S Q => match x, y with
  | .int i, .int j => C i j ∧ Q (.int (f i j)) S
  | _, _ => False
instance l2_ii {f : Int → Int → Int} : L2R K (rI0 fun i j => .int (f i j)) (wII f) := ⟨fun H S x y wx wy Q Qw hh rx ry q po => by
  cases wx <;> cases wy <;> try exact q.elim
  cases (show x = _ from rx); cases (show y = _ from ry)
  exact ⟨_, _, rfl, rfl, po.int (Tk.refl H) hh q⟩⟩
instance l2_ic {C : Int → Int → Prop} {f : Int → Int → Int} : L2R K (rI C fun i j => .int (f i j)) (wIC C f) := ⟨fun H S x y wx wy Q Qw hh rx ry q po => by
  cases wx <;> cases wy <;> try exact q.elim
  cases (show x = _ from rx); cases (show y = _ from ry)
  exact ⟨_, _, rfl, rfl, q.1, po.int (Tk.refl H) hh q.2⟩⟩
def CMulA (i j : Int) : Prop := CMul i j ∨ CMulW i j
def CDivA (i j : Int) : Prop := CDiv i j ∨ CDivW i j
theorem op_mulA {X : Cx} : OpR X (binaryOp .Mult) (rI CMulA fun i j => .int (i * j)) := by
  rintro pins s σ H x y v u Q I rx ry ⟨i, j, e1, e2, h | h, q⟩
  · exact op_mul pins s σ H x y v u Q I rx ry ⟨i, j, e1, e2, h, q⟩
  · exact op_mulW pins s σ H x y v u Q I rx ry ⟨i, j, e1, e2, h, q⟩
theorem op_fdivA {X : Cx} : OpR X (binaryOp .FloorDiv) (rI CDivA fun i j => .int (i / j)) := by
  rintro pins s σ H x y v u Q I rx ry ⟨i, j, e1, e2, h | h, q⟩
  · exact op_fdiv pins s σ H x y v u Q I rx ry ⟨i, j, e1, e2, h, q⟩
  · exact op_fdivW pins s σ H x y v u Q I rx ry ⟨i, j, e1, e2, h, q⟩
def wNeg : RW1 := fun x S Q => match x with
  | .int i => Q (.int (-i)) S
  | _ => False
instance l1_neg : L1R K (rU fun i => .int (-i)) wNeg := ⟨fun H S x wx Q Qw hh rx q po => by
  cases wx <;> try exact q.elim
  cases (show x = _ from rx)
  exact ⟨_, rfl, po.int (Tk.refl H) hh q⟩⟩

/-! ### comparisons -/
mutual
def datW : W → Bool
  | .non => true | .bl _ => true | .int _ => true | .str _ => true
  | .tup ws => datWs ws | .rl ws => datWs ws
  | .ref _ => false | .ty _ => false
def datWs : List W → Bool
  | [] => true
  | w :: ws => datW w && datWs ws
end
mutual
def toD : W → PyData
  | .non => .none | .bl b => .bool b | .int i => .int i | .str x => .str x
  | .tup ws => .tuple (toDs ws) | .rl ws => .list (toDs ws)
  | .ref _ => .none | .ty _ => .none
def toDs : List W → List PyData
  | [] => []
  | w :: ws => toD w :: toDs ws
end
mutual
theorem dp_of {H : Hp} : ∀ (w : W) (v : V), datW w = true → Rep K H w v → Dp K H v (toD w)
  | .non, _, _, h => by cases (show _ = _ from h); exact .non
  | .bl b, _, _, h => by cases (show _ = _ from h); exact .bl b
  | .int i, _, _, h => by cases (show _ = _ from h); exact .int i
  | .str x, _, _, h => by cases (show _ = _ from h); exact .str x
  | .tup ws, _, d, h => by
    obtain ⟨a, xs, rfl, h1, h2⟩ := h
    exact .tup h1 (dps_of ws xs (by unfold datW at d; exact d) h2)
  | .rl ws, _, d, h => by
    obtain ⟨a, xs, rfl, h1, h2⟩ := h
    exact .lst h1.sq (dps_of ws xs (by unfold datW at d; exact d) h2)
  | .ref _, _, d, _ => by unfold datW at d; cases d
  | .ty _, _, d, _ => by unfold datW at d; cases d
theorem dps_of {H : Hp} : ∀ (ws : List W) (xs : List V), datWs ws = true → RepL K H ws xs → DpAll K H xs (toDs ws)
  | [], _, _, h => by cases (show _ = [] from h); exact .nil
  | w :: ws, _, d, h => by
    obtain ⟨x, r, rfl, h1, h2⟩ := h
    unfold datWs at d
    rw [Bool.and_eq_true] at d
    exact .cons (dp_of w x d.1 h1) (dps_of ws r d.2 h2)
end
def rEqA (K : PySem.W.Frag) : R2 := fun x y H Q => rEq x y H Q ∨ rEqD K x y H Q
def rNeA (K : PySem.W.Frag) : R2 := fun x y H Q => rNe x y H Q ∨ rNeD K x y H Q
theorem op_eqA {X : Cx} (hu : X.A.units + 64 < cLine) : OpR X (compareOp .Eq) (rEqA X.K) := by
  intro pins s σ H x y v u Q I rx ry h
  rcases h with h | h
  · exact op_eq pins s σ H x y v u Q I rx ry h
  · exact op_eqD hu pins s σ H x y v u Q I rx ry h
theorem op_neA {X : Cx} (hu : X.A.units + 64 < cLine) : OpR X (compareOp .NotEq) (rNeA X.K) := by
  intro pins s σ H x y v u Q I rx ry h
  rcases h with h | h
  · exact op_ne pins s σ H x y v u Q I rx ry h
  · exact op_neD hu pins s σ H x y v u Q I rx ry h
def shW (x : W) : Prop := datW x = true ∧ SeqAt.shaped (toD x) = true
/-- a == b: the answer goes to k -/
def wEqK (x y : W) (S : Sto) (k : Bool → Prop) : Prop := match x, y with
  | .int i, .int j => k (decide (i = j))
  | .str i, .str j => k (decide (i = j))
  | .bl i, .bl j => k (decide (i = j))
  | .non, .non => k true
  | .non, .int _ => k false
  | .int _, .non => k false
  | .non, .str _ => k false
  | .str _, .non => k false
  | .non, .bl _ => k false
  | .bl _, .non => k false
  | .int _, .str _ => k false
  | .str _, .int _ => k false
  | .ref a, .ref b => ∃ xs ys, S a = some (.lst xs) ∧ S b = some (.lst ys) ∧ shW (.rl xs) ∧ shW (.rl ys) ∧ k (PyData.eqvAll (toDs xs) (toDs ys))
  | x, y => shW x ∧ shW y ∧ k (PyData.eqv (toD x) (toD y))
def wEq : RW2 := fun x y S Q => wEqK x y S fun b => Q (.bl b) S
def wNe : RW2 := fun x y S Q => wEqK x y S fun b => Q (.bl (!b)) S
theorem eqK_of {H : Hp} {S : Sto} {x y : V} {wx wy : W} {k : Bool → Prop} (hh : HRep K H S) (rx : Rep K H wx x) (ry : Rep K H wy y) (q : wEqK wx wy S k) :
    (∃ b, scal x y = true ∧ decide (x = y) = b ∧ k b) ∨ ∃ d e, Dp K H x d ∧ Dp K H y e ∧ SeqAt.shaped d = true ∧ SeqAt.shaped e = true ∧ k (PyData.eqv d e) := by
  have gen : shW wx ∧ shW wy ∧ k (PyData.eqv (toD wx) (toD wy)) → ∃ d e, Dp K H x d ∧ Dp K H y e ∧ SeqAt.shaped d = true ∧ SeqAt.shaped e = true ∧ k (PyData.eqv d e) :=
    fun ⟨h1, h2, h3⟩ => ⟨_, _, dp_of _ _ h1.1 rx, dp_of _ _ h2.1 ry, h1.2, h2.2, h3⟩
  cases wx <;> cases wy <;> first
    | exact .inr (gen q)
    | (cases (show x = _ from rx); cases (show y = _ from ry); refine .inl ⟨_, rfl, ?_, q⟩; first | rfl | (rw [dec_int]; rw [Bool.eq_iff_iff]; simp) | (rw [dec_str]; rw [Bool.eq_iff_iff]; simp) | (rw [dec_bl]; rw [Bool.eq_iff_iff]; simp))
    | skip
  · obtain ⟨xs, ys, e1, e2, h1, h2, q⟩ := q
    cases (show x = _ from rx); cases (show y = _ from ry)
    obtain ⟨as, g1, r1⟩ := hh _ _ e1
    obtain ⟨bs, g2, r2⟩ := hh _ _ e2
    refine .inr ⟨.list (toDs xs), .list (toDs ys), .lst (SqL.of g1) (dps_of _ _ ?_ r1), .lst (SqL.of g2) (dps_of _ _ ?_ r2), h1.2, h2.2, ?_⟩
    · have := h1.1; unfold datW at this; exact this
    · have := h2.1; unfold datW at this; exact this
    · rw [show PyData.eqv (.list (toDs xs)) (.list (toDs ys)) = PyData.eqvAll (toDs xs) (toDs ys) by first | rfl | simp [PyData.eqv]]
      exact q
instance l2_eq : L2R K (rEqA K) wEq := ⟨fun H S x y wx wy Q Qw hh rx ry q po => by
  rcases eqK_of hh rx ry q with ⟨b, e, e2, q⟩ | ⟨d, e, h1, h2, h3, h4, q⟩
  · exact .inl ⟨e, by rw [e2]; exact po.bl (Tk.refl H) hh q⟩
  · exact .inr ⟨d, e, h1, h2, h3, h4, po.bl (Tk.refl H) hh q⟩⟩
instance l2_ne : L2R K (rNeA K) wNe := ⟨fun H S x y wx wy Q Qw hh rx ry q po => by
  rcases eqK_of hh rx ry q with ⟨b, e, e2, q⟩ | ⟨d, e, h1, h2, h3, h4, q⟩
  · exact .inl ⟨e, by rw [e2]; exact po.bl (Tk.refl H) hh q⟩
  · exact .inr ⟨d, e, h1, h2, h3, h4, po.bl (Tk.refl H) hh q⟩⟩
/-- orders: ints, texts -/
def rOrd (p : Int → Int → Bool) (s : Str → Str → Bool) : R2 := fun x y H Q => (∃ i j, x = .int i ∧ y = .int j ∧ Q (.bl (p i j)) H) ∨ ∃ i j, x = .str i ∧ y = .str j ∧ Q (.bl (s i j)) H
def wOrd (p : Int → Int → Bool) (s : Str → Str → Bool) : RW2 := fun x y S Q => match x, y with
  | .int i, .int j => Q (.bl (p i j)) S
  | .str i, .str j => Q (.bl (s i j)) S
  | _, _ => False
instance l2_ord {p : Int → Int → Bool} {s : Str → Str → Bool} : L2R K (rOrd p s) (wOrd p s) := ⟨fun H S x y wx wy Q Qw hh rx ry q po => by
  cases wx <;> cases wy <;> try exact q.elim
  · cases (show x = _ from rx); cases (show y = _ from ry)
    exact .inl ⟨_, _, rfl, rfl, po.bl (Tk.refl H) hh q⟩
  · cases (show x = _ from rx); cases (show y = _ from ry)
    exact .inr ⟨_, _, rfl, rfl, po.bl (Tk.refl H) hh q⟩⟩
abbrev sLt (i j : Str) : Bool := decide (i.cps.toList < j.cps.toList)
theorem op_ltA {X : Cx} : OpR X (compareOp .Lt) (rOrd (fun i j => decide (i < j)) fun i j => sLt i j) := by
  intro pins s σ H x y v u Q I rx ry h
  rcases h with h | h
  · exact op_lt pins s σ H x y v u Q I rx ry h
  · exact op_lt_str pins s σ H x y v u Q I rx ry h
theorem op_leA {X : Cx} : OpR X (compareOp .LtE) (rOrd (fun i j => decide (i ≤ j)) fun i j => !sLt j i) := by
  intro pins s σ H x y v u Q I rx ry h
  rcases h with h | h
  · exact op_le pins s σ H x y v u Q I rx ry h
  · exact op_le_str pins s σ H x y v u Q I rx ry h
theorem op_gtA {X : Cx} : OpR X (compareOp .Gt) (rOrd (fun i j => decide (j < i)) fun i j => sLt j i) := by
  intro pins s σ H x y v u Q I rx ry h
  rcases h with h | h
  · exact op_gt pins s σ H x y v u Q I rx ry h
  · exact op_gt_str pins s σ H x y v u Q I rx ry h
theorem op_geA {X : Cx} : OpR X (compareOp .GtE) (rOrd (fun i j => decide (j ≤ i)) fun i j => !sLt i j) := by
  intro pins s σ H x y v u Q I rx ry h
  rcases h with h | h
  · exact op_ge pins s σ H x y v u Q I rx ry h
  · exact op_ge_str pins s σ H x y v u Q I rx ry h

/-! in -/
def flatW : W → Bool
  | .non => true | .bl _ => true | .int _ => true | .str _ => true
  | _ => false
def eqF : W → W → Bool
  | .non, .non => true
  | .bl a, .bl b => a == b
  | .bl a, .int b => (if a then 1 else 0) == b
  | .int a, .bl b => a == (if b then 1 else 0)
  | .int a, .int b => a == b
  | .str a, .str b => a == b
  | _, _ => false
def isInW (x : W) (ws : List W) : Bool := ws.any fun y => eqF y x
theorem flat_of {H : Hp} {w : W} {v : V} (r : Rep K H w v) (f : flatW w = true) : flatV v = true := by
  cases w <;> try (cases f)
  all_goals (cases (show v = _ from r); rfl)
theorem flats_of {H : Hp} : ∀ {ws : List W} {xs : List V}, RepL K H ws xs → ws.all flatW = true → xs.all flatV = true
  | [], _, h, _ => by cases (show _ = [] from h); rfl
  | w :: ws, _, h, f => by
    obtain ⟨x, r, rfl, h1, h2⟩ := h
    rw [List.all_cons, Bool.and_eq_true] at f ⊢
    exact ⟨flat_of h1 f.1, flats_of h2 f.2⟩
theorem eqF_of {H : Hp} {w z : W} {v x : V} (r : Rep K H w v) (f : flatW w = true) (r2 : Rep K H z x) (g : flatW z = true) : eqV v x = eqF w z := by
  cases w <;> cases z <;> first
    | (cases f; done)
    | (cases g; done)
    | (cases (show v = _ from r); cases (show x = _ from r2); rfl)
theorem isIn_of {H : Hp} {z : W} {x : V} (r2 : Rep K H z x) (g : flatW z = true) : ∀ {ws : List W} {xs : List V}, RepL K H ws xs → ws.all flatW = true → inV x xs = isInW z ws
  | [], _, h, _ => by cases (show _ = [] from h); rfl
  | w :: ws, _, h, f => by
    obtain ⟨y, r, rfl, h1, h2⟩ := h
    rw [List.all_cons, Bool.and_eq_true] at f
    have ih := isIn_of r2 g h2 f.2
    unfold inV isInW at ih ⊢
    rw [List.any_cons, List.any_cons, eqF_of h1 f.1 r2 g, ih]
def rInA (K : PySem.W.Frag) (neg : Bool) : R2 := fun x y H Q => rIn K neg x y H Q ∨ ∃ i j, x = .str i ∧ y = .str j ∧ Q (.bl (if neg then !(!(Builtin.Str.occurrences j i 0 j.length 1).isEmpty) else !(Builtin.Str.occurrences j i 0 j.length 1).isEmpty)) H
theorem op_inA {X : Cx} : OpR X (compareOp .In) (rInA X.K false) := by
  intro pins s σ H x y v u Q I rx ry h
  rcases h with h | h
  · exact op_in_seq pins s σ H x y v u Q I rx ry h
  · exact op_in_str pins s σ H x y v u Q I rx ry h
theorem op_notInA {X : Cx} : OpR X (compareOp .NotIn) (rInA X.K true) := by
  intro pins s σ H x y v u Q I rx ry h
  rcases h with h | h
  · exact op_notIn_seq pins s σ H x y v u Q I rx ry h
  · exact op_notin_str pins s σ H x y v u Q I rx ry h
def wInK (x y : W) (S : Sto) (k : Bool → Prop) : Prop := match x, y with
  | .str i, .str j => k (!(Builtin.Str.occurrences j i 0 j.length 1).isEmpty)
  | x, .tup ws => flatW x = true ∧ ws.all flatW = true ∧ k (isInW x ws)
  | x, .rl ws => flatW x = true ∧ ws.all flatW = true ∧ k (isInW x ws)
  | x, .ref a => flatW x = true ∧ ∃ ws, S a = some (.lst ws) ∧ ws.all flatW = true ∧ k (isInW x ws)
  | _, _ => False
def wIn (neg : Bool) : RW2 := fun x y S Q => wInK x y S fun b => Q (.bl (if neg then !b else b)) S
instance l2_in {neg : Bool} : L2R K (rInA K neg) (wIn neg) := ⟨fun H S x y wx wy Q Qw hh rx ry q po => by
  have go : ∀ {p : Addr} {xs : List V} {ws : List W}, y = .ref p → (SqL K H p xs ∨ SqT K H p xs) → RepL K H ws xs → flatW wx = true → ws.all flatW = true → Qw (.bl (if neg then !isInW wx ws else isInW wx ws)) S → rInA K neg x y H Q :=
    fun {p xs ws} e h r f g q => .inl ⟨p, xs, e, h, flat_of rx f, flats_of r g, by rw [isIn_of rx f r g]; exact po.bl (Tk.refl H) hh q⟩
  have tup : ∀ {ws : List W}, Rep K H (.tup ws) y → (flatW wx = true ∧ ws.all flatW = true ∧ Qw (.bl (if neg then !isInW wx ws else isInW wx ws)) S) → rInA K neg x y H Q := fun {ws} r q => by
    obtain ⟨a, xs, e, h1, h2⟩ := r
    exact go e (.inr h1) h2 q.1 q.2.1 q.2.2
  have rl : ∀ {ws : List W}, Rep K H (.rl ws) y → (flatW wx = true ∧ ws.all flatW = true ∧ Qw (.bl (if neg then !isInW wx ws else isInW wx ws)) S) → rInA K neg x y H Q := fun {ws} r q => by
    obtain ⟨a, xs, e, h1, h2⟩ := r
    exact go e (.inl h1.sq) h2 q.1 q.2.1 q.2.2
  have ref : ∀ {a : Addr}, Rep K H (.ref a) y → (flatW wx = true ∧ ∃ ws, S a = some (.lst ws) ∧ ws.all flatW = true ∧ Qw (.bl (if neg then !isInW wx ws else isInW wx ws)) S) → rInA K neg x y H Q := fun {a} r q => by
    obtain ⟨f, ws, e, g, q⟩ := q
    obtain ⟨xs, h1, h2⟩ := hh _ _ e
    exact go r (.inl (SqL.of h1)) h2 f g q
  cases wx <;> cases wy <;> first
    | exact q.elim
    | exact tup ry q
    | exact rl ry q
    | exact ref ry q
    | (cases (show x = _ from rx); cases (show y = _ from ry)
       refine .inr ⟨_, _, rfl, rfl, ?_⟩
       cases neg <;> exact po.bl (Tk.refl H) hh q)⟩

/-! chains -/
def wChain (r r' : RW2) (ta tb tc : TEW) : TEW := fun ρ S Q => ta ρ S fun x S1 => tb ρ S1 fun y S2 => r x y S2 fun z S3 => match z with
  | .bl k => (k = true → tc ρ S3 fun w S4 => r' y w S4 Q) ∧ (k = false → Q (.bl false) S3)
  | _ => False
instance le_chain {r r' : R2} {ta tb tc : TE} {rw rw' : RW2} {wa wb wc : TEW} [h : L2R K r rw] [h' : L2R K r' rw'] [a : LE K B ta wa] [b : LE K B tb wb] [c : LE K B tc wc] : LE K B (tChain r r' ta tb tc) (wChain rw rw' wa wb wc) := ⟨fun σ H ρ S Q Qw hs hh q po =>
  a.l σ H ρ S _ _ hs hh q fun x H1 wx S1 t1 hh1 r1 q1 => b.l σ H1 ρ S1 _ _ (hs.tk t1) hh1 q1 fun y H2 wy S2 t2 hh2 r2 q2 =>
    h.l H2 S2 x y wx wy _ _ hh2 (Rep.tk t2 _ _ r1) r2 q2 fun z H3 wz S3 t3 hh3 r3 q3 => by
      cases wz <;> try exact q3.elim
      rename_i k
      cases (show z = _ from r3)
      refine ⟨k, rfl, ?_⟩
      cases k with
      | true =>
        rw [if_pos rfl]
        exact c.l σ H3 ρ S3 _ _ (hs.tk ((t1.trans t2).trans t3)) hh3 (q3.1 rfl) fun w H4 ww S4 t4 hh4 r4 q4 => h'.l H4 S4 y w wy ww Q Qw hh4 (Rep.tk (t3.trans t4) _ _ r2) r4 q4 (po.tk (((t1.trans t2).trans t3).trans t4))
      | false =>
        rw [if_neg Bool.false_ne_true]
        exact po.bl ((t1.trans t2).trans t3) hh3 (q3.2 rfl)⟩

/-! ### tests -/
def wT (t : TEW) : TTW := fun ρ S Q => t ρ S fun x S1 => match x with
  | .bl k => Q k S1
  | _ => False
instance lt_test {t : TE} {tw : TEW} [a : LE K B t tw] : LT K B (tTest t) (wT tw) := ⟨fun σ H ρ S Q Qw hs hh q po =>
  a.l σ H ρ S _ _ hs hh q fun x H1 wx S1 t1 hh1 r1 q1 => by
    cases wx <;> try exact q1.elim
    rename_i k
    cases (show x = _ from r1)
    exact ⟨k, rfl, po _ H1 S1 t1 hh1 q1⟩⟩
instance lt_B {t : TE} {tw : TEW} [a : LE K B t tw] : LT K B (tB t) (wT tw) := ⟨fun σ H ρ S Q Qw hs hh q po =>
  a.l σ H ρ S _ _ hs hh q fun x H1 wx S1 t1 hh1 r1 q1 => by
    cases wx <;> try exact q1.elim
    rename_i k
    cases (show x = _ from r1)
    exact ⟨k, rfl, po _ H1 S1 t1 hh1 q1⟩⟩
def wAnd (t u : TTW) : TTW := fun ρ S Q => t ρ S fun c S1 => (c = true → u ρ S1 Q) ∧ (c = false → Q false S1)
def wOr (t u : TTW) : TTW := fun ρ S Q => t ρ S fun c S1 => (c = true → Q true S1) ∧ (c = false → u ρ S1 Q)
def wNot (t : TTW) : TTW := fun ρ S Q => t ρ S fun c S1 => Q (!c) S1
instance lt_and {t u : TT} {tw uw : TTW} [a : LT K B t tw] [b : LT K B u uw] : LT K B (tAnd t u) (wAnd tw uw) := ⟨fun σ H ρ S Q Qw hs hh q po =>
  a.l σ H ρ S _ _ hs hh q fun c H1 S1 t1 hh1 q1 => by
    cases c with
    | true => rw [if_pos rfl]; exact b.l σ H1 ρ S1 _ _ (hs.tk t1) hh1 (q1.1 rfl) (po.tk t1)
    | false => rw [if_neg Bool.false_ne_true]; exact po _ H1 S1 t1 hh1 (q1.2 rfl)⟩
instance lt_or {t u : TT} {tw uw : TTW} [a : LT K B t tw] [b : LT K B u uw] : LT K B (tOr t u) (wOr tw uw) := ⟨fun σ H ρ S Q Qw hs hh q po =>
  a.l σ H ρ S _ _ hs hh q fun c H1 S1 t1 hh1 q1 => by
    cases c with
    | true => rw [if_pos rfl]; exact po _ H1 S1 t1 hh1 (q1.1 rfl)
    | false => rw [if_neg Bool.false_ne_true]; exact b.l σ H1 ρ S1 _ _ (hs.tk t1) hh1 (q1.2 rfl) (po.tk t1)⟩
instance lt_not {t : TT} {tw : TTW} [a : LT K B t tw] : LT K B (tNot t) (wNot tw) := ⟨fun σ H ρ S Q Qw hs hh q po =>
  a.l σ H ρ S _ _ hs hh q fun c H1 S1 t1 hh1 q1 => po _ H1 S1 t1 hh1 q1⟩
def wYes : TTW := fun _ S Q => Q true S
instance lt_yes : LT K B tYes wYes := ⟨fun σ H ρ S Q Qw hs hh q po => po _ H S (Tk.refl H) hh q⟩
def wAndV (t u : TEW) : TEW := fun ρ S Q => t ρ S fun x S1 => match x with
  | .bl c => (c = true → u ρ S1 Q) ∧ (c = false → Q (.bl false) S1)
  | _ => False
def wOrV (t u : TEW) : TEW := fun ρ S Q => t ρ S fun x S1 => match x with
  | .bl c => (c = true → Q (.bl true) S1) ∧ (c = false → u ρ S1 Q)
  | _ => False
def wNotV (t : TEW) : TEW := fun ρ S Q => t ρ S fun x S1 => match x with
  | .bl c => Q (.bl (!c)) S1
  | _ => False
instance le_andV {t u : TE} {tw uw : TEW} [a : LE K B t tw] [b : LE K B u uw] : LE K B (tAndV t u) (wAndV tw uw) := ⟨fun σ H ρ S Q Qw hs hh q po =>
  a.l σ H ρ S _ _ hs hh q fun x H1 wx S1 t1 hh1 r1 q1 => by
    cases wx <;> try exact q1.elim
    rename_i c
    cases (show x = _ from r1)
    refine ⟨c, rfl, ?_⟩
    cases c with
    | true => rw [if_pos rfl]; exact b.l σ H1 ρ S1 _ _ (hs.tk t1) hh1 (q1.1 rfl) (po.tk t1)
    | false => rw [if_neg Bool.false_ne_true]; exact po.bl t1 hh1 (q1.2 rfl)⟩
instance le_orV {t u : TE} {tw uw : TEW} [a : LE K B t tw] [b : LE K B u uw] : LE K B (tOrV t u) (wOrV tw uw) := ⟨fun σ H ρ S Q Qw hs hh q po =>
  a.l σ H ρ S _ _ hs hh q fun x H1 wx S1 t1 hh1 r1 q1 => by
    cases wx <;> try exact q1.elim
    rename_i c
    cases (show x = _ from r1)
    refine ⟨c, rfl, ?_⟩
    cases c with
    | true => rw [if_pos rfl]; exact po.bl t1 hh1 (q1.1 rfl)
    | false => rw [if_neg Bool.false_ne_true]; exact b.l σ H1 ρ S1 _ _ (hs.tk t1) hh1 (q1.2 rfl) (po.tk t1)⟩
instance le_notV {t : TE} {tw : TEW} [a : LE K B t tw] : LE K B (tNotV t) (wNotV tw) := ⟨fun σ H ρ S Q Qw hs hh q po =>
  a.l σ H ρ S _ _ hs hh q fun x H1 wx S1 t1 hh1 r1 q1 => by
    cases wx <;> try exact q1.elim
    rename_i c
    cases (show x = _ from r1)
    exact ⟨c, rfl, po.bl t1 hh1 q1⟩⟩
def wIfE (t : TTW) (a b : TEW) : TEW := fun ρ S Q => t ρ S fun c S1 => (c = true → a ρ S1 Q) ∧ (c = false → b ρ S1 Q)
instance le_if {t : TT} {a b : TE} {tw : TTW} {aw bw : TEW} [h : LT K B t tw] [h1 : LE K B a aw] [h2 : LE K B b bw] : LE K B (tIf t a b) (wIfE tw aw bw) := ⟨fun σ H ρ S Q Qw hs hh q po =>
  h.l σ H ρ S _ _ hs hh q fun c H1 S1 t1 hh1 q1 => by
    cases c with
    | true => rw [if_pos rfl]; exact h1.l σ H1 ρ S1 _ _ (hs.tk t1) hh1 (q1.1 rfl) (po.tk t1)
    | false => rw [if_neg Bool.false_ne_true]; exact h2.l σ H1 ρ S1 _ _ (hs.tk t1) hh1 (q1.2 rfl) (po.tk t1)⟩

/-! ### displays, arguments -/
def wNil : TAW := fun _ S Q => Q [] S
def wCons (ta : TEW) (tr : TAW) : TAW := fun ρ S Q => ta ρ S fun x S1 => tr ρ S1 fun xs S2 => Q (x :: xs) S2
instance la_nil : LA K B tNil wNil := ⟨fun σ H ρ S Q Qw hs hh q po => po [] H [] S (Tk.refl H) hh (show RepL K H [] [] from rfl) q⟩
instance la_cons {ta : TE} {tr : TA} {wa : TEW} {wr : TAW} [a : LE K B ta wa] [b : LA K B tr wr] : LA K B (tCons ta tr) (wCons wa wr) := ⟨fun σ H ρ S Q Qw hs hh q po =>
  a.l σ H ρ S _ _ hs hh q fun x H1 wx S1 t1 hh1 r1 q1 => b.l σ H1 ρ S1 _ _ (hs.tk t1) hh1 q1 fun xs H2 ws S2 t2 hh2 r2 q2 =>
    po _ H2 _ S2 (t1.trans t2) hh2 (.cons (Rep.tk t2 _ _ r1) r2) q2⟩
/-- a size that is small at sight asks nothing -/
def fits (n : Nat) (A : Prop) : Prop := match Nat.ble n 1000 with
  | true => A
  | false => n ≤ sizeLine ∧ A
theorem fits_of {n : Nat} {A : Prop} (h : fits n A) : n ≤ sizeLine ∧ A := by
  unfold fits at h
  split at h
  · rename_i e
    exact ⟨Nat.le_trans (Nat.le_of_ble_eq_true e) (by decide), h⟩
  · exact h
theorem fits_mk {n : Nat} {A : Prop} (h : n ≤ sizeLine) (a : A) : fits n A := by
  unfold fits
  split
  · exact a
  · exact ⟨h, a⟩
def wTup (t : TAW) : TEW := fun ρ S Q => t ρ S fun ws S1 => fits ws.length (Q (.tup ws) S1)
def wLst (t : TAW) : TEW := fun ρ S Q => t ρ S fun ws S1 => fits ws.length (∀ p, S1 p = none → Q (.ref p) (put S1 p (.lst ws)))
instance le_tup {t : TA} {tw : TAW} [a : LA K B t tw] : LE K B (tTup t) (wTup tw) := ⟨fun σ H ρ S Q Qw hs hh q po =>
  a.l σ H ρ S _ _ hs hh q fun xs H1 ws S1 t1 hh1 r1 q1 => ⟨by rw [r1.length]; exact (fits_of q1).1, fun p hp =>
    (po.tk t1).ntup hp hh1 r1 (fits_of q1).2⟩⟩
instance le_lst {t : TA} {tw : TAW} [a : LA K B t tw] : LE K B (tLst t) (wLst tw) := ⟨fun σ H ρ S Q Qw hs hh q po =>
  a.l σ H ρ S _ _ hs hh q fun xs H1 ws S1 t1 hh1 r1 q1 => ⟨by rw [r1.length]; exact (fits_of q1).1, fun p hp =>
    (po.tk t1).nlst hp hh1 r1 (fits_of q1).2⟩⟩

/-! ### items, slices -/
theorem atI_of {H : Hp} {ws : List W} {xs : List V} {i : Int} {w : W} (r : RepL K H ws xs) (e : atI ws i = some w) : ∃ x, atI xs i = some x ∧ Rep K H w x := by
  unfold atI at e ⊢
  rw [r.length]
  cases q : ixN ws.length i with
  | none => rw [q] at e; cases e
  | some j =>
    rw [q] at e
    exact r.get e
def rdAt (o : Option W) (S : Sto) (Q : WK) : Prop := match o with
  | some w => Q w S
  | none => False
theorem rdAt_of {o : Option W} {S : Sto} {Q : WK} (h : rdAt o S Q) : ∃ w, o = some w ∧ Q w S := by
  cases o with
  | none => exact h.elim
  | some w => exact ⟨w, rfl, h⟩
def wIx : RW2 := fun x y S Q => match x, y with
  | .tup ws, .int i => rdAt (atI ws i) S Q
  | .rl ws, .int i => rdAt (atI ws i) S Q
  | .ref a, .int i => ∃ ws, S a = some (.lst ws) ∧ rdAt (atI ws i) S Q
  | .str z, .int i => z.length ≤ sizeLine ∧ ∃ c, atI z.cps.toList i = some c ∧ Q (.str ⟨#[c]⟩) S
  | _, _ => False
instance l2_ix : L2R K (rIx K) wIx := ⟨fun H S x y wx wy Q Qw hh rx ry q po => by
  cases wx <;> cases wy <;> try exact q.elim
  · cases (show x = _ from rx); cases (show y = _ from ry)
    obtain ⟨hl, c, e, q⟩ := q
    exact .inr (.inr ⟨_, _, c, rfl, rfl, hl, e, po.str (Tk.refl H) hh q⟩)
  · cases (show x = _ from rx); cases (show y = _ from ry)
    obtain ⟨ws, e, q⟩ := q
    obtain ⟨w, e2, q⟩ := rdAt_of q
    obtain ⟨xs, h1, h2⟩ := hh _ _ e
    obtain ⟨v, e3, r⟩ := atI_of h2 e2
    exact .inl ⟨_, xs, _, v, rfl, rfl, SqL.of h1, e3, po v H w S (Tk.refl H) hh r q⟩
  · cases (show y = _ from ry)
    obtain ⟨a, xs, rfl, h1, h2⟩ := rx
    obtain ⟨w, e2, q⟩ := rdAt_of q
    obtain ⟨v, e3, r⟩ := atI_of h2 e2
    exact .inr (.inl ⟨_, xs, _, v, rfl, rfl, h1, e3, po v H w S (Tk.refl H) hh r q⟩)
  · cases (show y = _ from ry)
    obtain ⟨a, xs, rfl, h1, h2⟩ := rx
    obtain ⟨w, e2, q⟩ := rdAt_of q
    obtain ⟨v, e3, r⟩ := atI_of h2 e2
    exact .inl ⟨_, xs, _, v, rfl, rfl, h1.sq, e3, po v H w S (Tk.refl H) hh r q⟩⟩

end Wl
set_option Elab.async false
set_option linter.all false
set_option maxRecDepth 100000
set_option maxHeartbeats 2000000
namespace HT
open PySem PySem.Spec PyProof.Rows L2
variable {prog : Program} {w : World} {A : Around} {E : Value → Shared → Prop} {s : Shared}
theorem getItem_tuple_whole {t sl : Addr} {items : Array Value} {vl vu : Value} {lo hi : Option Int} {Q : Value → Shared → Prop} (ht : IsTup s.heap t items) (hs : s.heap.IsSliceOf sl vl vu .none) (pl : IsPart vl lo) (pu : IsPart vu hi)
    (hw : sIx items.size 0 lo = 0 ∧ sIx items.size items.size hi = items.size)
    (h : Q (.ref t) s) : wpAny (model prog w) A (getItem (.ref t) (.ref sl)) Q E s := by
  obtain ⟨os, hos, hcs, hds⟩ := id hs
  have hTs : s.TypeIs (.ref sl) "slice" := ⟨os, hos, hcs⟩
  unfold getItem
  try with_reducible refine wpAny_holding ?_
  first | refine wpAny_bind (wpAny_pure ?_) | skip
  refine wpAny_bind (wpAny_sequenceKey ht.typeIs (by decide) ?_)
  refine wpAny_bind (wpAny_callSpecial?_slot (name := Str.ofString "__getitem__") ht.typeIs PyProof.Rows.slot_tuple_getitem
    (wpAny_call_entry PyProof.Rows.slot_tuple_getitem ht.typeIs entry_tuple_getitem ?_ (args_tuple_getitem _ _)))
  show wpAny _ _ (Builtin.Tuple.tupleItemsOf (.ref t) >>= _) _ _ s
  refine wpAny_bind (tupleItemsOf_ ht ?_)
  refine wpAny_bind (wpAny_typeOf hTs ?_)
  rw [if_pos (by decide)]
  refine wpAny_bind (sliceApplied_gen hs pl pu ?_)
  have hyes : ((((sIx items.size 0 lo : Nat) : Int) == 0 && (1 : Int) == 1 && (sIx items.size items.size hi - sIx items.size 0 lo) == items.size) = true) := by
    rw [hw.1, hw.2]
    simp
  show wpAny _ _ (if (((sIx items.size 0 lo : Nat) : Int) == 0 && (1 : Int) == 1 && (sIx items.size items.size hi - sIx items.size 0 lo) == items.size) = true then _ else _) _ _ s
  rw [if_pos hyes]
  have hT : s.TypeIs (.ref t) "tuple" := ht.typeIs
  first
    | exact wpAny_pure ⟨_, rfl, wpAny_pure h⟩
    | exact wpAny_bind (wpAny_pure ⟨_, rfl, wpAny_pure h⟩)
    | (refine wpAny_bind (wpAny_typeOf hT ?_); rw [if_pos (by decide)]; exact wpAny_pure ⟨_, rfl, wpAny_pure h⟩)
    | (refine wpAny_bind (wpAny_bind (wpAny_typeOf hT ?_))
       refine wpAny_pure ?_
       rw [if_pos (by decide)]
       exact wpAny_bind (wpAny_rule (wpAny_pure ⟨_, rfl, wpAny_pure h⟩)))
end HT
namespace Wl
open PySem PySem.Spec PyProof.Rows L2
variable {K : PySem.W.Frag} {B : Hp}

/-! ### slices -/
def rSlTw (K : PySem.W.Frag) : V → Option Int → Option Int → Hp → VK → Prop := fun x lo hi H Q => ∃ a xs, x = .ref a ∧ SqT K H a xs ∧ (HT.sIx xs.length 0 lo = 0 ∧ HT.sIx xs.length xs.length hi = xs.length) ∧ Q (.ref a) H
theorem sl_tupw {X : Cx} : SlR X (rSlTw X.K) := by
  intro pins s σ H x v vl vu lo hi sl Q I rx hs pl pu h
  obtain ⟨a, xs, rfl, hx, hw, q⟩ := h
  cases rx
  obtain ⟨its, r, ht, hz⟩ := I.tuple hx
  have hlen : its.toArray.size = xs.length := by rw [List.size_toArray]; exact r.length.symm
  refine ⟨"tuple", _, PyProof.Rows.slot_tuple_getitem.lookup, ht.typeIs, ?_⟩
  exact HT.getItem_tuple_whole ht hs pl pu (by rw [hlen]; exact hw) ⟨.ref a, H, I, rfl, q⟩
def rSlA (K : PySem.W.Frag) : V → Option Int → Option Int → Hp → VK → Prop := fun x lo hi H Q => rSlS x lo hi H Q ∨ rSlL K x lo hi H Q ∨ rSlT K x lo hi H Q ∨ rSlTw K x lo hi H Q
theorem sl_A {X : Cx} : SlR X (rSlA X.K) := by
  intro pins s σ H x v vl vu lo hi sl Q I rx hs pl pu h
  rcases h with h | h | h | h
  · exact sl_str pins s σ H x v vl vu lo hi sl Q I rx hs pl pu h
  · exact sl_list pins s σ H x v vl vu lo hi sl Q I rx hs pl pu h
  · exact sl_tup pins s σ H x v vl vu lo hi sl Q I rx hs pl pu h
  · exact sl_tupw pins s σ H x v vl vu lo hi sl Q I rx hs pl pu h
def cutL {α : Type} (xs : List α) (lo hi : Option Int) : List α := (xs.drop (HT.sIx xs.length 0 lo)).take (HT.sIx xs.length xs.length hi - HT.sIx xs.length 0 lo)
theorem cutL_rep {H : Hp} {ws : List W} {xs : List V} (r : RepL K H ws xs) (lo hi : Option Int) : RepL K H (cutL ws lo hi) (cutV xs lo hi) := by
  unfold cutL cutV
  rw [r.length]
  exact (r.drop _).take _
theorem cutL_whole {ws : List W} {lo hi : Option Int} (h : HT.sIx ws.length 0 lo = 0 ∧ HT.sIx ws.length ws.length hi = ws.length) : cutL ws lo hi = ws := by
  unfold cutL
  rw [h.1, h.2]
  simp
def wSlR (x : W) (lo hi : Option Int) (S : Sto) (Q : WK) : Prop := match x with
  | .str z => z.length ≤ sizeLine ∧ Q (.str (cutS z lo hi)) S
  | .tup ws => Q (.tup (cutL ws lo hi)) S
  | .rl ws => ∀ p, S p = none → Q (.ref p) (put S p (.lst (cutL ws lo hi)))
  | .ref a => ∃ ws, S a = some (.lst ws) ∧ ∀ p, S p = none → Q (.ref p) (put S p (.lst (cutL ws lo hi)))
  | _ => False
def wSl (te : TEW) (tl th : TOW) : TEW := fun ρ S Q => te ρ S fun x S1 => tl ρ S1 fun l S2 => th ρ S2 fun u S3 => wSlR x l u S3 Q
def wNoPart : TOW := fun _ S Q => Q none S
def wPart (t : TEW) : TOW := fun ρ S Q => t ρ S fun x S1 => match x with
  | .int i => Q (some i) S1
  | _ => False
instance lo_none : LO K B tNoPart wNoPart := ⟨fun σ H ρ S Q Qw hs hh q po => po _ H S (Tk.refl H) hh q⟩
instance lo_some {t : TE} {tw : TEW} [a : LE K B t tw] : LO K B (tPart t) (wPart tw) := ⟨fun σ H ρ S Q Qw hs hh q po => a.l σ H ρ S _ _ hs hh q fun x H1 wx S1 t1 hh1 r1 q1 => by
  cases wx <;> try exact q1.elim
  cases (show x = _ from r1)
  exact ⟨_, rfl, po _ H1 S1 t1 hh1 q1⟩⟩
instance le_sl {te : TE} {tl th : TO} {we : TEW} {wl wh : TOW} [a : LE K B te we] [b : LO K B tl wl] [c : LO K B th wh] : LE K B (tSl (rSlA K) te tl th) (wSl we wl wh) := ⟨fun σ H ρ S Q Qw hs hh q po =>
  a.l σ H ρ S _ _ hs hh q fun x H1 wx S1 t1 hh1 r1 q1 => b.l σ H1 ρ S1 _ _ (hs.tk t1) hh1 q1 fun lo H2 S2 t2 hh2 q2 => c.l σ H2 ρ S2 _ _ (hs.tk (t1.trans t2)) hh2 q2 fun hi H3 S3 t3 hh3 q3 => by
    have rx := Rep.tk (t2.trans t3) _ _ r1
    have t := (t1.trans t2).trans t3
    cases wx <;> try exact q3.elim
    · cases (show x = _ from rx)
      exact .inl ⟨_, rfl, q3.1, po.str t hh3 q3.2⟩
    · cases (show x = _ from rx)
      obtain ⟨ws, e, q⟩ := q3
      obtain ⟨xs, h1, h2⟩ := hh3 _ _ e
      exact .inr (.inl ⟨_, xs, rfl, SqL.of h1, fun p hp => (po.tk t).nlst hp hh3 (cutL_rep h2 lo hi) q⟩)
    · obtain ⟨a, xs, rfl, h1, h2⟩ := rx
      rename_i ws
      by_cases hw : HT.sIx xs.length 0 lo = 0 ∧ HT.sIx xs.length xs.length hi = xs.length
      · refine .inr (.inr (.inr ⟨a, xs, rfl, h1, hw, ?_⟩))
        have q4 : Qw (.tup (cutL ws lo hi)) S3 := q3
        rw [cutL_whole (by rw [← h2.length]; exact hw)] at q4
        exact po.tup t hh3 h1 h2 q4
      · exact .inr (.inr (.inl ⟨a, xs, rfl, h1, hw, fun p hp => (po.tk t).ntup hp hh3 (cutL_rep h2 lo hi) q3⟩))
    · obtain ⟨a, xs, rfl, h1, h2⟩ := rx
      exact .inr (.inl ⟨a, xs, rfl, h1.sq, fun p hp => (po.tk t).nlst hp hh3 (cutL_rep h2 lo hi) q3⟩)⟩

/-! ### built-in calls -/
def wCB (r : RWC) (t : TAW) : TEW := fun ρ S Q => t ρ S fun ws S1 => r ws S1 Q
instance le_cb {r : List V → Hp → VK → Prop} {t : TA} {rw : RWC} {tw : TAW} [h : LCR K r rw] [a : LA K B t tw] : LE K B (tCB r t) (wCB rw tw) := ⟨fun σ H ρ S Q Qw hs hh q po =>
  a.l σ H ρ S _ _ hs hh q fun xs H1 ws S1 t1 hh1 r1 q1 => h.l H1 S1 xs ws Q Qw hh1 r1 q1 (po.tk t1)⟩
theorem rep1 {H : Hp} {w : W} {xs : List V} (r : RepL K H [w] xs) : ∃ x, xs = [x] ∧ Rep K H w x := by
  obtain ⟨x, r, rfl, h1, h2⟩ := r
  cases (show r = [] from h2)
  exact ⟨x, rfl, h1⟩
theorem rep2 {H : Hp} {w z : W} {xs : List V} (r : RepL K H [w, z] xs) : ∃ x y, xs = [x, y] ∧ Rep K H w x ∧ Rep K H z y := by
  obtain ⟨x, r, rfl, h1, h2⟩ := r
  obtain ⟨y, rfl, h3⟩ := rep1 h2
  exact ⟨x, y, rfl, h1, h3⟩
/-- len -/
def wLen : RWC := fun ws S Q => match ws with
  | [.str z] => z.length ≤ sizeLine ∧ Q (.int z.length) S
  | [.tup ws] => Q (.int ws.length) S
  | [.rl ws] => Q (.int ws.length) S
  | [.ref a] => ∃ ws, S a = some (.lst ws) ∧ Q (.int ws.length) S
  | _ => False
abbrev rLenA (K : PySem.W.Frag) : List V → Hp → VK → Prop := fun xs H Q => ∃ x n, xs = [x] ∧ LenV K x H n ∧ Q (.int n) H
instance lc_len : LCR K (rLenA K) wLen := ⟨fun H S xs ws Q Qw hh r q po => by
  unfold wLen at q
  split at q
  · obtain ⟨x, rfl, h1⟩ := rep1 r
    cases (show x = _ from h1)
    exact ⟨_, _, rfl, ⟨q.1, rfl⟩, po.int (Tk.refl H) hh q.2⟩
  · obtain ⟨x, rfl, a, xs, rfl, h1, h2⟩ := rep1 r
    exact ⟨_, _, rfl, .inr ⟨xs, h1, h2.length.symm⟩, po.int (Tk.refl H) hh q⟩
  · obtain ⟨x, rfl, a, xs, rfl, h1, h2⟩ := rep1 r
    exact ⟨_, _, rfl, .inl ⟨xs, h1.sq, h2.length.symm⟩, po.int (Tk.refl H) hh q⟩
  · obtain ⟨x, rfl, h1⟩ := rep1 r
    cases (show x = _ from h1)
    obtain ⟨ws, e, q⟩ := q
    obtain ⟨xs, h1, h2⟩ := hh _ _ e
    exact ⟨_, _, rfl, .inl ⟨xs, SqL.of h1, h2.length.symm⟩, po.int (Tk.refl H) hh q⟩
  · exact q.elim⟩
/-- one int in, one out -/
def w1I (f : Int → Int) : RWC := fun ws S Q => match ws with
  | [.int i] => Q (.int (f i)) S
  | _ => False
instance lc_abs : LCR K (fun xs H Q => ∃ i, xs = [.int i] ∧ Q (.int (if i < 0 then -i else i)) H) (w1I fun i => if i < 0 then -i else i) := ⟨fun H S xs ws Q Qw hh r q po => by
  unfold w1I at q
  split at q
  · obtain ⟨x, rfl, h1⟩ := rep1 r
    cases (show x = _ from h1)
    exact ⟨_, rfl, po.int (Tk.refl H) hh q⟩
  · exact q.elim⟩
def w2I (f : Int → Int → Int) : RWC := fun ws S Q => match ws with
  | [.int i, .int j] => Q (.int (f i j)) S
  | _ => False
instance lc_2i {f : Int → Int → Int} : LCR K (fun xs H Q => ∃ i j, xs = [.int i, .int j] ∧ Q (.int (f i j)) H) (w2I f) := ⟨fun H S xs ws Q Qw hh r q po => by
  unfold w2I at q
  split at q
  · obtain ⟨x, y, rfl, h1, h2⟩ := rep2 r
    cases (show x = _ from h1)
    cases (show y = _ from h2)
    exact ⟨_, _, rfl, po.int (Tk.refl H) hh q⟩
  · exact q.elim⟩
/-- int(n), int(flag) -/
def wInt1 : RWC := fun ws S Q => match ws with
  | [.int i] => Q (.int i) S
  | [.bl k] => Q (.int (if k then 1 else 0)) S
  | _ => False
instance lc_int : LCR K (fun xs H Q => (∃ i, xs = [.int i] ∧ Q (.int i) H) ∨ ∃ k, xs = [.bl k] ∧ Q (.int (if k then 1 else 0)) H) wInt1 := ⟨fun H S xs ws Q Qw hh r q po => by
  unfold wInt1 at q
  split at q
  · obtain ⟨x, rfl, h1⟩ := rep1 r
    cases (show x = _ from h1)
    exact .inl ⟨_, rfl, po.int (Tk.refl H) hh q⟩
  · obtain ⟨x, rfl, h1⟩ := rep1 r
    cases (show x = _ from h1)
    exact .inr ⟨_, rfl, po.int (Tk.refl H) hh q⟩
  · exact q.elim⟩
/-- str(n) -/
def wStr1 : RWC := fun ws S Q => match ws with
  | [.int i] => i.natAbs.log2 < 1920 ∧ Q (.str (toString i)) S
  | _ => False
instance lc_str : LCR K (fun xs H Q => ∃ i, xs = [.int i] ∧ i.natAbs.log2 < 1920 ∧ Q (.str (toString i)) H) wStr1 := ⟨fun H S xs ws Q Qw hh r q po => by
  unfold wStr1 at q
  split at q
  · obtain ⟨x, rfl, h1⟩ := rep1 r
    cases (show x = _ from h1)
    exact ⟨_, rfl, q.1, po.str (Tk.refl H) hh q.2⟩
  · exact q.elim⟩
/-- list(xs) -/
abbrev rListA (K : PySem.W.Frag) : List V → Hp → VK → Prop := fun xs H Q => ∃ p ys, xs = [.ref p] ∧ (SqL K H p ys ∨ SqT K H p ys) ∧ ∀ l, H l = none → Q (.ref l) (upd H l (.lst ys))
def wList : RWC := fun ws S Q => match ws with
  | [.tup ws] => ∀ p, S p = none → Q (.ref p) (put S p (.lst ws))
  | [.rl ws] => ∀ p, S p = none → Q (.ref p) (put S p (.lst ws))
  | [.ref a] => ∃ ws, S a = some (.lst ws) ∧ ∀ p, S p = none → Q (.ref p) (put S p (.lst ws))
  | _ => False
instance lc_list : LCR K (rListA K) wList := ⟨fun H S xs ws Q Qw hh r q po => by
  unfold wList at q
  split at q
  · obtain ⟨x, rfl, a, xs, rfl, h1, h2⟩ := rep1 r
    exact ⟨a, xs, rfl, .inr h1, fun p hp => po.nlst hp hh h2 q⟩
  · obtain ⟨x, rfl, a, xs, rfl, h1, h2⟩ := rep1 r
    exact ⟨a, xs, rfl, .inl h1.sq, fun p hp => po.nlst hp hh h2 q⟩
  · obtain ⟨x, rfl, h1⟩ := rep1 r
    cases (show x = _ from h1)
    obtain ⟨ws, e, q⟩ := q
    obtain ⟨xs, h1, h2⟩ := hh _ _ e
    exact ⟨_, xs, rfl, .inl (SqL.of h1), fun p hp => po.nlst hp hh h2 q⟩
  · exact q.elim⟩
/-- tuple(xs) -/
abbrev rTupA (K : PySem.W.Frag) : List V → Hp → VK → Prop := fun xs H Q => ∃ p ys, xs = [.ref p] ∧ ((SqL K H p ys ∧ ∀ l, H l = none → Q (.ref l) (upd H l (.tup ys))) ∨ (SqT K H p ys ∧ Q (.ref p) H))
def wTupC : RWC := fun ws S Q => match ws with
  | [.tup ws] => Q (.tup ws) S
  | [.rl ws] => Q (.tup ws) S
  | [.ref a] => ∃ ws, S a = some (.lst ws) ∧ Q (.tup ws) S
  | _ => False
instance lc_tuple : LCR K (rTupA K) wTupC := ⟨fun H S xs ws Q Qw hh r q po => by
  unfold wTupC at q
  split at q
  · obtain ⟨x, rfl, a, xs, rfl, h1, h2⟩ := rep1 r
    exact ⟨a, xs, rfl, .inr ⟨h1, po.tup (Tk.refl H) hh h1 h2 q⟩⟩
  · obtain ⟨x, rfl, a, xs, rfl, h1, h2⟩ := rep1 r
    exact ⟨a, xs, rfl, .inl ⟨h1.sq, fun p hp => po.ntup hp hh h2 q⟩⟩
  · obtain ⟨x, rfl, h1⟩ := rep1 r
    cases (show x = _ from h1)
    obtain ⟨ws, e, q⟩ := q
    obtain ⟨xs, h1, h2⟩ := hh _ _ e
    exact ⟨_, xs, rfl, .inl ⟨SqL.of h1, fun p hp => po.ntup hp hh h2 q⟩⟩
  · exact q.elim⟩
/-- sum, all, any of a list -/
instance lc_sum : LCR K (rSum K) (fun ws S Q => ∃ (a : Addr) (ns : List Int), ws = [.ref a] ∧ S a = some (.lst (ns.map W.int)) ∧ Q (.int ns.sum) S) := ⟨fun H S xs ws Q Qw hh r q po => by
  obtain ⟨a, ns, rfl, e, q⟩ := q
  obtain ⟨x, rfl, h1⟩ := rep1 r
  cases (show x = _ from h1)
  obtain ⟨xs, h1, h2⟩ := hh _ _ e
  rw [h2.ints] at h1
  exact ⟨a, ns, rfl, SqL.of h1, po.int (Tk.refl H) hh q⟩⟩
def wAllC : RWC := fun ws S Q => ∃ (a : Addr) (bs : List Bool), ws = [.ref a] ∧ S a = some (.lst (bs.map W.bl)) ∧ Q (.bl (bs.all id)) S
def wAnyC : RWC := fun ws S Q => ∃ (a : Addr) (bs : List Bool), ws = [.ref a] ∧ S a = some (.lst (bs.map W.bl)) ∧ Q (.bl (bs.any id)) S
instance lc_all : LCR K (rAll K) wAllC := ⟨fun H S xs ws Q Qw hh r q po => by
  obtain ⟨a, ns, rfl, e, q⟩ := q
  obtain ⟨x, rfl, h1⟩ := rep1 r
  cases (show x = _ from h1)
  obtain ⟨xs, h1, h2⟩ := hh _ _ e
  rw [h2.bls] at h1
  exact ⟨a, ns, rfl, SqL.of h1, po.bl (Tk.refl H) hh q⟩⟩
instance lc_any : LCR K (rAny K) wAnyC := ⟨fun H S xs ws Q Qw hh r q po => by
  obtain ⟨a, ns, rfl, e, q⟩ := q
  obtain ⟨x, rfl, h1⟩ := rep1 r
  cases (show x = _ from h1)
  obtain ⟨xs, h1, h2⟩ := hh _ _ e
  rw [h2.bls] at h1
  exact ⟨a, ns, rfl, SqL.of h1, po.bl (Tk.refl H) hh q⟩⟩

/-! isinstance of built-in types -/
def tyName : W → Sto → Option String
  | .non, _ => some "NoneType" | .bl _, _ => some "bool" | .int _, _ => some "int" | .str _, _ => some "str"
  | .tup _, _ => some "tuple" | .rl _, _ => some "list" | .ty _, _ => none
  | .ref a, S => match S a with
    | some (.lst _) => some "list"
    | some (.dk _) => some "dict"
    | _ => none
def isTy (a b : String) : Option Bool :=
  if b = "int" then (if a = "int" ∨ a = "bool" then some true else if a = "str" ∨ a = "tuple" ∨ a = "list" ∨ a = "dict" ∨ a = "NoneType" then some false else none)
  else if b = "bool" ∨ b = "str" ∨ b = "tuple" ∨ b = "list" ∨ b = "dict" then
    (if a = b then some true else if a = "int" ∨ a = "bool" ∨ a = "str" ∨ a = "tuple" ∨ a = "list" ∨ a = "dict" ∨ a = "NoneType" then some false else none)
  else none
theorem isTy_kit {a b : String} {r : Bool} (h : isTy a b = some r) : kitB a b = some r := by
  have hb : b = "int" ∨ b = "bool" ∨ b = "str" ∨ b = "tuple" ∨ b = "list" ∨ b = "dict" := by
    unfold isTy at h
    split at h
    · exact .inl (by assumption)
    · split at h
      · exact .inr (by assumption)
      · cases h
  have ha : a = "int" ∨ a = "bool" ∨ a = "str" ∨ a = "tuple" ∨ a = "list" ∨ a = "dict" ∨ a = "NoneType" := by
    unfold isTy at h
    split at h
    · split at h
      · rename_i q; rcases q with q | q
        · exact .inl q
        · exact .inr (.inl q)
      · split at h
        · rename_i q; exact .inr (.inr q)
        · cases h
    · split at h
      · rename_i q
        split at h
        · rename_i e
          rcases q with q | q | q | q | q
          · exact .inr (.inl (e.trans q))
          · exact .inr (.inr (.inl (e.trans q)))
          · exact .inr (.inr (.inr (.inl (e.trans q))))
          · exact .inr (.inr (.inr (.inr (.inl (e.trans q)))))
          · exact .inr (.inr (.inr (.inr (.inr (.inl (e.trans q))))))
        · split at h
          · assumption
          · cases h
      · cases h
  rcases hb with rfl | rfl | rfl | rfl | rfl | rfl <;> rcases ha with rfl | rfl | rfl | rfl | rfl | rfl | rfl <;>
    (rw [← h]; decide +kernel)
theorem tyX_of {H : Hp} {S : Sto} {w : W} {v : V} {n : String} (hh : HRep K H S) (r : Rep K H w v) (h : tyName w S = some n) : TyX K H v (.type n) := by
  cases w with
  | non => cases (show v = _ from r); cases h; exact .base .non
  | bl b => cases (show v = _ from r); cases h; exact .base (.bl b)
  | int b => cases (show v = _ from r); cases h; exact .base (.int b)
  | str b => cases (show v = _ from r); cases h; exact .base (.str b)
  | ty n => cases h
  | ref a =>
    cases (show v = _ from r)
    unfold tyName at h
    simp only at h
    split at h
    · rename_i e
      cases h
      obtain ⟨xs, h1, _⟩ := hh _ _ e
      exact .base (.lst h1)
    · rename_i e
      cases h
      obtain ⟨xs, h1, _⟩ := hh _ _ e
      exact .base (.dK h1)
    · cases h
  | tup ws =>
    obtain ⟨a, xs, rfl, h1, _⟩ := r
    cases h
    rcases h1 with (h1 | ⟨o, h1⟩) | ⟨o, its, n, h1, h2, _⟩
    · exact .base (.tup h1)
    · exact .fTuple h1
    · exact .kTuple h1 h2
  | rl ws =>
    obtain ⟨a, xs, rfl, h1, _⟩ := r
    cases h
    rcases h1 with ⟨o, h1⟩ | ⟨o, its, n, h1, h2, _⟩
    · exact .base (.frz h1)
    · exact .kList h1 h2
def wIsi : RWC := fun ws S Q => match ws with
  | [x, .ty n] => ∃ t b, tyName x S = some t ∧ isTy t n = some b ∧ Q (.bl b) S
  | _ => False
instance lc_isi : LCR K (rIsi K) wIsi := ⟨fun H S xs ws Q Qw hh r q po => by
  unfold wIsi at q
  split at q
  · obtain ⟨x, y, rfl, h1, h2⟩ := rep2 r
    cases (show y = _ from h2)
    obtain ⟨t, b, e1, e2, q⟩ := q
    exact ⟨x, _, _, _, b, rfl, .ty _, tyX_of hh h1 e1, kit_ty (isTy_kit e2), po.bl (Tk.refl H) hh q⟩
  · exact q.elim⟩

/-! ### calls of the text's own defs -/
abbrev SpW := List W → Sto → WK → Prop
def liftSp (K : PySem.W.Frag) (sp : SpW) : Sp := fun vs H Q _ => ∃ ws S Qw, RepL K H ws vs ∧ HRep K H S ∧ sp ws S Qw ∧ PoE K H Q Qw
def wCall (sp : SpW) (t : TAW) : TEW := fun ρ S Q => t ρ S fun ws S1 => sp ws S1 Q
instance le_call {sp : SpW} {E : XK} {t : TA} {tw : TAW} [a : LA K B t tw] : LE K B (tCall (liftSp K sp) [] E t) (wCall sp tw) := ⟨fun σ H ρ S Q Qw hs hh q po =>
  a.l σ H ρ S _ _ hs hh q fun xs H1 ws S1 t1 hh1 r1 q1 => ⟨ws, S1, Qw, by rw [List.append_nil]; exact r1, hh1, q1, po.tk t1⟩⟩
section
variable {P : Program} {w : World} {mg : Str → Option Value} {base : Heap}
structure CalW (P : Program) (w : World) (K : PySem.W.Frag) (mg : Str → Option Value) (base : Heap) (k : Nat) (x : Str) (sp : SpW) : Prop where
  ex : ∃ (f : Addr) (fd : FuncData) (ps : List Str), FnOk P w K mg base CX0 k f fd ps (liftSp K sp) ∧ mg x = some (.ref f) ∧ PySem.W.keepIn K (.ref f) = true ∧ Binds K fd ps []
theorem CalW.mono {j k : Nat} {x : Str} {sp : SpW} (c : CalW P w K mg base j x sp) (h : j ≤ k) : CalW P w K mg base k x sp := by
  obtain ⟨f, fd, ps, F, r⟩ := c.ex
  exact ⟨f, fd, ps, F.mono h, r⟩
theorem CalW.imp {k : Nat} {x : Str} {sp sp' : SpW} (c : CalW P w K mg base k x sp) (h : ∀ ws S Q, sp' ws S Q → sp ws S Q) : CalW P w K mg base k x sp' := by
  obtain ⟨f, fd, ps, F, r⟩ := c.ex
  exact ⟨f, fd, ps, F.imp fun vs H Q E ⟨ws, S, Qw, h1, h2, h3, h4⟩ => ⟨ws, S, Qw, h1, h2, h _ _ _ h3, h4⟩, r⟩
theorem pe_w {X : Cx} {k j : Nat} {x : Str} {sp : SpW} {p pos : Pos} {e : Expr} {es : List Expr} {t : TA} (c : CalW X.prog X.w X.K X.mg X.base k x sp) (hr : Room j X.A) (hk : k ≤ j) (hg : Gl X x) (ha : PA X (e :: es) t)
    (hdb : (x == ("__debug__" : Str)) = false := by decide) (he : starEach (e :: es) X.env = (false, eval e X.env) :: starEach es X.env := by rfl) (hpl : (backTo pos (starEach es X.env)).any (·.1) = false := by rfl) :
    PE X (.Call (.Name x p) (e :: es) [] pos) (tCall (liftSp X.K sp) [] E0 t) := by
  obtain ⟨f, fd, ps, F, hm, kp, b⟩ := c.ex
  exact pe_call F (hr.mono hk) hg hm kp b .nil pass0 ha hdb he hpl
theorem pe_w0 {X : Cx} {k j : Nat} {x : Str} {sp : SpW} {p pos : Pos} (c : CalW X.prog X.w X.K X.mg X.base k x sp) (hr : Room j X.A) (hk : k ≤ j) (hg : Gl X x)
    (hdb : (x == ("__debug__" : Str)) = false := by decide) : PE X (.Call (.Name x p) [] [] pos) (tCall (liftSp X.K sp) [] E0 tNil) := by
  obtain ⟨f, fd, ps, F, hm, kp, b⟩ := c.ex
  exact pe_call0 F (hr.mono hk) hg hm kp b .nil pass0 hdb
/-- behind a def's end what is wanted may speak of a smaller store -/
def Fg (Q : WK) : WK := fun v S => ∃ S', Sub S' S ∧ Q v S'
theorem Fg.here {Q : WK} {v : W} {S : Sto} (h : Q v S) : Fg Q v S := ⟨S, Sub.refl S, h⟩
theorem calW {x : Str} {st : Stmt} {f : Addr} {fd : FuncData} {N ps : List Str} {k : Nat} {sp : SpW} (F : Fun K x x st f fd) (hm : mg x = some (.ref f)) (b : Binds K fd ps []) (SC : FnScope N ps (defScope st))
    (len : ∀ ws S Q, sp ws S Q → ws.length = ps.length)
    (hbody : ∀ (cdv : Value) (A : Around) (outer : List Env) (s : Shared) (H : Hp) (E : XK), Room k (A.deeper (envOfC x (defScope st) s.heap.objs.size f cdv)) →
      ∃ t tw, PSs (cxOf CX0 P w K mg base N x (defScope st) f cdv A outer s H E).nox (defBody st) t ∧ LS K H t tw ∧ ∀ ws S Q, sp ws S Q → tw { nx := fun _ S' => Fg Q .non S', rt := Fg Q } (startW N ws) S) :
    CalW P w K mg base (k + 1) x sp :=
  ⟨f, fd, ps, F.ok SC (fun vs H Q E ⟨ws, S, Qw, h1, _, h3, _⟩ => by rw [h1.length]; exact len _ _ _ h3) (fun cdv A outer s H vs Q E hr ⟨ws, S, Qw, h1, h2, h3, h4⟩ => by
    obtain ⟨t, tw, ht, hl, hq⟩ := hbody cdv A outer s H E hr
    refine ⟨t, ht, hl.l _ H (startW N ws) S _ _ (SRep.init h1) h2 (hq ws S Qw h3) ⟨?_, fun _ _ _ _ _ _ _ z => z.elim, fun _ _ _ _ _ _ _ z => z.elim, ?_⟩⟩
    · rintro σ' H' ρ' S' t1 _ hh ⟨S2, sub, q⟩
      exact h4.non t1 (hh.sub sub) q
    · rintro v H' w S' t1 hh r ⟨S2, sub, q⟩
      exact h4 v H' w S2 t1 (hh.sub sub) r q), hm, F.kp, b⟩
end

/-! ### methods -/
def tyB (T : String) : W → Sto → Prop
  | .str _, _ => T = "str"
  | .int _, _ => T = "int"
  | .rl _, _ => T = "list"
  | .ref a, S => (T = "list" ∧ ∃ ws, S a = some (.lst ws)) ∨ (T = "dict" ∧ ∃ kvs, S a = some (.dk kvs))
  | _, _ => False
theorem tyB_of {H : Hp} {S : Sto} {T : String} {w : W} {v : V} (hh : HRep K H S) (r : Rep K H w v) (h : tyB T w S) : tyV K T v H := by
  cases w with
  | str x => cases (show v = _ from r); exact h
  | int x => cases (show v = _ from r); exact h
  | rl ws => obtain ⟨a, xs, rfl, h1, _⟩ := r; exact .inl ⟨h, xs, h1.sq⟩
  | ref a =>
    cases (show v = _ from r)
    rcases h with ⟨h, ws, e⟩ | ⟨h, kvs, e⟩
    · obtain ⟨xs, h1, _⟩ := hh _ _ e
      exact .inl ⟨h, xs, SqL.of h1⟩
    · obtain ⟨xs, h1, _⟩ := hh _ _ e
      exact .inr (.inr (.inl ⟨h, .inl ⟨xs, h1⟩⟩))
  | _ => exact h.elim
def wBM (T : String) (r : W → List W → Sto → WK → Prop) (to : TEW) (t : TAW) : TEW := fun ρ S Q => to ρ S fun x S1 => tyB T x S1 ∧ t ρ S1 fun xs S2 => r x xs S2 Q
def wBM0 (T : String) (r : W → List W → Sto → WK → Prop) (to : TEW) : TEW := fun ρ S Q => to ρ S fun x S1 => tyB T x S1 ∧ r x [] S1 Q
instance le_bm {T : String} {r : V → List V → Hp → VK → Prop} {to : TE} {t : TA} {rw : W → List W → Sto → WK → Prop} {wo : TEW} {tw : TAW} [h : LMR K r rw] [a : LE K B to wo] [b : LA K B t tw] : LE K B (tBM K T r to t) (wBM T rw wo tw) := ⟨fun σ H ρ S Q Qw hs hh q po =>
  a.l σ H ρ S _ _ hs hh q fun x H1 wx S1 t1 hh1 r1 q1 => ⟨tyB_of hh1 r1 q1.1, b.l σ H1 ρ S1 _ _ (hs.tk t1) hh1 q1.2 fun xs H2 ws S2 t2 hh2 r2 q2 => h.l H2 S2 x wx xs ws Q Qw hh2 (Rep.tk t2 _ _ r1) r2 q2 (po.tk (t1.trans t2))⟩⟩
instance le_bm0 {T : String} {r : V → List V → Hp → VK → Prop} {to : TE} {rw : W → List W → Sto → WK → Prop} {wo : TEW} [h : LMR K r rw] [a : LE K B to wo] : LE K B (tBM0 K T r to) (wBM0 T rw wo) := ⟨fun σ H ρ S Q Qw hs hh q po =>
  a.l σ H ρ S _ _ hs hh q fun x H1 wx S1 t1 hh1 r1 q1 => ⟨tyB_of hh1 r1 q1.1, h.l H1 S1 x wx [] [] Q Qw hh1 r1 RepL.nil q1.2 (po.tk t1)⟩⟩
def wAppend : W → List W → Sto → WK → Prop := fun x ws S Q => match x, ws with
  | .ref l, [y] => ∃ xs, S l = some (.lst xs) ∧ xs.length < sizeLine ∧ Q .non (put S l (.lst (xs ++ [y])))
  | _, _ => False
instance lm_append : LMR K rAppend wAppend := ⟨fun H S x wx xs ws Q Qw hh rx r q po => by
  unfold wAppend at q
  split at q
  · cases (show x = _ from rx)
    obtain ⟨y, rfl, ry⟩ := rep1 r
    obtain ⟨zs, e, hl, q⟩ := q
    obtain ⟨vs, h1, h2⟩ := hh _ _ e
    have t : Tk H (upd H _ (.lst (vs ++ [y]))) := Tk.mut h1 (fun _ z => (by cases z)) (fun _ _ z => (by cases z))
    obtain ⟨t, hm⟩ := hh.mut (c' := .lst _) (o := .lst (vs ++ [y])) e ⟨_, upd_same, (RepL.tk t _ _ h2).append (.one (Rep.tk t _ _ ry))⟩
    exact ⟨_, vs, y, rfl, rfl, h1, by rw [h2.length]; exact hl, po.non t hm q⟩
  · exact q.elim⟩
def wPop : W → List W → Sto → WK → Prop := fun x ws S Q => match x, ws with
  | .ref l, [] => ∃ xs y, S l = some (.lst xs) ∧ xs[xs.length - 1]? = some y ∧ Q y (put S l (.lst xs.dropLast))
  | _, _ => False
instance lm_pop : LMR K rPop wPop := ⟨fun H S x wx xs ws Q Qw hh rx r q po => by
  unfold wPop at q
  split at q
  · cases (show x = _ from rx)
    cases (show xs = [] from r)
    obtain ⟨zs, y, e, hy, q⟩ := q
    obtain ⟨vs, h1, h2⟩ := hh _ _ e
    obtain ⟨v, e2, rv⟩ := h2.get hy
    have t : Tk H (upd H _ (.lst vs.dropLast)) := Tk.mut h1 (fun _ z => (by cases z)) (fun _ _ z => (by cases z))
    obtain ⟨t, hm⟩ := hh.mut (c' := .lst _) (o := .lst vs.dropLast) e ⟨_, upd_same, (RepL.tk t _ _ h2).dropLast⟩
    exact ⟨_, vs, v, rfl, rfl, h1, by rw [h2.length]; exact e2, po v _ y _ t hm (Rep.tk t _ _ rv) q⟩
  · exact q.elim⟩
def wPopAt : W → List W → Sto → WK → Prop := fun x ws S Q => match x, ws with
  | .ref l, [.int i] => ∃ xs k y, S l = some (.lst xs) ∧ -(2 ^ 63) ≤ i ∧ i < 2 ^ 63 ∧ seqIndex? i xs.length = some k ∧ xs[k]? = some y ∧ Q y (put S l (.lst (xs.eraseIdx k)))
  | _, _ => False
instance lm_popAt : LMR K rPopAt wPopAt := ⟨fun H S x wx xs ws Q Qw hh rx r q po => by
  unfold wPopAt at q
  split at q
  · cases (show x = _ from rx)
    obtain ⟨i, rfl, ri⟩ := rep1 r
    cases (show i = _ from ri)
    obtain ⟨zs, k, y, e, b1, b2, b3, hy, q⟩ := q
    obtain ⟨vs, h1, h2⟩ := hh _ _ e
    obtain ⟨v, e2, rv⟩ := h2.get hy
    have t : Tk H (upd H _ (.lst (vs.eraseIdx k))) := Tk.mut h1 (fun _ z => (by cases z)) (fun _ _ z => (by cases z))
    obtain ⟨t, hm⟩ := hh.mut (c' := .lst _) (o := .lst (vs.eraseIdx k)) e ⟨_, upd_same, (RepL.tk t _ _ h2).eraseIdx k⟩
    exact ⟨_, vs, _, k, v, rfl, rfl, h1, b1, b2, by rw [h2.length]; exact b3, e2, po v _ y _ t hm (Rep.tk t _ _ rv) q⟩
  · exact q.elim⟩
def wReverse : W → List W → Sto → WK → Prop := fun x ws S Q => match x, ws with
  | .ref l, [] => ∃ xs, S l = some (.lst xs) ∧ Q .non (put S l (.lst xs.reverse))
  | _, _ => False
instance lm_reverse : LMR K rReverse wReverse := ⟨fun H S x wx xs ws Q Qw hh rx r q po => by
  unfold wReverse at q
  split at q
  · cases (show x = _ from rx)
    cases (show xs = [] from r)
    obtain ⟨zs, e, q⟩ := q
    obtain ⟨vs, h1, h2⟩ := hh _ _ e
    have t : Tk H (upd H _ (.lst vs.reverse)) := Tk.mut h1 (fun _ z => (by cases z)) (fun _ _ z => (by cases z))
    obtain ⟨t, hm⟩ := hh.mut (c' := .lst _) (o := .lst vs.reverse) e ⟨_, upd_same, (RepL.tk t _ _ h2).reverse⟩
    exact ⟨_, vs, rfl, rfl, h1, po.non t hm q⟩
  · exact q.elim⟩

/-! ### targets -/
def wName (i : Nat) : TGW := fun w ρ S Q => Q (ρ.set i (some w)) S
instance lg_name {i : Nat} : LG K B (gName i) (wName i) := ⟨fun v w σ H ρ S Q Qw r hs hh q po => po _ H _ S (Tk.refl H) (hs.set i r) hh q⟩
def wGNil : TGWs := fun ws ρ S Q => ws = [] ∧ Q ρ S
def wGCons (t : TGW) (u : TGWs) : TGWs := fun ws ρ S Q => match ws with
  | w :: r => t w ρ S fun ρ' S' => u r ρ' S' Q
  | [] => False
instance lgs_nil : LGs K B gNil wGNil := ⟨fun v w σ H ρ S Q Qw r hs hh q po => by
  obtain ⟨e, q⟩ := q
  subst e
  exact ⟨r, po _ H _ S (Tk.refl H) hs hh q⟩⟩
instance lgs_cons {t : TG} {u : TGs} {tw : TGW} {uw : TGWs} [a : LG K B t tw] [b : LGs K B u uw] : LGs K B (gCons t u) (wGCons tw uw) := ⟨fun v w σ H ρ S Q Qw r hs hh q po => by
  cases w with
  | nil => exact q.elim
  | cons w ws =>
    obtain ⟨x, xs, rfl, h1, h2⟩ := r
    exact ⟨x, xs, rfl, a.l x w σ H ρ S _ _ h1 hs hh q fun σ' H' ρ' S' t1 hs' hh' q' => b.l xs ws σ' H' ρ' S' _ _ (RepL.tk t1 _ _ h2) hs' hh' q' (po.tk t1)⟩⟩
def wGTup (n : Nat) (u : TGWs) : TGW := fun w ρ S Q => match w with
  | .tup ws => ws.length = n ∧ u ws ρ S Q
  | _ => False
instance lg_tup {n : Nat} {u : TGs} {uw : TGWs} [b : LGs K B u uw] : LG K B (gTup K n u) (wGTup n uw) := ⟨fun v w σ H ρ S Q Qw r hs hh q po => by
  cases w <;> try exact q.elim
  obtain ⟨a, xs, rfl, h1, h2⟩ := r
  exact ⟨a, xs, rfl, h1, by rw [h2.length]; exact q.1, b.l _ _ σ H ρ S _ _ h2 hs hh q.2 po⟩⟩
/-- xs[i] = e -/
def wGSub (to ti : TEW) : TGW := fun w ρ S Q => to ρ S fun o S1 => ti ρ S1 fun i S2 => match o, i with
  | .ref p, .int k => ∃ ws j, S2 p = some (.lst ws) ∧ ixN ws.length k = some j ∧ Q ρ (put S2 p (.lst (ws.set j w)))
  | _, _ => False
instance lg_sub {to ti : TE} {wo wi : TEW} [a : LE K B to wo] [b : LE K B ti wi] : LG K B (gSub to ti rSetL) (wGSub wo wi) := ⟨fun v w σ H ρ S Q Qw r hs hh q po =>
  a.l σ H ρ S _ _ hs hh q fun o H1 wo S1 t1 hh1 r1 q1 => b.l σ H1 ρ S1 _ _ (hs.tk t1) hh1 q1 fun i H2 wi S2 t2 hh2 r2 q2 => by
    have ro := Rep.tk t2 _ _ r1
    cases wo <;> cases wi <;> try exact q2.elim
    cases (show o = _ from ro)
    cases (show i = _ from r2)
    obtain ⟨ws, j, e, hj, q⟩ := q2
    obtain ⟨xs, h1, h2⟩ := hh2 _ _ e
    have rv := Rep.tk (t1.trans t2) _ _ r
    have t : Tk H2 (upd H2 _ (.lst (xs.set j v))) := Tk.mut h1 (fun _ z => (by cases z)) (fun _ _ z => (by cases z))
    obtain ⟨t, hm⟩ := hh2.mut (c' := .lst _) (o := .lst (xs.set j v)) e ⟨_, upd_same, RepL.set (Rep.tk t _ _ rv) j (RepL.tk t _ _ h2)⟩
    exact ⟨_, xs, _, j, rfl, rfl, h1, by rw [h2.length]; exact hj, po _ _ _ _ ((t1.trans t2).trans t) (hs.tk ((t1.trans t2).trans t)) hm q⟩⟩

/-! ### statements -/
def wNext : TSW := fun D ρ S => D.nx ρ S
def wSeq (t u : TSW) : TSW := fun D ρ S => t { D with nx := u D } ρ S
def wBreak : TSW := fun D ρ S => D.bk ρ S
def wCont : TSW := fun D ρ S => D.ct ρ S
def wAsg (te : TEW) (g : TGW) : TSW := fun D ρ S => te ρ S fun x S1 => g x ρ S1 D.nx
def wDrop (te : TEW) : TSW := fun D ρ S => te ρ S fun _ S1 => D.nx ρ S1
def wRet (te : TEW) : TSW := fun D ρ S => te ρ S D.rt
def wRetN : TSW := fun D _ S => D.rt .non S
def wIfS (c : TTW) (t u : TSW) : TSW := fun D ρ S => c ρ S fun b S1 => (b = true → t D ρ S1) ∧ (b = false → u D ρ S1)
instance ls_next : LS K B tNext wNext := ⟨fun σ H ρ S D Dw hs hh q po => po.nx σ H ρ S (Tk.refl H) hs hh q⟩
instance ls_seq {t u : TS} {tw uw : TSW} [a : LS K B t tw] [b : LS K B u uw] : LS K B (tSeq t u) (wSeq tw uw) := ⟨fun σ H ρ S D Dw hs hh q po =>
  a.l σ H ρ S { D with nx := u D } { Dw with nx := uw Dw } hs hh q ⟨fun σ' H' ρ' S' t1 hs' hh' q' => b.l σ' H' ρ' S' D Dw hs' hh' q' (po.tk t1), po.bk, po.ct, po.rt⟩⟩
instance ls_break : LS K B tBreak wBreak := ⟨fun σ H ρ S D Dw hs hh q po => po.bk σ H ρ S (Tk.refl H) hs hh q⟩
instance ls_cont : LS K B tCont wCont := ⟨fun σ H ρ S D Dw hs hh q po => po.ct σ H ρ S (Tk.refl H) hs hh q⟩
instance ls_asg {te : TE} {g : TG} {we : TEW} {gw : TGW} [a : LE K B te we] [b : LG K B g gw] : LS K B (tAsg te g) (wAsg we gw) := ⟨fun σ H ρ S D Dw hs hh q po =>
  a.l σ H ρ S _ _ hs hh q fun x H1 wx S1 t1 hh1 r1 q1 => b.l x wx σ H1 ρ S1 _ _ r1 (hs.tk t1) hh1 q1 (po.nx.tk t1)⟩
instance ls_drop {te : TE} {we : TEW} [a : LE K B te we] : LS K B (tDrop te) (wDrop we) := ⟨fun σ H ρ S D Dw hs hh q po =>
  a.l σ H ρ S _ _ hs hh q fun x H1 wx S1 t1 hh1 r1 q1 => po.nx σ H1 ρ S1 t1 (hs.tk t1) hh1 q1⟩
instance ls_ret {te : TE} {we : TEW} [a : LE K B te we] : LS K B (tRet te) (wRet we) := ⟨fun σ H ρ S D Dw hs hh q po => a.l σ H ρ S _ _ hs hh q po.rt⟩
instance ls_retN : LS K B tRetN wRetN := ⟨fun σ H ρ S D Dw hs hh q po => po.rt.non (Tk.refl H) hh q⟩
instance ls_if {c : TT} {t u : TS} {cw : TTW} {tw uw : TSW} [h : LT K B c cw] [a : LS K B t tw] [b : LS K B u uw] : LS K B (tIfS c t u) (wIfS cw tw uw) := ⟨fun σ H ρ S D Dw hs hh q po =>
  h.l σ H ρ S _ _ hs hh q fun k H1 S1 t1 hh1 q1 => by
    cases k with
    | true => rw [if_pos rfl]; exact a.l σ H1 ρ S1 D Dw (hs.tk t1) hh1 (q1.1 rfl) (po.tk t1)
    | false => rw [if_neg Bool.false_ne_true]; exact b.l σ H1 ρ S1 D Dw (hs.tk t1) hh1 (q1.2 rfl) (po.tk t1)⟩
/-- x += e, x -= e (ints) -/
def wAugI (i : Nat) (te : TEW) (f : Int → Int → Int) : TSW := fun D ρ S => ∃ x, ρ[i]? = some (some x) ∧ te ρ S fun y S1 => match x, y with
  | .int a, .int b => D.nx (ρ.set i (some (.int (f a b)))) S1
  | _, _ => False
instance ls_aug {i : Nat} {te : TE} {f : Int → Int → Int} {we : TEW} [a : LE K B te we] : LS K B (tAug i te (ipI f)) (wAugI i we f) := ⟨fun σ H ρ S D Dw hs hh ⟨x, e, q⟩ po => by
  obtain ⟨v, e1, r⟩ := hs.at_ i x e
  refine ⟨v, e1, a.l σ H ρ S _ _ hs hh q fun y H1 wy S1 t1 hh1 r1 q1 => ?_⟩
  cases x <;> cases wy <;> try exact q1.elim
  cases (show v = _ from r)
  cases (show y = _ from r1)
  rename_i n m
  exact ⟨_, _, rfl, rfl, po.nx _ H1 _ S1 t1 ((hs.tk t1).set i (w := .int (f n m)) (show Rep K H1 (.int (f n m)) (.int (f n m)) from rfl)) hh1 q1⟩⟩
def wWhile (c : TTW) (tb : TSW) : TSW := fun D ρ S => ∃ I : Nat → StW → Sto → Prop, (∃ m, I m ρ S) ∧ ∀ m ρ S, I m ρ S → c ρ S fun b S1 =>
  (b = true → tb { D with nx := fun ρ' S' => ∃ m', m' < m ∧ I m' ρ' S', ct := fun ρ' S' => ∃ m', m' < m ∧ I m' ρ' S', bk := D.nx } ρ S1) ∧ (b = false → D.nx ρ S1)
instance ls_while {c : TT} {tb : TS} {cw : TTW} {tw : TSW} [h : LT K B c cw] [a : LS K B tb tw] : LS K B (tWhile c tb) (wWhile cw tw) := ⟨fun σ H ρ S D Dw hs hh ⟨I, ⟨m0, i0⟩, st⟩ po => by
  refine ⟨fun m σ' H' => ∃ ρ' S', Tk H H' ∧ SRep K B H' σ' ρ' ∧ HRep K H' S' ∧ I m ρ' S', ⟨m0, ρ, S, Tk.refl H, hs, hh, i0⟩, ?_⟩
  rintro m σ1 H1 ⟨ρ1, S1, t1, hs1, hh1, i1⟩
  refine h.l σ1 H1 ρ1 S1 _ _ hs1 hh1 (st m ρ1 S1 i1) fun b H2 S2 t2 hh2 q2 => ?_
  cases b with
  | true =>
    rw [if_pos rfl]
    refine ⟨fun σ' H' => ∃ m', m' < m ∧ ∃ ρ' S', Tk H H' ∧ SRep K B H' σ' ρ' ∧ HRep K H' S' ∧ I m' ρ' S', fun σ' H' z => z, ?_⟩
    refine a.l σ1 H2 ρ1 S2 _ _ (hs1.tk t2) hh2 (q2.1 rfl) ⟨?_, ?_, ?_, po.rt.tk (t1.trans t2)⟩
    · rintro σ' H' ρ' S' t3 hs3 hh3 ⟨m', hm, q⟩
      exact ⟨m', hm, ρ', S', (t1.trans t2).trans t3, hs3, hh3, q⟩
    · exact po.nx.tk (t1.trans t2)
    · rintro σ' H' ρ' S' t3 hs3 hh3 ⟨m', hm, q⟩
      exact ⟨m', hm, ρ', S', (t1.trans t2).trans t3, hs3, hh3, q⟩
  | false =>
    rw [if_neg Bool.false_ne_true]
    exact po.nx σ1 H2 ρ1 S2 (t1.trans t2) (hs1.tk t2) hh2 (q2.2 rfl)⟩
end Wl
set_option Elab.async false
set_option linter.all false
set_option maxRecDepth 100000
set_option maxHeartbeats 2000000
namespace Wl
open PySem PySem.Spec PyProof.Rows L2
variable {K : PySem.W.Frag} {B : Hp}

/-! ### what a for walks -/
/-- the iterator J goes over the data ws while ok holds of the store -/
structure IsSrc (K : PySem.W.Frag) (H1 : Hp) (J : It) (ws : List W) (ok : Sto → Prop) : Prop where
  go : ∀ i H S, Tk H1 H → HRep K H S → ok S → i < ws.length → J.go i H
  yld : ∀ i H S x H', Tk H1 H → HRep K H S → ok S → i < ws.length → J.yld i H x H' → Tk H H' ∧ HRep K H' S ∧ ∃ w, ws[i]? = some w ∧ Rep K H' w x
  stop : ∀ i H S, Tk H1 H → HRep K H S → ok S → ws.length ≤ i → J.stop i H
abbrev TIW := StW → Sto → (List W → (Sto → Prop) → Sto → Prop) → Prop
class LI (K : PySem.W.Frag) (B : Hp) (t : TI) (tw : outParam TIW) : Prop where
  l : ∀ σ H ρ S R Rw, SRep K B H σ ρ → HRep K H S → tw ρ S Rw → (∀ J H' S' ws ok, Tk H H' → HRep K H' S' → IsSrc K H' J ws ok → Rw ws ok S' → R J H') → t σ H R

def anyS : Sto → Prop := fun _ => True
def keepS (a : Addr) (ws : List W) : Sto → Prop := fun S => S a = some (.lst ws)
theorem src_list {H1 : Hp} {a : Addr} {ws : List W} : IsSrc K H1 (Itl K a) ws (keepS a ws) where
  go := fun i H S t hh ok hi => by
    obtain ⟨xs, h1, h2⟩ := hh _ _ ok
    exact ⟨xs, xs[i]'(by rw [h2.length]; exact hi), SqL.of h1, by simp [h2.length, hi]⟩
  yld := fun i H S x H' t hh ok hi y => by
    obtain ⟨e, y⟩ := y
    subst e
    obtain ⟨xs, h1, h2⟩ := hh _ _ ok
    obtain ⟨w, e, r⟩ := h2.get' (y xs (SqL.of h1))
    exact ⟨Tk.refl _, hh, w, e, r⟩
  stop := fun i H S t hh ok hi => by
    obtain ⟨xs, h1, h2⟩ := hh _ _ ok
    exact ⟨xs, SqL.of h1, by rw [h2.length]; exact hi⟩
theorem src_rl {H1 : Hp} {a : Addr} {xs : List V} {ws : List W} (h : RdL K H1 a xs) (r : RepL K H1 ws xs) : IsSrc K H1 (Itl K a) ws anyS where
  go := fun i H S t hh ok hi => ⟨xs, xs[i]'(by rw [r.length]; exact hi), (t.rdl h).sq, by simp [r.length, hi]⟩
  yld := fun i H S x H' t hh ok hi y => by
    obtain ⟨e, y⟩ := y
    subst e
    obtain ⟨w, e, r⟩ := (RepL.tk t _ _ r).get' (y xs (t.rdl h).sq)
    exact ⟨Tk.refl _, hh, w, e, r⟩
  stop := fun i H S t hh ok hi => ⟨xs, (t.rdl h).sq, by rw [r.length]; exact hi⟩
theorem src_tup {H1 : Hp} {a : Addr} {xs : List V} {ws : List W} (h : SqT K H1 a xs) (r : RepL K H1 ws xs) : IsSrc K H1 (Itt K a) ws anyS where
  go := fun i H S t hh ok hi => ⟨xs, xs[i]'(by rw [r.length]; exact hi), t.sqt h, by simp [r.length, hi]⟩
  yld := fun i H S x H' t hh ok hi y => by
    obtain ⟨e, y⟩ := y
    subst e
    obtain ⟨w, e, r⟩ := (RepL.tk t _ _ r).get' (y xs (t.sqt h))
    exact ⟨Tk.refl _, hh, w, e, r⟩
  stop := fun i H S t hh ok hi => ⟨xs, t.sqt h, by rw [r.length]; exact hi⟩
/-- lo, lo + 1, .. n of them -/
def intsW (lo : Int) (n : Nat) : List W := (List.range n).map fun i => W.int (lo + (i : Nat))
theorem intsW_len {lo : Int} {n : Nat} : (intsW lo n).length = n := by unfold intsW; simp
theorem intsW_get {lo : Int} {n i : Nat} (h : i < n) : (intsW lo n)[i]? = some (W.int (lo + (i : Nat))) := by unfold intsW; simp [h]
theorem intsW_at {lo : Int} {n i : Nat} {w : W} (h : (intsW lo n)[i]? = some w) : i < n ∧ w = W.int (lo + (i : Nat)) := by
  unfold intsW at h
  rw [List.getElem?_map] at h
  by_cases q : i < n
  · rw [List.getElem?_range q] at h
    exact ⟨q, (Option.some.inj h).symm⟩
  · rw [List.getElem?_eq_none (by simpa using q)] at h
    cases h
theorem src_range {H1 : Hp} {lo : Int} {n : Nat} : IsSrc K H1 (Itr lo n) (intsW lo n) anyS where
  go := fun i H S t hh ok hi => by rw [intsW_len] at hi; exact hi
  yld := fun i H S x H' t hh ok hi y => by
    obtain ⟨e, y⟩ := y
    subst e y
    rw [intsW_len] at hi
    exact ⟨Tk.refl _, hh, W.int (lo + (i : Nat)), intsW_get hi, (show Rep K _ (W.int (lo + (i : Nat))) _ from rfl)⟩
  stop := fun i H S t hh ok hi => by rw [intsW_len] at hi; exact hi
/-- over a list, a tuple, a text -/
def signs (x : Str) : List W := x.cps.toList.map fun c => W.str ⟨#[c]⟩
theorem src_str {H1 : Hp} {x : Str} : IsSrc K H1 (Its x) (signs x) anyS where
  go := fun i H S t hh ok hi => by
    unfold signs at hi
    rw [List.length_map, Array.length_toList] at hi
    exact hi
  yld := fun i H S z H' t hh ok hi y => by
    obtain ⟨e, c, e2, e3⟩ := y
    subst e e3
    refine ⟨Tk.refl _, hh, .str ⟨#[c]⟩, ?_, (show Rep K _ (.str ⟨#[c]⟩) _ from rfl)⟩
    unfold signs
    rw [List.getElem?_map, Array.getElem?_toList, e2]
    rfl
  stop := fun i H S t hh ok hi => by
    unfold signs at hi
    rw [List.length_map, Array.length_toList] at hi
    exact hi
def iAny (K : PySem.W.Frag) (tl : TE) : TI := fun σ H R => tl σ H fun x H1 => (∃ a, x = .ref a ∧ (∃ xs, SqL K H1 a xs) ∧ R (Itl K a) H1) ∨ (∃ a, x = .ref a ∧ (∃ xs, SqT K H1 a xs) ∧ R (Itt K a) H1) ∨ ∃ z, x = .str z ∧ R (Its z) H1
theorem pi_any {X : Cx} {tg l : Expr} {tl : TE} (hl : PE X l tl) : PI X tg l (iAny X.K tl) := by
  refine ⟨fun pins s σ H R I h => ?_⟩
  refine thn (hl.run pins s σ H _ I h) fun v s1 ⟨x, H1, I1, r1, q1⟩ => ?_
  rcases q1 with ⟨a, e, ⟨xs, hq⟩, q⟩ | ⟨a, e, ⟨xs, hq⟩, q⟩ | ⟨x, ex, q⟩
  · subst e
    cases r1
    obtain ⟨its, rv, p, hz⟩ := I1.list hq
    refine wpAny_pyIter_list p.isList ?_
    refine ⟨s1.heap.objs.size, [s1.heap.objs.size], _, _, H1, rfl, I1.kept (t' := s1.toks) fun b o e => Heap.get?_push_of_some _ e, turn_list a _, ⟨_, Heap.get?_push_size _ rfl, rfl, rfl⟩, fun b hb => ?_, q⟩
    have e : b = s1.heap.objs.size := by simpa using hb
    subst e
    exact I1.fpOk (Nat.le_refl _) (I1.hok.fresh (Nat.le_refl _))
  · subst e
    cases r1
    obtain ⟨its, rv, p, hz⟩ := I1.tuple hq
    refine wpAny_pyIter_tuple (show s1.heap.IsTuple a its.toArray from p) ?_
    refine ⟨s1.heap.objs.size, [s1.heap.objs.size], _, _, H1, rfl, I1.kept (t' := s1.toks) fun b o e => Heap.get?_push_of_some _ e, turn_tuple a _, ⟨_, Heap.get?_push_size _ rfl, rfl, rfl⟩, fun b hb => ?_, q⟩
    have e : b = s1.heap.objs.size := by simpa using hb
    subst e
    exact I1.fpOk (Nat.le_refl _) (I1.hok.fresh (Nat.le_refl _))
  · subst ex
    obtain ⟨t, rfl⟩ := r1
    cases ha : x.cps.all (· < 128)
    · exact wpAny_pyIter_wide ha (pi_one (tk := s1.toks) I1 _ (turn_str _ x t "str_iterator" (.inr rfl)) ⟨_, Heap.get?_push_size _ rfl, rfl, rfl⟩ q)
    · exact wpAny_pyIter_ascii ha (pi_one (tk := s1.toks) I1 _ (turn_str _ x t "str_ascii_iterator" (.inl rfl)) ⟨_, Heap.get?_push_size _ rfl, rfl, rfl⟩ q)
def wiAny (te : TEW) : TIW := fun ρ S R => te ρ S fun x S1 => match x with
  | .tup ws => R ws anyS S1
  | .rl ws => R ws anyS S1
  | .str z => R (signs z) anyS S1
  | .ref a => ∃ ws, S1 a = some (.lst ws) ∧ R ws (keepS a ws) S1
  | _ => False
instance li_any {t : TE} {tw : TEW} [a : LE K B t tw] : LI K B (iAny K t) (wiAny tw) := ⟨fun σ H ρ S R Rw hs hh q po => a.l σ H ρ S _ _ hs hh q fun x H1 wx S1 t1 hh1 r1 q1 => by
  cases wx <;> try exact q1.elim
  · cases (show x = _ from r1)
    exact .inr (.inr ⟨_, rfl, po _ H1 S1 _ _ t1 hh1 src_str q1⟩)
  · cases (show x = _ from r1)
    obtain ⟨ws, e, q⟩ := q1
    obtain ⟨xs, h1, h2⟩ := hh1 _ _ e
    exact .inl ⟨_, rfl, ⟨xs, SqL.of h1⟩, po _ H1 S1 _ _ t1 hh1 src_list q⟩
  · obtain ⟨a, xs, rfl, h1, h2⟩ := r1
    exact .inr (.inl ⟨a, rfl, ⟨xs, h1⟩, po _ H1 S1 _ _ t1 hh1 (src_tup h1 h2) q1⟩)
  · obtain ⟨a, xs, rfl, h1, h2⟩ := r1
    exact .inl ⟨a, rfl, ⟨xs, h1.sq⟩, po _ H1 S1 _ _ t1 hh1 (src_rl h1 h2) q1⟩⟩
def wiR1 (ta : TAW) : TIW := fun ρ S R => ta ρ S fun ws S1 => match ws with
  | [.int j] => -(2 ^ 62) ≤ j ∧ j < 2 ^ 62 ∧ R (intsW 0 j.toNat) anyS S1
  | _ => False
def wiR2 (ta : TAW) : TIW := fun ρ S R => ta ρ S fun ws S1 => match ws with
  | [.int i, .int j] => (-(2 ^ 62) ≤ i ∧ i < 2 ^ 62 ∧ -(2 ^ 62) ≤ j ∧ j < 2 ^ 62) ∧ R (intsW i (j - i).toNat) anyS S1
  | _ => False
instance li_r1 {t : TA} {tw : TAW} [a : LA K B t tw] : LI K B (iRng1 t) (wiR1 tw) := ⟨fun σ H ρ S R Rw hs hh q po => a.l σ H ρ S _ _ hs hh q fun xs H1 ws S1 t1 hh1 r1 q1 => by
  split at q1
  · obtain ⟨x, rfl, h1⟩ := rep1 r1
    cases (show x = _ from h1)
    exact ⟨_, rfl, q1.1, q1.2.1, po _ H1 S1 _ _ t1 hh1 src_range q1.2.2⟩
  · exact q1.elim⟩
instance li_r2 {t : TA} {tw : TAW} [a : LA K B t tw] : LI K B (iRng2 t) (wiR2 tw) := ⟨fun σ H ρ S R Rw hs hh q po => a.l σ H ρ S _ _ hs hh q fun xs H1 ws S1 t1 hh1 r1 q1 => by
  split at q1
  · obtain ⟨x, y, rfl, h1, h2⟩ := rep2 r1
    cases (show x = _ from h1)
    cases (show y = _ from h2)
    exact ⟨_, _, rfl, q1.1, po _ H1 S1 _ _ t1 hh1 src_range q1.2⟩
  · exact q1.elim⟩

/-! ### for -/
def wFor (wi : TIW) (g : TGW) (tb : TSW) : TSW := fun D ρ S => wi ρ S fun ws ok S1 => ∃ P : Nat → StW → Sto → Prop, P 0 ρ S1 ∧ (∀ i ρ' S', P i ρ' S' → ok S') ∧
  (∀ i w ρ' S', ws[i]? = some w → P i ρ' S' → g w ρ' S' fun ρ2 S2 => tb { D with nx := P (i + 1), ct := P (i + 1), bk := D.nx } ρ2 S2) ∧ ∀ ρ' S', P ws.length ρ' S' → D.nx ρ' S'
instance ls_for {wi : TI} {g : TG} {tb : TS} {ww : TIW} {gw : TGW} {tw : TSW} [h : LI K B wi ww] [b : LG K B g gw] [a : LS K B tb tw] : LS K B (tFor wi g tb) (wFor ww gw tw) := ⟨fun σ H ρ S D Dw hs hh q po => by
  refine h.l σ H ρ S _ _ hs hh q fun J H1 S1 ws ok t1 hh1 src ⟨P, p0, pok, pst, pend⟩ => ?_
  refine ⟨fun i m σ' H' => m = ws.length - i ∧ i ≤ ws.length ∧ ∃ ρ' S', Tk H1 H' ∧ SRep K B H' σ' ρ' ∧ HRep K H' S' ∧ P i ρ' S', ⟨ws.length, by simp, Nat.zero_le _, ρ, S1, Tk.refl H1, hs.tk t1, hh1, p0⟩, ?_⟩
  rintro i m σ2 H2 ⟨rfl, hi, ρ2, S2, t2, hs2, hh2, p2⟩
  by_cases hlt : i < ws.length
  · refine .inr ⟨src.go i H2 S2 t2 hh2 (pok _ _ _ p2) hlt, fun σ' H' => ∃ ρ' S', Tk H1 H' ∧ SRep K B H' σ' ρ' ∧ HRep K H' S' ∧ P (i + 1) ρ' S', fun σ' H' z => ⟨ws.length - (i + 1), by omega, rfl, hlt, z⟩, fun x H3 y => ?_⟩
    obtain ⟨t3, hh3, w, e, r⟩ := src.yld i H2 S2 x H3 t2 hh2 (pok _ _ _ p2) hlt y
    refine b.l x w σ2 H3 ρ2 S2 _ _ r (hs2.tk t3) hh3 (pst i w ρ2 S2 e p2) fun σ4 H4 ρ4 S4 t4 hs4 hh4 q4 => ?_
    have t14 := (t2.trans t3).trans t4
    refine a.l σ4 H4 ρ4 S4 _ _ hs4 hh4 q4 ⟨?_, po.nx.tk (t1.trans t14), ?_, po.rt.tk (t1.trans t14)⟩
    · exact fun σ' H' ρ' S' t5 hs5 hh5 q5 => ⟨ρ', S', t14.trans t5, hs5, hh5, q5⟩
    · exact fun σ' H' ρ' S' t5 hs5 hh5 q5 => ⟨ρ', S', t14.trans t5, hs5, hh5, q5⟩
  · have e : i = ws.length := by omega
    subst e
    exact .inl ⟨src.stop _ H2 S2 t2 hh2 (pok _ _ _ p2) (Nat.le_refl _), po.nx σ2 H2 ρ2 S2 (t1.trans t2) hs2 hh2 (pend _ _ p2)⟩⟩

/-! ### comprehensions -/
def wipeW (ρ : StW) : List Nat → StW
  | [] => ρ
  | v :: vs => (wipeW ρ vs).set v none
theorem srep_wipe {H : Hp} {σ : L2.St} {ρ : StW} (h : SRep K B H σ ρ) : ∀ vs : List Nat, SRep K B H (wipe σ vs) (wipeW ρ vs)
  | [] => h
  | v :: vs => by
    have ih := srep_wipe h vs
    unfold wipe wipeW
    refine ⟨ih.bs, by rw [List.length_set, List.length_set, ih.len], fun j z e => ?_⟩
    by_cases q : v = j
    · subst q
      by_cases hl : v < (wipeW ρ vs).length
      · rw [List.getElem?_set_self hl] at e; cases e
      · rw [List.getElem?_eq_none (by rw [List.length_set]; omega)] at e; cases e
    · rw [List.getElem?_set_ne q] at e ⊢
      exact ih.at_ j z e
/-- a target that stores own names alone -/
class GW (g : TG) (vs : List Nat) : Prop where
  l : ∀ v σ H Q, g v (wipe σ vs) H Q → g v (wipe σ vs) H fun σ2 H2 => wipe σ2 vs = wipe σ vs ∧ Q σ2 H2
theorem wipe_at (σ : L2.St) (vs : List Nat) (i : Nat) : (wipe σ vs)[i]? = if i ∈ vs then (if i < σ.length then some none else none) else σ[i]? := by
  induction vs with
  | nil => simp [wipe]
  | cons v vs ih =>
    unfold wipe
    by_cases q : v = i
    · subst q
      by_cases hl : v < σ.length
      · rw [List.getElem?_set_self (by rw [wipe_length]; exact hl)]
        simp [hl]
      · rw [List.getElem?_eq_none (by rw [List.length_set, wipe_length]; omega)]
        simp [hl]
    · rw [List.getElem?_set_ne q, ih]
      simp [Ne.symm q]
theorem wipe_set {σ : L2.St} {vs : List Nat} {j : Nat} {x : V} (hj : j ∈ vs) : wipe ((wipe σ vs).set j (some x)) vs = wipe σ vs := by
  apply List.ext_getElem?
  intro i
  rw [wipe_at, wipe_at]
  by_cases hi : i ∈ vs
  · simp [hi, wipe_length]
  · rw [if_neg hi, if_neg hi, List.getElem?_set_ne (show j ≠ i from fun e => hi (by rw [← e]; exact hj)), wipe_at, if_neg hi]
class MemN (j : Nat) (vs : List Nat) : Prop where
  h : j ∈ vs
instance mem_hd {j : Nat} {vs : List Nat} : MemN j (j :: vs) := ⟨by simp⟩
instance mem_tl {j v : Nat} {vs : List Nat} [h : MemN j vs] : MemN j (v :: vs) := ⟨by simp [h.h]⟩
instance memm_hd {j : Nat} {x : Str} {vs : List (Str × Nat)} : MemN j (((x, j) :: vs).map (·.2)) := ⟨by simp⟩
instance memm_tl {j : Nat} {y : Str × Nat} {vs : List (Str × Nat)} [h : MemN j (vs.map (·.2))] : MemN j ((y :: vs).map (·.2)) := ⟨by rw [List.map_cons]; exact List.mem_cons_of_mem _ h.h⟩
instance gw_name {j : Nat} {vs : List Nat} [h : MemN j vs] : GW (gName j) vs := ⟨fun v σ H Q q => ⟨wipe_set h.h, q⟩⟩
def wLc (wi : TIW) (g : TGW) (tt : TTW) (te : TEW) (vs : List Nat) : TEW := fun ρ S Q => wi ρ S fun ws ok S1 => ∀ D, S1 D = none → ∃ P : Nat → List W → Sto → Prop, P 0 [] (put S1 D (.lst [])) ∧
  (∀ i acc S', P i acc S' → ok S') ∧
  (∀ i w acc S', ws[i]? = some w → P i acc S' → g w (wipeW ρ vs) S' fun ρ2 S2 => tt ρ2 S2 fun b S3 =>
    (b = true → te ρ2 S3 fun y S4 => S4 D = some (.lst acc) ∧ acc.length < sizeLine ∧ P (i + 1) (acc ++ [y]) (put S4 D (.lst (acc ++ [y])))) ∧ (b = false → P (i + 1) acc S3)) ∧
  ∀ acc S', P ws.length acc S' → Q (.ref D) S'
instance le_lc {wi : TI} {g : TG} {tt : TT} {te : TE} {vs : List Nat} {ww : TIW} {gw : TGW} {tw : TTW} {ew : TEW} [h : LI K B wi ww] [b : LG K B g gw] [gg : GW g vs] [c : LT K B tt tw] [a : LE K B te ew] : LE K B (tLc wi g tt te vs) (wLc ww gw tw ew vs) := ⟨fun σ H ρ S Q Qw hs hh q po => by
  refine h.l σ H ρ S _ _ hs hh q fun J H1 S1 ws ok t1 hh1 src hD => fun D hDn => ?_
  obtain ⟨P, p0, pok, pst, pend⟩ := hD D (hh1.fresh hDn)
  have tD : Tk H1 (upd H1 D (.lst [])) := Tk.new hDn
  have hhD : HRep K (upd H1 D (.lst [])) (put S1 D (.lst [])) := hh1.new hDn ⟨[], upd_same, rfl⟩
  refine ⟨fun i m H' => m = ws.length - i ∧ i ≤ ws.length ∧ ∃ acc S', Tk H1 H' ∧ HRep K H' S' ∧ P i acc S', ⟨ws.length, by simp, Nat.zero_le _, [], _, tD, hhD, p0⟩, ?_⟩
  rintro i m H2 ⟨rfl, hi, acc, S2, t2, hh2, p2⟩
  by_cases hlt : i < ws.length
  · refine .inr ⟨src.go i H2 S2 t2 hh2 (pok _ _ _ p2) hlt, fun H' => ∃ acc S', Tk H1 H' ∧ HRep K H' S' ∧ P (i + 1) acc S', fun H' z => ⟨ws.length - (i + 1), by omega, rfl, hlt, z⟩, fun x H3 y => ?_⟩
    obtain ⟨t3, hh3, w, e, r⟩ := src.yld i H2 S2 x H3 t2 hh2 (pok _ _ _ p2) hlt y
    refine gg.l x σ H3 _ ?_
    have hs3 : SRep K B H3 (wipe σ vs) (wipeW ρ vs) := srep_wipe (hs.tk ((t1.trans t2).trans t3)) vs
    refine b.l x w (wipe σ vs) H3 (wipeW ρ vs) S2 _ _ r hs3 hh3 (pst i w acc S2 e p2) fun σ4 H4 ρ4 S4 t4 hs4 hh4 q4 => ?_
    refine c.l σ4 H4 ρ4 S4 _ _ hs4 hh4 q4 fun bb H5 S5 t5 hh5 q5 => ?_
    have t15 := ((t2.trans t3).trans t4).trans t5
    cases bb with
    | true =>
      rw [if_pos rfl]
      refine a.l σ4 H5 ρ4 S5 _ _ (hs4.tk t5) hh5 (q5.1 rfl) fun z H6 wz S6 t6 hh6 r6 ⟨eD, hl, q6⟩ => ?_
      obtain ⟨vs', h1, h2⟩ := hh6 _ _ eD
      have t : Tk H6 (upd H6 D (.lst (vs' ++ [z]))) := Tk.mut h1 (fun _ z => (by cases z)) (fun _ _ z => (by cases z))
      obtain ⟨t, hm⟩ := hh6.mut (c' := .lst (acc ++ [wz])) (o := .lst (vs' ++ [z])) eD ⟨_, upd_same, (RepL.tk t _ _ h2).append (.one (Rep.tk t _ _ r6))⟩
      exact ⟨vs', h1, by rw [h2.length]; exact hl, _, _, (t15.trans t6).trans t, hm, q6⟩
    | false =>
      rw [if_neg Bool.false_ne_true]
      exact ⟨acc, S5, t15, hh5, q5.2 rfl⟩
  · have e : i = ws.length := by omega
    subst e
    exact .inl ⟨src.stop _ H2 S2 t2 hh2 (pok _ _ _ p2) (Nat.le_refl _), po.ref (t1.trans t2) hh2 (pend _ _ p2)⟩⟩
end Wl
set_option Elab.async false
set_option linter.all false
set_option maxRecDepth 100000
set_option maxHeartbeats 2000000
namespace Wl
open PySem PySem.Spec PyProof.Rows L2
variable {K : PySem.W.Frag} {B : Hp}
/-! ### more statements -/
def wPar (i j : Nat) (ta : TAW) : TSW := fun D ρ S => ta ρ S fun ws S1 => match ws with
  | [v, w] => D.nx ((ρ.set i (some v)).set j (some w)) S1
  | _ => False
instance ls_par {i j : Nat} {ta : TA} {wa : TAW} [a : LA K B ta wa] : LS K B (tPar i j ta) (wPar i j wa) := ⟨fun σ H ρ S D Dw hs hh q po => a.l σ H ρ S _ _ hs hh q fun xs H1 ws S1 t1 hh1 r1 q1 => by
  split at q1
  · obtain ⟨x, y, rfl, h1, h2⟩ := rep2 r1
    exact ⟨x, y, rfl, po.nx _ H1 _ S1 t1 (((hs.tk t1).set i h1).set j h2) hh1 q1⟩
  · exact q1.elim⟩

/-- a statement, then the rest, with a word between them -/
def tMid (t u : TS) : TS := fun D σ H => ∃ M : L2.St → Hp → Prop, t { D with nx := M } σ H ∧ ∀ σ' H', M σ' H' → u D σ' H'
theorem pss_mid {X : Cx} {st : Stmt} {rest : List Stmt} {t u : TS} (h1 : PS X st t) (h2 : PSs X rest u) : PSs X (st :: rest) (tMid t u) := by
  refine ⟨fun pins s σ H D I h => ?_⟩
  obtain ⟨Mid, hm, hu⟩ := h
  refine wpAny_execs_cons (thn (h1.run pins s σ H { D with nx := Mid } I hm) fun f s1 q => ?_)
  cases f with
  | next =>
    obtain ⟨σ', H', I', q⟩ := q
    exact h2.run pins s1 σ' H' D I' (hu σ' H' q)
  | ret v => exact q
  | brk => exact q
  | cont => exact q
def wMid (t u : TSW) : TSW := fun D ρ S => ∃ M : StW → Sto → Prop, t { D with nx := M } ρ S ∧ ∀ ρ' S', M ρ' S' → u D ρ' S'
instance ls_mid {t u : TS} {tw uw : TSW} [a : LS K B t tw] [b : LS K B u uw] : LS K B (tMid t u) (wMid tw uw) := ⟨fun σ H ρ S D Dw hs hh ⟨M, hm, hu⟩ po =>
  ⟨fun σ' H' => ∃ ρ' S', Tk H H' ∧ SRep K B H' σ' ρ' ∧ HRep K H' S' ∧ M ρ' S', a.l σ H ρ S _ { Dw with nx := M } hs hh hm ⟨fun σ' H' ρ' S' t1 hs' hh' q' => ⟨ρ', S', t1, hs', hh', q'⟩, po.bk, po.ct, po.rt⟩,
    fun σ' H' ⟨ρ', S', t1, hs', hh', q'⟩ => b.l σ' H' ρ' S' D Dw hs' hh' (hu ρ' S' q') (po.tk t1)⟩⟩

/-! ### the text's defs -/
section
variable {P : Program} {w : World} {mg : Str → Option Value} {base : Heap}
structure DefAt (K : PySem.W.Frag) (mg : Str → Option Value) (x : Str) (st : Stmt) (ps : List Str) : Prop where
  ex : ∃ (f : Addr) (fd : FuncData), Fun K x x st f fd ∧ mg x = some (.ref f) ∧ Binds K fd ps []
theorem calD {x : Str} {st : Stmt} {N ps : List Str} {k : Nat} {sp : SpW} (d : DefAt K mg x st ps) (SC : FnScope N ps (defScope st))
    (len : ∀ ws S Q, sp ws S Q → ws.length = ps.length)
    (hbody : ∀ (f : Addr) (cdv : Value) (A : Around) (outer : List Env) (s : Shared) (H : Hp) (E : XK), Room k (A.deeper (envOfC x (defScope st) s.heap.objs.size f cdv)) →
      ∃ t tw, PSs (cxOf CX0 P w K mg base N x (defScope st) f cdv A outer s H E).nox (defBody st) t ∧ LS K H t tw ∧ ∀ ws S Q, sp ws S Q → tw { nx := fun _ S' => Fg Q .non S', rt := Fg Q } (startW N ws) S) :
    CalW P w K mg base (k + 1) x sp := by
  obtain ⟨f, fd, F, hm, b⟩ := d.ex
  exact calW F hm b SC len (hbody f)
/-- the law itself -/
theorem fnD {x : Str} {st : Stmt} {N ps : List Str} {k : Nat} {sp : SpW} {f : Addr} {fd : FuncData} (F : Fun K x x st f fd) (SC : FnScope N ps (defScope st))
    (len : ∀ ws S Q, sp ws S Q → ws.length = ps.length)
    (hbody : ∀ (f : Addr) (cdv : Value) (A : Around) (outer : List Env) (s : Shared) (H : Hp) (E : XK), Room k (A.deeper (envOfC x (defScope st) s.heap.objs.size f cdv)) →
      ∃ t tw, PSs (cxOf CX0 P w K mg base N x (defScope st) f cdv A outer s H E).nox (defBody st) t ∧ LS K H t tw ∧ ∀ ws S Q, sp ws S Q → tw { nx := fun _ S' => Fg Q .non S', rt := Fg Q } (startW N ws) S) :
    FnOk P w K mg base CX0 (k + 1) f fd ps (liftSp K sp) :=
  F.ok SC (fun vs H Q E ⟨ws, S, Qw, h1, _, h3, _⟩ => by rw [h1.length]; exact len _ _ _ h3) (fun cdv A outer s H vs Q E hr ⟨ws, S, Qw, h1, h2, h3, h4⟩ => by
    obtain ⟨t, tw, ht, hl, hq⟩ := hbody f cdv A outer s H E hr
    refine ⟨t, ht, hl.l _ H (startW N ws) S _ _ (SRep.init h1) h2 (hq ws S Qw h3) ⟨?_, fun _ _ _ _ _ _ _ z => z.elim, fun _ _ _ _ _ _ _ z => z.elim, ?_⟩⟩
    · rintro σ' H' ρ' S' t1 _ hh ⟨S2, sub, q⟩
      exact h4.non t1 (hh.sub sub) q
    · rintro v H' w S' t1 hh r ⟨S2, sub, q⟩
      exact h4 v H' w S2 t1 (hh.sub sub) r q)
end
/-- the law's promise: True, whatever the script -/
def spLaw : SpW := fun ws _ Q => ∃ ns : List Int, ws = [.rl (ns.map W.int)] ∧ ns.length ≤ 63 ∧ ∀ S', Q (.bl true) S'
theorem law_end {H : Hp} {a : Addr} {ns : List Int} (hl : ns.length ≤ 63) (hO : Only H) (hS : SqL K H a (ns.map V.int)) : liftSp K spLaw [.ref a] H (fun v _ => v = .bl true) (fun _ _ _ => False) := by
  refine ⟨[.rl (ns.map W.int)], fun _ => none, fun v _ => v = .bl true, ?_, fun a c e => (by cases e), ⟨ns, rfl, hl, fun _ => rfl⟩, fun v H' w S' _ _ r q => ?_⟩
  · refine .one ⟨a, ns.map V.int, rfl, ?_, RepL.ofInts⟩
    rcases hS with (h | h) | h
    · rcases hO a with z | ⟨o, xs, z⟩
      · rw [h] at z; cases z
      · rw [h] at z; cases z
    · exact .inl h
    · exact .inr h
  · have q' : w = .bl true := q
    subst q'
    exact r

theorem isTy_tt : isTy "tuple" "tuple" = some true := by decide +kernel
theorem isTy_ii : isTy "int" "int" = some true := by decide +kernel
theorem isTy_ib : isTy "int" "bool" = some false := by decide +kernel
theorem isTy_bb : isTy "bool" "bool" = some true := by decide +kernel
theorem isTy_ll : isTy "list" "list" = some true := by decide +kernel
theorem isTy_ss : isTy "str" "str" = some true := by decide +kernel
theorem tyName_lst {S : Sto} {a : Addr} {ws : List W} (h : S a = some (.lst ws)) : tyName (.ref a) S = some "list" := by
  unfold tyName
  simp only [h]
/-! ### never called -/
def wNever : TSW := fun _ _ _ => False
instance ls_never : LS K B tNever wNever := ⟨fun σ H ρ S D Dw hs hh q po => q.elim⟩
def spNever : SpW := fun _ _ _ => False
theorem calNever {P : Program} {w : World} {mg : Str → Option Value} {base : Heap} {x : Str} {st : Stmt} {N ps : List Str} (d : DefAt K mg x st ps) (SC : FnScope N ps (defScope st)) : CalW P w K mg base 1 x spNever :=
  calD d SC (fun _ _ _ h => h.elim) fun f cdv A outer s H E hr => ⟨_, _, pss_never, inferInstance, fun ws S Q h => h.elim⟩

/-! ### stores -/
theorem ne_free {S : Sto} {p q : Addr} {c : Cell} (h : S p = some c) (n : S q = none) : q ≠ p := fun e => by rw [e, h] at n; cases n
theorem sub_new2 {S : Sto} {p : Addr} {c : Cell} (n : S p = none) : Sub S (put S p c) := Sub.new n

/-! ### pools: the drawn numbers of a script -/
/-- a pool's list: what is left, how many were drawn, whether by digits, the seed, three -/
def poolL (c n b s : Int) : List W := [.int c, .int n, .int b, .int s, .int 3]
structure PoolOk (c n s : Int) : Prop where
  c0 : 0 ≤ c
  n0 : 0 ≤ n
  n1 : n ≤ 1000000
  s0 : 0 ≤ s
  s1 : s < 2147483647
/-- a new pool at p; its own cell, anything else as it was -/
def spPool : SpW := fun ws S Q => ∃ (ns : List Int) (k : Int), ws = [.rl (ns.map W.int), .int k] ∧ 0 ≤ k ∧ k ≤ 1000 ∧ ns.length ≤ 63 ∧
  ∀ p c b s, S p = none → PoolOk c 0 s → Q (.ref p) (put S p (.lst (poolL c 0 b s)))
/-- one number is drawn, 0 or more and less than many -/
def spTake : SpW := fun ws S Q => ∃ (p : Addr) (c n b s many : Int), ws = [.ref p, .int many] ∧ S p = some (.lst (poolL c n b s)) ∧ PoolOk c n s ∧ n < 1000000 ∧ 0 < many ∧ many < 2 ^ 64 ∧
  ∀ r c', 0 ≤ r → r < many → PoolOk c' (n + 1) s → Q (.int r) (put S p (.lst (poolL c' (n + 1) b s)))
theorem sizeLine_ge : 1000 ≤ sizeLine := by decide
theorem atI_int {ns : List Int} {i : Int} (h0 : 0 ≤ i) (h1 : i < ns.length) : ∃ n, atI (ns.map W.int) i = some (.int n) := by
  obtain ⟨j, rfl⟩ : ∃ j : Nat, i = (j : Int) := ⟨i.toNat, by omega⟩
  have hj : j < ns.length := by omega
  refine ⟨ns[j], ?_⟩
  unfold atI ixN
  rw [if_pos (by omega), if_pos (by rw [List.length_map]; omega)]
  simp [hj]
end Wl
set_option Elab.async false
set_option linter.all false
set_option maxRecDepth 100000
set_option maxHeartbeats 2000000
/-! The rules with the written part named. -/
namespace Wl
open PySem PySem.Spec PyProof.Rows L2
section
variable {X : Cx} (K : PySem.W.Frag)
theorem k_add (hK : X.K = K := by rfl) : OpR X (binaryOp .Add) (rAddA K) := by subst hK; exact op_addA
theorem k_eq (hu : X.A.units + 64 < cLine) (hK : X.K = K := by rfl) : OpR X (compareOp .Eq) (rEqA K) := by subst hK; exact op_eqA hu
theorem k_ne (hu : X.A.units + 64 < cLine) (hK : X.K = K := by rfl) : OpR X (compareOp .NotEq) (rNeA K) := by subst hK; exact op_neA hu
theorem k_in (hK : X.K = K := by rfl) : OpR X (compareOp .In) (rInA K false) := by subst hK; exact op_inA
theorem k_notIn (hK : X.K = K := by rfl) : OpR X (compareOp .NotIn) (rInA K true) := by subst hK; exact op_notInA
theorem k_ix (hK : X.K = K := by rfl) : IxR X (rIx K) := by subst hK; exact ix_seq
theorem k_sl (hK : X.K = K := by rfl) : SlR X (rSlA K) := by subst hK; exact sl_A
theorem k_any {tg l : Expr} {tl : TE} (hl : PE X l tl) (hK : X.K = K := by rfl) : PI X tg l (iAny K tl) := by subst hK; exact pi_any hl
theorem k_len (hK : X.K = K := by rfl) : CallR X (.builtin "len") (rLenA K) := by subst hK; exact call_len
theorem k_list (hK : X.K = K := by rfl) : CallR X (.type "list") (rListA K) := by subst hK; exact call_list_of
theorem k_tuple (hK : X.K = K := by rfl) : CallR X (.type "tuple") (rTupA K) := by subst hK; exact call_tuple_of
theorem k_sum (hc : X.calm = true) (hK : X.K = K := by rfl) : CallR X (.builtin "sum") (rSum K) := by subst hK; exact cr_sum hc
theorem k_all (hc : X.calm = true) (hK : X.K = K := by rfl) : CallR X (.builtin "all") (rAll K) := by subst hK; exact cr_all hc
theorem k_anyC (hc : X.calm = true) (hK : X.K = K := by rfl) : CallR X (.builtin "any") (rAny K) := by subst hK; exact cr_any hc
theorem k_isi (hK : X.K = K := by rfl) : CallR X (.builtin "isinstance") (rIsi K) := by subst hK; exact call_isi
theorem k_gtup {es : List Expr} {k : Nat} {t : TGs} {n : Nat} {pos : Pos} (hc : X.calm = true) (h : PGs X es t)
    (hn : (assignEach es X.env).length = n := by rfl) (hst : (assignEach es X.env).findIdx? (·.1) = none := by rfl) (hK : X.K = K := by rfl) : PG X (.Tuple es k pos) (gTup K n t) := by subst hK; exact pg_tup hc h hn hst
theorem k_bm {o e : Expr} {es : List Expr} {to : TE} {t : TA} {name : Str} {apos cpos : Pos} {T id : String} {r : V → List V → Hp → VK → Prop} (pa : PlainAttrs T) (slot : Slot T name id) (hty : typeOf (.builtin id) = pure (.type "method_descriptor")) (hm : MtR X id r) (ho : PE X o to) (ha : PA X (e :: es) t)
    (hbase : attributeBase o name X.env (eval o X.env) = eval o X.env := by rfl)
    (hfew : ((backTo cpos (starEach (e :: es) X.env)).all (fun x => !x.1) && (backToKw cpos (keywordEach [] X.env)).all (fun x => x.1.isSome)
      && decide ((e :: es).length + ([] : List Keyword).length + (if ([] : List Keyword).isEmpty then 0 else 1) < 30)) = true := by rfl)
    (hline : (apos.endLine == cpos.line) = true := by rfl) (hs : starEach (e :: es) X.env = (false, eval e X.env) :: starEach es X.env := by rfl) (hplain : (backTo cpos (starEach es X.env)).any (·.1) = false := by rfl)
    (hK : X.K = K := by rfl) : PE X (.Call (.Attribute o name apos) (e :: es) [] cpos) (tBM K T r to t) := by subst hK; exact pe_bm pa slot hty hm ho ha hbase hfew hline hs hplain
theorem k_bm0 {o : Expr} {to : TE} {name : Str} {apos cpos : Pos} {T id : String} {r : V → List V → Hp → VK → Prop} (pa : PlainAttrs T) (slot : Slot T name id) (hty : typeOf (.builtin id) = pure (.type "method_descriptor")) (hm : MtR X id r) (ho : PE X o to)
    (hbase : attributeBase o name X.env (eval o X.env) = eval o X.env := by rfl) (hline : (apos.endLine == cpos.line) = true := by rfl) (hK : X.K = K := by rfl) : PE X (.Call (.Attribute o name apos) [] [] cpos) (tBM0 K T r to) := by subst hK; exact pe_bm0 pa slot hty hm ho hbase hline
theorem k_w {k j : Nat} {x : Str} {sp : SpW} {p pos : Pos} {e : Expr} {es : List Expr} {t : TA} (c : CalW X.prog X.w K X.mg X.base k x sp) (hr : Room j X.A) (hk : k ≤ j) (hg : Gl X x) (ha : PA X (e :: es) t)
    (hdb : (x == ("__debug__" : Str)) = false := by decide) (he : starEach (e :: es) X.env = (false, eval e X.env) :: starEach es X.env := by rfl) (hpl : (backTo pos (starEach es X.env)).any (·.1) = false := by rfl) (hK : X.K = K := by rfl) :
    PE X (.Call (.Name x p) (e :: es) [] pos) (tCall (liftSp K sp) [] E0 t) := by subst hK; exact pe_w c hr hk hg ha hdb he hpl
theorem k_w0 {k j : Nat} {x : Str} {sp : SpW} {p pos : Pos} (c : CalW X.prog X.w K X.mg X.base k x sp) (hr : Room j X.A) (hk : k ≤ j) (hg : Gl X x)
    (hdb : (x == ("__debug__" : Str)) = false := by decide) (hK : X.K = K := by rfl) : PE X (.Call (.Name x p) [] [] pos) (tCall (liftSp K sp) [] E0 tNil) := by subst hK; exact pe_w0 c hr hk hg hdb
end
/-! ### tests that change nothing, told by their answer -/
def EvW (t : TTW) (ρ : StW) (S : Sto) (b : Bool) : Prop := ∀ Q : Bool → Sto → Prop, Q b S → t ρ S Q
section
variable {t u : TTW} {ρ : StW} {S : Sto} {a b : Bool}
theorem evOr (h1 : EvW t ρ S a) (h2 : a = false → EvW u ρ S b) : EvW (wOr t u) ρ S (a || b) := fun Q q => h1 _ ⟨fun e => by rw [e] at q; exact q, fun e => by rw [e] at q; exact h2 e Q q⟩
theorem evAnd (h1 : EvW t ρ S a) (h2 : a = true → EvW u ρ S b) : EvW (wAnd t u) ρ S (a && b) := fun Q q => h1 _ ⟨fun e => by rw [e] at q; exact h2 e Q q, fun e => by rw [e] at q; exact q⟩
theorem evNot (h1 : EvW t ρ S a) : EvW (wNot t) ρ S (!a) := fun Q q => h1 _ q
theorem evIs {c : Bool} (h : EvW t ρ S a) (e : a = c) : EvW t ρ S c := by rw [← e]; exact h
theorem ifEv {p q : TSW} {D : EndsW} (h : EvW t ρ S b) (h1 : b = true → p D ρ S) (h2 : b = false → q D ρ S) : wIfS t p q D ρ S := h _ ⟨h1, h2⟩
end
theorem orGo {t : TTW} {ρ : StW} {S : Sto} {c b d : Bool} {K : Bool → Sto → Prop} (h : c = false → EvW t ρ S b) (e : (c || b) = d) (q : K d S) : (c = false → t ρ S K) ∧ (c = true → K true S) := by
  subst e
  exact ⟨fun e => by rw [e] at q; exact h e K q, fun e => by rw [e] at q; exact q⟩
theorem andGo {t : TTW} {ρ : StW} {S : Sto} {c b d : Bool} {K : Bool → Sto → Prop} (h : c = true → EvW t ρ S b) (e : (c && b) = d) (q : K d S) : (c = true → t ρ S K) ∧ (c = false → K false S) := by
  subst e
  exact ⟨fun e => by rw [e] at q; exact h e K q, fun e => by rw [e] at q; exact q⟩
theorem wEq_t {x y : W} {S : Sto} {Q : WK} (tx : ∃ a, x = .tup a) (ty : ∃ b, y = .tup b) (hx : shW x) (hy : shW y) (q : Q (.bl (PyData.eqv (toD x) (toD y))) S) : wEq x y S Q := by
  obtain ⟨a, rfl⟩ := tx
  obtain ⟨b, rfl⟩ := ty
  exact ⟨hx, hy, q⟩
theorem wNe_t {x y : W} {S : Sto} {Q : WK} (tx : ∃ a, x = .tup a) (ty : ∃ b, y = .tup b) (hx : shW x) (hy : shW y) (q : Q (.bl (!PyData.eqv (toD x) (toD y))) S) : wNe x y S Q := by
  obtain ⟨a, rfl⟩ := tx
  obtain ⟨b, rfl⟩ := ty
  exact ⟨hx, hy, q⟩
theorem rdAt_ok {o : Option W} {w : W} {S : Sto} {Q : WK} (e : o = some w) (q : Q w S) : rdAt o S Q := by rw [e]; exact q
/-- a comprehension whose element changes nothing: map -/
theorem lcMap {wi : TIW} {j : Nat} {te : TEW} {vs : List Nat} {ρ : StW} {S S1 : Sto} {Q : WK} {ws : List W} {ok : Sto → Prop} (f : W → W) (hw : ∀ R : List W → (Sto → Prop) → Sto → Prop, R ws ok S1 → wi ρ S R) (hl : ws.length ≤ 100000)
    (hok : ∀ (D : Addr) (acc : List W), S1 D = none → ok (put S1 D (.lst acc)))
    (he : ∀ (i : Nat) (w : W) (D : Addr) (acc : List W), ws[i]? = some w → S1 D = none → ∀ Q' : WK, Q' (f w) (put S1 D (.lst acc)) → te ((wipeW ρ vs).set j (some w)) (put S1 D (.lst acc)) Q')
    (hd : ∀ (D : Addr), S1 D = none → Q (.ref D) (put S1 D (.lst (ws.map f)))) : wLc wi (wName j) wYes te vs ρ S Q := by
  refine hw _ fun D hD => ⟨fun i acc S' => i ≤ ws.length ∧ acc = (ws.map f).take i ∧ S' = put S1 D (.lst acc), ⟨Nat.zero_le _, rfl, rfl⟩, ?_, ?_, ?_⟩
  · rintro i acc S' ⟨_, _, rfl⟩
    exact hok D acc hD
  · rintro i w acc S' e ⟨_, ha, rfl⟩
    refine ⟨fun _ => he i w D acc e hD _ ⟨put_same, ?_, ?_⟩, fun h => by cases h⟩
    · rw [ha, List.length_take]
      exact Nat.lt_of_le_of_lt (Nat.min_le_left _ _) (Nat.lt_of_lt_of_le (show i < 200000 by have := (List.getElem?_eq_some_iff.mp e).1; omega) (by decide))
    · refine ⟨(List.getElem?_eq_some_iff.mp e).1, ?_, put_put⟩
      rw [List.take_add_one, List.getElem?_map, e, ha]
      rfl
  · rintro acc S' ⟨_, ha, rfl⟩
    rw [List.take_of_length_le (by rw [List.length_map]; exact Nat.le_refl _)] at ha
    rw [ha]
    exact hd D hD
/-! ### is None -/
def isN : W → Bool
  | .non => true
  | _ => false
def wIsN : RW2 := fun x y S Q => y = .non ∧ Q (.bl (isN x)) S
instance l2_isN {K : PySem.W.Frag} : L2R K (fun x y H Q => y = V.non ∧ Q (V.bl (decide (x = V.non))) H) wIsN := ⟨fun H S x y wx wy Q Qw hh rx ry q po => by
  obtain ⟨rfl, q⟩ := q
  refine ⟨ry, ?_⟩
  have e : decide (x = V.non) = isN wx := by
    cases wx with
    | tup ws =>
      obtain ⟨a, xs, rfl, _⟩ := (show ∃ a xs, x = .ref a ∧ _ from rx)
      rfl
    | rl ws =>
      obtain ⟨a, xs, rfl, _⟩ := (show ∃ a xs, x = .ref a ∧ _ from rx)
      rfl
    | _ => cases (show x = _ from rx); rfl
  rw [e]
  exact po.bl (Tk.refl H) hh q⟩
theorem isN_of {K : PySem.W.Frag} {H : Hp} {x : V} {wx : W} (rx : Rep K H wx x) : decide (x = V.non) = isN wx := by
  cases wx with
  | tup ws =>
    obtain ⟨a, xs, rfl, _⟩ := (show ∃ a xs, x = .ref a ∧ _ from rx)
    rfl
  | rl ws =>
    obtain ⟨a, xs, rfl, _⟩ := (show ∃ a xs, x = .ref a ∧ _ from rx)
    rfl
  | _ => cases (show x = _ from rx); rfl
def wNotN : RW2 := fun x y S Q => y = .non ∧ Q (.bl (!isN x)) S
instance l2_notN {K : PySem.W.Frag} : L2R K (fun x y H Q => y = V.non ∧ Q (V.bl (!decide (x = V.non))) H) wNotN := ⟨fun H S x y wx wy Q Qw hh rx ry q po => by
  obtain ⟨rfl, q⟩ := q
  refine ⟨ry, ?_⟩
  rw [isN_of rx]
  exact po.bl (Tk.refl H) hh q⟩
/-! ### more of the types -/
theorem isTy_tb : isTy "tuple" "bool" = some false := by decide +kernel
theorem isTy_ti : isTy "tuple" "int" = some false := by decide +kernel
theorem isTy_ts : isTy "tuple" "str" = some false := by decide +kernel
theorem isTy_tl : isTy "tuple" "list" = some false := by decide +kernel
theorem isTy_lb : isTy "list" "bool" = some false := by decide +kernel
theorem isTy_li : isTy "list" "int" = some false := by decide +kernel
theorem isTy_ls : isTy "list" "str" = some false := by decide +kernel
theorem isTy_lt : isTy "list" "tuple" = some false := by decide +kernel
theorem isTy_sb : isTy "str" "bool" = some false := by decide +kernel
theorem isTy_si : isTy "str" "int" = some false := by decide +kernel
theorem isTy_st : isTy "str" "tuple" = some false := by decide +kernel
theorem isTy_sl : isTy "str" "list" = some false := by decide +kernel
theorem isTy_is : isTy "int" "str" = some false := by decide +kernel
theorem isTy_it : isTy "int" "tuple" = some false := by decide +kernel
theorem isTy_il : isTy "int" "list" = some false := by decide +kernel
theorem isTy_bi : isTy "bool" "int" = some true := by decide +kernel
theorem isTy_bs : isTy "bool" "str" = some false := by decide +kernel
/-! ### shapes -/
def shN (n : Nat) (w : W) : Prop := datW w = true ∧ (toD w).canLay0 = true ∧ (toD w).depth ≤ n
theorem shN_list {n : Nat} : ∀ {ws : List W}, (∀ w ∈ ws, shN n w) → datWs ws = true ∧ PyData.canLayAll0 (toDs ws) = true ∧ PyData.depthAll (toDs ws) ≤ n
  | [], _ => ⟨rfl, rfl, Nat.zero_le _⟩
  | w :: ws, h => by
    obtain ⟨a, b, c⟩ := h w List.mem_cons_self
    obtain ⟨d, e, f⟩ := shN_list fun x hx => h x (List.mem_cons_of_mem _ hx)
    refine ⟨?_, ?_, ?_⟩
    · unfold datWs; rw [a, d]; rfl
    · unfold toDs; unfold PyData.canLayAll0; rw [b, e]; rfl
    · unfold toDs; unfold PyData.depthAll; exact Nat.max_le.mpr ⟨c, f⟩
theorem shN_tup {n : Nat} {ws : List W} (h : ∀ w ∈ ws, shN n w) : shN (n + 1) (.tup ws) := by
  obtain ⟨a, b, c⟩ := shN_list h
  refine ⟨by unfold datW; exact a, by unfold toD; unfold PyData.canLay0; exact b, ?_⟩
  unfold toD
  unfold PyData.depth
  omega
theorem shN_rl {n : Nat} {ws : List W} (h : ∀ w ∈ ws, shN n w) : shN (n + 1) (.rl ws) := by
  obtain ⟨a, b, c⟩ := shN_list h
  refine ⟨by unfold datW; exact a, by unfold toD; unfold PyData.canLay0; exact b, ?_⟩
  unfold toD
  unfold PyData.depth
  omega
theorem shN_int (n : Int) : shN 0 (.int n) := ⟨rfl, rfl, Nat.le_refl 0⟩
theorem shN_str {n : Str} (h : PyData.strOk n = true) : shN 0 (.str n) := ⟨rfl, h, Nat.le_refl 0⟩
theorem shN_bl (n : Bool) : shN 0 (.bl n) := ⟨rfl, rfl, Nat.le_refl 0⟩
theorem shN_up {n m : Nat} {w : W} (h : shN n w) (l : n ≤ m) : shN m w := ⟨h.1, h.2.1, Nat.le_trans h.2.2 l⟩
theorem shN_sh {n : Nat} {w : W} (h : shN n w) (l : n ≤ 64) : shW w := ⟨h.1, by unfold SeqAt.shaped; rw [h.2.1, decide_eq_true (Nat.le_trans h.2.2 l)]; rfl⟩
theorem eqvW_refl {w : W} (h : shW w) : PyData.eqv (toD w) (toD w) = true := SeqAt.eqv_refl _ (by
  have := h.2
  unfold SeqAt.shaped at this
  rw [Bool.and_eq_true] at this
  exact this.1)
theorem eqvAllW_refl {ws : List W} (h : shW (.rl ws)) : PyData.eqvAll (toDs ws) (toDs ws) = true := SeqAt.eqvAll_refl _ (by
  have := h.2
  unfold SeqAt.shaped at this
  rw [Bool.and_eq_true] at this
  exact this.1)
end Wl
set_option Elab.async false
set_option linter.all false
set_option maxRecDepth 100000
set_option maxHeartbeats 2000000
/-! Words that whnf does not open. -/
namespace Wl
open PySem PySem.Spec PyProof.Rows L2
section
variable {K : PySem.W.Frag} {P : Program} {w : World} {mg : Str → Option Value} {base : Heap}
@[irreducible] def Hd (sp : SpW) : SpW := sp
theorem Hd_eq (sp : SpW) : Hd sp = sp := by unfold Hd; rfl
theorem Hd.mk {sp : SpW} {ws : List W} {S : Sto} {Q : WK} (h : sp ws S Q) : Hd sp ws S Q := by rw [Hd_eq]; exact h
theorem CalW.hd {k : Nat} {x : Str} {sp : SpW} (c : CalW P w K mg base k x sp) : CalW P w K mg base k x (Hd sp) := by rw [Hd_eq]; exact c
@[irreducible] def FgI (Q : WK) : WK := Fg Q
theorem FgI_eq (Q : WK) : FgI Q = Fg Q := by unfold FgI; rfl
theorem fg_here {Q : WK} {v : W} {S : Sto} (h : Q v S) : FgI Q v S := by rw [FgI_eq]; exact ⟨S, Sub.refl S, h⟩
theorem fg_sub {Q : WK} {v : W} {S S' : Sto} (h : Sub S' S) (q : Q v S') : FgI Q v S := by rw [FgI_eq]; exact ⟨S', h, q⟩
theorem calDI {x : Str} {st : Stmt} {N ps : List Str} {k : Nat} {sp : SpW} (d : DefAt K mg x st ps) (SC : FnScope N ps (defScope st))
    (len : ∀ ws S Q, sp ws S Q → ws.length = ps.length)
    (hbody : ∀ (f : Addr) (cdv : Value) (A : Around) (outer : List Env) (s : Shared) (H : Hp) (E : XK), Room k (A.deeper (envOfC x (defScope st) s.heap.objs.size f cdv)) →
      ∃ t tw, PSs (cxOf CX0 P w K mg base N x (defScope st) f cdv A outer s H E).nox (defBody st) t ∧ LS K H t tw ∧ ∀ ws S Q, sp ws S Q → tw { nx := fun _ S' => FgI Q .non S', rt := FgI Q } (startW N ws) S) :
    CalW P w K mg base (k + 1) x sp := calD d SC len fun f cdv A outer s H E hr => by
  obtain ⟨t, tw, h1, h2, h3⟩ := hbody f cdv A outer s H E hr
  refine ⟨t, tw, h1, h2, fun ws S Q h => ?_⟩
  have h4 := h3 ws S Q h
  rw [FgI_eq] at h4
  exact h4
theorem fnDI {x : Str} {st : Stmt} {N ps : List Str} {k : Nat} {sp : SpW} {f : Addr} {fd : FuncData} (F : Fun K x x st f fd) (SC : FnScope N ps (defScope st))
    (len : ∀ ws S Q, sp ws S Q → ws.length = ps.length)
    (hbody : ∀ (f : Addr) (cdv : Value) (A : Around) (outer : List Env) (s : Shared) (H : Hp) (E : XK), Room k (A.deeper (envOfC x (defScope st) s.heap.objs.size f cdv)) →
      ∃ t tw, PSs (cxOf CX0 P w K mg base N x (defScope st) f cdv A outer s H E).nox (defBody st) t ∧ LS K H t tw ∧ ∀ ws S Q, sp ws S Q → tw { nx := fun _ S' => FgI Q .non S', rt := FgI Q } (startW N ws) S) :
    FnOk P w K mg base CX0 (k + 1) f fd ps (liftSp K sp) := fnD F SC len fun f cdv A outer s H E hr => by
  obtain ⟨t, tw, h1, h2, h3⟩ := hbody f cdv A outer s H E hr
  refine ⟨t, tw, h1, h2, fun ws S Q h => ?_⟩
  have h4 := h3 ws S Q h
  rw [FgI_eq] at h4
  exact h4
@[irreducible] def wLcI (wi : TIW) (g : TGW) (tt : TTW) (te : TEW) (vs : List Nat) : TEW := wLc wi g tt te vs
theorem wLcI_eq (wi : TIW) (g : TGW) (tt : TTW) (te : TEW) (vs : List Nat) : wLcI wi g tt te vs = wLc wi g tt te vs := by unfold wLcI; rfl
instance (priority := high) le_lcI {wi : TI} {g : TG} {tt : TT} {te : TE} {vs : List Nat} {ww : TIW} {gw : TGW} {tw : TTW} {ew : TEW} [h : LI K B wi ww] [b : LG K B g gw] [gg : GW g vs] [c : LT K B tt tw] [a : LE K B te ew] : LE K B (tLc wi g tt te vs) (wLcI ww gw tw ew vs) := by
  rw [wLcI_eq]; infer_instance
theorem lc_mk {wi : TIW} {g : TGW} {tt : TTW} {te : TEW} {vs : List Nat} {ρ : StW} {S : Sto} {Q : WK} (h : wi ρ S fun ws ok S1 => ∀ D, S1 D = none → ∃ P : Nat → List W → Sto → Prop, P 0 [] (put S1 D (.lst [])) ∧
  (∀ i acc S', P i acc S' → ok S') ∧
  (∀ i w acc S', ws[i]? = some w → P i acc S' → g w (wipeW ρ vs) S' fun ρ2 S2 => tt ρ2 S2 fun b S3 =>
    (b = true → te ρ2 S3 fun y S4 => S4 D = some (.lst acc) ∧ acc.length < sizeLine ∧ P (i + 1) (acc ++ [y]) (put S4 D (.lst (acc ++ [y])))) ∧ (b = false → P (i + 1) acc S3)) ∧
  ∀ acc S', P ws.length acc S' → Q (.ref D) S') : wLcI wi g tt te vs ρ S Q := by rw [wLcI_eq]; exact h
theorem lcMapI {wi : TIW} {j : Nat} {te : TEW} {vs : List Nat} {ρ : StW} {S S1 : Sto} {Q : WK} {ws : List W} {ok : Sto → Prop} (f : W → W) (hw : ∀ R : List W → (Sto → Prop) → Sto → Prop, R ws ok S1 → wi ρ S R) (hl : ws.length ≤ 100000)
    (hok : ∀ (D : Addr) (acc : List W), S1 D = none → ok (put S1 D (.lst acc)))
    (he : ∀ (i : Nat) (w : W) (D : Addr) (acc : List W), ws[i]? = some w → S1 D = none → ∀ Q' : WK, Q' (f w) (put S1 D (.lst acc)) → te ((wipeW ρ vs).set j (some w)) (put S1 D (.lst acc)) Q')
    (hd : ∀ (D : Addr), S1 D = none → Q (.ref D) (put S1 D (.lst (ws.map f)))) : wLcI wi (wName j) wYes te vs ρ S Q := by rw [wLcI_eq]; exact lcMap f hw hl hok he hd
/-- all but p is as it was -/
@[irreducible] def Kp (S : Sto) (p : Addr) (S' : Sto) : Prop := ∀ a c, a ≠ p → S a = some c → S' a = some c
theorem Kp_eq (S : Sto) (p : Addr) (S' : Sto) : Kp S p S' = ∀ a c, a ≠ p → S a = some c → S' a = some c := by unfold Kp; rfl
theorem Kp.refl (S : Sto) (p : Addr) : Kp S p S := by rw [Kp_eq]; exact fun _ _ _ h => h
theorem Kp.at {S S' : Sto} {p : Addr} {c : Cell} (h : Kp S p S') : Kp S p (put S' p c) := by
  rw [Kp_eq] at *
  exact fun a d ha e => by rw [put_ne ha]; exact h a d ha e
theorem Kp.free {S S' : Sto} {p d : Addr} {c : Cell} (h : Kp S p S') (hp : S' p = some c) (n : S' d = none) : S d = none := by
  rw [Kp_eq] at h
  cases e : S d with
  | none => rfl
  | some x =>
    have hd : d ≠ p := fun z => by rw [z, hp] at n; cases n
    rw [h d x hd e] at n; cases n
theorem Kp.new {S S' : Sto} {p d : Addr} {c : Cell} (h : Kp S p S') (n : S d = none) : Kp S p (put S' d c) := by
  rw [Kp_eq] at *
  exact fun a e ha q => by
    have hd : a ≠ d := fun z => by rw [z, n] at q; cases q
    rw [put_ne hd]; exact h a e ha q
theorem Kp.sub {S S' : Sto} {p : Addr} {c : Cell} (h : Kp S p S') (hp : S' p = some c) : Sub (put S p c) S' := by
  rw [Kp_eq] at h
  exact fun a d e => by
    by_cases q : a = p
    · rw [q, put_same] at e; rw [q, hp]; exact e
    · rw [put_ne q] at e; exact h a d q e
/-! pools -/
theorem take_go {p : Addr} {c n b s many : Int} {S : Sto} {Q : WK} (h : S p = some (.lst (poolL c n b s))) (ok : PoolOk c n s) (hn : n < 1000000) (h0 : 0 < many) (h1 : many < 2 ^ 64)
    (q : ∀ r c', 0 ≤ r → r < many → PoolOk c' (n + 1) s → Q (.int r) (put S p (.lst (poolL c' (n + 1) b s)))) : Hd spTake [.ref p, .int many] S Q := Hd.mk ⟨p, c, n, b, s, many, rfl, h, ok, hn, h0, h1, q⟩
theorem pool_go {ns : List Int} {k : Int} {S : Sto} {Q : WK} (h0 : 0 ≤ k) (h1 : k ≤ 1000) (hl : ns.length ≤ 63) (q : ∀ p c b s, S p = none → PoolOk c 0 s → Q (.ref p) (put S p (.lst (poolL c 0 b s)))) : Hd spPool [.rl (ns.map W.int), .int k] S Q := Hd.mk ⟨ns, k, rfl, h0, h1, hl, q⟩
theorem sh_pr (a b : Int) : shW (.tup [.int a, .int b]) := shN_sh (n := 1) (shN_tup fun w hw => by
  rw [List.mem_cons, List.mem_cons] at hw
  rcases hw with rfl | rfl | hw
  · exact shN_int _
  · exact shN_int _
  · cases hw) (by decide)
end
end Wl
set_option Elab.async false
set_option linter.all false
set_option maxRecDepth 100000
set_option maxHeartbeats 2000000
/-! Exceptions over data. -/
namespace Wl
open PySem PySem.Spec PyProof.Rows L2
variable {K : PySem.W.Frag} {B : Hp}
/-- an exception: its class, the fields of its own dict -/
structure Ex where
  cls : Value
  fs : List (Str × W) := []
def RepX (K : PySem.W.Frag) (H : Hp) (ex : Ex) (cls : Value) (d : Option Addr) : Prop :=
  cls = ex.cls ∧ ((d = none ∧ ex.fs = []) ∨ ∃ a gs, d = some a ∧ H a = some (.xd gs) ∧ RepKV K H ex.fs gs)
abbrev XQ := Ex → Sto → Prop
abbrev XW := Ex → StW → Sto → Prop
def PoX (K : PySem.W.Frag) (H : Hp) (E : XK) (Ew : XQ) : Prop := ∀ cls d H' ex S', Tk H H' → HRep K H' S' → RepX K H' ex cls d → Ew ex S' → E cls d H'
theorem PoX.tk {H H1 : Hp} {E : XK} {Ew : XQ} (h : PoX K H E Ew) (t : Tk H H1) : PoX K H1 E Ew := fun cls d H' ex S' t' => h cls d H' ex S' (t.trans t')
class PX (K : PySem.W.Frag) (B : Hp) (W : WX) (Xw : outParam XW) : Prop where
  l : ∀ cls d σ H ex ρ S, SRep K B H σ ρ → HRep K H S → RepX K H ex cls d → Xw ex ρ S → W cls d σ H
/-- nothing is let out -/
abbrev WX0 : WX := fun _ _ _ _ => False
abbrev XW0 : XW := fun _ _ _ => False
instance px_none : PX K B WX0 XW0 := ⟨fun _ _ _ _ _ _ _ _ _ _ h => h⟩
theorem SRep.rebase {H H' : Hp} {σ : L2.St} {ρ : StW} (h : SRep K H H' σ ρ) (t : Tk B H) : SRep K B H' σ ρ := ⟨t.trans h.bs, h.len, h.at_⟩
theorem SRep.top {H : Hp} {σ : L2.St} {ρ : StW} (h : SRep K B H σ ρ) : SRep K H H σ ρ := ⟨Tk.refl H, h.len, h.at_⟩
theorem PoD.rebase {H : Hp} {D : Ends} {Dw : EndsW} (h : PoD K B H D Dw) (t : Tk B H) : PoD K H H D Dw :=
  ⟨fun σ' H' ρ' S' t' hs => h.nx σ' H' ρ' S' t' (hs.rebase t), fun σ' H' ρ' S' t' hs => h.bk σ' H' ρ' S' t' (hs.rebase t), fun σ' H' ρ' S' t' hs => h.ct σ' H' ρ' S' t' (hs.rebase t), h.rt⟩

/-! ### raise -/
abbrev TMk := L2.St → Hp → XK → Prop
abbrev TMkW := StW → Sto → XQ → Prop
class LMk (K : PySem.W.Frag) (B : Hp) (t : TMk) (tw : outParam TMkW) : Prop where
  l : ∀ σ H ρ S Q Qw, SRep K B H σ ρ → HRep K H S → tw ρ S Qw → PoX K H Q Qw → t σ H Q
def tMk0 (C : Addr) : TMk := fun _ H Q => Q (.ref C) none H
def wMk0 (C : Addr) : TMkW := fun _ S Q => Q ⟨.ref C, []⟩ S
instance lmk_0 {C : Addr} : LMk K B (tMk0 C) (wMk0 C) := ⟨fun σ H ρ S Q Qw hs hh q po => po _ _ H _ S (Tk.refl H) hh ⟨rfl, .inl ⟨rfl, rfl⟩⟩ q⟩
theorem pmk_own0 {X : Cx} {C : Addr} {bmB : List Value} {B newId initId : String} {x : Str} {p pos : Pos} (F : ExcBaseFacts B newId initId bmB) (q : PySem.W.excIn X.K C bmB newId = true) (gC : X.mg x = some (.ref C)) (kC : PySem.W.keepIn X.K (.ref C) = true) (r : Raises X (.ref C)) (hg : Gl X x)
    (hdb : (x == ("__debug__" : Str)) = false := by decide) : PMk X (.Call (.Name x p) [] [] pos) (tMk0 C) := by
  intro pins s σ H Q I h
  refine wpAny_Call_Name_kw (ld_glob I hg gC ?_ hdb)
  refine PySem.W.callWith_K0 I.kIn kC ?_
  show wpAny _ _ (call (.ref C) []) _ _ _
  obtain ⟨bm, N, nm, qn, bs, hdct, sn, sub, ab, col, dd, k0, k1, k2, k3, k5, mN, hC, hN, hni, T⟩ := exc_obj I.kIn q
  refine wpAny_call_exc_subT F T hC hN hni (fun h' e hm => ?_) (Nat.zero_le _)
  exact mk_of I hm r h (I.hok.gone hm.new)
def tRaise (t : TMk) (W : WX) : TS := fun _ σ H => t σ H fun cls d H' => W cls d σ H'
def wRaise (t : TMkW) (Xw : XW) : TSW := fun _ ρ S => t ρ S fun ex S' => Xw ex ρ S'
instance ls_raise {t : TMk} {W : WX} {tw : TMkW} {Xw : XW} [px : PX K B W Xw] [m : LMk K B t tw] : LS K B (tRaise t W) (wRaise tw Xw) := ⟨fun σ H ρ S D Dw hs hh q po =>
  m.l σ H ρ S _ _ hs hh q fun cls d H' ex S' t' hh' r q' => px.l cls d σ H' ex ρ S' (hs.tk t') hh' r q'⟩
theorem ps_raiseW {X : Cx} {W : WX} {e : Expr} {t : TMk} {pos : Pos} (hc : X.calm = true) (tk : Takes X W) (he : PMk X e t) : PS X (.Raise (some e) none pos) (tRaise t W) := ps_raise hc tk he

/-! ### defs that may raise -/
abbrev SpX := List W → Sto → WK → XQ → Prop
def liftX (K : PySem.W.Frag) (sp : SpX) : Sp := fun vs H Q E => ∃ ws S Qw Ew, RepL K H ws vs ∧ HRep K H S ∧ sp ws S Qw Ew ∧ PoE K H Q Qw ∧ PoX K H E Ew
def wCallX (sp : SpX) (Xw : XW) (t : TAW) : TEW := fun ρ S Q => t ρ S fun ws S1 => sp ws S1 Q fun ex S2 => Xw ex ρ S2
instance le_callX {sp : SpX} {W : WX} {Xw : XW} {t : TA} {tw : TAW} [px : PX K B W Xw] [a : LA K B t tw] : LE K B (tCallS (liftX K sp) (WE W) t) (wCallX sp Xw tw) := ⟨fun σ H ρ S Q Qw hs hh q po =>
  a.l σ H ρ S _ _ hs hh q fun xs H1 ws S1 t1 hh1 r1 q1 => ⟨ws, S1, Qw, _, r1, hh1, q1, po.tk t1, fun cls d H' ex S' t hh' r q' => px.l cls d σ H' ex ρ S' (hs.tk (t1.trans t)) hh' r q'⟩⟩
section
variable {P : Program} {w : World} {mg : Str → Option Value} {base : Heap}
structure CalX (P : Program) (w : World) (K : PySem.W.Frag) (mg : Str → Option Value) (base : Heap) (k : Nat) (x : Str) (sp : SpX) : Prop where
  ex : ∃ (f : Addr) (fd : FuncData) (ps : List Str), FnOk P w K mg base (L2.CX P w) k f fd ps (liftX K sp) ∧ mg x = some (.ref f) ∧ PySem.W.keepIn K (.ref f) = true ∧ Binds K fd ps []
theorem CalX.mono {j k : Nat} {x : Str} {sp : SpX} (c : CalX P w K mg base j x sp) (h : j ≤ k) : CalX P w K mg base k x sp := by
  obtain ⟨f, fd, ps, F, r⟩ := c.ex
  exact ⟨f, fd, ps, F.mono h, r⟩
theorem CalX.imp {k : Nat} {x : Str} {sp sp' : SpX} (c : CalX P w K mg base k x sp) (h : ∀ ws S Q E, sp' ws S Q E → sp ws S Q E) : CalX P w K mg base k x sp' := by
  obtain ⟨f, fd, ps, F, r⟩ := c.ex
  exact ⟨f, fd, ps, F.imp fun vs H Q E ⟨ws, S, Qw, Ew, h1, h2, h3, h4⟩ => ⟨ws, S, Qw, Ew, h1, h2, h _ _ _ _ h3, h4⟩, r⟩
@[irreducible] def HdX (sp : SpX) : SpX := sp
theorem HdX_eq (sp : SpX) : HdX sp = sp := by unfold HdX; rfl
theorem HdX.mk {sp : SpX} {ws : List W} {S : Sto} {Q : WK} {E : XQ} (h : sp ws S Q E) : HdX sp ws S Q E := by rw [HdX_eq]; exact h
theorem CalX.hd {k : Nat} {x : Str} {sp : SpX} (c : CalX P w K mg base k x sp) : CalX P w K mg base k x (HdX sp) := by rw [HdX_eq]; exact c
/-- a def that raises nothing where its promise holds, called where something may be raised -/
theorem k_x (K : PySem.W.Frag) {X : Cx} {W : WX} {k j : Nat} {x : Str} {sp : SpX} {p pos : Pos} {e : Expr} {es : List Expr} {t : TA} (tk : Takes X W) (c : CalX X.prog X.w K X.mg X.base k x sp) (hr : Room j X.A) (hk : k ≤ j) (hg : Gl X x) (ha : PA X (e :: es) t)
    (hdb : (x == ("__debug__" : Str)) = false := by decide) (he : starEach (e :: es) X.env = (false, eval e X.env) :: starEach es X.env := by rfl) (hpl : (backTo pos (starEach es X.env)).any (·.1) = false := by rfl) (hK : X.K = K := by rfl) :
    PE X (.Call (.Name x p) (e :: es) [] pos) (tCallS (liftX K sp) (WE W) t) := by
  subst hK
  obtain ⟨f, fd, ps, F, hm, kp, b⟩ := c.ex
  exact pe_callS F (hr.mono hk) hg hm kp b (passAt tk) ha hdb he hpl
/-- what a def lets out -/
abbrev WD (E : XK) : WX := fun cls d _ H => E cls d H
@[irreducible] def FgX (Ew : XQ) : XQ := fun ex S => ∃ S', Sub S' S ∧ Ew ex S'
theorem FgX_eq (Ew : XQ) (ex : Ex) (S : Sto) : FgX Ew ex S = ∃ S', Sub S' S ∧ Ew ex S' := by unfold FgX; rfl
theorem fgx_here {Ew : XQ} {ex : Ex} {S : Sto} (h : Ew ex S) : FgX Ew ex S := by rw [FgX_eq]; exact ⟨S, Sub.refl S, h⟩
theorem fgx_sub {Ew : XQ} {ex : Ex} {S S' : Sto} (h : Sub S' S) (q : Ew ex S') : FgX Ew ex S := by rw [FgX_eq]; exact ⟨S', h, q⟩
abbrev XD (Ew : XQ) : XW := fun ex _ S => FgX Ew ex S
theorem calX {x : Str} {st : Stmt} {N ps : List Str} {k : Nat} {sp : SpX} (d : DefAt K mg x st ps) (SC : FnScope N ps (defScope st))
    (len : ∀ ws S Q E, sp ws S Q E → ws.length = ps.length)
    (hbody : ∀ (f : Addr) (cdv : Value) (A : Around) (outer : List Env) (s : Shared) (H : Hp) (E : XK) (Ew : XQ), Room k (A.deeper (envOfC x (defScope st) s.heap.objs.size f cdv)) →
      Takes (cxOf (L2.CX P w) P w K mg base N x (defScope st) f cdv A outer s H E) (WD E) → PX K H (WD E) (XD Ew) →
      ∃ t tw, PSs (cxOf (L2.CX P w) P w K mg base N x (defScope st) f cdv A outer s H E) (defBody st) t ∧ LS K H t tw ∧ ∀ ws S Q, sp ws S Q Ew → tw { nx := fun _ S' => FgI Q .non S', rt := FgI Q } (startW N ws) S) :
    CalX P w K mg base (k + 1) x sp := by
  obtain ⟨f, fd, F, hm, b⟩ := d.ex
  refine ⟨f, fd, ps, F.okX SC (fun vs H Q E ⟨ws, S, Qw, Ew, h1, _, h3, _⟩ => by rw [h1.length]; exact len _ _ _ _ h3) (fun cdv A outer s H vs Q E hr ⟨ws, S, Qw, Ew, h1, h2, h3, h4, h5⟩ => ?_), hm, F.kp, b⟩
  have px : PX K H (WD E) (XD Ew) := ⟨fun cls d σ H' ex ρ S' hs hh r q => by
    have q : FgX Ew ex S' := q
    rw [FgX_eq] at q
    obtain ⟨S2, sub, q⟩ := q
    exact h5 cls d H' ex S2 hs.bs (hh.sub sub) r q⟩
  obtain ⟨t, tw, ht, hl, hq⟩ := hbody f cdv A outer s H E Ew hr (takes_of rfl rfl rfl rfl) px
  refine ⟨t, ht, hl.l _ H (startW N ws) S _ _ (SRep.init h1) h2 (hq ws S Qw h3) ⟨?_, fun _ _ _ _ _ _ _ z => z.elim, fun _ _ _ _ _ _ _ z => z.elim, ?_⟩⟩
  · intro σ' H' ρ' S' t1 _ hh q
    have q : FgI Qw .non S' := q
    rw [FgI_eq] at q
    obtain ⟨S2, sub, q⟩ := q
    exact h4.non t1 (hh.sub sub) q
  · intro v H' w S' t1 hh r q
    have q : FgI Qw w S' := q
    rw [FgI_eq] at q
    obtain ⟨S2, sub, q⟩ := q
    exact h4 v H' w S2 t1 (hh.sub sub) r q
/-- where nothing can be raised, a def that may raise raises nothing -/
theorem CalX.calm {k : Nat} {x : Str} {sp : SpX} (c : CalX P w K mg base k x sp) : CalX P w K mg base k x sp := c
end

/-! ### try: .. except C: .. -/
/-- the wish that a data wish makes -/
def Wc (K : PySem.W.Frag) (B : Hp) (Xw : XW) : WX := fun cls d σ H => ∃ ex ρ S, SRep K B H σ ρ ∧ HRep K H S ∧ RepX K H ex cls d ∧ Xw ex ρ S
instance px_wc {Xw : XW} : PX K B (Wc K B Xw) Xw := ⟨fun cls d σ H ex ρ S h1 h2 h3 h4 => ⟨ex, ρ, S, h1, h2, h3, h4⟩⟩
def tWeak (tb : WX → TS) (W : WX) : TS := fun D σ H => ∃ W' : WX, (∀ cls d σ' H', W' cls d σ' H' → W cls d σ' H') ∧ tb W' D σ H
abbrev HbW (K : PySem.W.Frag) (tb : WX → TS) (tbw : XW → TSW) : Prop := ∀ (B1 : Hp) (Xw : XW), LS K B1 (tb (Wc K B1 Xw)) (tbw Xw)
def tTryO (K : PySem.W.Frag) (c : Value) (tb : WX → TS) (ts : Addr → Value → Option Addr → TS) (Wout : WX) (tbw : XW → TSW) (_ : HbW K tb tbw) : TS := fun D σ H => tWeak tb (wOnly K c ts Wout D) D σ H
def wTryO (K : PySem.W.Frag) (c : Value) (tb : XW → TSW) (ts : TSW) (Xout : XW) : TSW := fun D ρ S =>
  tb (fun ex ρ' S' => ∃ b, PySem.W.exmOne K ex.cls c = some b ∧ (b = true → ts D ρ' S') ∧ (b = false → Xout ex ρ' S')) D ρ S
instance ls_tryO {c : Value} {tb : WX → TS} {ts : Addr → Value → Option Addr → TS} {Wout : WX} {tbw : XW → TSW} {hb : HbW K tb tbw} {tsw : TSW} {Xout : XW} [px : PX K B Wout Xout]
    [hsu : ∀ a cls d, LS K B (ts a cls d) tsw] : LS K B (tTryO K c tb ts Wout tbw hb) (wTryO K c tbw tsw Xout) := ⟨fun σ H ρ S D Dw hs hh q po => by
  refine ⟨Wc K H (fun ex ρ' S' => ∃ b, PySem.W.exmOne K ex.cls c = some b ∧ (b = true → tsw Dw ρ' S') ∧ (b = false → Xout ex ρ' S')), ?_, ?_⟩
  · rintro cls d σ' H' ⟨ex, ρ', S', hs', hh', r, b, e1, e2, e3⟩
    have rc := r.1
    refine ⟨b, by rw [rc]; exact e1, fun hbt a ha => ?_, fun hbf => px.l cls d σ' H' ex ρ' S' (hs'.rebase hs.bs) hh' r (e3 hbf)⟩
    exact (hsu a cls d).l σ' H' ρ' S' D Dw (hs'.rebase hs.bs) hh' (e2 hbt) (po.tk hs'.bs)
  · exact (hb H _).l σ H ρ S D Dw hs.top hh q (po.rebase hs.bs)⟩
theorem pss_weak {X : Cx} {body : List Stmt} {tb : WX → TS} {W : WX} (tk : Takes X W) (hb : ∀ W', Takes X W' → PSs X body (tb W')) : PSs X body (tWeak tb W) :=
  ⟨fun pins s σ H D I ⟨W', hi, h⟩ => (hb W' (tk.imp hi)).run pins s σ H D I h⟩
theorem ps_tryO (K : PySem.W.Frag) {X : Cx} {x : Str} {c : Value} {body suite : List Stmt} {b₀ : Stmt} {np pos pos' : Pos} {tb : WX → TS} {ts : Addr → Value → Option Addr → TS} {Wout : WX} {tbw : XW → TSW} (hs : X.stack = X.env :: X.outer) (hf : X.env.frame = some X.env.locals) (hc : Names X x c) (tk : Takes X Wout)
    (hb : ∀ (W : WX) (pn : List (Addr × Obj)) (xe : Value → Shared → Prop), Takes (X.tr pn xe) W → PassesOwn (model X.prog X.w) X.A X.env xe → PSs (X.tr pn xe) body (tb W))
    (hsu : ∀ (a : Addr) (oe : Obj) (cls : Value) (d : Option Addr) (pn : List (Addr × Obj)), Zc cls d oe → (∃ vs, oe.data = .fields vs) → PSs (X.suite a ((a, oe) :: pn)) (b₀ :: suite) (ts a cls d)) (hbw : HbW K tb tbw) (hK : X.K = K := by rfl) :
    PS X (.Try body [.ExceptHandler (some (.Name x np)) none (b₀ :: suite) pos'] [] [] pos) (tTryO K c tb ts Wout tbw hbw) := by
  subst hK
  exact ps_try_only (tb := tWeak tb) hs hf hc tk (fun W pn xe tkb pob => pss_weak tkb fun W' tk' => hb W' pn xe tk' pob) hsu
end Wl
set_option Elab.async false
set_option linter.all false
set_option maxRecDepth 100000
set_option maxHeartbeats 2000000
/-! More built-in things over data. -/
namespace Wl
open PySem PySem.Spec PyProof.Rows L2
variable {K : PySem.W.Frag} {B : Hp}
/-! ### sep.join(texts) -/
def rJoinA (K : PySem.W.Frag) : V → List V → Hp → VK → Prop := fun x xs H Q => ∃ a p, ∃ ys : List Str, x = .str a ∧ xs = [.ref p] ∧ (SqL K H p (ys.map V.str) ∨ SqT K H p (ys.map V.str)) ∧
    (ys.map (·.length)).sum + ys.length * a.length ≤ 16777216 ∧ Q (.str (Txt.join a ys)) H
theorem k_joinM (K : PySem.W.Frag) {X : Cx} (hK : X.K = K := by rfl) : MtR X "str.join" (rJoinA K) := by subst hK; exact mt_join
/-- the texts of a row -/
def strsOf : List W → Option (List Str)
  | [] => some []
  | .str x :: ws => (strsOf ws).map (x :: ·)
  | _ => none
theorem strsOf_map (ys : List Str) : strsOf (ys.map W.str) = some ys := by
  induction ys with
  | nil => rfl
  | cons y ys ih => show (strsOf (ys.map W.str)).map (y :: ·) = _; rw [ih]; rfl
theorem strsOf_eq : ∀ {ws : List W} {ys : List Str}, strsOf ws = some ys → ws = ys.map W.str
  | [], ys, h => by cases h; rfl
  | w :: ws, ys, h => by
    cases w with
    | str x =>
      have h : (strsOf ws).map (x :: ·) = some ys := h
      cases e : strsOf ws with
      | none => rw [e] at h; cases h
      | some zs =>
        rw [e] at h
        cases h
        rw [strsOf_eq e]
        rfl
    | _ => cases h
def joinAt (a : Str) (ws : List W) (S : Sto) (Q : WK) : Prop := ∃ ys, ws = List.map W.str ys ∧ (ys.map (·.length)).sum + ys.length * a.length ≤ 16777216 ∧ Q (.str (Txt.join a ys)) S
def wJoin : W → List W → Sto → WK → Prop := fun x ws S Q => match x, ws with
  | .str a, [.tup ws] => joinAt a ws S Q
  | .str a, [.rl ws] => joinAt a ws S Q
  | .str a, [.ref p] => ∃ ws, S p = some (.lst ws) ∧ joinAt a ws S Q
  | _, _ => False
instance lm_join : LMR K (rJoinA K) wJoin := ⟨fun H S x wx xs ws Q Qw hh rx r q po => by
  unfold wJoin at q
  split at q
  · cases (show x = _ from rx)
    obtain ⟨y, rfl, p, zs, rfl, h1, h2⟩ := rep1 r
    obtain ⟨ys, rfl, hl, q⟩ := q
    rw [h2.strs] at h1
    exact ⟨_, p, ys, rfl, rfl, .inr h1, hl, po.str (Tk.refl H) hh q⟩
  · cases (show x = _ from rx)
    obtain ⟨y, rfl, p, zs, rfl, h1, h2⟩ := rep1 r
    obtain ⟨ys, rfl, hl, q⟩ := q
    rw [h2.strs] at h1
    exact ⟨_, p, ys, rfl, rfl, .inl h1.sq, hl, po.str (Tk.refl H) hh q⟩
  · cases (show x = _ from rx)
    obtain ⟨y, rfl, ry⟩ := rep1 r
    cases (show y = _ from ry)
    obtain ⟨ws, e, ys, rfl, hl, q⟩ := q
    obtain ⟨zs, h1, h2⟩ := hh _ _ e
    rw [h2.strs] at h1
    exact ⟨_, _, ys, rfl, rfl, .inl (SqL.of h1), hl, po.str (Tk.refl H) hh q⟩
  · exact q.elim⟩
/-! ### xs.extend(ys) -/
def wExtend : W → List W → Sto → WK → Prop := fun x ws S Q => match x, ws with
  | .ref l, [.ref b] => ∃ xs ys, S l = some (.lst xs) ∧ S b = some (.lst ys) ∧ xs.length + ys.length ≤ sizeLine ∧ Q .non (put S l (.lst (xs ++ ys)))
  | _, _ => False
instance lm_extend : LMR K rExtend wExtend := ⟨fun H S x wx xs ws Q Qw hh rx r q po => by
  unfold wExtend at q
  split at q
  · cases (show x = _ from rx)
    obtain ⟨y, rfl, ry⟩ := rep1 r
    cases (show y = _ from ry)
    obtain ⟨xs, ys, e1, e2, hl, q⟩ := q
    obtain ⟨vs, h1, h2⟩ := hh _ _ e1
    obtain ⟨us, g1, g2⟩ := hh _ _ e2
    have t : Tk H (upd H _ (.lst (vs ++ us))) := Tk.mut h1 (fun _ z => (by cases z)) (fun _ _ z => (by cases z))
    obtain ⟨t, hm⟩ := hh.mut (c' := .lst _) (o := .lst (vs ++ us)) e1 ⟨_, upd_same, (RepL.tk t _ _ h2).append (RepL.tk t _ _ g2)⟩
    exact ⟨_, _, vs, us, rfl, rfl, h1, g1, by rw [h2.length, g2.length]; exact hl, po.non t hm q⟩
  · exact q.elim⟩
end Wl
set_option Elab.async false
set_option linter.all false
set_option maxRecDepth 100000
set_option maxHeartbeats 2000000
/-! A module's constants, the text's own errors. -/
namespace Wl
open PySem PySem.Spec PyProof.Rows L2
variable {K : PySem.W.Frag} {B : Hp}
structure ConstAt (K : PySem.W.Frag) (mg : Str → Option Value) (x : Str) (wd : W) : Prop where
  ex : ∃ u v, mg x = some u ∧ RelV v u ∧ ∀ H, Rep K H wd v
def tGl (K : PySem.W.Frag) (wd : W) : TE := fun _ H Q => ∀ v, (∀ H', Rep K H' wd v) → Q v H
instance le_gl {wd : W} : LE K B (tGl K wd) (wC wd) := ⟨fun σ H ρ S Q Qw hs hh q po v hv => po v H wd S (Tk.refl H) hh (hv H) q⟩
theorem k_gl (K : PySem.W.Frag) {X : Cx} {x : Str} {wd : W} {pos : Pos} (c : ConstAt K X.mg x wd) (hg : Gl X x) (hd : (x == ("__debug__" : Str)) = false := by decide) : PE X (.Name x pos) (tGl K wd) := by
  obtain ⟨u, v, hm, r, hv⟩ := c.ex
  exact ⟨fun pins s σ H Q I h => (pe_glob (pos := pos) hg hm r hd).run pins s σ H Q I (h v hv)⟩
theorem const_int {mg : Str → Option Value} {x : Str} {i : Int} {t : Tok} (h : mg x = some (.int i t)) : ConstAt K mg x (.int i) := ⟨⟨_, .int i, h, ⟨t, rfl⟩, fun _ => rfl⟩⟩
theorem const_str {mg : Str → Option Value} {x : Str} {i : Str} {t : Tok} (h : mg x = some (.str i t)) : ConstAt K mg x (.str i) := ⟨⟨_, .str i, h, ⟨t, rfl⟩, fun _ => rfl⟩⟩
/-- a value of the written part -/
def Wr (K : PySem.W.Frag) (wd : W) (u : Value) : Prop := ∃ v, RelV v u ∧ ∀ H, Rep K H wd v
theorem wr_int {i : Int} {t : Tok} : Wr K (.int i) (.int i t) := ⟨.int i, ⟨t, rfl⟩, fun _ => rfl⟩
theorem wr_str {i : Str} {t : Tok} : Wr K (.str i) (.str i t) := ⟨.str i, ⟨t, rfl⟩, fun _ => rfl⟩
theorem wr_bl {i : Bool} : Wr K (.bl i) (.bool i) := ⟨.bl i, rfl, fun _ => rfl⟩
theorem wr_non : Wr K .non .none := ⟨.non, rfl, fun _ => rfl⟩
inductive Wrs (K : PySem.W.Frag) : List W → List Value → Prop where
  | nil : Wrs K [] []
  | cons {wd : W} {u : Value} {ws : List W} {us : List Value} : Wr K wd u → Wrs K ws us → Wrs K (wd :: ws) (u :: us)
theorem Wrs.vals : ∀ {ws : List W} {us : List Value}, Wrs K ws us → ∃ vs, Vals vs us ∧ ∀ H, RepL K H ws vs
  | _, _, .nil => ⟨[], .nil, fun _ => rfl⟩
  | _, _, .cons ⟨v, r, hv⟩ t => by
    obtain ⟨vs, h1, h2⟩ := t.vals
    exact ⟨v :: vs, .cons r h1, fun H => .cons (hv H) (h2 H)⟩
theorem wr_tup {r : Addr} {od : Option Addr} {its : List Value} {n : Nat} {sl : Array (Option Value)} {ws : List W} (l : K.lookup r = some ⟨.type "tuple", od, .seq its.toArray n, sl⟩) (hz : its.length ≤ 1000) (h : Wrs K ws its) : Wr K (.tup ws) (.ref r) := by
  obtain ⟨vs, h1, h2⟩ := h.vals
  exact ⟨.ref r, rfl, fun H => ⟨r, vs, rfl, .inr ⟨_, _, _, l, rfl, rfl, by rw [List.size_toArray]; exact Nat.le_trans hz (by decide), by simpa using h1⟩, h2 H⟩⟩
theorem const_wr {mg : Str → Option Value} {x : Str} {u : Value} {wd : W} (h : mg x = some u) (r : Wr K wd u) : ConstAt K mg x wd := by
  obtain ⟨v, r, hv⟩ := r
  exact ⟨⟨_, v, h, r, hv⟩⟩
/-! ### an own error class over ValueError, without __init__ -/
structure ErrAt (K : PySem.W.Frag) (mg : Str → Option Value) (x : Str) (C : Addr) : Prop where
  gC : mg x = some (.ref C)
  xC : PySem.W.excIn K C [.type "ValueError", .type "Exception", .type "BaseException", .type "object"] "ValueError.__new__" = true
  kC : PySem.W.keepIn K (.ref C) = true
  bC : PySem.W.subIn K (.ref C) (.type "BaseException") = some true
  tC : PySem.W.typeIn K (.ref C) = some (.type "type")
/-- raise C() -/
theorem k_raise0 (K : PySem.W.Frag) {X : Cx} {W : WX} {C : Addr} {x : Str} {p pos pos' : Pos} (c : ErrAt K X.mg x C) (hc : X.calm = true) (tk : Takes X W) (hg : Gl X x) (hdb : (x == ("__debug__" : Str)) = false := by decide) (hK : X.K = K := by rfl) :
    PS X (.Raise (some (.Call (.Name x p) [] [] pos)) none pos') (tRaise (tMk0 C) W) := by
  subst hK
  exact ps_raiseW hc tk (pmk_own0 PySem.F.excBase_ValueError c.xC c.gC c.kC (raises_own c.bC c.tC) hg hdb)
theorem ErrAt.names {X : Cx} {mg : Str → Option Value} {x : Str} {C : Addr} (c : ErrAt K mg x C) (hg : Gl X x) (hmg : X.mg = mg := by rfl) (hdb : (x == ("__debug__" : Str)) = false := by decide) : Names X x (.ref C) := by
  subst hmg
  exact ⟨hg, hdb, .inl c.gC⟩
end Wl
set_option Elab.async false
set_option linter.all false
set_option maxRecDepth 100000
set_option maxHeartbeats 2000000
/-! Loops, comprehensions, meeting ways: hidden until asked. -/
namespace Wl
open PySem PySem.Spec PyProof.Rows L2
variable {K : PySem.W.Frag} {B : Hp}
@[irreducible] def ForQ (g : TGW) (tb : TSW) (D : EndsW) (ρ : StW) (ws : List W) (ok : Sto → Prop) (S1 : Sto) : Prop := ∃ P : Nat → StW → Sto → Prop, P 0 ρ S1 ∧ (∀ i ρ' S', P i ρ' S' → ok S') ∧
  (∀ i w ρ' S', ws[i]? = some w → P i ρ' S' → g w ρ' S' fun ρ2 S2 => tb { D with nx := P (i + 1), ct := P (i + 1), bk := D.nx } ρ2 S2) ∧ ∀ ρ' S', P ws.length ρ' S' → D.nx ρ' S'
theorem for_q {g : TGW} {tb : TSW} {D : EndsW} {ρ : StW} {ws : List W} {ok : Sto → Prop} {S1 : Sto} (P : Nat → StW → Sto → Prop) (h0 : P 0 ρ S1) (hok : ∀ i ρ' S', P i ρ' S' → ok S')
    (turn : ∀ i w ρ' S', ws[i]? = some w → P i ρ' S' → g w ρ' S' fun ρ2 S2 => tb { D with nx := P (i + 1), ct := P (i + 1), bk := D.nx } ρ2 S2) (fin : ∀ ρ' S', P ws.length ρ' S' → D.nx ρ' S') : ForQ g tb D ρ ws ok S1 := by
  unfold ForQ
  exact ⟨P, h0, hok, turn, fin⟩
def wForQ (wi : TIW) (g : TGW) (tb : TSW) : TSW := fun D ρ S => wi ρ S fun ws ok S1 => ForQ g tb D ρ ws ok S1
theorem wForQ_eq (wi : TIW) (g : TGW) (tb : TSW) : wForQ wi g tb = wFor wi g tb := by
  funext D ρ S
  unfold wForQ wFor ForQ
  rfl
instance (priority := high) ls_forQ {wi : TI} {g : TG} {tb : TS} {ww : TIW} {gw : TGW} {tw : TSW} [h : LI K B wi ww] [b : LG K B g gw] [a : LS K B tb tw] : LS K B (tFor wi g tb) (wForQ ww gw tw) := by
  rw [wForQ_eq]; infer_instance
@[irreducible] def LcQ (g : TGW) (tt : TTW) (te : TEW) (vs : List Nat) (ρ : StW) (Q : WK) (ws : List W) (ok : Sto → Prop) (S1 : Sto) : Prop := ∀ D, S1 D = none → ∃ P : Nat → List W → Sto → Prop, P 0 [] (put S1 D (.lst [])) ∧
  (∀ i acc S', P i acc S' → ok S') ∧
  (∀ i w acc S', ws[i]? = some w → P i acc S' → g w (wipeW ρ vs) S' fun ρ2 S2 => tt ρ2 S2 fun b S3 =>
    (b = true → te ρ2 S3 fun y S4 => S4 D = some (.lst acc) ∧ acc.length < sizeLine ∧ P (i + 1) (acc ++ [y]) (put S4 D (.lst (acc ++ [y])))) ∧ (b = false → P (i + 1) acc S3)) ∧
  ∀ acc S', P ws.length acc S' → Q (.ref D) S'
def wLcQ (wi : TIW) (g : TGW) (tt : TTW) (te : TEW) (vs : List Nat) : TEW := fun ρ S Q => wi ρ S fun ws ok S1 => LcQ g tt te vs ρ Q ws ok S1
theorem wLcQ_eq (wi : TIW) (g : TGW) (tt : TTW) (te : TEW) (vs : List Nat) : wLcQ wi g tt te vs = wLc wi g tt te vs := by
  funext ρ S Q
  unfold wLcQ wLc LcQ
  rfl
instance (priority := high + 1) le_lcQ {wi : TI} {g : TG} {tt : TT} {te : TE} {vs : List Nat} {ww : TIW} {gw : TGW} {tw : TTW} {ew : TEW} [h : LI K B wi ww] [b : LG K B g gw] [gg : GW g vs] [c : LT K B tt tw] [a : LE K B te ew] : LE K B (tLc wi g tt te vs) (wLcQ ww gw tw ew vs) := by
  rw [wLcQ_eq]; exact le_lc
section
variable {g : TGW} {tt : TTW} {te : TEW} {vs : List Nat} {ρ : StW} {Q : WK} {ws : List W} {ok : Sto → Prop} {S1 : Sto}
/-- any element: what holds behind the i-th -/
theorem lc_q (h : ∀ D, S1 D = none → ∃ P : Nat → List W → Sto → Prop, P 0 [] (put S1 D (.lst [])) ∧ (∀ i acc S', P i acc S' → ok S') ∧
    (∀ i w acc S', ws[i]? = some w → P i acc S' → g w (wipeW ρ vs) S' fun ρ2 S2 => tt ρ2 S2 fun b S3 =>
      (b = true → te ρ2 S3 fun y S4 => S4 D = some (.lst acc) ∧ acc.length < sizeLine ∧ P (i + 1) (acc ++ [y]) (put S4 D (.lst (acc ++ [y])))) ∧ (b = false → P (i + 1) acc S3)) ∧
    ∀ acc S', P ws.length acc S' → Q (.ref D) S') : LcQ g tt te vs ρ Q ws ok S1 := by unfold LcQ; exact h
theorem lc_map {j : Nat} (f : W → W) (hl : ws.length ≤ 100000) (hok : ∀ (D : Addr) (acc : List W), S1 D = none → ok (put S1 D (.lst acc)))
    (he : ∀ (i : Nat) (w : W) (D : Addr) (acc : List W), ws[i]? = some w → S1 D = none → ∀ Q' : WK, Q' (f w) (put S1 D (.lst acc)) → te ((wipeW ρ vs).set j (some w)) (put S1 D (.lst acc)) Q')
    (hd : ∀ (D : Addr), S1 D = none → Q (.ref D) (put S1 D (.lst (ws.map f)))) : LcQ (wName j) wYes te vs ρ Q ws ok S1 := by
  have h := lcMap (wi := fun ρ S R => R ws ok S) (ρ := ρ) (S := S1) f (fun R h => h) hl hok he hd
  unfold wLc at h
  unfold LcQ
  exact h
/-- with a test that changes nothing -/
theorem lc_fil {j : Nat} (p : W → Bool) (f : W → W) (hl : ws.length ≤ 100000) (hok : ∀ (D : Addr) (acc : List W), S1 D = none → ok (put S1 D (.lst acc)))
    (ht : ∀ (i : Nat) (w : W) (D : Addr) (acc : List W), ws[i]? = some w → S1 D = none → EvW tt ((wipeW ρ vs).set j (some w)) (put S1 D (.lst acc)) (p w))
    (he : ∀ (i : Nat) (w : W) (D : Addr) (acc : List W), ws[i]? = some w → p w = true → S1 D = none → ∀ Q' : WK, Q' (f w) (put S1 D (.lst acc)) → te ((wipeW ρ vs).set j (some w)) (put S1 D (.lst acc)) Q')
    (hd : ∀ (D : Addr), S1 D = none → Q (.ref D) (put S1 D (.lst ((ws.filter p).map f)))) : LcQ (wName j) tt te vs ρ Q ws ok S1 := by
  refine lc_q fun D hD => ⟨fun i acc S' => i ≤ ws.length ∧ acc = ((ws.take i).filter p).map f ∧ S' = put S1 D (.lst acc), ⟨Nat.zero_le _, rfl, rfl⟩, ?_, ?_, ?_⟩
  · rintro i acc S' ⟨_, _, rfl⟩
    exact hok D acc hD
  · rintro i w acc S' e ⟨_, ha, rfl⟩
    have hi : i < ws.length := (List.getElem?_eq_some_iff.mp e).1
    have tk : ws.take (i + 1) = ws.take i ++ [w] := by rw [List.take_add_one, e]; rfl
    refine ht i w D acc e hD _ ⟨fun hb => he i w D acc e hb hD _ ⟨put_same, ?_, ?_⟩, fun hb => ⟨hi, ?_, rfl⟩⟩
    · rw [ha, List.length_map]
      refine Nat.lt_of_le_of_lt (Nat.le_trans (List.length_filter_le _ _) (by rw [List.length_take]; exact Nat.min_le_left _ _)) (Nat.lt_of_lt_of_le (show i < 200000 by omega) (by decide))
    · refine ⟨hi, ?_, put_put⟩
      rw [tk, List.filter_append, List.map_append, ha]
      simp [hb]
    · rw [tk, List.filter_append, List.map_append, ha]
      simp [hb]
  · rintro acc S' ⟨_, ha, rfl⟩
    rw [List.take_of_length_le (Nat.le_refl _)] at ha
    rw [ha]
    exact hd D hD
end
@[irreducible] def WhQ (c : TTW) (tb : TSW) : TSW := wWhile c tb
theorem WhQ_eq (c : TTW) (tb : TSW) : WhQ c tb = wWhile c tb := by unfold WhQ; rfl
instance (priority := high) ls_whQ {c : TT} {tb : TS} {cw : TTW} {tw : TSW} [h : LT K B c cw] [a : LS K B tb tw] : LS K B (tWhile c tb) (WhQ cw tw) := by
  rw [WhQ_eq]; infer_instance
theorem wh_q {c : TTW} {tb : TSW} {D : EndsW} {ρ : StW} {S : Sto} (I : Nat → StW → Sto → Prop) (h0 : ∃ m, I m ρ S) (turn : ∀ m ρ S, I m ρ S → c ρ S fun b S1 =>
  (b = true → tb { D with nx := fun ρ' S' => ∃ m', m' < m ∧ I m' ρ' S', ct := fun ρ' S' => ∃ m', m' < m ∧ I m' ρ' S', bk := D.nx } ρ S1) ∧ (b = false → D.nx ρ S1)) : WhQ c tb D ρ S := by
  rw [WhQ_eq]; exact ⟨I, h0, turn⟩
@[irreducible] def MidQ (t u : TSW) : TSW := wMid t u
theorem MidQ_eq (t u : TSW) : MidQ t u = wMid t u := by unfold MidQ; rfl
instance (priority := high) ls_midQ {t u : TS} {tw uw : TSW} [a : LS K B t tw] [b : LS K B u uw] : LS K B (tMid t u) (MidQ tw uw) := by
  rw [MidQ_eq]; infer_instance
theorem mid_q {t u : TSW} {D : EndsW} {ρ : StW} {S : Sto} (M : StW → Sto → Prop) (h1 : t { D with nx := M } ρ S) (h2 : ∀ ρ' S', M ρ' S' → u D ρ' S') : MidQ t u D ρ S := by
  rw [MidQ_eq]; exact ⟨M, h1, h2⟩
end Wl
set_option Elab.async false
set_option linter.all false
set_option maxRecDepth 100000
set_option maxHeartbeats 2000000
/-! What stays; pools; joined texts. -/
namespace Wl
open PySem PySem.Spec PyProof.Rows L2
variable {K : PySem.W.Frag} {B : Hp}
/-! a + b, tuples of any length -/
def rAddB (K : PySem.W.Frag) : R2 := fun x y H Q => rAddA K x y H Q ∨ L2.rCatA K x y H Q
theorem k_addB (K : PySem.W.Frag) {X : Cx} (hK : X.K = K := by rfl) : OpR X (binaryOp .Add) (rAddB K) := by
  subst hK
  intro pins s σ H x y v u Q I rx ry h
  rcases h with h | h
  · exact op_addA pins s σ H x y v u Q I rx ry h
  · exact L2.op_catA pins s σ H x y v u Q I rx ry h
def wAddB : RW2 := fun x y S Q => match x, y with
  | .int i, .int j => Q (.int (i + j)) S
  | .str i, .str j => i.length + j.length ≤ sizeLine ∧ Q (.str (i ++ j)) S
  | .tup a, .tup b => a.length + b.length ≤ sizeLine ∧ Q (.tup (a ++ b)) S
  | .ref a, .ref b => ∃ xs ys, S a = some (.lst xs) ∧ S b = some (.lst ys) ∧ xs.length + ys.length ≤ sizeLine ∧ ∀ p, S p = none → Q (.ref p) (put S p (.lst (xs ++ ys)))
  | _, _ => False
instance l2_addB : L2R K (rAddB K) wAddB := ⟨fun H S x y wx wy Q Qw hh rx ry q po => by
  have old : wAdd wx wy S Qw → rAddB K x y H Q := fun q => .inl (l2_add.l H S x y wx wy Q Qw hh rx ry q po)
  cases wx <;> cases wy <;> first
    | exact q.elim
    | exact old q
    | skip
  obtain ⟨a, as, rfl, h1, r1⟩ := (show ∃ a xs, x = .ref a ∧ _ from rx)
  obtain ⟨b, bs, rfl, h2, r2⟩ := (show ∃ a xs, y = .ref a ∧ _ from ry)
  obtain ⟨hl, q⟩ := q
  refine .inr ⟨a, b, as, bs, rfl, rfl, h1, h2, by rw [r1.length, r2.length]; exact hl, fun z => ?_, fun _ z => ?_, fun _ _ p hp => po.ntup hp hh (r1.append r2) q⟩
  · subst z
    have e := List.length_eq_zero_iff.mp (r1.length.symm.trans (List.length_nil))
    rw [e, List.nil_append] at q
    exact po.tup (Tk.refl H) hh h2 r2 q
  · subst z
    have e := List.length_eq_zero_iff.mp (r2.length.symm.trans (List.length_nil))
    rw [e, List.append_nil] at q
    exact po.tup (Tk.refl H) hh h1 r1 q⟩
/-- just the cells of ps may be others -/
def OffL (ps : List Addr) (S S' : Sto) : Prop := ∀ a, a ∉ ps → S' a = S a
def KpL (ps : List Addr) (S T : Sto) : Prop := ∀ a c, a ∉ ps → S a = some c → T a = some c
theorem OffL.kp {ps : List Addr} {S T : Sto} (h : OffL ps S T) : KpL ps S T := fun a c ha e => by rw [h a ha]; exact e
theorem KpL.refl (ps : List Addr) (S : Sto) : KpL ps S S := fun _ _ _ h => h
theorem KpL.trans {ps : List Addr} {S T U : Sto} (h : KpL ps S T) (g : KpL ps T U) : KpL ps S U := fun a c ha e => g a c ha (h a c ha e)
theorem KpL.mono {ps qs : List Addr} {S T : Sto} (h : KpL ps S T) (hs : ∀ a ∈ ps, a ∈ qs) : KpL qs S T := fun a c ha e => h a c (fun z => ha (hs a z)) e
theorem KpL.new {ps : List Addr} {S T : Sto} {d : Addr} {c : Cell} (h : KpL ps S T) (n : T d = none) : KpL ps S (put T d c) := fun a e ha q => by
  have h1 := h a e ha q
  rw [put_ne (fun z => by rw [z, n] at h1; cases h1)]
  exact h1
theorem KpL.at {ps : List Addr} {S T : Sto} {d : Addr} {c : Cell} (h : KpL ps S T) (hd : d ∈ ps) : KpL ps S (put T d c) := fun a e ha q => by
  rw [put_ne (fun z => ha (by rw [z]; exact hd))]
  exact h a e ha q
/-- the free cells of S may be written -/
theorem KpL.own {ps : List Addr} {S T : Sto} {d : Addr} {c : Cell} (h : KpL ps S T) (n : S d = none) : KpL ps S (put T d c) := fun a e ha q => by
  rw [put_ne (fun z => by rw [z, n] at q; cases q)]
  exact h a e ha q
theorem KpL.off {ps qs : List Addr} {S T U : Sto} (h : KpL ps S T) (g : OffL qs T U) (hs : ∀ a ∈ qs, a ∈ ps ∨ S a = none) : KpL ps S U := fun a c ha e => by
  rw [g a (fun z => by
    rcases hs a z with h1 | h1
    · exact ha h1
    · rw [h1] at e; cases e)]
  exact h a c ha e
theorem KpL.free {ps : List Addr} {S T : Sto} {d : Addr} (h : KpL ps S T) (n : T d = none) (hd : d ∉ ps) : S d = none := by
  cases e : S d with
  | none => rfl
  | some x => rw [h d x hd e] at n; cases n
theorem fg_off {ps : List Addr} {S T : Sto} {Q : WK} {v : W} (h : KpL ps S T) (q : ∀ S', OffL ps S S' → (∀ a ∈ ps, S' a = T a) → Q v S') : FgI Q v T := by
  refine fg_sub (S' := fun a => if a ∈ ps then T a else S a) (fun a c e => ?_) (q _ (fun a ha => if_neg ha) (fun a ha => if_pos ha))
  have e : (if a ∈ ps then T a else S a) = some c := e
  by_cases ha : a ∈ ps
  · rw [if_pos ha] at e; exact e
  · rw [if_neg ha] at e; exact h a c ha e
theorem notin1 {a p : Addr} (h : a ≠ p) : a ∉ [p] := fun z => h (List.mem_singleton.mp z)
theorem notin2 {a p q : Addr} (h : a ≠ p) (g : a ≠ q) : a ∉ [p, q] := fun z => by
  rcases List.mem_cons.mp z with e | e
  · exact h e
  · exact g (List.mem_singleton.mp e)
theorem notin3 {a p q r : Addr} (h : a ≠ p) (g : a ≠ q) (f : a ≠ r) : a ∉ [p, q, r] := fun z => by
  rcases List.mem_cons.mp z with e | e
  · exact h e
  · exact notin2 g f e
/-- a pool of at most N drawn numbers -/
def Pl (S : Sto) (p : Addr) (N : Int) : Prop := ∃ c n b s, S p = some (.lst (poolL c n b s)) ∧ 0 ≤ c ∧ 0 ≤ n ∧ n ≤ N ∧ 0 ≤ s ∧ s < 2147483647
theorem Pl.some {S : Sto} {p : Addr} {N : Int} (h : Pl S p N) : ∃ c, S p = some c := by
  obtain ⟨c, n, b, s, e, _⟩ := h
  exact ⟨_, e⟩
theorem Pl.ne {S : Sto} {p d : Addr} {N : Int} (h : Pl S p N) (n : S d = none) : d ≠ p := by
  obtain ⟨c, e⟩ := h.some
  exact ne_free e n
theorem Pl.eq {S T : Sto} {p : Addr} {N : Int} (h : Pl S p N) (e : T p = S p) : Pl T p N := by
  obtain ⟨c, n, b, s, e1, r⟩ := h
  exact ⟨c, n, b, s, e.trans e1, r⟩
theorem Pl.mono {S : Sto} {p : Addr} {N M : Int} (h : Pl S p N) (l : N ≤ M) : Pl S p M := by
  obtain ⟨c, n, b, s, e1, h1, h2, h3, h4⟩ := h
  exact ⟨c, n, b, s, e1, h1, h2, by omega, h4⟩
def spTk : SpW := fun ws S Q => ∃ (p : Addr) (N many : Int), ws = [.ref p, .int many] ∧ Pl S p N ∧ N < 2 ^ 40 ∧ 0 < many ∧ many < 2 ^ 64 ∧ ∀ r S', 0 ≤ r → r < many → Pl S' p (N + 1) → OffL [p] S S' → Q (.int r) S'
theorem tk_go {p : Addr} {N many : Int} {S : Sto} {Q : WK} (h : Pl S p N) (hN : N < 2 ^ 40) (h0 : 0 < many) (h1 : many < 2 ^ 64) (q : ∀ r S', 0 ≤ r → r < many → Pl S' p (N + 1) → OffL [p] S S' → Q (.int r) S') : Hd spTk [.ref p, .int many] S Q := Hd.mk ⟨p, N, many, rfl, h, hN, h0, h1, q⟩
def spPl : SpW := fun ws S Q => ∃ (ns : List Int) (k : Int), ws = [.rl (ns.map W.int), .int k] ∧ 0 ≤ k ∧ k ≤ 1000 ∧ ns.length ≤ 63 ∧ ∀ p S', S p = none → Pl S' p 0 → OffL [p] S S' → Q (.ref p) S'
theorem pl_go {ns : List Int} {k : Int} {S : Sto} {Q : WK} (h0 : 0 ≤ k) (h1 : k ≤ 1000) (hl : ns.length ≤ 63) (q : ∀ p S', S p = none → Pl S' p 0 → OffL [p] S S' → Q (.ref p) S') : Hd spPl [.rl (ns.map W.int), .int k] S Q := Hd.mk ⟨ns, k, rfl, h0, h1, hl, q⟩
/-! texts -/
def tl (x : Str) : List Nat := x.cps.toList
theorem tl_len (x : Str) : (tl x).length = x.length := by unfold tl Str.length; simp
theorem tl_ext {x y : Str} (h : tl x = tl y) : x = y := by
  cases x; cases y
  unfold tl at h
  simp only at h
  congr 1
  exact Array.ext' h
theorem tl_append (x y : Str) : tl (x ++ y) = tl x ++ tl y := by
  show (x.cps ++ y.cps).toList = _
  simp [tl]
theorem tl_one (c : Nat) : tl ⟨#[c]⟩ = [c] := rfl
theorem tl_join0 : ∀ ys : List Str, tl (Txt.join "" ys) = (ys.map tl).flatten
  | [] => by decide +kernel
  | [x] => by
    have e : Txt.join "" [x] = Str.join "" [x] := StrLaws.glued_eq_join _ _
    rw [e]
    simp [Str.join]
  | x :: y :: r => by
    have e : ∀ zs, Txt.join "" zs = Str.join "" zs := fun zs => StrLaws.glued_eq_join _ _
    have ih := tl_join0 (y :: r)
    rw [e] at ih ⊢
    show tl (x ++ "" ++ Str.join "" (y :: r)) = _
    rw [tl_append, tl_append, ih]
    have z : tl ("" : Str) = [] := by decide +kernel
    rw [z]
    simp
/-- n letters from a to z -/
def Abc (x : Str) : Prop := ∀ c ∈ tl x, 97 ≤ c ∧ c ≤ 122
def NameOk (x : Str) : Prop := 1 ≤ (tl x).length ∧ (tl x).length ≤ 8 ∧ Abc x
theorem cut_tl (z : Str) (lo hi : Option Int) : tl (cutS z lo hi) = cutL (tl z) lo hi := by
  unfold cutS cutL tl
  simp [Str.length]
end Wl
set_option Elab.async false
set_option linter.all false
set_option maxRecDepth 100000
set_option maxHeartbeats 2000000
/-! Ifs over several tests: hidden until asked. -/
namespace Wl
open PySem PySem.Spec PyProof.Rows L2
variable {K : PySem.W.Frag} {B : Hp}
@[irreducible] def IfQ (c : TTW) (t u : TSW) : TSW := wIfS c t u
theorem IfQ_eq (c : TTW) (t u : TSW) : IfQ c t u = wIfS c t u := by unfold IfQ; rfl
instance (priority := high) ls_ifAnd {c1 c2 : TT} {t u : TS} {cw : TTW} {tw uw : TSW} [h : LT K B (tAnd c1 c2) cw] [a : LS K B t tw] [b : LS K B u uw] : LS K B (tIfS (tAnd c1 c2) t u) (IfQ cw tw uw) := by
  rw [IfQ_eq]; infer_instance
instance (priority := high) ls_ifOr {c1 c2 : TT} {t u : TS} {cw : TTW} {tw uw : TSW} [h : LT K B (tOr c1 c2) cw] [a : LS K B t tw] [b : LS K B u uw] : LS K B (tIfS (tOr c1 c2) t u) (IfQ cw tw uw) := by
  rw [IfQ_eq]; infer_instance
theorem if_q {c : TTW} {t u : TSW} {D : EndsW} {ρ : StW} {S : Sto} (h : wIfS c t u D ρ S) : IfQ c t u D ρ S := by rw [IfQ_eq]; exact h
/-- the tests change nothing -/
theorem if_ev {c : TTW} {t u : TSW} {D : EndsW} {ρ : StW} {S : Sto} (b : Bool) (h : EvW c ρ S b) (h1 : b = true → t D ρ S) (h2 : b = false → u D ρ S) : IfQ c t u D ρ S := by
  rw [IfQ_eq]; exact ifEv h h1 h2
theorem isTy_nb : isTy "NoneType" "bool" = some false := by decide +kernel
theorem isTy_ni : isTy "NoneType" "int" = some false := by decide +kernel
theorem isTy_ns : isTy "NoneType" "str" = some false := by decide +kernel
theorem isTy_nt : isTy "NoneType" "tuple" = some false := by decide +kernel
theorem isTy_nl : isTy "NoneType" "list" = some false := by decide +kernel
theorem isTy_bt : isTy "bool" "tuple" = some false := by decide +kernel
theorem isTy_bl : isTy "bool" "list" = some false := by decide +kernel
theorem isTy_td : isTy "tuple" "dict" = some false := by decide +kernel
theorem isTy_dd : isTy "dict" "dict" = some true := by decide +kernel
theorem OffL.trans1 {ps : List Addr} {S T U : Sto} (h : OffL ps S T) (g : OffL ps T U) : OffL ps S U := fun a ha => (g a ha).trans (h a ha)
end Wl
set_option Elab.async false
set_option linter.all false
set_option maxRecDepth 100000
set_option maxHeartbeats 2000000
/-! insert, str of a text, sorted texts. -/
namespace Wl
open PySem PySem.Spec PyProof.Rows L2
variable {K : PySem.W.Frag} {B : Hp}
/-! ### xs.insert(i, y), i not below 0 -/
def rInsA : V → List V → Hp → VK → Prop := fun x vs H Q => ∃ (l : Addr) (xs : List V) (i : Int) (y : V), x = .ref l ∧ vs = [.int i, y] ∧ H l = some (.lst xs) ∧ xs.length < sizeLine ∧ 0 ≤ i ∧ i < 2 ^ 63 ∧
    Q .non (upd H l (.lst (xs.take i.toNat ++ [y] ++ xs.drop i.toNat)))
theorem mt_insertA {X : Cx} : MtR X "list.insert" rInsA := mt_insert
def wInsA : W → List W → Sto → WK → Prop := fun x ws S Q => match x, ws with
  | .ref l, [.int i, y] => ∃ xs, S l = some (.lst xs) ∧ xs.length < sizeLine ∧ 0 ≤ i ∧ i < 2 ^ 63 ∧ Q .non (put S l (.lst (xs.take i.toNat ++ [y] ++ xs.drop i.toNat)))
  | _, _ => False
instance lm_insertA : LMR K rInsA wInsA := ⟨fun H S x wx xs ws Q Qw hh rx r q po => by
  unfold wInsA at q
  split at q
  · rename_i l i wy
    cases (show x = _ from rx)
    obtain ⟨y, ys, rfl, ry, r⟩ := r
    cases (show y = _ from ry)
    obtain ⟨z, rfl, rz⟩ := rep1 r
    obtain ⟨zs, e, hl, h0, h1, q⟩ := q
    obtain ⟨vs, g1, g2⟩ := hh _ _ e
    have t : Tk H (upd H _ (.lst (vs.take i.toNat ++ [z] ++ vs.drop i.toNat))) := Tk.mut g1 (fun _ z => (by cases z)) (fun _ _ z => (by cases z))
    obtain ⟨t, hm⟩ := hh.mut (c' := .lst _) (o := .lst (vs.take i.toNat ++ [z] ++ vs.drop i.toNat)) e ⟨_, upd_same, ((RepL.tk t _ _ (g2.take i.toNat)).append (.one (Rep.tk t _ _ rz))).append (RepL.tk t _ _ (g2.drop i.toNat))⟩
    exact ⟨_, vs, _, z, rfl, rfl, g1, by rw [g2.length]; exact hl, h0, h1, po.non t hm q⟩
  · exact q.elim⟩
/-! ### str(n), str(x) -/
def rStrA : List V → Hp → VK → Prop := fun xs H Q => (∃ i, xs = [.int i] ∧ i.natAbs.log2 < 1920 ∧ Q (.str (toString i)) H) ∨ ∃ a, xs = [.str a] ∧ Q (.str a) H
theorem call_strA {X : Cx} : CallR X (.type "str") rStrA := by
  intro pins s σ H xs us Q I r h
  rcases h with h | h
  · exact call_str_int pins s σ H xs us Q I r h
  · exact SkE.call_str_str pins s σ H xs us Q I r h
def wStrA : RWC := fun ws S Q => match ws with
  | [.int i] => i.natAbs.log2 < 1920 ∧ Q (.str (toString i)) S
  | [.str a] => Q (.str a) S
  | _ => False
instance lc_strA : LCR K rStrA wStrA := ⟨fun H S xs ws Q Qw hh r q po => by
  unfold wStrA at q
  split at q
  · obtain ⟨x, rfl, h1⟩ := rep1 r
    cases (show x = _ from h1)
    exact .inl ⟨_, rfl, q.1, po.str (Tk.refl H) hh q.2⟩
  · obtain ⟨x, rfl, h1⟩ := rep1 r
    cases (show x = _ from h1)
    exact .inr ⟨_, rfl, po.str (Tk.refl H) hh q⟩
  · exact q.elim⟩
/-! ### sorted(xs): ints, texts -/
def rSortA (K : PySem.W.Frag) : List V → Hp → VK → Prop := fun vs H Q => rSorted K vs H Q ∨ rSortedS K vs H Q
theorem k_sortA (K : PySem.W.Frag) {X : Cx} (hK : X.K = K := by rfl) : CallR X (.builtin "sorted") (rSortA K) := by
  intro pins s σ H xs us Q I r h
  subst hK
  rcases h with h | h
  · exact cr_sorted pins s σ H xs us Q I r h
  · exact cr_sortedS pins s σ H xs us Q I r h
def wSortA : RWC := fun vs S Q => match vs with
  | [.ref a] => (∃ ns : List Int, S a = some (.lst (ns.map W.int)) ∧ ns.length < 64 ∧ ∀ (ns' : List Int) p, ns'.Perm ns → ns'.Pairwise (· ≤ ·) → S p = none → Q (.ref p) (put S p (.lst (ns'.map W.int)))) ∨
      ∃ xs : List Str, S a = some (.lst (xs.map W.str)) ∧ xs.length < 64 ∧ ∀ (ys : List Str) p, ys.Perm xs → sortedS ys = true → S p = none → Q (.ref p) (put S p (.lst (ys.map W.str)))
  | _ => False
instance lc_sortA : LCR K (rSortA K) wSortA := ⟨fun H S xs ws Q Qw hh r q po => by
  unfold wSortA at q
  split at q
  · obtain ⟨x, rfl, h1⟩ := rep1 r
    cases (show x = _ from h1)
    rcases q with ⟨ns, e, hl, q⟩ | ⟨ns, e, hl, q⟩
    · obtain ⟨vs, g1, g2⟩ := hh _ _ e
      have g3 := g2.ints
      subst g3
      exact .inl ⟨_, ns, rfl, SqL.of g1, hl, fun ns' p h1 h2 hp => po.nlst hp hh RepL.ofInts fun p hp => q ns' p h1 h2 hp⟩
    · obtain ⟨vs, g1, g2⟩ := hh _ _ e
      have g3 := g2.strs
      subst g3
      exact .inr ⟨_, ns, rfl, SqL.of g1, hl, fun ns' p h1 h2 hp => po.nlst hp hh RepL.ofStrs fun p hp => q ns' p h1 h2 hp⟩
  · exact q.elim⟩
/-! ### a text times an int -/
def rMulS : R2 := fun x y H Q => ∃ a n, x = .str a ∧ y = .int n ∧ MulOk a n ∧ Q (.str (Txt.mul a n)) H
theorem op_mulS {X : Cx} : OpR X (binaryOp .Mult) rMulS := by
  intro pins s σ H x y v u Q I rx ry h
  obtain ⟨a, n, rfl, rfl, ok, q⟩ := h
  obtain ⟨t, rfl⟩ := rx
  obtain ⟨t2, rfl⟩ := ry
  exact SB.mul ok fun t' k => ⟨.str _, H, I.tok _, ⟨_, rfl⟩, q⟩
def wMulS : RW2 := fun x y S Q => match x, y with
  | .str a, .int n => MulOk a n ∧ Q (.str (Txt.mul a n)) S
  | _, _ => False
instance l2_mulS : L2R K rMulS wMulS := ⟨fun H S x y wx wy Q Qw hh rx ry q po => by
  unfold wMulS at q
  split at q
  · cases (show x = _ from rx)
    cases (show y = _ from ry)
    exact ⟨_, _, rfl, rfl, q.1, po.str (Tk.refl H) hh q.2⟩
  · exact q.elim⟩
end Wl
set_option Elab.async false
set_option linter.all false
set_option maxRecDepth 100000
set_option maxHeartbeats 4000000
set_option synthInstance.maxHeartbeats 4000000
set_option synthInstance.maxSize 100000
namespace K14
open PySem PySem.Spec PyProof.Rows L2 Wl
/-! ### the text -/
def topS (i : Nat) : Stmt := PySem.Challenge.pw_stylepages_k14_selectors_match.main.body.getD i (.Pass ⟨0, 0, 0, 0⟩)
abbrev s_step_fits : Stmt := topS 1
theorem sc_step_fits : FnScope ["step", "pair", "_", "kind", "marks", "mark"] ["step", "pair"] (defScope s_step_fits) := ⟨rfl, rfl, rfl, by decide +kernel, rfl, by decide +kernel, by decide +kernel⟩
abbrev s__follows : Stmt := topS 2
theorem sc__follows : FnScope ["joint", "ends", "position"] ["joint", "ends", "position"] (defScope s__follows) := ⟨rfl, rfl, rfl, by decide +kernel, rfl, by decide +kernel, by decide +kernel⟩
abbrev s_matches : Stmt := topS 3
theorem sc_matches : FnScope ["selector", "path", "ends", "k", "step", "before"] ["selector", "path"] (defScope s_matches) := ⟨rfl, rfl, rfl, by decide +kernel, rfl, by decide +kernel, by decide +kernel⟩
abbrev s__law_pool : Stmt := topS 5
theorem sc__law_pool : FnScope ["_law_script", "_law_at", "_law_cell"] ["_law_script", "_law_at"] (defScope s__law_pool) := ⟨rfl, rfl, rfl, by decide +kernel, rfl, by decide +kernel, by decide +kernel⟩
abbrev s__law_take : Stmt := topS 6
theorem sc__law_take : FnScope ["_law_pool_here", "_law_many", "_law_got", "_law_one", "_law_two"] ["_law_pool_here", "_law_many"] (defScope s__law_take) := ⟨rfl, rfl, rfl, by decide +kernel, rfl, by decide +kernel, by decide +kernel⟩
abbrev s__law_same : Stmt := topS 7
theorem sc__law_same : FnScope ["_law_one", "_law_two", "_law_both", "_law_k"] ["_law_one", "_law_two"] (defScope s__law_same) := ⟨rfl, rfl, rfl, by decide +kernel, rfl, by decide +kernel, by decide +kernel⟩
abbrev s__law_letters : Stmt := topS 8
theorem sc__law_letters : FnScope ["_law_pool_here", "_law_many", "_law_abc", "_law_k"] ["_law_pool_here", "_law_many"] (defScope s__law_letters) := ⟨rfl, rfl, rfl, by decide +kernel, rfl, by decide +kernel, by decide +kernel⟩
abbrev s__law_names : Stmt := topS 9
theorem sc__law_names : FnScope ["_law_pool_here", "_law_many", "_law_stem", "_law_at", "_law_begin", "_law_tails", "_law_abc", "_law_names_here", "_law_k", "_law_letter", "_law_tail"] ["_law_pool_here", "_law_many"] (defScope s__law_names) := ⟨rfl, rfl, rfl, by decide +kernel, rfl, by decide +kernel, by decide +kernel⟩
abbrev s__law_any_names : Stmt := topS 10
theorem sc__law_any_names : FnScope ["_law_pool_here", "_law_many", "_law_names_here", "_law_k", "_law_name", "_law_one"] ["_law_pool_here", "_law_many"] (defScope s__law_any_names) := ⟨rfl, rfl, rfl, by decide +kernel, rfl, by decide +kernel, by decide +kernel⟩
abbrev s__law_marks : Stmt := topS 11
theorem sc__law_marks : FnScope ["_law_pool_here", "_law_names_here", "_law_marks_here", "_law_name", "_law_one"] ["_law_pool_here", "_law_names_here"] (defScope s__law_marks) := ⟨rfl, rfl, rfl, by decide +kernel, rfl, by decide +kernel, by decide +kernel⟩
abbrev s__law_selector : Stmt := topS 12
theorem sc__law_selector : FnScope ["_law_pool_here", "_law_kinds", "_law_marks_here", "_law_longest", "_law_steps", "_law_k", "_law_joint", "_law_kind"] ["_law_pool_here", "_law_kinds", "_law_marks_here", "_law_longest"] (defScope s__law_selector) := ⟨rfl, rfl, rfl, by decide +kernel, rfl, by decide +kernel, by decide +kernel⟩
abbrev s__law_lineage : Stmt := topS 13
theorem sc__law_lineage : FnScope ["_law_pool_here", "_law_kinds", "_law_marks_here", "_law_longest", "_law_pairs", "_law_k", "_law_kind"] ["_law_pool_here", "_law_kinds", "_law_marks_here", "_law_longest"] (defScope s__law_lineage) := ⟨rfl, rfl, rfl, by decide +kernel, rfl, by decide +kernel, by decide +kernel⟩
abbrev s__law_fits : Stmt := topS 14
theorem sc__law_fits : FnScope ["_law_step", "_law_pair", "_law_mark"] ["_law_step", "_law_pair"] (defScope s__law_fits) := ⟨rfl, rfl, rfl, by decide +kernel, rfl, by decide +kernel, by decide +kernel⟩
abbrev s__law_pair_for : Stmt := topS 15
theorem sc__law_pair_for : FnScope ["_law_pool_here", "_law_step", "_law_kinds", "_law_marks_here", "_law_kind", "_law_own", "_law_mark", "_law_one"] ["_law_pool_here", "_law_step", "_law_kinds", "_law_marks_here"] (defScope s__law_pair_for) := ⟨rfl, rfl, rfl, by decide +kernel, rfl, by decide +kernel, by decide +kernel⟩
abbrev s__law_made : Stmt := topS 16
theorem sc__law_made : FnScope ["_law_pool_here", "_law_selector_here", "_law_kinds", "_law_marks_here", "_law_pairs", "_law_step", "_law_k", "_law_spoil", "_law_at", "_law_kind", "_law_strange"] ["_law_pool_here", "_law_selector_here", "_law_kinds", "_law_marks_here"] (defScope s__law_made) := ⟨rfl, rfl, rfl, by decide +kernel, rfl, by decide +kernel, by decide +kernel⟩
abbrev s__law_laid : Stmt := topS 17
theorem sc__law_laid : FnScope ["_law_selector_here", "_law_lineage_here", "_law_step", "_law_at", "_law_lowest", "_law_k"] ["_law_selector_here", "_law_lineage_here", "_law_step", "_law_at"] (defScope s__law_laid) := ⟨rfl, rfl, rfl, by decide +kernel, rfl, by decide +kernel, by decide +kernel⟩
abbrev s_law : Stmt := topS 18
theorem sc_law : FnScope ["_law_script", "_law_pool_here", "_law_names_here", "_law_many", "_law_kinds", "_law_place", "_law_marks_here", "_law_asked", "_law_one", "_law_other", "_law_road", "_law_sort", "_law_lineage_here", "_law_length", "_law_begin", "_law_selector_here", "_law_due"] ["_law_script"] (defScope s_law) := ⟨rfl, rfl, rfl, by decide +kernel, rfl, by decide +kernel, by decide +kernel⟩
structure Txt (K : PySem.W.Frag) (mg : Str → Option Value) : Prop where
  b_abs : mg "abs" = none
  b_all : mg "all" = none
  b_bool : mg "bool" = none
  b_dict : mg "dict" = none
  b_int : mg "int" = none
  b_isinstance : mg "isinstance" = none
  b_len : mg "len" = none
  b_list : mg "list" = none
  b_max : mg "max" = none
  b_range : mg "range" = none
  b_sorted : mg "sorted" = none
  b_str : mg "str" = none
  b_tuple : mg "tuple" = none
local macro_rules | `(tactic| walk_at "w") => `(tactic| (conv => whnf))
/-! what a store holds -/
local macro_rules | `(tactic| walk_at "ne") => `(tactic| first | assumption | (apply Ne.symm; assumption) | exact ne_free (by assumption) (by assumption) | exact (ne_free (by assumption) (by assumption)).symm | exact Pl.ne (by assumption) (by assumption) | exact (Pl.ne (by assumption) (by assumption)).symm)
local macro_rules | `(tactic| walk_at "s") => `(tactic| first
  | exact put_same
  | assumption
  | (refine (put_ne ?_).trans ?_; (· walk_at "ne"); (· walk_at "s")))
/-! a side condition -/
local macro_rules | `(tactic| walk_at "c") => `(tactic| first
  | exact Or.inl (Or.inl ⟨by omega, by omega⟩)
  | exact Or.inl (Or.inr ⟨by omega, by omega⟩)
  | exact Or.inl ⟨by omega, by omega⟩
  | exact Or.inl ⟨rfl, _, by walk_at "s"⟩
  | rfl
  | omega
  | decide
  | exact Nat.le_trans (by omega) sizeLine_ge)
/-! one question is answered, if the answer is plain -/
local macro_rules | `(tactic| walk_at "g1") => `(tactic| first
  | refine ⟨fun _ => ?_, fun h => absurd (show true = false from h) (by decide)⟩
  | refine ⟨fun h => absurd (show false = true from h) Bool.false_ne_true, fun _ => ?_⟩
  | refine ⟨_, by walk_at "s", ?_⟩
  | refine ⟨_, _, by walk_at "s", by walk_at "s", ?_⟩
  | refine ⟨_, by walk_at "s", by simpa using (by omega), ?_⟩
  | refine ⟨_, rfl, ?_⟩
  | refine ⟨_, _, rfl, (by first | exact isTy_tt | exact isTy_ii | exact isTy_ll | exact isTy_ss | exact isTy_ib | exact isTy_tb | exact isTy_ti | exact isTy_ts | exact isTy_tl | exact isTy_lb | exact isTy_li | exact isTy_ls | exact isTy_lt | exact isTy_sb | exact isTy_si | exact isTy_st | exact isTy_sl | exact isTy_is | exact isTy_it | exact isTy_il | exact isTy_bi | exact isTy_bs | exact isTy_bb), ?_⟩
  | refine ⟨_, _, tyName_lst (by walk_at "s"), (by first | exact isTy_ll | exact isTy_lb | exact isTy_li | exact isTy_ls | exact isTy_lt), ?_⟩
  | refine ⟨by walk_at "c", ?_⟩)
local macro_rules | `(tactic| walk_at "go") => `(tactic| (walk_at "w"; repeat (walk_at "g1"; walk_at "w")))
/-! a branch that cannot be -/
local macro_rules | `(tactic| walk_at "two") => `(tactic| refine ⟨fun h => ?_, fun h => ?_⟩)
section
variable {P : Program} {w : World} {K : PySem.W.Frag} {mg : Str → Option Value} {base : Heap}
theorem ok__law_take (T : Txt K mg) (d : DefAt K mg "_law_take" s__law_take ["_law_pool_here", "_law_many"]) : CalW P w K mg base 1 "_law_take" spTk :=
  calDI d sc__law_take (fun ws S Q ⟨p, N, many, e, _⟩ => by rw [e]; rfl) fun f cdv A outer s H E hr => ⟨_, _,
    (pss_cons (ps_asg (pe_op (k_addB K) (pe_ix (k_ix K) (pv 0) pe_int (fun _ _ => rfl)) pe_int) (pg_sub (pv 0) pe_int set_list))
      (pss_cons (ps_if (PW.pt (pw_and (pt_cmpR (k_eq K hr.units) (pe_ix (k_ix K) (pv 0) pe_int (fun _ _ => rfl)) pe_int (nomark _)) (pw_and1 (pt_cmpR op_gtA (pe_ix (k_ix K) (pv 0) pe_int (fun _ _ => rfl)) pe_int (nomark _)))))
       (pss_cons (ps_set (i := 2) sc__law_take.nd rfl (Or.inl rfl) (pe_op op_mod (pe_callTy call_int1 (by rfl) T.b_int (by decide +kernel) (pa_cons (pe_ix (k_ix K) (pv 0) pe_int (fun _ _ => rfl)) pa_nil)) (pv 1)))
       (pss_cons (ps_asg (pe_op op_fdivA (pe_ix (k_ix K) (pv 0) pe_int (fun _ _ => rfl)) (pv 1)) (pg_sub (pv 0) pe_int set_list))
       (pss_one (ps_ret (pv 2)))))
       pss_nil)
      (pss_cons (ps_set (i := 3) sc__law_take.nd rfl (Or.inl rfl) (pe_op op_mod (pe_callTy call_int1 (by rfl) T.b_int (by decide +kernel) (pa_cons (pe_op (k_addB K) (pe_op (k_addB K) (pe_op op_mulA (pe_ix (k_ix K) (pv 0) pe_int (fun _ _ => rfl)) pe_int) (pe_op op_mulA (pe_ix (k_ix K) (pv 0) pe_int (fun _ _ => rfl)) pe_int)) pe_int) pa_nil)) pe_int))
      (pss_cons (ps_set (i := 4) sc__law_take.nd rfl (Or.inl rfl) (pe_op op_mod (pe_callTy call_int1 (by rfl) T.b_int (by decide +kernel) (pa_cons (pe_op (k_addB K) (pe_op (k_addB K) (pe_op op_mulA (pv 3) pe_int) (pe_op op_fdivA (pv 3) pe_int)) (pe_op op_mulA (pe_op op_mulA (pe_ix (k_ix K) (pv 0) pe_int (fun _ _ => rfl)) (pe_ix (k_ix K) (pv 0) pe_int (fun _ _ => rfl))) pe_int)) pa_nil)) pe_int))
      (pss_one (ps_ret (pe_op op_mod (pe_callTy call_int1 (by rfl) T.b_int (by decide +kernel) (pa_cons (pe_op op_fdivA (pv 4) (pe_op (k_addB K) (pe_ix (k_ix K) (pv 0) pe_int (fun _ _ => rfl)) pe_int)) pa_nil)) (pv 1)))))))), inferInstance, by
    rintro ws S Q ⟨p, N, many, rfl, ⟨c, n, b, sd, hp, c0, n0, n1, s0, s1⟩, hN, hm, hm2, q⟩
    have ok' : ∀ c' b', 0 ≤ c' → Pl (put S p (.lst (poolL c' (n + 1) b' sd))) p (N + 1) := fun c' b' h => ⟨c', n + 1, b', sd, put_same, h, by omega, by omega, s0, s1⟩
    have off : ∀ c', OffL [p] S (put S p c') := fun c' a ha => put_ne (fun e => ha (by rw [e]; exact List.mem_singleton.mpr rfl))
    have dv : CDivA c many := .inr (wide_div hm (b := 64) (by omega) (by decide) (by decide))
    walk_at "w"
    refine ⟨_, hp, ?_⟩
    walk_at "w"
    refine ⟨_, 1, hp, rfl, ?_⟩
    walk_at "w"
    refine if_q ?_
    walk_at "w"
    refine ⟨_, put_same, ?_⟩
    walk_at "w"
    refine ⟨fun h => ?_, fun h => ?_⟩
    · walk_at "w"
      refine ⟨_, put_same, ?_⟩
      walk_at "w"
      refine ⟨fun h => ?_, fun h => ?_⟩
      · walk_at "w"
        refine ⟨_, put_same, ?_⟩
        walk_at "w"
        refine ⟨hm, ?_⟩
        walk_at "w"
        refine ⟨_, put_same, ?_⟩
        walk_at "w"
        refine ⟨dv, ?_⟩
        walk_at "w"
        refine ⟨_, 0, put_same, rfl, ?_⟩
        rw [put_put]
        exact fg_here (q _ _ (Int.emod_nonneg _ (by omega)) (Int.emod_lt_of_pos _ hm) (ok' _ b (Int.ediv_nonneg c0 (by omega))) (off _))
      · walk_at "w"
        refine ⟨_, put_same, ?_⟩
        walk_at "w"
        refine ⟨.inl (.inl ⟨by omega, by omega⟩), ?_⟩
        walk_at "w"
        refine ⟨_, put_same, ?_⟩
        walk_at "w"
        refine ⟨.inl (.inl ⟨by omega, by omega⟩), ?_⟩
        walk_at "w"
        refine ⟨(by show (0 : Int) < 2147483647; decide), ?_⟩
        generalize ho : (sd * 48271 + (n + 1) * 69621 + 11) % 2147483647 = one
        have o0 : 0 ≤ one := by rw [← ho]; exact Int.emod_nonneg _ (by decide)
        have o1 : one < 2147483647 := by rw [← ho]; exact Int.emod_lt_of_pos _ (by decide)
        walk_at "w"
        refine ⟨.inl (.inl ⟨by omega, by omega⟩), ?_⟩
        walk_at "w"
        refine ⟨.inl ⟨by decide, by decide⟩, ?_⟩
        walk_at "w"
        refine ⟨_, put_same, ?_⟩
        walk_at "w"
        refine ⟨_, put_same, ?_⟩
        walk_at "w"
        refine ⟨.inl (.inl ⟨by omega, by omega⟩), ?_⟩
        walk_at "w"
        refine ⟨.inl (.inr ⟨by decide, by decide⟩), ?_⟩
        walk_at "w"
        refine ⟨(by show (0 : Int) < 2147483399; decide), ?_⟩
        generalize ht : (one * 16807 + one / 65536 + (n + 1) * (n + 1) * 40692) % 2147483399 = two
        walk_at "w"
        refine ⟨_, put_same, ?_⟩
        walk_at "w"
        refine ⟨.inr (wide_div (by omega) (b := 64) (by omega) (by decide) (by decide)), ?_⟩
        walk_at "w"
        refine ⟨hm, ?_⟩
        exact fg_here (q _ _ (Int.emod_nonneg _ (by omega)) (Int.emod_lt_of_pos _ hm) (ok' c b c0) (off _))
    · refine ⟨fun h => absurd (show false = true from h) Bool.false_ne_true, fun _ => ?_⟩
      walk_at "w"
      refine ⟨_, put_same, ?_⟩
      walk_at "w"
      refine ⟨.inl (.inl ⟨by omega, by omega⟩), ?_⟩
      walk_at "w"
      refine ⟨_, put_same, ?_⟩
      walk_at "w"
      refine ⟨.inl (.inl ⟨by omega, by omega⟩), ?_⟩
      walk_at "w"
      refine ⟨(by show (0 : Int) < 2147483647; decide), ?_⟩
      generalize ho : (sd * 48271 + (n + 1) * 69621 + 11) % 2147483647 = one
      have o0 : 0 ≤ one := by rw [← ho]; exact Int.emod_nonneg _ (by decide)
      have o1 : one < 2147483647 := by rw [← ho]; exact Int.emod_lt_of_pos _ (by decide)
      walk_at "w"
      refine ⟨.inl (.inl ⟨by omega, by omega⟩), ?_⟩
      walk_at "w"
      refine ⟨.inl ⟨by decide, by decide⟩, ?_⟩
      walk_at "w"
      refine ⟨_, put_same, ?_⟩
      walk_at "w"
      refine ⟨_, put_same, ?_⟩
      walk_at "w"
      refine ⟨.inl (.inl ⟨by omega, by omega⟩), ?_⟩
      walk_at "w"
      refine ⟨.inl (.inr ⟨by decide, by decide⟩), ?_⟩
      walk_at "w"
      refine ⟨(by show (0 : Int) < 2147483399; decide), ?_⟩
      generalize ht : (one * 16807 + one / 65536 + (n + 1) * (n + 1) * 40692) % 2147483399 = two
      walk_at "w"
      refine ⟨_, put_same, ?_⟩
      walk_at "w"
      refine ⟨.inr (wide_div (by omega) (b := 64) (by omega) (by decide) (by decide)), ?_⟩
      walk_at "w"
      refine ⟨hm, ?_⟩
      exact fg_here (q _ _ (Int.emod_nonneg _ (by omega)) (Int.emod_lt_of_pos _ hm) (ok' c b c0) (off _))⟩
theorem ok__law_pool (T : Txt K mg) (d : DefAt K mg "_law_pool" s__law_pool ["_law_script", "_law_at"]) : CalW P w K mg base 1 "_law_pool" spPl :=
  calDI d sc__law_pool (fun ws S Q ⟨n, k, e, _⟩ => by rw [e]; rfl) fun f cdv A outer s H E hr => ⟨_, _,
    (pss_cons (ps_set (i := 2) sc__law_pool.nd rfl (Or.inl rfl) pe_int)
      (pss_mid (ps_if (pt_cmpR op_ltA (pv 1) (pe_callB (k_len K) (by rfl) T.b_len (by decide +kernel) (pa_cons (pv 0) pa_nil)) (nomark _))
       (pss_one (ps_set (i := 2) sc__law_pool.nd rfl (Or.inl rfl) (pe_callB call_abs (by rfl) T.b_abs (by decide +kernel) (pa_cons (pe_callTy call_int1 (by rfl) T.b_int (by decide +kernel) (pa_cons (pe_ix (k_ix K) (pv 0) (pv 1) (fun _ _ => rfl)) pa_nil)) pa_nil))))
       pss_nil)
      (pss_one (ps_ret (pe_lst (pa_cons (pv 2) (pa_cons pe_int (pa_cons (pe_callTy call_int1 (by rfl) T.b_int (by decide +kernel) (pa_cons (pe_cmpR op_geA (pv 2) (pe_op op_pow pe_int pe_int) (nomark _)) pa_nil)) (pa_cons (pe_op op_mod (pe_callTy call_int1 (by rfl) T.b_int (by decide +kernel) (pa_cons (pe_op (k_addB K) (pv 2) (pe_op op_mulA (pv 1) pe_int)) pa_nil)) pe_int) (pa_cons pe_int pa_nil)))))))))), inferInstance, by
    rintro ws S Q ⟨ns, k, rfl, h0, h1, hl, q⟩
    walk_at "w"
    refine mid_q (fun ρ S' => S' = S ∧ ∃ c : Int, 0 ≤ c ∧ ρ = [some (.rl (ns.map W.int)), some (.int k), some (.int c)]) ?_ ?_
    · walk_at "w"
      refine ⟨fun h => ?_, fun h => ?_⟩
      · have h := of_decide_eq_true h
        rw [List.length_map] at h
        obtain ⟨n, e⟩ := atI_int (ns := ns) h0 h
        show rdAt (atI (ns.map W.int) k) S _
        rw [e]
        refine ⟨rfl, _, ?_, rfl⟩
        show 0 ≤ if n < 0 then -n else n
        split <;> omega
      · exact ⟨rfl, 0, Int.le_refl 0, rfl⟩
    · rintro ρ S' ⟨rfl, c, hc, rfl⟩
      walk_at "w"
      refine ⟨⟨by decide, by decide, by decide⟩, .inl (.inl ⟨by omega, by omega⟩), (by show (0 : Int) < 2147483647; decide), ?_⟩
      intro p hp
      refine fg_here (q p _ hp ⟨c, 0, _, _, put_same, hc, Int.le_refl 0, Int.le_refl 0, ?_, ?_⟩ fun a ha => put_ne (fun e => ha (by rw [e]; exact List.mem_singleton.mpr rfl)))
      · exact Int.emod_nonneg _ (by decide)
      · exact Int.emod_lt_of_pos _ (by decide)⟩
/-! letters, names -/
theorem abc_at {r : Int} (h0 : 0 ≤ r) (h1 : r < 26) : ∃ c, atI (("abcdefghijklmnopqrstuvwxyz" : Str)).cps.toList r = some c ∧ 97 ≤ c ∧ c ≤ 122 := by
  obtain ⟨j, rfl⟩ : ∃ j : Nat, r = (j : Int) := ⟨r.toNat, by omega⟩
  have hj : j < 26 := by omega
  have hl : (("abcdefghijklmnopqrstuvwxyz" : Str)).cps.toList.length = 26 := by decide +kernel
  have ha : ∀ c ∈ (("abcdefghijklmnopqrstuvwxyz" : Str)).cps.toList, 97 ≤ c ∧ c ≤ 122 := by decide +kernel
  refine ⟨(("abcdefghijklmnopqrstuvwxyz" : Str)).cps.toList[j]'(by omega), atI_nat ?_, ha _ (List.getElem_mem _)⟩
  rw [List.getElem?_eq_getElem]
theorem abc_len : (("abcdefghijklmnopqrstuvwxyz" : Str)).length ≤ sizeLine := by
  have : (("abcdefghijklmnopqrstuvwxyz" : Str)).length = 26 := by decide +kernel
  rw [this]
  exact Nat.le_trans (by decide) sizeLine_ge
theorem flat_ones : ∀ {ys : List Str} {m : Nat}, (∀ y ∈ ys, (tl y).length = m) → ((ys.map tl).flatten).length = m * ys.length
  | [], m, _ => by simp
  | y :: ys, m, h => by
    have ih := flat_ones (ys := ys) (m := m) fun z hz => h z (List.mem_cons_of_mem _ hz)
    rw [List.map_cons, List.flatten_cons, List.length_append, ih, h y List.mem_cons_self, List.length_cons, Nat.mul_succ]
    omega
theorem sum_ones : ∀ {ys : List Str}, (∀ y ∈ ys, (tl y).length = 1) → (ys.map (·.length)).sum = ys.length
  | [], _ => rfl
  | y :: ys, h => by
    have ih := sum_ones (ys := ys) fun z hz => h z (List.mem_cons_of_mem _ hz)
    rw [List.map_cons, List.sum_cons, ih, ← tl_len, h y List.mem_cons_self, List.length_cons]
    omega
def spLet : SpW := fun ws S Q => ∃ (p : Addr) (N many : Int), ws = [.ref p, .int many] ∧ Pl S p N ∧ N < 2 ^ 39 ∧ 0 ≤ many ∧ many ≤ 100 ∧ ∀ x S', ((tl x).length : Int) = many → Abc x → Pl S' p (N + many) → OffL [p] S S' → Q (.str x) S'
theorem let_go {p : Addr} {N many : Int} {S : Sto} {Q : WK} (h : Pl S p N) (hN : N < 2 ^ 39) (h0 : 0 ≤ many) (h1 : many ≤ 100) (q : ∀ x S', ((tl x).length : Int) = many → Abc x → Pl S' p (N + many) → OffL [p] S S' → Q (.str x) S') : Hd spLet [.ref p, .int many] S Q := Hd.mk ⟨p, N, many, rfl, h, hN, h0, h1, q⟩
theorem ok__law_letters (T : Txt K mg) (c__law_take : CalW P w K mg base 1 "_law_take" (Hd spTk)) (d : DefAt K mg "_law_letters" s__law_letters ["_law_pool_here", "_law_many"]) : CalW P w K mg base 2 "_law_letters" spLet :=
  calDI d sc__law_letters (fun ws S Q ⟨p, N, many, e, _⟩ => by rw [e]; rfl) fun f cdv A outer s H E hr => ⟨_, _,
    (pss_cons (ps_set (i := 2) sc__law_letters.nd rfl (Or.inr rfl) pe_str)
      (pss_one (ps_ret (k_bm K PySem.F.plainAttrs_str PySem.F.slot_str_join PySem.F.type_str_join (k_joinM K) pe_str (pa_cons (pe_lc (own := [("_law_k", 3)]) rfl sc__law_letters.nd (pi_range1 rfl T.b_range (pa_cons (pv 1) pa_nil)) (blkOk_by (own := [("_law_k", 3)]) (N := ["_law_pool_here", "_law_many", "_law_abc", "_law_k"]) (sc := defScope s__law_letters) (by decide +kernel)) (fun _ _ _ _ _ => (pg_name (i := 3) sc__law_letters.nd rfl (Or.inl rfl))) (fun _ _ _ _ _ => pts_nil) (fun _ _ _ _ _ => (pe_ix (k_ix K) (pv 2) (k_w K c__law_take hr (by decide) rfl (pa_cons (pv 0) (pa_cons pe_int pa_nil))) (fun _ _ => rfl)))) pa_nil))))), inferInstance, by
    rintro ws S Q ⟨p, N, many, rfl, hp, hN, h0, h1, q⟩
    walk_at "go"
    refine lc_q fun D hD => ⟨fun i acc S' => ∃ ys : List Str, acc = ys.map W.str ∧ ys.length = i ∧ (∀ y ∈ ys, (tl y).length = 1 ∧ Abc y) ∧ i ≤ many.toNat ∧ Pl S' p (N + i) ∧ S' D = some (.lst acc) ∧ KpL [p] S S',
      ⟨[], rfl, rfl, (fun _ h => by cases h), Nat.zero_le _, (hp.eq (put_ne (hp.ne hD).symm)).mono (by omega), put_same, (KpL.refl _ _).new hD⟩, fun _ _ _ _ => trivial, ?_, ?_⟩
    · rintro i w acc S' e ⟨ys, rfl, hl, hy, hi, g1, g2, g3⟩
      obtain ⟨hi2, rfl⟩ := intsW_at e
      have hDp : D ≠ p := hp.ne hD
      walk_at "w"
      refine ⟨fun _ => ?_, fun h => absurd (show true = false from h) (by decide)⟩
      refine tk_go g1 (by omega) (by decide) (by decide) fun r S2 r0 r1 k1 k2 => ?_
      obtain ⟨c, hc, c0, c1⟩ := abc_at r0 r1
      have hD2 := (k2 D (notin1 hDp)).trans g2
      walk_at "w"
      refine ⟨abc_len, c, hc, hD2, ?_, ys ++ [⟨#[c]⟩], by rw [List.map_append]; rfl, by rw [List.length_append, hl]; rfl, ?_, by omega, (k1.eq (put_ne hDp.symm)).mono (by omega), put_same, ?_⟩
      · rw [List.length_map, hl]
        exact Nat.lt_of_lt_of_le (show i < 1000 by omega) sizeLine_ge
      · intro y hy2
        rcases List.mem_append.mp hy2 with h | h
        · exact hy y h
        · rw [List.mem_singleton] at h
          subst h
          exact ⟨rfl, fun z hz => by rw [tl_one, List.mem_singleton] at hz; omega⟩
      · exact (g3.trans k2.kp).own ((KpL.refl [p] S).free hD (notin1 hDp))
    · rintro acc S' ⟨ys, rfl, hl, hy, hi, g1, g2, g3⟩
      rw [intsW_len] at hl g1
      have hl2 : (ys.length : Int) = many := by omega
      walk_at "w"
      refine ⟨_, g2, ys, rfl, ?_, ?_⟩
      · rw [sum_ones fun y h => (hy y h).1]
        show ys.length + ys.length * 0 ≤ 16777216
        omega
      · refine fg_off (ps := [p]) g3 fun S2 o1 o2 => q _ S2 ?_ ?_ ((g1.eq (o2 p (List.mem_singleton.mpr rfl))).mono (by omega)) o1
        · rw [tl_join0, flat_ones fun y h => (hy y h).1]
          omega
        · intro c hc
          rw [tl_join0, List.mem_flatten] at hc
          obtain ⟨l, hl, hc⟩ := hc
          obtain ⟨y, h, rfl⟩ := List.mem_map.mp hl
          exact (hy y h).2 c hc⟩
end
end K14
set_option Elab.async false
set_option linter.all false
set_option maxRecDepth 100000
set_option maxHeartbeats 4000000
set_option synthInstance.maxHeartbeats 4000000
set_option synthInstance.maxSize 100000
namespace K14
open PySem PySem.Spec PyProof.Rows L2 Wl
local macro_rules | `(tactic| walk_at "w") => `(tactic| (conv => whnf))
/-! what a store holds -/
local macro_rules | `(tactic| walk_at "ne") => `(tactic| first | assumption | (apply Ne.symm; assumption) | exact ne_free (by assumption) (by assumption) | exact (ne_free (by assumption) (by assumption)).symm | exact Pl.ne (by assumption) (by assumption) | exact (Pl.ne (by assumption) (by assumption)).symm)
local macro_rules | `(tactic| walk_at "s") => `(tactic| first
  | exact put_same
  | assumption
  | (refine (put_ne ?_).trans ?_; (· walk_at "ne"); (· walk_at "s")))
/-! a side condition -/
local macro_rules | `(tactic| walk_at "c") => `(tactic| first
  | exact Or.inl (Or.inl ⟨by omega, by omega⟩)
  | exact Or.inl (Or.inr ⟨by omega, by omega⟩)
  | exact Or.inl ⟨by omega, by omega⟩
  | exact Or.inl ⟨rfl, _, by walk_at "s"⟩
  | rfl
  | omega
  | decide
  | exact Nat.le_trans (by omega) sizeLine_ge)
/-! one question is answered, if the answer is plain -/
local macro_rules | `(tactic| walk_at "g1") => `(tactic| first
  | refine ⟨fun _ => ?_, fun h => absurd (show true = false from h) (by decide)⟩
  | refine ⟨fun h => absurd (show false = true from h) Bool.false_ne_true, fun _ => ?_⟩
  | refine ⟨_, by walk_at "s", ?_⟩
  | refine ⟨_, _, by walk_at "s", by walk_at "s", ?_⟩
  | refine ⟨_, by walk_at "s", by simpa using (by omega), ?_⟩
  | refine ⟨_, rfl, ?_⟩
  | refine ⟨_, _, rfl, (by first | exact isTy_tt | exact isTy_ii | exact isTy_ll | exact isTy_ss | exact isTy_ib | exact isTy_tb | exact isTy_ti | exact isTy_ts | exact isTy_tl | exact isTy_lb | exact isTy_li | exact isTy_ls | exact isTy_lt | exact isTy_sb | exact isTy_si | exact isTy_st | exact isTy_sl | exact isTy_is | exact isTy_it | exact isTy_il | exact isTy_bi | exact isTy_bs | exact isTy_bb | exact isTy_nb | exact isTy_ni | exact isTy_ns | exact isTy_nt | exact isTy_nl | exact isTy_bt | exact isTy_bl), ?_⟩
  | refine ⟨_, _, tyName_lst (by walk_at "s"), (by first | exact isTy_ll | exact isTy_lb | exact isTy_li | exact isTy_ls | exact isTy_lt), ?_⟩
  | refine if_q ?_
  | refine ⟨by walk_at "c", ?_⟩)
local macro_rules | `(tactic| walk_at "go") => `(tactic| (walk_at "w"; repeat (walk_at "g1"; walk_at "w")))
/-! a branch that cannot be -/
local macro_rules | `(tactic| walk_at "two") => `(tactic| refine ⟨fun h => ?_, fun h => ?_⟩)
section
variable {P : Program} {w : World} {K : PySem.W.Frag} {mg : Str → Option Value} {base : Heap}
structure Stp where
  j : Str
  k : Str
  ms : List Str
abbrev Pr := Str × List Str
def Stp.v (s : Stp) : W := .tup [.str s.j, .str s.k, .tup (s.ms.map W.str)]
def prW (a : Pr) : W := .tup [.str a.1, .tup (a.2.map W.str)]
def hasK (s : Stp) (a : Pr) : Bool := isInW (.str s.k) [.str "*", .str a.1]
def hasM (a : Pr) (m : Str) : Bool := isInW (.str m) (a.2.map W.str)
def fitB (s : Stp) (a : Pr) : Bool := hasK s a && s.ms.all (hasM a)
theorem flat_strs (ms : List Str) : (ms.map W.str).all flatW = true := by
  rw [List.all_map]
  exact List.all_eq_true.mpr fun _ _ => rfl
theorem flat_ints (ms : List Int) : (ms.map W.int).all flatW = true := by
  rw [List.all_map]
  exact List.all_eq_true.mpr fun _ _ => rfl
theorem fg_same {Q : WK} {v : W} {S T : Sto} (h : KpL [] S T) (q : Q v S) : FgI Q v T :=
  fg_off h fun S6 f1 f2 => by
    rw [show S6 = S from funext fun a => f1 a (by simp)]
    exact q
def Sml (s : Stp) : Prop := s.ms.length ≤ 100
def spFit : SpW := fun ws S Q => ∃ (s : Stp) (a : Pr), ws = [s.v, prW a] ∧ Sml s ∧ a.2.length ≤ 100 ∧ Q (.bl (fitB s a)) S
theorem fit_go {s : Stp} {a : Pr} {S : Sto} {Q : WK} (h1 : Sml s) (h2 : a.2.length ≤ 100) (q : Q (.bl (fitB s a)) S) : Hd spFit [s.v, prW a] S Q := Hd.mk ⟨s, a, rfl, h1, h2, q⟩
theorem ok_step_fits (T : Txt K mg) (d : DefAt K mg "step_fits" s_step_fits ["step", "pair"]) : CalW P w K mg base 1 "step_fits" spFit :=
  calDI d sc_step_fits (fun ws S Q ⟨s, a, e, _⟩ => by rw [e]; rfl) fun f cdv A outer s H E hr => ⟨_, _,
    (pss_cons (ps_asg (pv 0) (k_gtup K rfl (pgs_cons (pg_name (i := 2) sc_step_fits.nd rfl (Or.inl rfl)) (pgs_cons (pg_name (i := 3) sc_step_fits.nd rfl (Or.inl rfl)) (pgs_cons (pg_name (i := 4) sc_step_fits.nd rfl (Or.inl rfl)) pgs_nil)))))
      (pss_one (ps_ret (pe_and (pe_cmpR (k_in K) (pv 3) (pe_tup (pa_cons pe_str (pa_cons (pe_ix (k_ix K) (pv 1) pe_int (fun _ _ => rfl)) pa_nil))) rfl) (pe_one (pe_callB (k_all K rfl) (by rfl) T.b_all (by decide +kernel) (pa_cons (pe_lc (own := [("mark", 5)]) rfl sc_step_fits.nd (k_any K (pv 4)) (blkOk_by (own := [("mark", 5)]) (N := ["step", "pair", "_", "kind", "marks", "mark"]) (sc := defScope s_step_fits) (by decide +kernel)) (fun _ _ _ _ _ => (pg_name (i := 5) sc_step_fits.nd rfl (Or.inl rfl))) (fun _ _ _ _ _ => pts_nil) (fun _ _ _ _ _ => (pe_cmpR (k_in K) (pv 5) (pe_ix (k_ix K) (pv 1) pe_int (fun _ _ => rfl)) rfl))) pa_nil))))))), inferInstance, by
    rintro ws S Q ⟨s, a, rfl, hs, ha, q⟩
    walk_at "go"
    walk_at "two"
    · rename_i h
      have h : hasK s a = true := h
      walk_at "w"
      refine lc_map (fun w => .bl (isInW w (a.2.map W.str))) (by rw [List.length_map]; exact Nat.le_trans hs (by decide)) (fun _ _ _ => trivial) ?_ ?_
      · intro i w D acc e hD Q' q'
        obtain ⟨m, _, rfl⟩ := List.mem_map.mp (List.mem_of_getElem? e)
        walk_at "w"
        refine ⟨rfl, flat_strs _, ?_⟩
        exact q'
      · intro D hD
        walk_at "w"
        refine ⟨D, s.ms.map (hasM a), rfl, ?_, ?_⟩
        · rw [put_same, List.map_map, List.map_map]
          rfl
        refine fg_same ((KpL.refl [] S).new hD) ?_
        rw [List.all_map]
        unfold fitB at q
        rw [h] at q
        exact q
    · rename_i h
      have h : hasK s a = false := h
      walk_at "w"
      unfold fitB at q
      rw [h] at q
      exact fg_here q⟩
def folB (j : Str) (es : List Int) (k : Int) : Bool := if j = ">" then isInW (.int (k - 1)) (es.map W.int) else match es with
  | [] => false
  | e :: _ => decide (e < k)
def spFol : SpW := fun ws S Q => ∃ (j : Str) (L : Addr) (es : List Int) (k : Int), ws = [.str j, .ref L, .int k] ∧ S L = some (.lst (es.map W.int)) ∧ es.length ≤ 1000 ∧ Q (.bl (folB j es k)) S
theorem fol_go {j : Str} {L : Addr} {es : List Int} {k : Int} {S : Sto} {Q : WK} (h : S L = some (.lst (es.map W.int))) (hl : es.length ≤ 1000) (q : Q (.bl (folB j es k)) S) : Hd spFol [.str j, .ref L, .int k] S Q := Hd.mk ⟨j, L, es, k, rfl, h, hl, q⟩
theorem ok__follows (T : Txt K mg) (d : DefAt K mg "_follows" s__follows ["joint", "ends", "position"]) : CalW P w K mg base 1 "_follows" spFol :=
  calDI d sc__follows (fun ws S Q ⟨j, L, es, k, e, _⟩ => by rw [e]; rfl) fun f cdv A outer s H E hr => ⟨_, _,
    (pss_cons (ps_if (pt_cmpR (k_eq K hr.units) (pv 0) pe_str (nomark _))
       (pss_one (ps_ret (pe_cmpR (k_in K) (pe_op op_sub (pv 2) pe_int) (pv 1) rfl)))
       pss_nil)
      (pss_one (ps_ret (pe_and (pe_cmpR op_gtA (pe_callB (k_len K) (by rfl) T.b_len (by decide +kernel) (pa_cons (pv 1) pa_nil)) pe_int (nomark _)) (pe_one (pe_cmpR op_ltA (pe_ix (k_ix K) (pv 1) pe_int (fun _ _ => rfl)) (pv 2) (nomark _))))))), inferInstance, by
    rintro ws S Q ⟨j, L, es, k, rfl, h, hl, q⟩
    walk_at "w"
    walk_at "two"
    · rename_i hj
      have hj : j = ">" := of_decide_eq_true hj
      walk_at "go"
      refine ⟨flat_ints _, ?_⟩
      unfold folB at q
      rw [if_pos hj] at q
      exact fg_here q
    · rename_i hj
      have hj : ¬ j = ">" := of_decide_eq_false hj
      unfold folB at q
      rw [if_neg hj] at q
      walk_at "go"
      cases es with
      | nil =>
        refine ⟨fun h => absurd (show false = true from h) Bool.false_ne_true, fun _ => ?_⟩
        exact fg_here q
      | cons e es =>
        refine ⟨fun _ => ?_, fun h => ?_⟩
        · walk_at "w"
          refine ⟨_, h, ?_⟩
          refine rdAt_ok (show atI (W.int e :: es.map W.int) 0 = some (W.int e) from atI_nat (j := 0) rfl) ?_
          walk_at "w"
          exact fg_here q
        · have h : decide ((0 : Int) < ((((e :: es).map W.int).length : Nat) : Int)) = false := h
          rw [decide_eq_true (by rw [List.length_map, List.length_cons]; omega)] at h
          cases h⟩
end
end K14
set_option Elab.async false
set_option linter.all false
set_option maxRecDepth 100000
set_option maxHeartbeats 4000000
set_option synthInstance.maxHeartbeats 4000000
set_option synthInstance.maxSize 100000
namespace K14
open PySem PySem.Spec PyProof.Rows L2 Wl
local macro_rules | `(tactic| walk_at "w") => `(tactic| (conv => whnf))
/-! what a store holds -/
local macro_rules | `(tactic| walk_at "ne") => `(tactic| first | assumption | (apply Ne.symm; assumption) | exact ne_free (by assumption) (by assumption) | exact (ne_free (by assumption) (by assumption)).symm | exact Pl.ne (by assumption) (by assumption) | exact (Pl.ne (by assumption) (by assumption)).symm)
local macro_rules | `(tactic| walk_at "s") => `(tactic| first
  | exact put_same
  | assumption
  | (refine (put_ne ?_).trans ?_; (· walk_at "ne"); (· walk_at "s")))
/-! a side condition -/
local macro_rules | `(tactic| walk_at "c") => `(tactic| first
  | exact Or.inl (Or.inl ⟨by omega, by omega⟩)
  | exact Or.inl (Or.inr ⟨by omega, by omega⟩)
  | exact Or.inl ⟨by omega, by omega⟩
  | exact Or.inl ⟨rfl, _, by walk_at "s"⟩
  | rfl
  | omega
  | decide
  | exact Nat.le_trans (by omega) sizeLine_ge)
/-! one question is answered, if the answer is plain -/
local macro_rules | `(tactic| walk_at "g1") => `(tactic| first
  | refine ⟨fun _ => ?_, fun h => absurd (show true = false from h) (by decide)⟩
  | refine ⟨fun h => absurd (show false = true from h) Bool.false_ne_true, fun _ => ?_⟩
  | refine ⟨_, by walk_at "s", ?_⟩
  | refine ⟨_, _, by walk_at "s", by walk_at "s", ?_⟩
  | refine ⟨_, by walk_at "s", by simpa using (by omega), ?_⟩
  | refine ⟨_, rfl, ?_⟩
  | refine ⟨_, _, rfl, (by first | exact isTy_tt | exact isTy_ii | exact isTy_ll | exact isTy_ss | exact isTy_ib | exact isTy_tb | exact isTy_ti | exact isTy_ts | exact isTy_tl | exact isTy_lb | exact isTy_li | exact isTy_ls | exact isTy_lt | exact isTy_sb | exact isTy_si | exact isTy_st | exact isTy_sl | exact isTy_is | exact isTy_it | exact isTy_il | exact isTy_bi | exact isTy_bs | exact isTy_bb | exact isTy_nb | exact isTy_ni | exact isTy_ns | exact isTy_nt | exact isTy_nl | exact isTy_bt | exact isTy_bl), ?_⟩
  | refine ⟨_, _, tyName_lst (by walk_at "s"), (by first | exact isTy_ll | exact isTy_lb | exact isTy_li | exact isTy_ls | exact isTy_lt), ?_⟩
  | refine if_q ?_
  | refine ⟨by walk_at "c", ?_⟩)
local macro_rules | `(tactic| walk_at "go") => `(tactic| (walk_at "w"; repeat (walk_at "g1"; walk_at "w")))
/-! a branch that cannot be -/
local macro_rules | `(tactic| walk_at "two") => `(tactic| refine ⟨fun h => ?_, fun h => ?_⟩)
section
variable {P : Program} {w : World} {K : PySem.W.Frag} {mg : Str → Option Value} {base : Heap}
theorem cut_to {α : Type} (xs : List α) (k : Nat) (h : k ≤ xs.length) : cutL xs none (some (k : Int)) = xs.take k := by
  unfold cutL
  rw [HT.sIx_none, HT.sIx_nat]
  simp [Nat.min_eq_left h]
theorem cut_from {α : Type} (xs : List α) (k : Nat) : cutL xs (some (k : Int)) none = xs.drop k := by
  unfold cutL
  rw [HT.sIx_none, HT.sIx_nat]
  by_cases h : k ≤ xs.length
  · rw [Nat.min_eq_left h]
    exact List.take_of_length_le (by rw [List.length_drop]; omega)
  · rw [Nat.min_eq_right (by omega)]
    rw [List.drop_eq_nil_of_le (Nat.le_refl _), List.drop_eq_nil_of_le (by omega)]
    simp
def irange (n : Nat) : List Int := (List.range n).map fun i : Nat => (i : Int)
def fitAt (prs : List Pr) (s : Stp) (k : Int) : Bool := match prs[k.toNat]? with
  | some a => fitB s a
  | none => false
def endsR (prs : List Pr) (es : List Int) (s : Stp) : List Int := (irange prs.length).filter fun k => fitAt prs s k && folB s.j es k
def endsOf (prs : List Pr) (s0 : Stp) (ss : List Stp) : List Int := ss.foldl (endsR prs) ((irange prs.length).filter (fitAt prs s0))
def matchB (prs : List Pr) (s0 : Stp) (ss : List Stp) : Bool := isInW (.int ((prs.length : Int) - 1)) ((endsOf prs s0 ss).map W.int)
def selW (s0 : Stp) (ss : List Stp) : W := .tup ((s0 :: ss).map Stp.v)
def pathW (prs : List Pr) : W := .tup (prs.map prW)
structure PathOk (prs : List Pr) : Prop where
  len : prs.length ≤ 100
  ms : ∀ a ∈ prs, a.2.length ≤ 100
theorem intsW_eq (n : Nat) : intsW 0 n = (irange n).map W.int := by
  unfold intsW irange
  rw [List.map_map]
  refine List.map_congr_left fun i _ => ?_
  show W.int (0 + (i : Int)) = W.int (i : Int)
  rw [Int.zero_add]
def onInt (p : Int → Bool) (w : W) : Bool := match w with
  | .int k => p k
  | _ => false
theorem fil_ints (n : Nat) (p : Int → Bool) : ((intsW 0 n).filter (onInt p)).map (fun w => w) = ((irange n).filter p).map W.int := by
  rw [intsW_eq, List.map_id', List.filter_map]
  rfl
theorem irange_len (n : Nat) : (irange n).length = n := by unfold irange; simp
theorem fil_len (n : Nat) (p : Int → Bool) : ((irange n).filter p).length ≤ n := by
  have h := List.length_filter_le p (irange n)
  rw [irange_len] at h
  exact h
theorem ends_len (prs : List Pr) (s0 : Stp) (ss : List Stp) : (endsOf prs s0 ss).length ≤ prs.length := by
  unfold endsOf
  rcases List.eq_nil_or_concat ss with rfl | ⟨a, b, rfl⟩
  · exact fil_len _ _
  · rw [List.concat_eq_append, List.foldl_append]
    exact fil_len _ _
theorem path_at {prs : List Pr} {i : Nat} (h : i < prs.length) : atI (prs.map prW) (0 + (i : Int)) = some (prW prs[i]) := by
  rw [Int.zero_add]
  exact atI_nat (by rw [List.getElem?_map, List.getElem?_eq_getElem h]; rfl)
theorem fitAt_at {prs : List Pr} {s : Stp} {i : Nat} (h : i < prs.length) : fitAt prs s (0 + (i : Int)) = fitB s prs[i] := by
  unfold fitAt
  rw [show (0 + (i : Int)).toNat = i by omega, List.getElem?_eq_getElem h]
def spMat : SpW := fun ws S Q => ∃ (s0 : Stp) (ss : List Stp) (prs : List Pr), ws = [selW s0 ss, pathW prs] ∧ (∀ s ∈ s0 :: ss, Sml s) ∧ ss.length ≤ 100 ∧ PathOk prs ∧ Q (.bl (matchB prs s0 ss)) S
theorem mat_go {s0 : Stp} {ss : List Stp} {prs : List Pr} {S : Sto} {Q : WK} (h1 : ∀ s ∈ s0 :: ss, Sml s) (h2 : ss.length ≤ 100) (h3 : PathOk prs) (q : Q (.bl (matchB prs s0 ss)) S) : Hd spMat [selW s0 ss, pathW prs] S Q := Hd.mk ⟨s0, ss, prs, rfl, h1, h2, h3, q⟩
theorem ok_matches (T : Txt K mg) (c_step_fits : CalW P w K mg base 1 "step_fits" (Hd spFit)) (c__follows : CalW P w K mg base 1 "_follows" (Hd spFol)) (d : DefAt K mg "matches" s_matches ["selector", "path"]) : CalW P w K mg base 2 "matches" spMat :=
  calDI d sc_matches (fun ws S Q ⟨s0, ss, prs, e, _⟩ => by rw [e]; rfl) fun f cdv A outer s H E hr => ⟨_, _,
    (pss_cons (ps_setLc (i := 2) (own := [("k", 3)]) rfl sc_matches.nd rfl rfl (sw_true rfl rfl rfl (by decide +kernel)) (pi_range1 rfl T.b_range (pa_cons (pe_callB (k_len K) (by rfl) T.b_len (by decide +kernel) (pa_cons (pv 1) pa_nil)) pa_nil)) (blkOk_by (own := [("k", 3)]) (N := ["selector", "path", "ends", "k", "step", "before"]) (sc := defScope s_matches) (by decide +kernel)) (fun _ _ _ _ _ => (pg_name (i := 3) sc_matches.nd rfl (Or.inl rfl))) (fun _ _ _ _ _ => (pts_one (pt_val (k_w K c_step_fits hr (by decide) rfl (pa_cons (pe_ix (k_ix K) (pv 0) pe_int (fun _ _ => rfl)) (pa_cons (pe_ix (k_ix K) (pv 1) (pv 3) (fun _ _ => rfl)) pa_nil)))))) (fun _ _ _ _ _ => (pv 3)))
      (pss_cons (ps_for PassesOwn.never rfl (k_any K (pe_slice (k_sl K) (pv 0) (po_some pe_int) po_none)) (pg_name (i := 4) sc_matches.nd rfl (Or.inr rfl))
       (pss_cons (ps_set (i := 5) sc_matches.nd rfl (Or.inr rfl) (pv 2))
       (pss_one (ps_setLc (i := 2) (own := [("k", 3)]) rfl sc_matches.nd rfl rfl (sw_true rfl rfl rfl (by decide +kernel)) (pi_range1 rfl T.b_range (pa_cons (pe_callB (k_len K) (by rfl) T.b_len (by decide +kernel) (pa_cons (pv 1) pa_nil)) pa_nil)) (blkOk_by (own := [("k", 3)]) (N := ["selector", "path", "ends", "k", "step", "before"]) (sc := defScope s_matches) (by decide +kernel)) (fun _ _ _ _ _ => (pg_name (i := 3) sc_matches.nd rfl (Or.inl rfl))) (fun _ _ _ _ _ => (pts_one (PW.pt (pw_and (pt_val (k_w K c_step_fits hr (by decide) rfl (pa_cons (pv 4) (pa_cons (pe_ix (k_ix K) (pv 1) (pv 3) (fun _ _ => rfl)) pa_nil)))) (pw_and1 (pt_val (k_w K c__follows hr (by decide) rfl (pa_cons (pe_ix (k_ix K) (pv 4) pe_int (fun _ _ => rfl)) (pa_cons (pv 5) (pa_cons (pv 3) pa_nil)))))))))) (fun _ _ _ _ _ => (pv 3))))))
      (pss_one (ps_ret (pe_cmpR (k_in K) (pe_op op_sub (pe_callB (k_len K) (by rfl) T.b_len (by decide +kernel) (pa_cons (pv 1) pa_nil)) pe_int) (pv 2) rfl))))), inferInstance, by
    rintro ws S Q ⟨s0, ss, prs, rfl, h1, h2, h3, q⟩
    walk_at "go"
    have hlen := h3.len
    refine ⟨by rw [List.length_map]; omega, ?_⟩
    refine lc_fil (onInt (fitAt prs s0)) (fun w => w) (by rw [intsW_len, List.length_map]; omega) (fun _ _ _ => trivial) ?_ ?_ ?_
    · intro i w D acc e hD Q' q'
      obtain ⟨hi, rfl⟩ := intsW_at e
      have hi : i < prs.length := by
        have hi : i < (((prs.map prW).length : Nat) : Int).toNat := hi
        rw [List.length_map] at hi
        omega
      walk_at "w"
      rw [show atI ((s0 :: ss).map Stp.v) 0 = some s0.v from atI_nat (j := 0) rfl]
      walk_at "w"
      rw [path_at hi]
      walk_at "w"
      refine fit_go (h1 s0 List.mem_cons_self) (h3.ms _ (List.getElem_mem hi)) ?_
      rw [← fitAt_at hi]
      exact q'
    · intro i w D acc e hp hD Q' q'
      obtain ⟨hi, rfl⟩ := intsW_at e
      exact q'
    · intro L hL
      rw [List.length_map, fil_ints]
      walk_at "w"
      have ec : cutL ((s0 :: ss).map Stp.v) (some 1) none = ss.map Stp.v := cut_from ((s0 :: ss).map Stp.v) 1
      rw [ec]
      refine for_q (fun i ρ' S' => ∃ (L : Addr) (a3 a4 a5 : Option W), ρ' = [some (selW s0 ss), some (pathW prs), some (.ref L), a3, a4, a5] ∧ S' L = some (.lst ((endsOf prs s0 (ss.take i)).map W.int)) ∧ KpL [] S S')
        ⟨L, _, _, _, rfl, put_same, (KpL.refl [] S).new hL⟩ (fun _ _ _ _ => trivial) ?_ ?_
      · rintro i w ρ' S1 e ⟨L1, a3, a4, a5, rfl, hL1, k1⟩
        rw [List.getElem?_map] at e
        obtain ⟨s, es, rfl⟩ : ∃ s : Stp, ss[i]? = some s ∧ s.v = w := by
          cases hs : ss[i]? with
          | none => rw [hs] at e; cases e
          | some s => rw [hs] at e; exact ⟨s, rfl, Option.some.inj e⟩
        have hsm := h1 s (List.mem_cons_of_mem _ (List.mem_of_getElem? es))
        have hel := ends_len prs s0 (ss.take i)
        have hi1 := (List.getElem?_eq_some_iff.mp es).1
        have hst : endsOf prs s0 (ss.take (i + 1)) = endsR prs (endsOf prs s0 (ss.take i)) s := by
          rw [List.take_succ_eq_append_getElem hi1, (List.getElem?_eq_some_iff.mp es).2]
          unfold endsOf
          rw [List.foldl_append]
          rfl
        walk_at "go"
        refine ⟨by rw [List.length_map]; omega, ?_⟩
        refine lc_fil (onInt (fun k => fitAt prs s k && folB s.j (endsOf prs s0 (ss.take i)) k)) (fun w => w) (by rw [intsW_len, List.length_map]; omega) (fun _ _ _ => trivial) ?_ ?_ ?_
        · intro j w D acc e hD Q' q'
          obtain ⟨hj, rfl⟩ := intsW_at e
          have hj : j < prs.length := by
            have hj : j < (((prs.map prW).length : Nat) : Int).toNat := hj
            rw [List.length_map] at hj
            omega
          have q' : Q' (fitAt prs s (0 + (j : Int)) && folB s.j (endsOf prs s0 (ss.take i)) (0 + (j : Int))) (put S1 D (.lst acc)) := q'
          rw [fitAt_at hj] at q'
          walk_at "w"
          rw [path_at hj]
          walk_at "w"
          refine fit_go hsm (h3.ms _ (List.getElem_mem hj)) ?_
          refine ⟨fun h => ?_, fun h => ?_⟩
          · rw [h, Bool.true_and] at q'
            walk_at "w"
            refine fol_go ((put_ne (ne_free hL1 hD).symm).trans hL1) (by omega) ?_
            exact q'
          · rw [h, Bool.false_and] at q'
            exact q'
        · intro j w D acc e hp hD Q' q'
          obtain ⟨hj, rfl⟩ := intsW_at e
          exact q'
        · intro D hD
          rw [List.length_map, fil_ints]
          walk_at "w"
          refine ⟨D, _, _, _, rfl, ?_, k1.new hD⟩
          rw [put_same, hst]
          rfl
      · rintro ρ' S1 ⟨L1, a3, a4, a5, rfl, hL1, k1⟩
        rw [List.length_map, List.take_length] at hL1
        walk_at "w"
        refine ⟨rfl, _, hL1, flat_ints _, ?_⟩
        rw [List.length_map]
        exact fg_same k1 q⟩
end
end K14
set_option Elab.async false
set_option linter.all false
set_option maxRecDepth 100000
set_option maxHeartbeats 4000000
set_option synthInstance.maxHeartbeats 4000000
set_option synthInstance.maxSize 100000
namespace K14
open PySem PySem.Spec PyProof.Rows L2 Wl
local macro_rules | `(tactic| walk_at "w") => `(tactic| (conv => whnf))
/-! what a store holds -/
local macro_rules | `(tactic| walk_at "ne") => `(tactic| first | assumption | (apply Ne.symm; assumption) | exact ne_free (by assumption) (by assumption) | exact (ne_free (by assumption) (by assumption)).symm | exact Pl.ne (by assumption) (by assumption) | exact (Pl.ne (by assumption) (by assumption)).symm)
local macro_rules | `(tactic| walk_at "s") => `(tactic| first
  | exact put_same
  | assumption
  | (refine (put_ne ?_).trans ?_; (· walk_at "ne"); (· walk_at "s")))
/-! a side condition -/
local macro_rules | `(tactic| walk_at "c") => `(tactic| first
  | exact Or.inl (Or.inl ⟨by omega, by omega⟩)
  | exact Or.inl (Or.inr ⟨by omega, by omega⟩)
  | exact Or.inl ⟨by omega, by omega⟩
  | exact Or.inl ⟨rfl, _, by walk_at "s"⟩
  | rfl
  | omega
  | decide
  | exact Nat.le_trans (by omega) sizeLine_ge)
/-! one question is answered, if the answer is plain -/
local macro_rules | `(tactic| walk_at "g1") => `(tactic| first
  | refine ⟨fun _ => ?_, fun h => absurd (show true = false from h) (by decide)⟩
  | refine ⟨fun h => absurd (show false = true from h) Bool.false_ne_true, fun _ => ?_⟩
  | refine ⟨_, by walk_at "s", ?_⟩
  | refine ⟨_, _, by walk_at "s", by walk_at "s", ?_⟩
  | refine ⟨_, by walk_at "s", by simpa using (by omega), ?_⟩
  | refine ⟨_, rfl, ?_⟩
  | refine ⟨_, _, rfl, (by first | exact isTy_tt | exact isTy_ii | exact isTy_ll | exact isTy_ss | exact isTy_ib | exact isTy_tb | exact isTy_ti | exact isTy_ts | exact isTy_tl | exact isTy_lb | exact isTy_li | exact isTy_ls | exact isTy_lt | exact isTy_sb | exact isTy_si | exact isTy_st | exact isTy_sl | exact isTy_is | exact isTy_it | exact isTy_il | exact isTy_bi | exact isTy_bs | exact isTy_bb | exact isTy_nb | exact isTy_ni | exact isTy_ns | exact isTy_nt | exact isTy_nl | exact isTy_bt | exact isTy_bl), ?_⟩
  | refine ⟨_, _, tyName_lst (by walk_at "s"), (by first | exact isTy_ll | exact isTy_lb | exact isTy_li | exact isTy_ls | exact isTy_lt), ?_⟩
  | refine if_q ?_
  | refine ⟨by walk_at "c", ?_⟩)
local macro_rules | `(tactic| walk_at "go") => `(tactic| (walk_at "w"; repeat (walk_at "g1"; walk_at "w")))
/-! a branch that cannot be -/
local macro_rules | `(tactic| walk_at "two") => `(tactic| refine ⟨fun h => ?_, fun h => ?_⟩)
section
variable {P : Program} {w : World} {K : PySem.W.Frag} {mg : Str → Option Value} {base : Heap}
theorem hasK_eq (s : Stp) (a : Pr) : hasK s a = (decide (s.k = "*") || decide (s.k = a.1)) := by
  show (("*" : Str) == s.k || (a.1 == s.k || false)) = _
  rw [Bool.or_false]
  by_cases h1 : s.k = "*" <;> by_cases h2 : s.k = a.1
  · rw [decide_eq_true h1, h1]; simp
  · rw [decide_eq_true h1, h1]; simp
  · rw [decide_eq_true h2, decide_eq_false h1, h2]; simp
  · rw [decide_eq_false h1, decide_eq_false h2]
    have e1 : (("*" : Str) == s.k) = false := by simpa using fun h => h1 h.symm
    have e2 : (a.1 == s.k) = false := by simpa using fun h => h2 h.symm
    rw [e1, e2]
theorem ok__law_fits (T : Txt K mg) (d : DefAt K mg "_law_fits" s__law_fits ["_law_step", "_law_pair"]) : CalW P w K mg base 1 "_law_fits" spFit :=
  calDI d sc__law_fits (fun ws S Q ⟨s, a, e, _⟩ => by rw [e]; rfl) fun f cdv A outer s H E hr => ⟨_, _,
    (pss_cons (ps_if (PW.pt (pw_and (pt_cmpR (k_ne K hr.units) (pe_ix (k_ix K) (pv 0) pe_int (fun _ _ => rfl)) pe_str (nomark _)) (pw_and1 (pt_cmpR (k_ne K hr.units) (pe_ix (k_ix K) (pv 0) pe_int (fun _ _ => rfl)) (pe_ix (k_ix K) (pv 1) pe_int (fun _ _ => rfl)) (nomark _)))))
       (pss_one (ps_ret pe_bl))
       pss_nil)
      (pss_cons (ps_for PassesOwn.never rfl (k_any K (pe_ix (k_ix K) (pv 0) pe_int (fun _ _ => rfl))) (pg_name (i := 2) sc__law_fits.nd rfl (Or.inl rfl))
       (pss_one (ps_if (pt_cmpR (k_notIn K) (pv 2) (pe_ix (k_ix K) (pv 1) pe_int (fun _ _ => rfl)) rfl)
        (pss_one (ps_ret pe_bl))
        pss_nil)))
      (pss_one (ps_ret pe_bl)))), inferInstance, by
    rintro ws S Q ⟨s, a, rfl, hs, ha, q⟩
    unfold fitB at q
    rw [hasK_eq] at q
    walk_at "w"
    refine if_ev (!(decide (s.k = "*") || decide (s.k = a.1))) ?_ ?_ ?_
    · intro Q' q'
      walk_at "go"
      refine ⟨fun h => ?_, fun h => ?_⟩
      · walk_at "go"
        have h : (!decide (s.k = "*")) = true := h
        rw [Bool.not_or, h, Bool.true_and] at q'
        exact q'
      · have h : (!decide (s.k = "*")) = false := h
        rw [Bool.not_or, h, Bool.false_and] at q'
        exact q'
    · intro h
      have h : (decide (s.k = "*") || decide (s.k = a.1)) = false := by simpa using h
      rw [h, Bool.false_and] at q
      walk_at "w"
      exact fg_here q
    · intro h
      have h : (decide (s.k = "*") || decide (s.k = a.1)) = true := by
        cases hb : (decide (s.k = "*") || decide (s.k = a.1)) with
        | true => rfl
        | false => rw [hb] at h; cases h
      rw [h, Bool.true_and] at q
      walk_at "w"
      refine for_q (fun i ρ' S' => S' = S ∧ (∃ a2 : Option W, ρ' = [some s.v, some (prW a), a2]) ∧ (s.ms.take i).all (hasM a) = true) ⟨rfl, ⟨_, rfl⟩, rfl⟩ (fun _ _ _ _ => trivial) ?_ ?_
      · rintro i w ρ' S' e ⟨rfl, ⟨a2, rfl⟩, hall⟩
        rw [List.getElem?_map] at e
        obtain ⟨m, em, rfl⟩ : ∃ m : Str, s.ms[i]? = some m ∧ W.str m = w := by
          cases hm : s.ms[i]? with
          | none => rw [hm] at e; cases e
          | some m => rw [hm] at e; exact ⟨m, rfl, Option.some.inj e⟩
        walk_at "w"
        refine ⟨rfl, flat_strs _, ?_⟩
        refine ⟨fun h => ?_, fun h => ?_⟩
        · have h : hasM a m = false := by
            have h : (!hasM a m) = true := h
            simpa using h
          walk_at "w"
          have hq : s.ms.all (hasM a) = false := by
            rw [List.all_eq_false]
            exact ⟨m, List.mem_of_getElem? em, by rw [h]; simp⟩
          rw [hq] at q
          exact fg_here q
        · have h : hasM a m = true := by
            have h : (!hasM a m) = false := h
            simpa using h
          refine ⟨rfl, ⟨_, rfl⟩, ?_⟩
          rw [List.take_succ_eq_append_getElem (List.getElem?_eq_some_iff.mp em).1, (List.getElem?_eq_some_iff.mp em).2, List.all_append, hall]
          simp [h]
      · rintro ρ' S' ⟨rfl, ⟨a2, rfl⟩, hall⟩
        rw [List.length_map, List.take_length] at hall
        rw [hall] at q
        walk_at "w"
        exact fg_here q⟩
def laidB (sel : List Stp) (prs : List Pr) : Nat → Nat → Bool
  | 0, k => (match sel[0]? with
    | some s => fitAt prs s (k : Int)
    | none => false)
  | n + 1, k => match sel[n + 1]? with
    | some s => fitAt prs s (k : Int) && (List.range k).any fun i => (if s.j = ">" then decide (k - 1 ≤ i) else true) && laidB sel prs n i
    | none => false
def spLaid (N : Nat) : SpW := fun ws S Q => ∃ (n : Nat) (sel : List Stp) (prs : List Pr) (k : Nat), n ≤ N ∧ ws = [.tup (sel.map Stp.v), pathW prs, .int (n : Int), .int (k : Int)] ∧ n < sel.length ∧ k < prs.length ∧ (∀ s ∈ sel, Sml s) ∧ sel.length ≤ 101 ∧ PathOk prs ∧ Q (.bl (laidB sel prs n k)) S
theorem laid_step (T : Txt K mg) (j N : Nat) (hj : 1 ≤ j) (sp' : SpW) (c__law_laid : CalW P w K mg base j "_law_laid" (Hd sp')) (c__law_fits : CalW P w K mg base 1 "_law_fits" (Hd spFit)) (hs : ∀ (u : Nat) (ws : List W) (S : Sto) (Q : WK), N = u + 1 → spLaid u ws S Q → sp' ws S Q)
    (d : DefAt K mg "_law_laid" s__law_laid ["_law_selector_here", "_law_lineage_here", "_law_step", "_law_at"]) : CalW P w K mg base (j + 1) "_law_laid" (spLaid N) :=
  have c__law_fits := c__law_fits.mono hj
  calDI d sc__law_laid (fun ws S Q ⟨n, sel, prs, k, _, e, _⟩ => by rw [e]; rfl) fun f cdv A outer s H E hr => ⟨_, _,
    (pss_cons (ps_if (pt_not (pt_val (k_w K c__law_fits hr (Nat.le_refl _) rfl (pa_cons (pe_ix (k_ix K) (pv 0) (pv 2) (fun _ _ => rfl)) (pa_cons (pe_ix (k_ix K) (pv 1) (pv 3) (fun _ _ => rfl)) pa_nil)))))
       (pss_one (ps_ret pe_bl))
       pss_nil)
      (pss_cons (ps_if (pt_cmpR (k_eq K hr.units) (pv 2) pe_int (nomark _))
       (pss_one (ps_ret pe_bl))
       pss_nil)
      (pss_cons (ps_set (i := 4) sc__law_laid.nd rfl (Or.inl rfl) pe_int)
      (pss_mid (ps_if (pt_cmpR (k_eq K hr.units) (pe_ix (k_ix K) (pe_ix (k_ix K) (pv 0) (pv 2) (fun _ _ => rfl)) pe_int (fun _ _ => rfl)) pe_str (nomark _))
       (pss_one (ps_set (i := 4) sc__law_laid.nd rfl (Or.inl rfl) (pe_callB (call_max2 rfl) (by rfl) T.b_max (by decide +kernel) (pa_cons pe_int (pa_cons (pe_op op_sub (pv 3) pe_int) pa_nil)))))
       pss_nil)
      (pss_cons (ps_for PassesOwn.never rfl (pi_range2 rfl T.b_range (pa_cons (pv 4) (pa_cons (pv 3) pa_nil))) (pg_name (i := 5) sc__law_laid.nd rfl (Or.inl rfl))
       (pss_one (ps_if (pt_val (k_w K c__law_laid hr (Nat.le_refl _) rfl (pa_cons (pv 0) (pa_cons (pv 1) (pa_cons (pe_op op_sub (pv 2) pe_int) (pa_cons (pv 5) pa_nil))))))
        (pss_one (ps_ret pe_bl))
        pss_nil)))
      (pss_one (ps_ret pe_bl))))))), inferInstance, by
    rintro ws S Q ⟨n, sel, prs, k, hnN, rfl, hn, hk, hsm, hsl, hp, q⟩
    obtain ⟨s0, es0⟩ : ∃ s0, sel[n]? = some s0 := ⟨_, List.getElem?_eq_getElem hn⟩
    have at1 : atI (sel.map Stp.v) (n : Int) = some s0.v := atI_nat (by rw [List.getElem?_map, es0]; rfl)
    have at2 : atI (prs.map prW) (k : Int) = some (prW prs[k]) := atI_nat (by rw [List.getElem?_map, List.getElem?_eq_getElem hk]; rfl)
    have hsm0 := hsm s0 (List.mem_of_getElem? es0)
    have hlen := hp.len
    have hfa : fitAt prs s0 (k : Int) = fitB s0 prs[k] := by
      have h := fitAt_at (s := s0) hk
      rw [Int.zero_add] at h
      exact h
    walk_at "w"
    rw [at1]
    walk_at "w"
    rw [at2]
    walk_at "w"
    refine fit_go hsm0 (hp.ms _ (List.getElem_mem hk)) ?_
    rw [← hfa]
    refine ⟨fun h => ?_, fun h => ?_⟩
    · have h : fitAt prs s0 (k : Int) = false := by simpa using h
      have hq : laidB sel prs n k = false := by
        cases n with
        | zero => unfold laidB; rw [es0]; exact h
        | succ n => unfold laidB; rw [es0]; show (fitAt prs s0 (k : Int) && _) = false; rw [h, Bool.false_and]
      rw [hq] at q
      walk_at "w"
      exact fg_here q
    have h : fitAt prs s0 (k : Int) = true := by simpa using h
    walk_at "w"
    refine ⟨fun h0 => ?_, fun h0 => ?_⟩
    · have h0 : (n : Int) = 0 := of_decide_eq_true h0
      obtain rfl : n = 0 := by omega
      have hq : laidB sel prs 0 k = true := by unfold laidB; rw [es0]; exact h
      rw [hq] at q
      walk_at "w"
      exact fg_here q
    · have h0 : ¬ (n : Int) = 0 := of_decide_eq_false h0
      obtain ⟨n, rfl⟩ : ∃ n', n = n' + 1 := ⟨n - 1, by omega⟩
      have hq : laidB sel prs (n + 1) k = (List.range k).any fun i => (if s0.j = ">" then decide (k - 1 ≤ i) else true) && laidB sel prs n i := by
        conv => lhs; unfold laidB
        rw [es0]
        show (fitAt prs s0 (k : Int) && _) = _
        rw [h, Bool.true_and]
      rw [hq] at q
      walk_at "w"
      refine mid_q (fun ρ' S' => S' = S ∧ ρ' = [some (.tup (sel.map Stp.v)), some (pathW prs), some (.int ((n + 1 : Nat) : Int)), some (.int (k : Int)), some (.int (((if s0.j = ">" then k - 1 else 0 : Nat) : Nat) : Int)), none]) ?_ ?_
      · walk_at "w"
        rw [at1]
        walk_at "w"
        refine ⟨fun hj => ?_, fun hj => ?_⟩
        · have hj : s0.j = ">" := of_decide_eq_true hj
          walk_at "w"
          refine ⟨rfl, ?_⟩
          rw [if_pos hj]
          show _ = [some (W.tup (sel.map Stp.v)), some (pathW prs), some (W.int ((n + 1 : Nat) : Int)), some (W.int (k : Int)), some (W.int ((k - 1 : Nat) : Int)), none]
          have e1 : (if (k : Int) - 1 > 0 then (k : Int) - 1 else 0) = ((k - 1 : Nat) : Int) := by split <;> omega
          rw [← e1]
          rfl
        · have hj : ¬ s0.j = ">" := of_decide_eq_false hj
          refine ⟨rfl, ?_⟩
          rw [if_neg hj]
          rfl
      · rintro ρ' S' ⟨rfl, rfl⟩
        generalize hlo : (if s0.j = ">" then k - 1 else 0 : Nat) = lo
        have hcond : ∀ i : Nat, (if s0.j = ">" then decide (k - 1 ≤ i) else true) = decide (lo ≤ i) := fun i => by
          rw [← hlo]
          split
          · rfl
          · exact (decide_eq_true (Nat.zero_le i)).symm
        have hf : (fun i : Nat => (if s0.j = ">" then decide (k - 1 ≤ i) else true) && laidB sel prs n i) = fun i : Nat => decide (lo ≤ i) && laidB sel prs n i := funext fun i => by rw [hcond i]
        rw [hf] at q
        walk_at "w"
        have hlk : lo ≤ k := by
          rw [← hlo]
          split <;> omega
        refine ⟨⟨by omega, by omega, by omega, by omega⟩, ?_⟩
        refine for_q (fun i ρ' T' => T' = S' ∧ (∃ a5 : Option W, ρ' = [some (.tup (sel.map Stp.v)), some (pathW prs), some (.int ((n + 1 : Nat) : Int)), some (.int (k : Int)), some (.int (lo : Int)), a5]) ∧ ∀ u : Nat, u < i → laidB sel prs n (lo + u) = false) ⟨rfl, ⟨_, rfl⟩, fun u h => absurd h (Nat.not_lt_zero u)⟩ (fun _ _ _ _ => trivial) ?_ ?_
        · rintro i w ρ' T' e ⟨rfl, ⟨a5, rfl⟩, hno⟩
          obtain ⟨hi, rfl⟩ := intsW_at e
          walk_at "w"
          obtain ⟨N, rfl⟩ : ∃ N', N = N' + 1 := ⟨N - 1, by omega⟩
          refine Hd.mk (hs N _ _ _ rfl ⟨n, sel, prs, lo + i, by omega, ?_, by omega, by omega, hsm, hsl, hp, ?_⟩)
          · rw [show ((n + 1 : Nat) : Int) - 1 = (n : Int) by omega, show (lo : Int) + (i : Int) = ((lo + i : Nat) : Int) by omega]
          refine ⟨fun h => ?_, fun h => ?_⟩
          · have hq : ((List.range k).any fun i : Nat => decide (lo ≤ i) && laidB sel prs n i) = true :=
              List.any_eq_true.mpr ⟨lo + i, List.mem_range.mpr (by omega), by rw [h, decide_eq_true (by omega)]; rfl⟩
            rw [hq] at q
            walk_at "w"
            exact fg_here q
          · refine ⟨rfl, ⟨_, rfl⟩, fun u hu => ?_⟩
            by_cases e : u = i
            · rw [e]; exact h
            · exact hno u (by omega)
        · rintro ρ' T' ⟨rfl, ⟨a5, rfl⟩, hno⟩
          rw [intsW_len] at hno
          have hq : ((List.range k).any fun i : Nat => decide (lo ≤ i) && laidB sel prs n i) = false := by
            rw [List.any_eq_false]
            intro i hi
            have hi := List.mem_range.mp hi
            by_cases hl : lo ≤ i
            · have h := hno (i - lo) (by omega)
              rw [show lo + (i - lo) = i by omega] at h
              rw [h]
              simp
            · rw [decide_eq_false hl]
              simp
          rw [hq] at q
          walk_at "w"
          exact fg_here q⟩
theorem ok_laid (T : Txt K mg) (c__law_fits : CalW P w K mg base 1 "_law_fits" (Hd spFit)) (d : DefAt K mg "_law_laid" s__law_laid ["_law_selector_here", "_law_lineage_here", "_law_step", "_law_at"]) : ∀ n : Nat, CalW P w K mg base (n + 2) "_law_laid" (spLaid n)
  | 0 => laid_step T 1 0 (by decide) spNever ((calNever d sc__law_laid).hd) c__law_fits (fun u ws S Q e => by cases e) d
  | n + 1 => laid_step T (n + 2) (n + 1) (by omega) (spLaid n) (ok_laid T c__law_fits d n).hd c__law_fits (fun u ws S Q e h => by
      cases e
      exact h) d
theorem laid_go {N n : Nat} {sel : List Stp} {prs : List Pr} {k : Nat} {a b : Int} {S : Sto} {Q : WK} (hN : n ≤ N) (ha : a = (n : Int)) (hb : b = (k : Int)) (hn : n < sel.length) (hk : k < prs.length) (hs : ∀ s ∈ sel, Sml s) (hl : sel.length ≤ 101) (hp : PathOk prs) (q : Q (.bl (laidB sel prs n k)) S) : Hd (spLaid N) [.tup (sel.map Stp.v), pathW prs, .int a, .int b] S Q :=
  Hd.mk ⟨n, sel, prs, k, hN, by rw [ha, hb], hn, hk, hs, hl, hp, q⟩
/-- both ways of matching agree -/
theorem mem_ints (x : Int) : ∀ es : List Int, isInW (.int x) (es.map W.int) = decide (x ∈ es)
  | [] => rfl
  | e :: es => by
    have ih := mem_ints x es
    unfold isInW at ih ⊢
    rw [List.map_cons, List.any_cons, ih]
    show (e == x || decide (x ∈ es)) = _
    by_cases h : e = x
    · rw [h]; simp
    · have h' : ¬ x = e := fun z => h z.symm
      simp [h, h']
theorem mem_irange {n : Nat} {x : Int} : x ∈ irange n ↔ ∃ k : Nat, k < n ∧ x = (k : Int) := by
  unfold irange
  rw [List.mem_map]
  exact ⟨fun ⟨k, h, e⟩ => ⟨k, List.mem_range.mp h, e.symm⟩, fun ⟨k, h, e⟩ => ⟨k, List.mem_range.mpr h, e.symm⟩⟩
theorem irange_lt (n : Nat) : (irange n).Pairwise (· < ·) := by
  unfold irange
  rw [List.pairwise_map]
  exact List.pairwise_lt_range.imp fun h => by omega
theorem fol_iff {j : Str} {es : List Int} {k : Nat} (hs : es.Pairwise (· < ·)) (hn : ∀ e ∈ es, 0 ≤ e) : folB j es (k : Int) = true ↔ ∃ i : Nat, i < k ∧ (if j = ">" then decide (k - 1 ≤ i) else true) = true ∧ (i : Int) ∈ es := by
  unfold folB
  by_cases hj : j = ">"
  · rw [if_pos hj, mem_ints, decide_eq_true_iff]
    constructor
    · intro h
      have h0 := hn _ h
      refine ⟨k - 1, by omega, by rw [if_pos hj]; exact decide_eq_true (Nat.le_refl _), ?_⟩
      rw [show ((k - 1 : Nat) : Int) = (k : Int) - 1 by omega]
      exact h
    · rintro ⟨i, hi, h, hm⟩
      rw [if_pos hj] at h
      have h := of_decide_eq_true h
      rw [show (k : Int) - 1 = (i : Int) by omega]
      exact hm
  · rw [if_neg hj]
    cases es with
    | nil => simp
    | cons e es =>
      show decide (e < (k : Int)) = true ↔ _
      rw [decide_eq_true_iff]
      constructor
      · intro h
        have h0 := hn e List.mem_cons_self
        refine ⟨e.toNat, by omega, by rw [if_neg hj], ?_⟩
        rw [show ((e.toNat : Nat) : Int) = e by omega]
        exact List.mem_cons_self
      · rintro ⟨i, hi, _, hm⟩
        rcases List.mem_cons.mp hm with h | h
        · omega
        · have := List.rel_of_pairwise_cons hs h
          omega
theorem ends_sorted (prs : List Pr) (s0 : Stp) (ss : List Stp) : (endsOf prs s0 ss).Pairwise (· < ·) ∧ ∀ e ∈ endsOf prs s0 ss, ∃ k : Nat, k < prs.length ∧ e = (k : Int) := by
  unfold endsOf
  rcases List.eq_nil_or_concat ss with rfl | ⟨a, b, rfl⟩
  · exact ⟨(irange_lt _).filter _, fun e h => mem_irange.mp ((List.mem_filter.mp h).1)⟩
  · rw [List.concat_eq_append, List.foldl_append]
    exact ⟨(irange_lt _).filter _, fun e h => mem_irange.mp ((List.mem_filter.mp h).1)⟩
theorem ends_laid (prs : List Pr) (s0 : Stp) (ss : List Stp) : ∀ (n k : Nat), n ≤ ss.length → k < prs.length → (((k : Int) ∈ endsOf prs s0 (ss.take n)) ↔ laidB (s0 :: ss) prs n k = true)
  | 0, k, _, hk => by
    unfold endsOf laidB
    rw [List.take_zero]
    show (k : Int) ∈ (irange prs.length).filter (fitAt prs s0) ↔ fitAt prs s0 (k : Int) = true
    rw [List.mem_filter]
    exact ⟨fun h => h.2, fun h => ⟨mem_irange.mpr ⟨k, hk, rfl⟩, h⟩⟩
  | n + 1, k, hn, hk => by
    have es : ss[n]? = some ss[n] := List.getElem?_eq_getElem (by omega)
    have hst : endsOf prs s0 (ss.take (n + 1)) = endsR prs (endsOf prs s0 (ss.take n)) ss[n] := by
      rw [List.take_succ_eq_append_getElem (by omega)]
      unfold endsOf
      rw [List.foldl_append]
      rfl
    obtain ⟨so, sb⟩ := ends_sorted prs s0 (ss.take n)
    rw [hst]
    unfold endsR
    conv => rhs; unfold laidB
    rw [List.mem_filter, List.getElem?_cons_succ, es]
    show _ ↔ (fitAt prs ss[n] (k : Int) && _) = true
    rw [Bool.and_eq_true, Bool.and_eq_true, fol_iff so fun e h => by obtain ⟨_, _, rfl⟩ := sb e h; omega, List.any_eq_true]
    constructor
    · rintro ⟨_, h1, i, hi, hc, hm⟩
      exact ⟨h1, i, List.mem_range.mpr hi, by rw [hc, (ends_laid prs s0 ss n i (by omega) (by omega)).mp hm]; rfl⟩
    · rintro ⟨h1, i, hi, hm⟩
      have hi := List.mem_range.mp hi
      rw [Bool.and_eq_true] at hm
      exact ⟨mem_irange.mpr ⟨k, hk, rfl⟩, h1, i, hi, hm.1, (ends_laid prs s0 ss n i (by omega) (by omega)).mpr hm.2⟩
theorem mat_laid (prs : List Pr) (s0 : Stp) (ss : List Stp) (h : 1 ≤ prs.length) : matchB prs s0 ss = laidB (s0 :: ss) prs ss.length (prs.length - 1) := by
  unfold matchB
  rw [mem_ints, show (prs.length : Int) - 1 = ((prs.length - 1 : Nat) : Int) by omega]
  have e := ends_laid prs s0 ss ss.length (prs.length - 1) (Nat.le_refl _) (by omega)
  rw [List.take_length] at e
  cases hl : laidB (s0 :: ss) prs ss.length (prs.length - 1) with
  | true => exact decide_eq_true (e.mpr hl)
  | false => exact decide_eq_false fun z => by rw [e.mp z] at hl; cases hl
end
end K14
set_option Elab.async false
set_option linter.all false
set_option maxRecDepth 100000
set_option maxHeartbeats 4000000
set_option synthInstance.maxHeartbeats 4000000
set_option synthInstance.maxSize 100000
namespace K14
open PySem PySem.Spec PyProof.Rows L2 Wl
local macro_rules | `(tactic| walk_at "w") => `(tactic| (conv => whnf))
/-! what a store holds -/
local macro_rules | `(tactic| walk_at "ne") => `(tactic| first | assumption | (apply Ne.symm; assumption) | exact ne_free (by assumption) (by assumption) | exact (ne_free (by assumption) (by assumption)).symm | exact Pl.ne (by assumption) (by assumption) | exact (Pl.ne (by assumption) (by assumption)).symm)
local macro_rules | `(tactic| walk_at "s") => `(tactic| first
  | exact put_same
  | assumption
  | (refine (put_ne ?_).trans ?_; (· walk_at "ne"); (· walk_at "s")))
/-! a side condition -/
local macro_rules | `(tactic| walk_at "c") => `(tactic| first
  | exact Or.inl (Or.inl ⟨by omega, by omega⟩)
  | exact Or.inl (Or.inr ⟨by omega, by omega⟩)
  | exact Or.inl ⟨by omega, by omega⟩
  | exact Or.inl ⟨rfl, _, by walk_at "s"⟩
  | rfl
  | omega
  | decide
  | exact Nat.le_trans (by omega) sizeLine_ge)
/-! one question is answered, if the answer is plain -/
local macro_rules | `(tactic| walk_at "g1") => `(tactic| first
  | refine ⟨fun _ => ?_, fun h => absurd (show true = false from h) (by decide)⟩
  | refine ⟨fun h => absurd (show false = true from h) Bool.false_ne_true, fun _ => ?_⟩
  | refine ⟨_, by walk_at "s", ?_⟩
  | refine ⟨_, _, by walk_at "s", by walk_at "s", ?_⟩
  | refine ⟨_, by walk_at "s", by simpa using (by omega), ?_⟩
  | refine ⟨_, rfl, ?_⟩
  | refine ⟨_, _, rfl, (by first | exact isTy_tt | exact isTy_ii | exact isTy_ll | exact isTy_ss | exact isTy_ib | exact isTy_tb | exact isTy_ti | exact isTy_ts | exact isTy_tl | exact isTy_lb | exact isTy_li | exact isTy_ls | exact isTy_lt | exact isTy_sb | exact isTy_si | exact isTy_st | exact isTy_sl | exact isTy_is | exact isTy_it | exact isTy_il | exact isTy_bi | exact isTy_bs | exact isTy_bb | exact isTy_nb | exact isTy_ni | exact isTy_ns | exact isTy_nt | exact isTy_nl | exact isTy_bt | exact isTy_bl), ?_⟩
  | refine ⟨_, _, tyName_lst (by walk_at "s"), (by first | exact isTy_ll | exact isTy_lb | exact isTy_li | exact isTy_ls | exact isTy_lt), ?_⟩
  | refine if_q ?_
  | refine ⟨by walk_at "c", ?_⟩)
local macro_rules | `(tactic| walk_at "go") => `(tactic| (walk_at "w"; repeat (walk_at "g1"; walk_at "w")))
/-! a branch that cannot be -/
local macro_rules | `(tactic| walk_at "two") => `(tactic| refine ⟨fun h => ?_, fun h => ?_⟩)
section
variable {P : Program} {w : World} {K : PySem.W.Frag} {mg : Str → Option Value} {base : Heap}
theorem mem_strs (x : Str) : ∀ es : List Str, isInW (.str x) (es.map W.str) = decide (x ∈ es)
  | [] => rfl
  | e :: es => by
    have ih := mem_strs x es
    unfold isInW at ih ⊢
    rw [List.map_cons, List.any_cons, ih]
    show (e == x || decide (x ∈ es)) = _
    by_cases h : e = x
    · rw [h]; simp
    · have h' : ¬ x = e := fun z => h z.symm
      simp [h, h']
theorem fresh_one {α : Type} [DecidableEq α] : ∀ (ys xs : List α), xs.Nodup → ys.length < xs.length → ∃ x, x ∈ xs ∧ x ∉ ys
  | [], x :: xs, _, _ => ⟨x, List.mem_cons_self, by simp⟩
  | [], [], _, h => absurd h (Nat.lt_irrefl _)
  | y :: ys, xs, hn, h => by
    have hl : ys.length < (xs.erase y).length := by
      rw [List.length_erase]
      rw [List.length_cons] at h
      split <;> omega
    obtain ⟨x, h1, h2⟩ := fresh_one ys (xs.erase y) (hn.erase y) hl
    have h3 := (hn.mem_erase_iff).mp h1
    exact ⟨x, h3.2, fun z => by
      rcases List.mem_cons.mp z with z | z
      · exact h3.1 z
      · exact h2 z⟩
def abcS : List Str := (("abcdefghijklmnopqrstuvwxyz" : Str)).cps.toList.map fun c => ⟨#[c]⟩
theorem abcS_len : abcS.length = 26 := by decide +kernel
theorem abcS_nodup : abcS.Nodup := by decide +kernel
theorem abcS_signs : Wl.signs "abcdefghijklmnopqrstuvwxyz" = abcS.map W.str := by
  unfold Wl.signs abcS
  rw [List.map_map]
  rfl
theorem abc_fresh (ys : List Str) (h : ys.length < 26) : ∃ z zs, ((Wl.signs "abcdefghijklmnopqrstuvwxyz").filter fun w => !isInW w (ys.map W.str)).map (fun w => w) = W.str z :: zs := by
  obtain ⟨x, h1, h2⟩ := fresh_one ys abcS abcS_nodup (by rw [abcS_len]; exact h)
  rw [List.map_id', abcS_signs, List.filter_map]
  have hm : x ∈ abcS.filter ((fun w => !isInW w (ys.map W.str)) ∘ W.str) := by
    rw [List.mem_filter]
    refine ⟨h1, ?_⟩
    show (!isInW (.str x) (ys.map W.str)) = true
    rw [mem_strs, decide_eq_false h2]
    rfl
  cases hf : abcS.filter ((fun w => !isInW w (ys.map W.str)) ∘ W.str) with
  | nil => rw [hf] at hm; cases hm
  | cons z zs => exact ⟨z, _, rfl⟩
theorem tail_len {a b : Int} (ha : 0 ≤ a) (ha1 : a < 2) (hb : 0 ≤ b) (hb1 : b < 3) : 0 ≤ a * b ∧ a * b ≤ 2 ∧ (Txt.mul "z" (a * b)).length ≤ 2 := by
  have h : a * b = 0 ∨ a * b = 1 ∨ a * b = 2 := by
    have : a = 0 ∨ a = 1 := by omega
    rcases this with h | h <;> rw [h] <;> omega
  rcases h with h | h | h <;> rw [h] <;> exact ⟨by decide, by decide, by decide +kernel⟩
theorem cut_len {α : Type} (xs : List α) (lo hi : Option Int) : (cutL xs lo hi).length ≤ xs.length := by
  unfold cutL
  rw [List.length_take, List.length_drop]
  omega
theorem cutS_len (x : Str) (lo hi : Option Int) : (cutS x lo hi).length ≤ x.length := by
  rw [← tl_len, ← tl_len, cut_tl]
  exact cut_len _ _ _
theorem app_len (a b : Str) : (a ++ b).length = a.length + b.length := by
  rw [← tl_len, ← tl_len a, ← tl_len b, tl_append, List.length_append]
theorem sz {n : Nat} (h : n ≤ 1000) : n ≤ sizeLine := Nat.le_trans h sizeLine_ge
def spNms (M : Int) : SpW := fun ws S Q => ∃ (p : Addr) (N : Int), ws = [.ref p, .int 8] ∧ Pl S p N ∧ N + M < 2 ^ 38 ∧ ∀ (ys : List Str) (L : Addr) S', ys.length = 8 → S' L = some (.lst (ys.map W.str)) → S L = none → Pl S' p (N + M) → KpL [p] S S' → Q (.ref L) S'
theorem nms_go {M : Int} {p : Addr} {N : Int} {S : Sto} {Q : WK} (h : Pl S p N) (hN : N + M < 2 ^ 38) (q : ∀ (ys : List Str) (L : Addr) S', ys.length = 8 → S' L = some (.lst (ys.map W.str)) → S L = none → Pl S' p (N + M) → KpL [p] S S' → Q (.ref L) S') : Hd (spNms M) [.ref p, .int 8] S Q := Hd.mk ⟨p, N, rfl, h, hN, q⟩
theorem ok__law_names (T : Txt K mg) (c__law_take : CalW P w K mg base 1 "_law_take" (Hd spTk)) (c__law_letters : CalW P w K mg base 2 "_law_letters" (Hd spLet)) (d : DefAt K mg "_law_names" s__law_names ["_law_pool_here", "_law_many"]) : CalW P w K mg base 3 "_law_names" (spNms 100) :=
  have c__law_take := c__law_take.mono (k := 2) (by decide)
  calDI d sc__law_names (fun ws S Q ⟨p, N, e, _⟩ => by rw [e]; rfl) fun f cdv A outer s H E hr => ⟨_, _,
    (pss_cons (ps_set (i := 2) sc__law_names.nd rfl (Or.inl rfl) (k_w K c__law_letters hr (by decide) rfl (pa_cons (pv 0) (pa_cons (k_w K c__law_take hr (by decide) rfl (pa_cons (pv 0) (pa_cons pe_int pa_nil))) pa_nil))))
      (pss_cons (ps_set (i := 3) sc__law_names.nd rfl (Or.inl rfl) (k_w K c__law_take hr (by decide) rfl (pa_cons (pv 0) (pa_cons (pe_op (k_addB K) (pe_callB (k_len K) (by rfl) T.b_len (by decide +kernel) (pa_cons (pv 2) pa_nil)) pe_int) pa_nil))))
      (pss_cons (ps_set (i := 4) sc__law_names.nd rfl (Or.inl rfl) (k_w K c__law_take hr (by decide) rfl (pa_cons (pv 0) (pa_cons pe_int pa_nil))))
      (pss_cons (ps_set (i := 5) sc__law_names.nd rfl (Or.inl rfl) (k_w K c__law_take hr (by decide) rfl (pa_cons (pv 0) (pa_cons pe_int pa_nil))))
      (pss_cons (ps_set (i := 6) sc__law_names.nd rfl (Or.inl rfl) pe_str)
      (pss_cons (ps_set (i := 7) sc__law_names.nd rfl (Or.inl rfl) (pe_lst pa_nil))
      (pss_cons (ps_for PassesOwn.never rfl (pi_range1 rfl T.b_range (pa_cons (pv 1) pa_nil)) (pg_name (i := 8) sc__law_names.nd rfl (Or.inl rfl))
       (pss_cons (ps_set (i := 9) sc__law_names.nd rfl (Or.inl rfl) (pe_ix (k_ix K) (pv 6) (pe_op op_mod (pe_callTy call_int1 (by rfl) T.b_int (by decide +kernel) (pa_cons (pe_op (k_addB K) (pv 4) (pv 8)) pa_nil)) pe_int) (fun _ _ => rfl)))
       (pss_cons (ps_set (i := 10) sc__law_names.nd rfl (Or.inl rfl) (pe_op op_mulS pe_str (pe_op op_mulA (pv 5) (pe_op op_mod (pe_callTy call_int1 (by rfl) T.b_int (by decide +kernel) (pa_cons (pv 8) pa_nil)) pe_int))))
       (pss_one (ps_expr (k_bm K PySem.F.plainAttrs_list PySem.F.slot_list_append PySem.F.type_list_append mt_append (pv 7) (pa_cons (pe_op (k_addB K) (pe_op (k_addB K) (pe_op (k_addB K) (pe_slice (k_sl K) (pv 2) po_none (po_some (pv 3))) (pv 9)) (pe_slice (k_sl K) (pv 2) (po_some (pv 3)) po_none)) (pv 10)) pa_nil)))))))
      (pss_one (ps_ret (pv 7)))))))))), inferInstance, by
    rintro ws S Q ⟨p, N, rfl, hp, hN, q⟩
    walk_at "w"
    refine tk_go hp (by omega) (by decide) (by decide) fun r S1 r0 r1 p1 o1 => ?_
    walk_at "w"
    refine let_go p1 (by omega) r0 (by omega) fun x S2 xl xa p2 o2 => ?_
    have xl5 : x.length ≤ 5 := by rw [← tl_len]; omega
    have hxs : x.length ≤ sizeLine := Nat.le_trans (show x.length ≤ 1000 by omega) sizeLine_ge
    walk_at "w"
    refine ⟨hxs, ?_⟩
    walk_at "w"
    refine tk_go p2 (by omega) (by omega) (by omega) fun at_ S3 a0 a1 p3 o3 => ?_
    walk_at "w"
    refine tk_go p3 (by omega) (by decide) (by decide) fun be S4 b0 b1 p4 o4 => ?_
    walk_at "w"
    refine tk_go p4 (by omega) (by decide) (by decide) fun ta S5 t0 t1 p5 o5 => ?_
    have o5' : OffL [p] S S5 := (((o1.trans1 o2).trans1 o3).trans1 o4).trans1 o5
    walk_at "w"
    intro L hL
    have hLp : L ≠ p := p5.ne hL
    walk_at "go"
    refine for_q (fun i ρ' S' => i ≤ 8 ∧ ∃ (ys : List Str) (a8 a9 a10 : Option W), ρ' = [some (.ref p), some (.int 8), some (.str x), some (.int at_), some (.int be), some (.int ta), some (.str "abcdefghijklmnopqrstuvwxyz"), some (.ref L), a8, a9, a10] ∧ ys.length = i ∧ S' L = some (.lst (ys.map W.str)) ∧ Pl S' p (N + 100) ∧ KpL [p] S S')
      ⟨by omega, [], _, _, _, rfl, rfl, put_same, (p5.eq (put_ne hLp.symm)).mono (by omega), o5'.kp.new hL⟩ (fun _ _ _ _ => trivial) ?_ ?_
    · rintro i w ρ' S6 e ⟨_, ys, a8, a9, a10, rfl, yl, hL6, p6, k6⟩
      obtain ⟨hi, rfl⟩ := intsW_at e
      have hi : i < 8 := hi
      obtain ⟨c, hc, c0, c1⟩ := abc_at (r := (be + (0 + (i : Int))) % 26) (Int.emod_nonneg _ (by decide)) (Int.emod_lt_of_pos _ (by decide))
      walk_at "w"
      refine ⟨(by show (0 : Int) < 26; decide), ?_⟩
      walk_at "w"
      refine ⟨abc_len, c, hc, ?_⟩
      walk_at "w"
      refine ⟨(by show (0 : Int) < 3; decide), ?_⟩
      have y0 := Int.emod_nonneg (0 + (i : Int)) (by decide : (3 : Int) ≠ 0)
      have y1 := Int.emod_lt_of_pos (0 + (i : Int)) (by decide : (0 : Int) < 3)
      generalize hy : (0 + (i : Int)) % 3 = y at y0 y1
      obtain ⟨m0, m1, m2⟩ := tail_len t0 t1 y0 y1
      walk_at "w"
      refine ⟨.inl (.inl ⟨by omega, by omega⟩), ?_⟩
      walk_at "w"
      refine ⟨mulOk_of 1 16 (by decide) (by omega) (by omega) (by decide) (by decide), ?_⟩
      walk_at "w"
      refine ⟨.inl ⟨rfl, _, hL6⟩, ?_⟩
      have l1 := cutS_len x none (some at_)
      have l2 := cutS_len x (some at_) none
      walk_at "w"
      refine ⟨hxs, ?_⟩
      walk_at "w"
      have lc : (⟨#[c]⟩ : Str).length = 1 := rfl
      refine ⟨sz (by rw [lc]; omega), ?_⟩
      walk_at "w"
      refine ⟨hxs, ?_⟩
      walk_at "w"
      refine ⟨sz (by rw [app_len, lc]; omega), ?_⟩
      walk_at "w"
      refine ⟨sz (by rw [app_len, app_len, lc]; omega), ?_⟩
      walk_at "w"
      refine ⟨_, hL6, ?_, by omega, ys ++ [cutS x none (some at_) ++ ⟨#[c]⟩ ++ cutS x (some at_) none ++ Txt.mul "z" (ta * y)], _, _, _, rfl, by rw [List.length_append, yl]; rfl, ?_, p6.eq (put_ne hLp.symm), k6.own (o5'.kp.free hL (notin1 hLp))⟩
      · rw [List.length_map]
        exact Nat.lt_of_lt_of_le (show _ < 1000 by omega) sizeLine_ge
      · rw [put_same, List.map_append]
        rfl
    · rintro ρ' S6 ⟨_, ys, a8, a9, a10, rfl, yl, hL6, p6, k6⟩
      walk_at "w"
      exact fg_here (q ys L S6 yl hL6 (o5'.kp.free hL (notin1 hLp)) p6 k6)⟩
theorem ok__law_any_names (T : Txt K mg) (c__law_take : CalW P w K mg base 1 "_law_take" (Hd spTk)) (c__law_letters : CalW P w K mg base 2 "_law_letters" (Hd spLet)) (c__law_names : CalW P w K mg base 3 "_law_names" (Hd (spNms 100))) (d : DefAt K mg "_law_any_names" s__law_any_names ["_law_pool_here", "_law_many"]) : CalW P w K mg base 4 "_law_any_names" (spNms 200) :=
  have c__law_take := c__law_take.mono (k := 3) (by decide)
  have c__law_letters := c__law_letters.mono (k := 3) (by decide)
  calDI d sc__law_any_names (fun ws S Q ⟨p, N, e, _⟩ => by rw [e]; rfl) fun f cdv A outer s H E hr => ⟨_, _,
    (pss_cons (ps_if (pt_cmpR (k_eq K hr.units) (k_w K c__law_take hr (by decide) rfl (pa_cons (pv 0) (pa_cons pe_int pa_nil))) pe_int (nomark _))
       (pss_one (ps_ret (k_w K c__law_names hr (by decide) rfl (pa_cons (pv 0) (pa_cons (pv 1) pa_nil)))))
       pss_nil)
      (pss_cons (ps_set (i := 2) sc__law_any_names.nd rfl (Or.inr rfl) (pe_lst pa_nil))
      (pss_cons (ps_for PassesOwn.never rfl (pi_range1 rfl T.b_range (pa_cons (pv 1) pa_nil)) (pg_name (i := 3) sc__law_any_names.nd rfl (Or.inl rfl))
       (pss_cons (ps_set (i := 4) sc__law_any_names.nd rfl (Or.inl rfl) (k_w K c__law_letters hr (by decide) rfl (pa_cons (pv 0) (pa_cons (pe_op (k_addB K) pe_int (k_w K c__law_take hr (by decide) rfl (pa_cons (pv 0) (pa_cons pe_int pa_nil)))) pa_nil))))
       (pss_mid (ps_if (pt_cmpR (k_in K) (pv 4) (pv 2) rfl)
        (pss_one (ps_set (i := 4) sc__law_any_names.nd rfl (Or.inl rfl) (pe_ix (k_ix K) (pe_lc (own := [("_law_one", 5)]) rfl sc__law_any_names.nd (k_any K pe_str) (blkOk_by (own := [("_law_one", 5)]) (N := ["_law_pool_here", "_law_many", "_law_names_here", "_law_k", "_law_name", "_law_one"]) (sc := defScope s__law_any_names) (by decide +kernel)) (fun _ _ _ _ _ => (pg_name (i := 5) sc__law_any_names.nd rfl (Or.inl rfl))) (fun _ _ _ _ _ => (pts_one (pt_cmpR (k_notIn K) (pv 5) (pv 2) rfl))) (fun _ _ _ _ _ => (pv 5))) pe_int (fun _ _ => rfl))))
        pss_nil)
       (pss_one (ps_expr (k_bm K PySem.F.plainAttrs_list PySem.F.slot_list_append PySem.F.type_list_append mt_append (pv 2) (pa_cons (pv 4) pa_nil)))))))
      (pss_one (ps_ret (pv 2)))))), inferInstance, by
    rintro ws S Q ⟨p, N, rfl, hp, hN, q⟩
    walk_at "w"
    refine tk_go hp (by omega) (by decide) (by decide) fun r S1 r0 r1 p1 o1 => ?_
    walk_at "w"
    refine ⟨fun _ => ?_, fun _ => ?_⟩
    · walk_at "w"
      refine nms_go p1 (by omega) fun ys L S2 hl hL hf p2 k2 => ?_
      walk_at "w"
      exact fg_here (q ys L S2 hl hL (o1.kp.free hf (notin1 (p1.ne hf))) (p2.mono (by omega)) (o1.kp.trans k2))
    · walk_at "w"
      intro L hL
      have hLp : L ≠ p := p1.ne hL
      walk_at "go"
      refine for_q (fun i ρ' S' => i ≤ 8 ∧ ∃ (ys : List Str) (a3 a4 a5 : Option W), ρ' = [some (.ref p), some (.int 8), some (.ref L), a3, a4, a5] ∧ ys.length = i ∧ S' L = some (.lst (ys.map W.str)) ∧ Pl S' p (N + 1 + 20 * i) ∧ KpL [p] S S')
        ⟨by omega, [], _, _, _, rfl, rfl, put_same, (p1.eq (put_ne hLp.symm)).mono (by omega), o1.kp.new hL⟩ (fun _ _ _ _ => trivial) ?_ ?_
      · rintro i w ρ' S6 e ⟨_, ys, a3, a4, a5, rfl, yl, hL6, p6, k6⟩
        obtain ⟨hi, rfl⟩ := intsW_at e
        have hi : i < 8 := hi
        walk_at "w"
        refine tk_go p6 (by omega) (by decide) (by decide) fun r S7 r0 r1 p7 o7 => ?_
        have hL7 := (o7 L (notin1 hLp)).trans hL6
        walk_at "w"
        refine let_go p7 (by omega) (by omega) (by omega) fun x S8 xl xa p8 o8 => ?_
        have hL8 := (o8 L (notin1 hLp)).trans hL7
        have k8 := (k6.trans o7.kp).trans o8.kp
        walk_at "w"
        refine mid_q (fun ρ' S' => ∃ (x : Str) (a3 a5 : Option W), ρ' = [some (.ref p), some (.int 8), some (.ref L), a3, some (.str x), a5] ∧ S' L = some (.lst (ys.map W.str)) ∧ Pl S' p (N + 1 + 20 * (i + 1)) ∧ KpL [p] S S') ?_ ?_
        · walk_at "w"
          refine ⟨rfl, _, hL8, flat_strs _, ?_⟩
          refine ⟨fun _ => ?_, fun _ => ?_⟩
          · walk_at "w"
            refine lc_fil (fun w => !isInW w (ys.map W.str)) (fun w => w) ?_ (fun _ _ _ => trivial) ?_ ?_ ?_
            · rw [abcS_signs, List.length_map, abcS_len]
              decide
            · intro u w D acc e hD Q' q'
              have fw : flatW w = true := by
                rw [abcS_signs] at e
                obtain ⟨m, _, rfl⟩ := List.mem_map.mp (List.mem_of_getElem? e)
                rfl
              obtain ⟨m, rfl⟩ : ∃ m : Str, w = .str m := by
                rw [abcS_signs] at e
                obtain ⟨m, _, rfl⟩ := List.mem_map.mp (List.mem_of_getElem? e)
                exact ⟨m, rfl⟩
              walk_at "w"
              refine ⟨rfl, _, (put_ne (ne_free hL8 hD).symm).trans hL8, flat_strs _, ?_⟩
              exact q'
            · intro u w D acc e hp hD Q' q'
              walk_at "w"
              exact q'
            · intro D hD
              obtain ⟨z, zs, ez⟩ := abc_fresh ys (by omega)
              rw [ez]
              walk_at "w"
              refine ⟨_, put_same, ?_⟩
              refine rdAt_ok (show atI (W.str z :: zs) 0 = some (W.str z) from atI_nat (j := 0) rfl) ?_
              walk_at "w"
              exact ⟨z, _, _, rfl, (put_ne (ne_free hL8 hD).symm).trans hL8, (p8.eq (put_ne (p8.ne hD).symm)).mono (by omega), k8.new hD⟩
          · exact ⟨x, _, _, rfl, hL8, p8.mono (by omega), k8⟩
        · rintro ρ' S9 ⟨x, a3, a5, rfl, hL9, p9, k9⟩
          walk_at "w"
          refine ⟨.inl ⟨rfl, _, hL9⟩, ?_⟩
          walk_at "w"
          refine ⟨_, hL9, ?_, by omega, ys ++ [x], _, _, _, rfl, by rw [List.length_append, yl]; rfl, ?_, (p9.eq (put_ne hLp.symm)).mono (by omega), k9.own (o1.kp.free hL (notin1 hLp))⟩
          · rw [List.length_map]
            exact Nat.lt_of_lt_of_le (show _ < 1000 by omega) sizeLine_ge
          · rw [put_same, List.map_append]
            rfl
      · rintro ρ' S6 ⟨_, ys, a3, a4, a5, rfl, yl, hL6, p6, k6⟩
        walk_at "w"
        exact fg_here (q ys L S6 yl hL6 (o1.kp.free hL (notin1 hLp)) (p6.mono (by rw [intsW_len]; show N + 1 + 20 * ((8 : Nat) : Int) ≤ N + 200; omega)) k6)⟩
end
end K14
set_option Elab.async false
set_option linter.all false
set_option maxRecDepth 100000
set_option maxHeartbeats 4000000
set_option synthInstance.maxHeartbeats 4000000
set_option synthInstance.maxSize 100000
namespace K14
open PySem PySem.Spec PyProof.Rows L2 Wl
local macro_rules | `(tactic| walk_at "w") => `(tactic| (conv => whnf))
/-! what a store holds -/
local macro_rules | `(tactic| walk_at "ne") => `(tactic| first | assumption | (apply Ne.symm; assumption) | exact ne_free (by assumption) (by assumption) | exact (ne_free (by assumption) (by assumption)).symm | exact Pl.ne (by assumption) (by assumption) | exact (Pl.ne (by assumption) (by assumption)).symm)
local macro_rules | `(tactic| walk_at "s") => `(tactic| first
  | exact put_same
  | assumption
  | (refine (put_ne ?_).trans ?_; (· walk_at "ne"); (· walk_at "s")))
/-! a side condition -/
local macro_rules | `(tactic| walk_at "c") => `(tactic| first
  | exact Or.inl (Or.inl ⟨by omega, by omega⟩)
  | exact Or.inl (Or.inr ⟨by omega, by omega⟩)
  | exact Or.inl ⟨by omega, by omega⟩
  | exact Or.inl ⟨rfl, _, by walk_at "s"⟩
  | rfl
  | omega
  | decide
  | exact Nat.le_trans (by omega) sizeLine_ge)
/-! one question is answered, if the answer is plain -/
local macro_rules | `(tactic| walk_at "g1") => `(tactic| first
  | refine ⟨fun _ => ?_, fun h => absurd (show true = false from h) (by decide)⟩
  | refine ⟨fun h => absurd (show false = true from h) Bool.false_ne_true, fun _ => ?_⟩
  | refine ⟨_, by walk_at "s", ?_⟩
  | refine ⟨_, _, by walk_at "s", by walk_at "s", ?_⟩
  | refine ⟨_, by walk_at "s", by simpa using (by omega), ?_⟩
  | refine ⟨_, rfl, ?_⟩
  | refine ⟨_, _, rfl, (by first | exact isTy_tt | exact isTy_ii | exact isTy_ll | exact isTy_ss | exact isTy_ib | exact isTy_tb | exact isTy_ti | exact isTy_ts | exact isTy_tl | exact isTy_lb | exact isTy_li | exact isTy_ls | exact isTy_lt | exact isTy_sb | exact isTy_si | exact isTy_st | exact isTy_sl | exact isTy_is | exact isTy_it | exact isTy_il | exact isTy_bi | exact isTy_bs | exact isTy_bb | exact isTy_nb | exact isTy_ni | exact isTy_ns | exact isTy_nt | exact isTy_nl | exact isTy_bt | exact isTy_bl), ?_⟩
  | refine ⟨_, _, tyName_lst (by walk_at "s"), (by first | exact isTy_ll | exact isTy_lb | exact isTy_li | exact isTy_ls | exact isTy_lt), ?_⟩
  | refine if_q ?_
  | refine ⟨by walk_at "c", ?_⟩)
local macro_rules | `(tactic| walk_at "go") => `(tactic| (walk_at "w"; repeat (walk_at "g1"; walk_at "w")))
/-! a branch that cannot be -/
local macro_rules | `(tactic| walk_at "two") => `(tactic| refine ⟨fun h => ?_, fun h => ?_⟩)
section
variable {P : Program} {w : World} {K : PySem.W.Frag} {mg : Str → Option Value} {base : Heap}
def spMs : SpW := fun ws S Q => ∃ (p ml : Addr) (N : Int) (ms : List Str), ws = [.ref p, .ref ml] ∧ Pl S p N ∧ N < 2 ^ 37 ∧ S ml = some (.lst (ms.map W.str)) ∧ ms.length ≤ 8 ∧ ∀ (xs : List Str) S', xs.length ≤ 3 → Pl S' p (N + 8) → OffL [p] S S' → Q (.tup (xs.map W.str)) S'
theorem ms_go {p ml : Addr} {N : Int} {ms : List Str} {S : Sto} {Q : WK} (h : Pl S p N) (hN : N < 2 ^ 37) (hm : S ml = some (.lst (ms.map W.str))) (hl : ms.length ≤ 8) (q : ∀ (xs : List Str) S', xs.length ≤ 3 → Pl S' p (N + 8) → OffL [p] S S' → Q (.tup (xs.map W.str)) S') : Hd spMs [.ref p, .ref ml] S Q := Hd.mk ⟨p, ml, N, ms, rfl, h, hN, hm, hl, q⟩
theorem str_at {xs : List Str} {i : Nat} {w : W} (e : (xs.map W.str)[i]? = some w) : ∃ m : Str, xs[i]? = some m ∧ w = .str m := by
  rw [List.getElem?_map] at e
  cases hm : xs[i]? with
  | none => rw [hm] at e; cases e
  | some m => rw [hm] at e; exact ⟨m, rfl, (Option.some.inj e).symm⟩
theorem ok__law_marks (T : Txt K mg) (c__law_take : CalW P w K mg base 1 "_law_take" (Hd spTk)) (d : DefAt K mg "_law_marks" s__law_marks ["_law_pool_here", "_law_names_here"]) : CalW P w K mg base 2 "_law_marks" spMs :=
  calDI d sc__law_marks (fun ws S Q ⟨p, ml, N, ms, e, _⟩ => by rw [e]; rfl) fun f cdv A outer s H E hr => ⟨_, _,
    (pss_cons (ps_set (i := 2) sc__law_marks.nd rfl (Or.inl rfl) (pe_lst pa_nil))
      (pss_cons (ps_for PassesOwn.never rfl (k_any K (pe_callB (k_sortA K) (by rfl) T.b_sorted (by decide +kernel) (pa_cons (pe_lc (own := [("_law_one", 4)]) rfl sc__law_marks.nd (k_any K (pv 1)) (blkOk_by (own := [("_law_one", 4)]) (N := ["_law_pool_here", "_law_names_here", "_law_marks_here", "_law_name", "_law_one"]) (sc := defScope s__law_marks) (by decide +kernel)) (fun _ _ _ _ _ => (pg_name (i := 4) sc__law_marks.nd rfl (Or.inl rfl))) (fun _ _ _ _ _ => pts_nil) (fun _ _ _ _ _ => (pe_callTy call_strA (by rfl) T.b_str (by decide +kernel) (pa_cons (pv 4) pa_nil)))) pa_nil))) (pg_name (i := 3) sc__law_marks.nd rfl (Or.inl rfl))
       (pss_one (ps_if (PW.pt (pw_and (pt_cmpR op_ltA (pe_callB (k_len K) (by rfl) T.b_len (by decide +kernel) (pa_cons (pv 2) pa_nil)) pe_int (nomark _)) (pw_and1 (pt_cmpR (k_eq K hr.units) (k_w K c__law_take hr (by decide) rfl (pa_cons (pv 0) (pa_cons pe_int pa_nil))) pe_int (nomark _)))))
        (pss_one (ps_expr (k_bm K PySem.F.plainAttrs_list PySem.F.slot_list_append PySem.F.type_list_append mt_append (pv 2) (pa_cons (pv 3) pa_nil))))
        pss_nil)))
      (pss_one (ps_ret (pe_callTy (k_tuple K) (by rfl) T.b_tuple (by decide +kernel) (pa_cons (pv 2) pa_nil)))))), inferInstance, by
    rintro ws S Q ⟨p, ml, N, ms, rfl, hp, hN, hm, hml, q⟩
    walk_at "w"
    intro L hL
    have hLp := hp.ne hL
    have hm1 : (put S L (.lst [])) ml = some (.lst (ms.map W.str)) := (put_ne (ne_free hm hL).symm).trans hm
    walk_at "w"
    refine ⟨_, hm1, ?_⟩
    refine lc_map (fun w => w) (by rw [List.length_map]; omega) (fun D acc hD => (put_ne (ne_free hm1 hD).symm).trans hm1) ?_ ?_
    · intro i w D acc e hD Q' q'
      obtain ⟨m, _, rfl⟩ := str_at e
      walk_at "w"
      exact q'
    intro D hD
    rw [List.map_id']
    walk_at "w"
    refine .inr ⟨ms, put_same, by omega, fun ys D2 hperm _ hD2 => ?_⟩
    have hyl : ys.length ≤ 8 := by rw [hperm.length_eq]; exact hml
    walk_at "w"
    refine ⟨_, put_same, ?_⟩
    have e1 : (put S L (.lst [])) L = some (.lst []) := put_same
    have hDL : D ≠ L := ne_free e1 hD
    have e2 : (put (put S L (.lst [])) D (.lst (ms.map W.str))) L = some (.lst []) := (put_ne hDL.symm).trans e1
    have hD2L : D2 ≠ L := ne_free e2 hD2
    have p1 : Pl (put S L (.lst [])) p N := hp.eq (put_ne hLp.symm)
    have p2 : Pl (put (put S L (.lst [])) D (.lst (ms.map W.str))) p N := p1.eq (put_ne (p1.ne hD).symm)
    have p3 : Pl (put (put (put S L (.lst [])) D (.lst (ms.map W.str))) D2 (.lst (ys.map W.str))) p N := p2.eq (put_ne (p2.ne hD2).symm)
    have k3 : KpL [p] S (put (put (put S L (.lst [])) D (.lst (ms.map W.str))) D2 (.lst (ys.map W.str))) := (((KpL.refl [p] S).new hL).new hD).new hD2
    have hD2p := p2.ne hD2
    refine for_q (fun i ρ' S' => ∃ (xs : List Str) (a3 a4 : Option W), ρ' = [some (.ref p), some (.ref ml), some (.ref L), a3, a4] ∧ xs.length ≤ 3 ∧ S' L = some (.lst (xs.map W.str)) ∧ S' D2 = some (.lst (ys.map W.str)) ∧ Pl S' p (N + i) ∧ i ≤ 8 ∧ KpL [p] S S')
      ⟨[], _, _, rfl, by decide, (put_ne hD2L.symm).trans e2, put_same, p3.mono (by omega), by decide, k3⟩ (fun i ρ' S' ⟨_, _, _, _, _, _, h, _⟩ => h) ?_ ?_
    · rintro i w ρ' S4 e ⟨xs, a3, a4, rfl, xl, hL4, hD4, p4, hi, k4⟩
      obtain ⟨m, em, rfl⟩ := str_at e
      have hi1 := (List.getElem?_eq_some_iff.mp em).1
      have no : ∀ S', S' L = some (.lst (xs.map W.str)) → S' D2 = some (.lst (ys.map W.str)) → Pl S' p (N + i + 1) → KpL [p] S S' → ∃ (xs' : List Str) (a3' a4' : Option W), ([some (.ref p), some (.ref ml), some (.ref L), some (.str m), a4] : StW) = [some (.ref p), some (.ref ml), some (.ref L), a3', a4'] ∧ xs'.length ≤ 3 ∧ S' L = some (.lst (xs'.map W.str)) ∧ S' D2 = some (.lst (ys.map W.str)) ∧ Pl S' p (N + ((i + 1 : Nat) : Int)) ∧ i + 1 ≤ 8 ∧ KpL [p] S S' := fun S' h1 h2 h3 h4 => ⟨xs, _, _, rfl, xl, h1, h2, h3.mono (by omega), by omega, h4⟩
      walk_at "w"
      refine if_q ?_
      walk_at "w"
      refine ⟨_, hL4, ?_⟩
      refine ⟨fun h3 => ?_, fun h3 => ?_⟩
      · have h3 : (((xs.map W.str).length : Nat) : Int) < 3 := of_decide_eq_true h3
        rw [List.length_map] at h3
        walk_at "w"
        refine tk_go p4 (by omega) (by decide) (by decide) fun r S5 r0 r1 p5 o5 => ?_
        have hL5 := (o5 L (notin1 hLp)).trans hL4
        have hD5 := (o5 D2 (notin1 hD2p)).trans hD4
        have k5 := k4.trans o5.kp
        walk_at "w"
        refine ⟨fun h0 => ?_, fun h0 => ?_⟩
        · walk_at "w"
          refine ⟨.inl ⟨rfl, _, hL5⟩, ?_⟩
          walk_at "w"
          refine ⟨_, hL5, ?_, xs ++ [m], _, _, rfl, by rw [List.length_append]; show xs.length + 1 ≤ 3; omega, ?_, (put_ne hD2L).trans hD5, (p5.eq (put_ne hLp.symm)).mono (by omega), by omega, k5.own hL⟩
          · rw [List.length_map]
            exact Nat.lt_of_lt_of_le (show _ < 1000 by omega) sizeLine_ge
          · rw [put_same, List.map_append]
            rfl
        · exact no _ hL5 hD5 p5 k5
      · exact ⟨fun h => absurd (show false = true from h) Bool.false_ne_true, fun _ => no _ hL4 hD4 (p4.mono (by omega)) k4⟩
    · rintro ρ' S4 ⟨xs, a3, a4, rfl, xl, hL4, hD4, p4, hi, k4⟩
      rw [List.length_map] at p4
      walk_at "w"
      refine ⟨_, hL4, ?_⟩
      exact fg_off k4 fun S6 f1 f2 => q xs S6 xl ((p4.eq (f2 p List.mem_cons_self)).mono (by omega)) f1⟩
end
end K14
set_option Elab.async false
set_option linter.all false
set_option maxRecDepth 100000
set_option maxHeartbeats 4000000
set_option synthInstance.maxHeartbeats 4000000
set_option synthInstance.maxSize 100000
namespace K14
open PySem PySem.Spec PyProof.Rows L2 Wl
local macro_rules | `(tactic| walk_at "w") => `(tactic| (conv => whnf))
/-! what a store holds -/
local macro_rules | `(tactic| walk_at "ne") => `(tactic| first | assumption | (apply Ne.symm; assumption) | exact ne_free (by assumption) (by assumption) | exact (ne_free (by assumption) (by assumption)).symm | exact Pl.ne (by assumption) (by assumption) | exact (Pl.ne (by assumption) (by assumption)).symm)
local macro_rules | `(tactic| walk_at "s") => `(tactic| first
  | exact put_same
  | assumption
  | (refine (put_ne ?_).trans ?_; (· walk_at "ne"); (· walk_at "s")))
/-! a side condition -/
local macro_rules | `(tactic| walk_at "c") => `(tactic| first
  | exact Or.inl (Or.inl ⟨by omega, by omega⟩)
  | exact Or.inl (Or.inr ⟨by omega, by omega⟩)
  | exact Or.inl ⟨by omega, by omega⟩
  | exact Or.inl ⟨rfl, _, by walk_at "s"⟩
  | rfl
  | omega
  | decide
  | exact Nat.le_trans (by omega) sizeLine_ge)
/-! one question is answered, if the answer is plain -/
local macro_rules | `(tactic| walk_at "g1") => `(tactic| first
  | refine ⟨fun _ => ?_, fun h => absurd (show true = false from h) (by decide)⟩
  | refine ⟨fun h => absurd (show false = true from h) Bool.false_ne_true, fun _ => ?_⟩
  | refine ⟨_, by walk_at "s", ?_⟩
  | refine ⟨_, _, by walk_at "s", by walk_at "s", ?_⟩
  | refine ⟨_, by walk_at "s", by simpa using (by omega), ?_⟩
  | refine ⟨_, rfl, ?_⟩
  | refine ⟨_, _, rfl, (by first | exact isTy_tt | exact isTy_ii | exact isTy_ll | exact isTy_ss | exact isTy_ib | exact isTy_tb | exact isTy_ti | exact isTy_ts | exact isTy_tl | exact isTy_lb | exact isTy_li | exact isTy_ls | exact isTy_lt | exact isTy_sb | exact isTy_si | exact isTy_st | exact isTy_sl | exact isTy_is | exact isTy_it | exact isTy_il | exact isTy_bi | exact isTy_bs | exact isTy_bb | exact isTy_nb | exact isTy_ni | exact isTy_ns | exact isTy_nt | exact isTy_nl | exact isTy_bt | exact isTy_bl), ?_⟩
  | refine ⟨_, _, tyName_lst (by walk_at "s"), (by first | exact isTy_ll | exact isTy_lb | exact isTy_li | exact isTy_ls | exact isTy_lt), ?_⟩
  | refine if_q ?_
  | refine ⟨by walk_at "c", ?_⟩)
local macro_rules | `(tactic| walk_at "go") => `(tactic| (walk_at "w"; repeat (walk_at "g1"; walk_at "w")))
/-! a branch that cannot be -/
local macro_rules | `(tactic| walk_at "two") => `(tactic| refine ⟨fun h => ?_, fun h => ?_⟩)
section
variable {P : Program} {w : World} {K : PySem.W.Frag} {mg : Str → Option Value} {base : Heap}
/-- the kinds, the marks and a pool in a store -/
structure Drw (p kl ml : Addr) (N : Int) (ks ms : List Str) (S : Sto) : Prop where
  hp : Pl S p N
  hk : S kl = some (.lst (ks.map W.str))
  hm : S ml = some (.lst (ms.map W.str))
  kp : kl ≠ p
  mp : ml ≠ p
  k1 : 1 ≤ ks.length
  k8 : ks.length ≤ 8
  m8 : ms.length ≤ 8
theorem Drw.off {p kl ml : Addr} {N M : Int} {ks ms : List Str} {S T : Sto} (h : Drw p kl ml N ks ms S) (hp : Pl T p M) (o : OffL [p] S T) : Drw p kl ml M ks ms T :=
  ⟨hp, (o kl (notin1 h.kp)).trans h.hk, (o ml (notin1 h.mp)).trans h.hm, h.kp, h.mp, h.k1, h.k8, h.m8⟩
theorem Drw.kpl {p kl ml : Addr} {N M : Int} {ks ms : List Str} {S T : Sto} (h : Drw p kl ml N ks ms S) (hp : Pl T p M) (o : KpL [p] S T) : Drw p kl ml M ks ms T :=
  ⟨hp, o kl _ (notin1 h.kp) h.hk, o ml _ (notin1 h.mp) h.hm, h.kp, h.mp, h.k1, h.k8, h.m8⟩
theorem Drw.new {p kl ml d : Addr} {c : Cell} {N : Int} {ks ms : List Str} {S : Sto} (h : Drw p kl ml N ks ms S) (n : S d = none) : Drw p kl ml N ks ms (put S d c) :=
  h.kpl (h.hp.eq (put_ne (h.hp.ne n).symm)) ((KpL.refl [p] S).new n)
def Pr.ok (a : Pr) : Prop := a.2.length ≤ 63
def spLi (M : Nat) : SpW := fun ws S Q => ∃ (p kl ml : Addr) (N longest : Int) (ks ms : List Str), ws = [.ref p, .ref kl, .ref ml, .int longest] ∧ Drw p kl ml N ks ms S ∧ N < 2 ^ 30 ∧ 0 < longest ∧ longest ≤ 20 ∧
  ∀ (prs : List Pr) S', 1 ≤ prs.length → prs.length ≤ 20 → (∀ a ∈ prs, a.ok) → Pl S' p (N + 300) → OffL [p] S S' → Q (pathW prs) S'
theorem li_go {M : Nat} {p kl ml : Addr} {N longest : Int} {ks ms : List Str} {S : Sto} {Q : WK} (h : Drw p kl ml N ks ms S) (hN : N < 2 ^ 30) (h0 : 0 < longest) (h1 : longest ≤ 20)
  (q : ∀ (prs : List Pr) S', 1 ≤ prs.length → prs.length ≤ 20 → (∀ a ∈ prs, a.ok) → Pl S' p (N + 300) → OffL [p] S S' → Q (pathW prs) S') : Hd (spLi M) [.ref p, .ref kl, .ref ml, .int longest] S Q := Hd.mk ⟨p, kl, ml, N, longest, ks, ms, rfl, h, hN, h0, h1, q⟩
theorem kind_at {ks : List Str} {r : Int} (r0 : 0 ≤ r) (r1 : r < ks.length) : ∃ k, k ∈ ks ∧ atI (ks.map W.str) r = some (.str k) := by
  obtain ⟨j, rfl⟩ : ∃ j : Nat, r = (j : Int) := ⟨r.toNat, by omega⟩
  have hj : j < ks.length := by omega
  exact ⟨ks[j], List.getElem_mem hj, atI_nat (by rw [List.getElem?_map, List.getElem?_eq_getElem hj]; rfl)⟩
theorem ok__law_lineage (T : Txt K mg) (c__law_take : CalW P w K mg base 1 "_law_take" (Hd spTk)) (c__law_marks : CalW P w K mg base 2 "_law_marks" (Hd spMs)) (d : DefAt K mg "_law_lineage" s__law_lineage ["_law_pool_here", "_law_kinds", "_law_marks_here", "_law_longest"]) : CalW P w K mg base 3 "_law_lineage" (spLi 0) :=
  have c__law_take := c__law_take.mono (k := 2) (by decide)
  calDI d sc__law_lineage (fun ws S Q ⟨p, kl, ml, N, lo, ks, ms, e, _⟩ => by rw [e]; rfl) fun f cdv A outer s H E hr => ⟨_, _,
    (pss_cons (ps_set (i := 4) sc__law_lineage.nd rfl (Or.inl rfl) (pe_lst pa_nil))
      (pss_cons (ps_for PassesOwn.never rfl (pi_range1 rfl T.b_range (pa_cons (pe_op (k_addB K) pe_int (k_w K c__law_take hr (by decide) rfl (pa_cons (pv 0) (pa_cons (pv 3) pa_nil)))) pa_nil)) (pg_name (i := 5) sc__law_lineage.nd rfl (Or.inl rfl))
       (pss_cons (ps_set (i := 6) sc__law_lineage.nd rfl (Or.inl rfl) (pe_ix (k_ix K) (pv 1) (k_w K c__law_take hr (by decide) rfl (pa_cons (pv 0) (pa_cons (pe_callB (k_len K) (by rfl) T.b_len (by decide +kernel) (pa_cons (pv 1) pa_nil)) pa_nil))) (fun _ _ => rfl)))
       (pss_one (ps_expr (k_bm K PySem.F.plainAttrs_list PySem.F.slot_list_append PySem.F.type_list_append mt_append (pv 4) (pa_cons (pe_tup (pa_cons (pv 6) (pa_cons (k_w K c__law_marks hr (by decide) rfl (pa_cons (pv 0) (pa_cons (pv 2) pa_nil))) pa_nil))) pa_nil))))))
      (pss_one (ps_ret (pe_callTy (k_tuple K) (by rfl) T.b_tuple (by decide +kernel) (pa_cons (pv 4) pa_nil)))))), inferInstance, by
    rintro ws S Q ⟨p, kl, ml, N, lo, ks, ms, rfl, B, hN, h0, h1, q⟩
    have hk1 := B.k1
    have hk8 := B.k8
    walk_at "w"
    intro L hL
    have hLp := B.hp.ne hL
    have B1 := B.new (c := .lst []) hL
    walk_at "w"
    refine tk_go B1.hp (by omega) (by omega) (by omega) fun r S2 r0 r1 p2 o2 => ?_
    have hL2 := (o2 L (notin1 hLp)).trans (put_same (S := S) (c := .lst []))
    walk_at "w"
    refine ⟨by omega, by omega, ?_⟩
    refine for_q (fun i ρ' S' => ∃ (prs : List Pr) (a5 a6 : Option W), ρ' = [some (.ref p), some (.ref kl), some (.ref ml), some (.int lo), some (.ref L), a5, a6] ∧ prs.length = i ∧ i ≤ 20 ∧ (∀ a ∈ prs, a.ok) ∧ S' L = some (.lst (prs.map prW)) ∧ Pl S' p (N + 1 + 10 * (i : Int)) ∧ KpL [p] S S')
      ⟨[], _, _, rfl, rfl, by decide, (fun _ h => by cases h), hL2, p2.mono (by omega), ((KpL.refl [p] S).new hL).trans o2.kp⟩ (fun _ _ _ _ => trivial) ?_ ?_
    · rintro i w ρ' S4 e ⟨prs, a5, a6, rfl, pl, hi, hok, hL4, p4, k4⟩
      obtain ⟨hi2, rfl⟩ := intsW_at e
      have B4 := B.kpl p4 k4
      walk_at "w"
      refine ⟨_, B4.hk, ?_⟩
      rw [List.length_map]
      refine tk_go p4 (by omega) (by omega) (by omega) fun u S5 u0 u1 p5 o5 => ?_
      have B5 := B4.off p5 o5
      obtain ⟨kd, _, hkd⟩ := kind_at u0 u1
      have hL5 := (o5 L (notin1 hLp)).trans hL4
      walk_at "w"
      refine ⟨_, B5.hk, rdAt_ok hkd ?_⟩
      walk_at "w"
      refine ⟨.inl ⟨rfl, _, hL5⟩, ?_⟩
      walk_at "w"
      refine ms_go p5 (by omega) B5.hm B5.m8 fun xs S6 xl p6 o6 => ?_
      have hL6 := (o6 L (notin1 hLp)).trans hL5
      walk_at "w"
      refine ⟨_, hL6, ?_, prs ++ [(kd, xs)], _, _, rfl, by rw [List.length_append, pl]; rfl, by omega, ?_, ?_, (p6.eq (put_ne hLp.symm)).mono (by omega), ((k4.trans o5.kp).trans o6.kp).own hL⟩
      · rw [List.length_map]
        exact Nat.lt_of_lt_of_le (show _ < 1000 by omega) sizeLine_ge
      · intro a ha
        rcases List.mem_append.mp ha with ha | ha
        · exact hok a ha
        · rw [List.mem_singleton] at ha
          rw [ha]
          show xs.length ≤ 63
          omega
      · rw [put_same, List.map_append]
        rfl
    · rintro ρ' S4 ⟨prs, a5, a6, rfl, pl, hi, hok, hL4, p4, k4⟩
      rw [intsW_len] at pl
      walk_at "w"
      refine ⟨_, hL4, ?_⟩
      exact fg_off k4 fun S6 f1 f2 => q prs S6 (by omega) (by omega) hok ((p4.eq (f2 p List.mem_cons_self)).mono (by rw [intsW_len]; omega)) f1⟩
end
end K14
set_option Elab.async false
set_option linter.all false
set_option maxRecDepth 100000
set_option maxHeartbeats 4000000
set_option synthInstance.maxHeartbeats 4000000
set_option synthInstance.maxSize 100000
namespace K14
open PySem PySem.Spec PyProof.Rows L2 Wl
local macro_rules | `(tactic| walk_at "w") => `(tactic| (conv => whnf))
/-! what a store holds -/
local macro_rules | `(tactic| walk_at "ne") => `(tactic| first | assumption | (apply Ne.symm; assumption) | exact ne_free (by assumption) (by assumption) | exact (ne_free (by assumption) (by assumption)).symm | exact Pl.ne (by assumption) (by assumption) | exact (Pl.ne (by assumption) (by assumption)).symm)
local macro_rules | `(tactic| walk_at "s") => `(tactic| first
  | exact put_same
  | assumption
  | (refine (put_ne ?_).trans ?_; (· walk_at "ne"); (· walk_at "s")))
/-! a side condition -/
local macro_rules | `(tactic| walk_at "c") => `(tactic| first
  | exact Or.inl (Or.inl ⟨by omega, by omega⟩)
  | exact Or.inl (Or.inr ⟨by omega, by omega⟩)
  | exact Or.inl ⟨by omega, by omega⟩
  | exact Or.inl ⟨rfl, _, by walk_at "s"⟩
  | rfl
  | omega
  | decide
  | exact Nat.le_trans (by omega) sizeLine_ge)
/-! one question is answered, if the answer is plain -/
local macro_rules | `(tactic| walk_at "g1") => `(tactic| first
  | refine ⟨fun _ => ?_, fun h => absurd (show true = false from h) (by decide)⟩
  | refine ⟨fun h => absurd (show false = true from h) Bool.false_ne_true, fun _ => ?_⟩
  | refine ⟨_, by walk_at "s", ?_⟩
  | refine ⟨_, _, by walk_at "s", by walk_at "s", ?_⟩
  | refine ⟨_, by walk_at "s", by simpa using (by omega), ?_⟩
  | refine ⟨_, rfl, ?_⟩
  | refine ⟨_, _, rfl, (by first | exact isTy_tt | exact isTy_ii | exact isTy_ll | exact isTy_ss | exact isTy_ib | exact isTy_tb | exact isTy_ti | exact isTy_ts | exact isTy_tl | exact isTy_lb | exact isTy_li | exact isTy_ls | exact isTy_lt | exact isTy_sb | exact isTy_si | exact isTy_st | exact isTy_sl | exact isTy_is | exact isTy_it | exact isTy_il | exact isTy_bi | exact isTy_bs | exact isTy_bb | exact isTy_nb | exact isTy_ni | exact isTy_ns | exact isTy_nt | exact isTy_nl | exact isTy_bt | exact isTy_bl), ?_⟩
  | refine ⟨_, _, tyName_lst (by walk_at "s"), (by first | exact isTy_ll | exact isTy_lb | exact isTy_li | exact isTy_ls | exact isTy_lt), ?_⟩
  | refine if_q ?_
  | refine ⟨by walk_at "c", ?_⟩)
local macro_rules | `(tactic| walk_at "go") => `(tactic| (walk_at "w"; repeat (walk_at "g1"; walk_at "w")))
/-! a branch that cannot be -/
local macro_rules | `(tactic| walk_at "two") => `(tactic| refine ⟨fun h => ?_, fun h => ?_⟩)
section
variable {P : Program} {w : World} {K : PySem.W.Frag} {mg : Str → Option Value} {base : Heap}
def spSe : SpW := fun ws S Q => ∃ (p kl ml : Addr) (N : Int) (ks ms : List Str), ws = [.ref p, .ref kl, .ref ml, .int 4] ∧ Drw p kl ml N ks ms S ∧ N < 2 ^ 30 ∧
  ∀ (s0 : Stp) (ss : List Stp) S', ss.length ≤ 3 → (∀ s ∈ s0 :: ss, s.ms.length ≤ 3) → Pl S' p (N + 300) → OffL [p] S S' → Q (selW s0 ss) S'
theorem se_go {p kl ml : Addr} {N : Int} {ks ms : List Str} {S : Sto} {Q : WK} (h : Drw p kl ml N ks ms S) (hN : N < 2 ^ 30)
  (q : ∀ (s0 : Stp) (ss : List Stp) S', ss.length ≤ 3 → (∀ s ∈ s0 :: ss, s.ms.length ≤ 3) → Pl S' p (N + 300) → OffL [p] S S' → Q (selW s0 ss) S') : Hd spSe [.ref p, .ref kl, .ref ml, .int 4] S Q := Hd.mk ⟨p, kl, ml, N, ks, ms, rfl, h, hN, q⟩
theorem ok__law_selector (T : Txt K mg) (c__law_take : CalW P w K mg base 1 "_law_take" (Hd spTk)) (c__law_marks : CalW P w K mg base 2 "_law_marks" (Hd spMs)) (d : DefAt K mg "_law_selector" s__law_selector ["_law_pool_here", "_law_kinds", "_law_marks_here", "_law_longest"]) : CalW P w K mg base 3 "_law_selector" spSe :=
  have c__law_take := c__law_take.mono (k := 2) (by decide)
  calDI d sc__law_selector (fun ws S Q ⟨p, kl, ml, N, ks, ms, e, _⟩ => by rw [e]; rfl) fun f cdv A outer s H E hr => ⟨_, _,
    (pss_cons (ps_set (i := 4) sc__law_selector.nd rfl (Or.inl rfl) (pe_lst pa_nil))
      (pss_cons (ps_for PassesOwn.never rfl (pi_range1 rfl T.b_range (pa_cons (pe_op (k_addB K) pe_int (k_w K c__law_take hr (by decide) rfl (pa_cons (pv 0) (pa_cons (pv 3) pa_nil)))) pa_nil)) (pg_name (i := 5) sc__law_selector.nd rfl (Or.inl rfl))
       (pss_cons (ps_set (i := 6) sc__law_selector.nd rfl (Or.inl rfl) (pe_ix (k_ix K) (pe_lst (pa_cons pe_str (pa_cons pe_str (pa_cons pe_str pa_nil)))) (pe_op op_mulA (pe_callTy call_int1 (by rfl) T.b_int (by decide +kernel) (pa_cons (pe_cmpR op_gtA (pv 5) pe_int (nomark _)) pa_nil)) (pe_op (k_addB K) pe_int (k_w K c__law_take hr (by decide) rfl (pa_cons (pv 0) (pa_cons pe_int pa_nil))))) (fun _ _ => rfl)))
       (pss_cons (ps_set (i := 7) sc__law_selector.nd rfl (Or.inl rfl) (pe_ix (k_ix K) (pe_op (k_addB K) (pe_lst (pa_cons pe_str pa_nil)) (pv 1)) (k_w K c__law_take hr (by decide) rfl (pa_cons (pv 0) (pa_cons (pe_op (k_addB K) (pe_callB (k_len K) (by rfl) T.b_len (by decide +kernel) (pa_cons (pv 1) pa_nil)) pe_int) pa_nil))) (fun _ _ => rfl)))
       (pss_one (ps_expr (k_bm K PySem.F.plainAttrs_list PySem.F.slot_list_append PySem.F.type_list_append mt_append (pv 4) (pa_cons (pe_tup (pa_cons (pv 6) (pa_cons (pv 7) (pa_cons (k_w K c__law_marks hr (by decide) rfl (pa_cons (pv 0) (pa_cons (pv 2) pa_nil))) pa_nil)))) pa_nil)))))))
      (pss_one (ps_ret (pe_callTy (k_tuple K) (by rfl) T.b_tuple (by decide +kernel) (pa_cons (pv 4) pa_nil)))))), inferInstance, by
    rintro ws S Q ⟨p, kl, ml, N, ks, ms, rfl, B, hN, q⟩
    have hk1 := B.k1
    have hk8 := B.k8
    walk_at "w"
    intro L hL
    have hLp := B.hp.ne hL
    have B1 := B.new (c := .lst []) hL
    walk_at "w"
    refine tk_go B1.hp (by omega) (by omega) (by omega) fun r S2 r0 r1 p2 o2 => ?_
    have hL2 := (o2 L (notin1 hLp)).trans (put_same (S := S) (c := .lst []))
    walk_at "w"
    refine ⟨by omega, by omega, ?_⟩
    refine for_q (fun i ρ' S' => ∃ (sts : List Stp) (a5 a6 a7 : Option W), ρ' = [some (.ref p), some (.ref kl), some (.ref ml), some (.int 4), some (.ref L), a5, a6, a7] ∧ sts.length = i ∧ i ≤ 4 ∧ (∀ s ∈ sts, s.ms.length ≤ 3) ∧ S' L = some (.lst (sts.map Stp.v)) ∧ Pl S' p (N + 1 + 20 * (i : Int)) ∧ KpL [p] S S')
      ⟨[], _, _, _, rfl, rfl, by decide, (fun _ h => by cases h), hL2, p2.mono (by omega), ((KpL.refl [p] S).new hL).trans o2.kp⟩ (fun _ _ _ _ => trivial) ?_ ?_
    · rintro i w ρ' S4 e ⟨sts, a5, a6, a7, rfl, pl, hi, hok, hL4, p4, k4⟩
      obtain ⟨hi2, rfl⟩ := intsW_at e
      have hi4 : i < 4 := by omega
      have B4 := B.kpl p4 k4
      walk_at "w"
      intro D hD
      have B5 := B4.new (c := .lst [.str "", .str " ", .str ">"]) hD
      walk_at "w"
      refine tk_go B5.hp (by omega) (by decide) (by decide) fun u S6 u0 u1 p6 o6 => ?_
      have B6 := B5.off p6 o6
      have hD6 := (o6 D (notin1 (B4.hp.ne hD))).trans (put_same (S := S4) (c := .lst [.str "", .str " ", .str ">"]))
      walk_at "w"
      have hb01 : ∀ c : Bool, (if c = true then (1 : Int) else 0) = 0 ∨ (if c = true then (1 : Int) else 0) = 1 := fun c => by cases c <;> simp
      have hb := hb01 ((fun i j : Int => decide (j < i)) (0 + (i : Int)) 0)
      generalize (if (fun i j : Int => decide (j < i)) (0 + (i : Int)) 0 = true then (1 : Int) else 0) = b at hb ⊢
      refine ⟨.inl (.inl ⟨by omega, by omega⟩), ?_⟩
      have hbm : b * (1 + u) = 0 ∨ b * (1 + u) = 1 ∨ b * (1 + u) = 2 := by
        rcases hb with h | h <;> rw [h] <;> omega
      obtain ⟨jt, hjt⟩ : ∃ jt : Str, atI [W.str "", W.str " ", W.str ">"] (b * (1 + u)) = some (.str jt) := by
        rcases hbm with h | h | h <;> rw [h]
        · exact ⟨"", atI_nat (j := 0) rfl⟩
        · exact ⟨" ", atI_nat (j := 1) rfl⟩
        · exact ⟨">", atI_nat (j := 2) rfl⟩
      walk_at "w"
      refine ⟨_, hD6, rdAt_ok hjt ?_⟩
      walk_at "w"
      intro E1 hE1
      have B7 := B6.new (c := .lst [.str "*"]) hE1
      walk_at "w"
      refine ⟨_, _, put_same, B7.hk, sz (by rw [List.length_map]; show 1 + ks.length ≤ 1000; omega), fun G hG => ?_⟩
      have B8 := B7.new (c := .lst ([.str "*"] ++ ks.map W.str)) hG
      walk_at "w"
      refine ⟨_, B8.hk, ?_⟩
      rw [List.length_map]
      refine tk_go B8.hp (by omega) (by omega) (by omega) fun v S9 v0 v1 p9 o9 => ?_
      have B9 := B8.off p9 o9
      have hG9 := (o9 G (notin1 (B7.hp.ne hG))).trans (put_same (S := put S6 E1 (.lst [.str "*"])) (c := .lst ([.str "*"] ++ ks.map W.str)))
      obtain ⟨kd, _, hkd⟩ := kind_at (ks := "*" :: ks) v0 (by rw [List.length_cons]; omega)
      have k9 : KpL [p] S S9 := ((((k4.new hD).trans o6.kp).new hE1).new hG).trans o9.kp
      have hL6 := (o6 L (notin1 hLp)).trans ((put_ne (ne_free hL4 hD).symm).trans hL4)
      have hL7 := (put_ne (c := .lst [.str "*"]) (ne_free hL6 hE1).symm).trans hL6
      have hL8 := (put_ne (c := .lst ([.str "*"] ++ ks.map W.str)) (ne_free hL7 hG).symm).trans hL7
      have hL9 := (o9 L (notin1 hLp)).trans hL8
      walk_at "w"
      refine ⟨_, hG9, rdAt_ok hkd ?_⟩
      walk_at "w"
      refine ⟨.inl ⟨rfl, _, hL9⟩, ?_⟩
      walk_at "w"
      refine ms_go p9 (by omega) B9.hm B9.m8 fun xs S10 xl p10 o10 => ?_
      have hL10 := (o10 L (notin1 hLp)).trans hL9
      walk_at "w"
      refine ⟨_, hL10, ?_, sts ++ [⟨jt, kd, xs⟩], _, _, _, rfl, by rw [List.length_append, pl]; rfl, by omega, ?_, ?_, (p10.eq (put_ne hLp.symm)).mono (by omega), (k9.trans o10.kp).own hL⟩
      · rw [List.length_map]
        exact Nat.lt_of_lt_of_le (show _ < 1000 by omega) sizeLine_ge
      · intro a ha
        rcases List.mem_append.mp ha with ha | ha
        · exact hok a ha
        · rw [List.mem_singleton] at ha
          rw [ha]
          exact xl
      · rw [put_same, List.map_append]
        rfl
    · rintro ρ' S4 ⟨sts, a5, a6, a7, rfl, pl, hi, hok, hL4, p4, k4⟩
      rw [intsW_len] at pl
      walk_at "w"
      refine ⟨_, hL4, ?_⟩
      obtain ⟨s0, ss, rfl⟩ : ∃ s0 ss, sts = s0 :: ss := by
        cases sts with
        | nil => rw [List.length_nil] at pl; omega
        | cons a b => exact ⟨a, b, rfl⟩
      rw [List.length_cons] at pl
      exact fg_off k4 fun S6 f1 f2 => q s0 ss S6 (by omega) hok ((p4.eq (f2 p List.mem_cons_self)).mono (by rw [intsW_len]; omega)) f1⟩
end
end K14
set_option Elab.async false
set_option linter.all false
set_option maxRecDepth 100000
set_option maxHeartbeats 4000000
set_option synthInstance.maxHeartbeats 4000000
set_option synthInstance.maxSize 100000
namespace K14
open PySem PySem.Spec PyProof.Rows L2 Wl
local macro_rules | `(tactic| walk_at "w") => `(tactic| (conv => whnf))
/-! what a store holds -/
local macro_rules | `(tactic| walk_at "ne") => `(tactic| first | assumption | (apply Ne.symm; assumption) | exact ne_free (by assumption) (by assumption) | exact (ne_free (by assumption) (by assumption)).symm | exact Pl.ne (by assumption) (by assumption) | exact (Pl.ne (by assumption) (by assumption)).symm)
local macro_rules | `(tactic| walk_at "s") => `(tactic| first
  | exact put_same
  | assumption
  | (refine (put_ne ?_).trans ?_; (· walk_at "ne"); (· walk_at "s")))
/-! a side condition -/
local macro_rules | `(tactic| walk_at "c") => `(tactic| first
  | exact Or.inl (Or.inl ⟨by omega, by omega⟩)
  | exact Or.inl (Or.inr ⟨by omega, by omega⟩)
  | exact Or.inl ⟨by omega, by omega⟩
  | exact Or.inl ⟨rfl, _, by walk_at "s"⟩
  | rfl
  | omega
  | decide
  | exact Nat.le_trans (by omega) sizeLine_ge)
/-! one question is answered, if the answer is plain -/
local macro_rules | `(tactic| walk_at "g1") => `(tactic| first
  | refine ⟨fun _ => ?_, fun h => absurd (show true = false from h) (by decide)⟩
  | refine ⟨fun h => absurd (show false = true from h) Bool.false_ne_true, fun _ => ?_⟩
  | refine ⟨_, by walk_at "s", ?_⟩
  | refine ⟨_, _, by walk_at "s", by walk_at "s", ?_⟩
  | refine ⟨_, by walk_at "s", by simpa using (by omega), ?_⟩
  | refine ⟨_, rfl, ?_⟩
  | refine ⟨_, _, rfl, (by first | exact isTy_tt | exact isTy_ii | exact isTy_ll | exact isTy_ss | exact isTy_ib | exact isTy_tb | exact isTy_ti | exact isTy_ts | exact isTy_tl | exact isTy_lb | exact isTy_li | exact isTy_ls | exact isTy_lt | exact isTy_sb | exact isTy_si | exact isTy_st | exact isTy_sl | exact isTy_is | exact isTy_it | exact isTy_il | exact isTy_bi | exact isTy_bs | exact isTy_bb | exact isTy_nb | exact isTy_ni | exact isTy_ns | exact isTy_nt | exact isTy_nl | exact isTy_bt | exact isTy_bl), ?_⟩
  | refine ⟨_, _, tyName_lst (by walk_at "s"), (by first | exact isTy_ll | exact isTy_lb | exact isTy_li | exact isTy_ls | exact isTy_lt), ?_⟩
  | refine if_q ?_
  | refine ⟨by walk_at "c", ?_⟩)
local macro_rules | `(tactic| walk_at "go") => `(tactic| (walk_at "w"; repeat (walk_at "g1"; walk_at "w")))
/-! a branch that cannot be -/
local macro_rules | `(tactic| walk_at "two") => `(tactic| refine ⟨fun h => ?_, fun h => ?_⟩)
section
variable {P : Program} {w : World} {K : PySem.W.Frag} {mg : Str → Option Value} {base : Heap}
def spPf : SpW := fun ws S Q => ∃ (p kl ml : Addr) (N : Int) (ks ms : List Str) (s : Stp), ws = [.ref p, s.v, .ref kl, .ref ml] ∧ Drw p kl ml N ks ms S ∧ N < 2 ^ 30 ∧ s.ms.length ≤ 3 ∧
  ∀ (a : Pr) S', a.ok → Pl S' p (N + 20) → OffL [p] S S' → Q (prW a) S'
theorem pf_go {p kl ml : Addr} {N : Int} {ks ms : List Str} {s : Stp} {S : Sto} {Q : WK} (h : Drw p kl ml N ks ms S) (hN : N < 2 ^ 30) (hs : s.ms.length ≤ 3)
  (q : ∀ (a : Pr) S', a.ok → Pl S' p (N + 20) → OffL [p] S S' → Q (prW a) S') : Hd spPf [.ref p, s.v, .ref kl, .ref ml] S Q := Hd.mk ⟨p, kl, ml, N, ks, ms, s, rfl, h, hN, hs, q⟩
theorem ok__law_pair_for (T : Txt K mg) (c__law_take : CalW P w K mg base 1 "_law_take" (Hd spTk)) (d : DefAt K mg "_law_pair_for" s__law_pair_for ["_law_pool_here", "_law_step", "_law_kinds", "_law_marks_here"]) : CalW P w K mg base 2 "_law_pair_for" spPf :=
  calDI d sc__law_pair_for (fun ws S Q ⟨p, kl, ml, N, ks, ms, s, e, _⟩ => by rw [e]; rfl) fun f cdv A outer s H E hr => ⟨_, _,
    (pss_cons (ps_set (i := 4) sc__law_pair_for.nd rfl (Or.inl rfl) (pe_ix (k_ix K) (pv 1) pe_int (fun _ _ => rfl)))
      (pss_mid (ps_if (pt_cmpR (k_eq K hr.units) (pv 4) pe_str (nomark _))
       (pss_one (ps_set (i := 4) sc__law_pair_for.nd rfl (Or.inl rfl) (pe_ix (k_ix K) (pv 2) (k_w K c__law_take hr (by decide) rfl (pa_cons (pv 0) (pa_cons (pe_callB (k_len K) (by rfl) T.b_len (by decide +kernel) (pa_cons (pv 2) pa_nil)) pa_nil))) (fun _ _ => rfl))))
       pss_nil)
      (pss_cons (ps_set (i := 5) sc__law_pair_for.nd rfl (Or.inl rfl) (pe_callTy (k_list K) (by rfl) T.b_list (by decide +kernel) (pa_cons (pe_ix (k_ix K) (pv 1) pe_int (fun _ _ => rfl)) pa_nil)))
      (pss_cons (ps_for PassesOwn.never rfl (k_any K (pv 3)) (pg_name (i := 6) sc__law_pair_for.nd rfl (Or.inl rfl))
       (pss_one (ps_if (PW.pt (pw_and (pt_cmpR (k_notIn K) (pv 6) (pv 5) rfl) (pw_and (pt_cmpR op_ltA (pe_callB (k_len K) (by rfl) T.b_len (by decide +kernel) (pa_cons (pv 5) pa_nil)) pe_int (nomark _)) (pw_and1 (pt_cmpR (k_eq K hr.units) (k_w K c__law_take hr (by decide) rfl (pa_cons (pv 0) (pa_cons pe_int pa_nil))) pe_int (nomark _))))))
        (pss_one (ps_expr (k_bm K PySem.F.plainAttrs_list PySem.F.slot_list_append PySem.F.type_list_append mt_append (pv 5) (pa_cons (pv 6) pa_nil))))
        pss_nil)))
      (pss_one (ps_ret (pe_tup (pa_cons (pv 4) (pa_cons (pe_callTy (k_tuple K) (by rfl) T.b_tuple (by decide +kernel) (pa_cons (pe_callB (k_sortA K) (by rfl) T.b_sorted (by decide +kernel) (pa_cons (pe_lc (own := [("_law_one", 7)]) rfl sc__law_pair_for.nd (k_any K (pv 5)) (blkOk_by (own := [("_law_one", 7)]) (N := ["_law_pool_here", "_law_step", "_law_kinds", "_law_marks_here", "_law_kind", "_law_own", "_law_mark", "_law_one"]) (sc := defScope s__law_pair_for) (by decide +kernel)) (fun _ _ _ _ _ => (pg_name (i := 7) sc__law_pair_for.nd rfl (Or.inl rfl))) (fun _ _ _ _ _ => pts_nil) (fun _ _ _ _ _ => (pe_callTy call_strA (by rfl) T.b_str (by decide +kernel) (pa_cons (pv 7) pa_nil)))) pa_nil)) pa_nil)) pa_nil))))))))), inferInstance, by
    rintro ws S Q ⟨p, kl, ml, N, ks, ms, s, rfl, B, hN, hs, q⟩
    have hk1 := B.k1
    have hk8 := B.k8
    walk_at "w"
    refine mid_q (fun ρ' S' => ∃ (kd : Str), ρ' = [some (.ref p), some s.v, some (.ref kl), some (.ref ml), some (.str kd), none, none, none] ∧ Pl S' p (N + 1) ∧ OffL [p] S S') ?_ ?_
    · walk_at "w"
      refine ⟨fun _ => ?_, fun _ => ?_⟩
      · walk_at "w"
        refine ⟨_, B.hk, ?_⟩
        rw [List.length_map]
        refine tk_go B.hp (by omega) (by omega) (by omega) fun u S5 u0 u1 p5 o5 => ?_
        have B5 := B.off p5 o5
        obtain ⟨kd, _, hkd⟩ := kind_at u0 u1
        walk_at "w"
        refine ⟨_, B5.hk, rdAt_ok hkd ?_⟩
        walk_at "w"
        exact ⟨kd, rfl, p5, o5⟩
      · exact ⟨s.k, rfl, B.hp.mono (by omega), fun _ _ => rfl⟩
    · rintro ρ' S1 ⟨kd, rfl, p1, o1⟩
      have B1 := B.off p1 o1
      walk_at "w"
      intro O hO
      have hOp := p1.ne hO
      have B2 := B1.new (c := .lst (s.ms.map W.str)) hO
      have hOm : O ≠ ml := ne_free B1.hm hO
      walk_at "w"
      refine ⟨_, B2.hm, ?_⟩
      refine for_q (fun i ρ' S' => ∃ (ow : List Str) (a6 : Option W), ρ' = [some (.ref p), some s.v, some (.ref kl), some (.ref ml), some (.str kd), some (.ref O), a6, none] ∧ ow.length ≤ 3 ∧ i ≤ 8 ∧ S' O = some (.lst (ow.map W.str)) ∧ S' ml = some (.lst (ms.map W.str)) ∧ Pl S' p (N + 1 + (i : Int)) ∧ KpL [p] S S')
        ⟨s.ms, _, rfl, hs, by decide, put_same, B2.hm, B2.hp.mono (by omega), o1.kp.new hO⟩ (fun i ρ' S' ⟨_, _, _, _, _, _, h, _⟩ => h) ?_ ?_
      · rintro i w ρ' S4 e ⟨ow, a6, rfl, ol, hi, hO4, hm4, p4, k4⟩
        obtain ⟨m, em, rfl⟩ := str_at e
        have hi1 := (List.getElem?_eq_some_iff.mp em).1
        have hm8 := B.m8
        have no : ∀ S', S' O = some (.lst (ow.map W.str)) → S' ml = some (.lst (ms.map W.str)) → Pl S' p (N + 1 + i + 1) → KpL [p] S S' → ∃ (ow' : List Str) (a6' : Option W), ([some (.ref p), some s.v, some (.ref kl), some (.ref ml), some (.str kd), some (.ref O), some (.str m), none] : StW) = [some (.ref p), some s.v, some (.ref kl), some (.ref ml), some (.str kd), some (.ref O), a6', none] ∧ ow'.length ≤ 3 ∧ i + 1 ≤ 8 ∧ S' O = some (.lst (ow'.map W.str)) ∧ S' ml = some (.lst (ms.map W.str)) ∧ Pl S' p (N + 1 + ((i + 1 : Nat) : Int)) ∧ KpL [p] S S' := fun S' h1 h2 h3 h4 => ⟨ow, _, rfl, ol, by omega, h1, h2, h3.mono (by omega), h4⟩
        walk_at "w"
        refine if_q ?_
        walk_at "w"
        refine ⟨rfl, _, hO4, flat_strs _, ?_⟩
        refine ⟨fun _ => ?_, fun _ => ?_⟩
        · walk_at "w"
          refine ⟨_, hO4, ?_⟩
          refine ⟨fun h3 => ?_, fun h3 => ?_⟩
          · have h3 : (((ow.map W.str).length : Nat) : Int) < 3 := of_decide_eq_true h3
            rw [List.length_map] at h3
            walk_at "w"
            refine tk_go p4 (by omega) (by decide) (by decide) fun r S5 r0 r1 p5 o5 => ?_
            have hO5 := (o5 O (notin1 hOp)).trans hO4
            have hm5 := (o5 ml (notin1 B.mp)).trans hm4
            have k5 := k4.trans o5.kp
            walk_at "w"
            refine ⟨fun h0 => ?_, fun h0 => ?_⟩
            · walk_at "w"
              refine ⟨.inl ⟨rfl, _, hO5⟩, ?_⟩
              walk_at "w"
              refine ⟨_, hO5, ?_, ow ++ [m], _, rfl, by rw [List.length_append]; show ow.length + 1 ≤ 3; omega, by omega, ?_, (put_ne hOm.symm).trans hm5, (p5.eq (put_ne hOp.symm)).mono (by omega), k5.own (o1.kp.free hO (notin1 hOp))⟩
              · rw [List.length_map]
                exact Nat.lt_of_lt_of_le (show _ < 1000 by omega) sizeLine_ge
              · rw [put_same, List.map_append]
                rfl
            · exact no _ hO5 hm5 p5 k5
          · exact ⟨fun h => absurd (show false = true from h) Bool.false_ne_true, fun _ => no _ hO4 hm4 (p4.mono (by omega)) k4⟩
        · exact ⟨fun h => absurd (show false = true from h) Bool.false_ne_true, fun _ => no _ hO4 hm4 (p4.mono (by omega)) k4⟩
      · rintro ρ' S4 ⟨ow, a6, rfl, ol, hi, hO4, hm4, p4, k4⟩
        rw [List.length_map] at p4 hi
        walk_at "w"
        refine ⟨_, hO4, ?_⟩
        refine lc_map (fun w => w) (by rw [List.length_map]; omega) (fun D acc hD => (put_ne (ne_free hO4 hD).symm).trans hO4) ?_ ?_
        · intro i w D acc e hD Q' q'
          obtain ⟨m, _, rfl⟩ := str_at e
          walk_at "w"
          exact q'
        intro D hD
        rw [List.map_id']
        walk_at "w"
        refine .inr ⟨ow, put_same, by omega, fun ys D2 hperm _ hD2 => ?_⟩
        walk_at "w"
        refine ⟨_, put_same, ?_⟩
        have p5 : Pl (put S4 D (.lst (ow.map W.str))) p (N + 1 + ms.length) := p4.eq (put_ne (p4.ne hD).symm)
        have p6 : Pl (put (put S4 D (.lst (ow.map W.str))) D2 (.lst (ys.map W.str))) p (N + 1 + ms.length) := p5.eq (put_ne (p5.ne hD2).symm)
        exact fg_off ((k4.new hD).new hD2) fun S6 f1 f2 => q (kd, ys) S6 (by show ys.length ≤ 63; rw [hperm.length_eq]; omega) ((p6.eq (f2 p List.mem_cons_self)).mono (by omega)) f1⟩
end
end K14
set_option Elab.async false
set_option linter.all false
set_option maxRecDepth 100000
set_option maxHeartbeats 4000000
set_option synthInstance.maxHeartbeats 4000000
set_option synthInstance.maxSize 100000
namespace K14
open PySem PySem.Spec PyProof.Rows L2 Wl
local macro_rules | `(tactic| walk_at "w") => `(tactic| (conv => whnf))
/-! what a store holds -/
local macro_rules | `(tactic| walk_at "ne") => `(tactic| first | assumption | (apply Ne.symm; assumption) | exact ne_free (by assumption) (by assumption) | exact (ne_free (by assumption) (by assumption)).symm | exact Pl.ne (by assumption) (by assumption) | exact (Pl.ne (by assumption) (by assumption)).symm)
local macro_rules | `(tactic| walk_at "s") => `(tactic| first
  | exact put_same
  | assumption
  | (refine (put_ne ?_).trans ?_; (· walk_at "ne"); (· walk_at "s")))
/-! a side condition -/
local macro_rules | `(tactic| walk_at "c") => `(tactic| first
  | exact Or.inl (Or.inl ⟨by omega, by omega⟩)
  | exact Or.inl (Or.inr ⟨by omega, by omega⟩)
  | exact Or.inl ⟨by omega, by omega⟩
  | exact Or.inl ⟨rfl, _, by walk_at "s"⟩
  | rfl
  | omega
  | decide
  | exact Nat.le_trans (by omega) sizeLine_ge)
/-! one question is answered, if the answer is plain -/
local macro_rules | `(tactic| walk_at "g1") => `(tactic| first
  | refine ⟨fun _ => ?_, fun h => absurd (show true = false from h) (by decide)⟩
  | refine ⟨fun h => absurd (show false = true from h) Bool.false_ne_true, fun _ => ?_⟩
  | refine ⟨_, by walk_at "s", ?_⟩
  | refine ⟨_, _, by walk_at "s", by walk_at "s", ?_⟩
  | refine ⟨_, by walk_at "s", by simpa using (by omega), ?_⟩
  | refine ⟨_, rfl, ?_⟩
  | refine ⟨_, _, rfl, (by first | exact isTy_tt | exact isTy_ii | exact isTy_ll | exact isTy_ss | exact isTy_ib | exact isTy_tb | exact isTy_ti | exact isTy_ts | exact isTy_tl | exact isTy_lb | exact isTy_li | exact isTy_ls | exact isTy_lt | exact isTy_sb | exact isTy_si | exact isTy_st | exact isTy_sl | exact isTy_is | exact isTy_it | exact isTy_il | exact isTy_bi | exact isTy_bs | exact isTy_bb | exact isTy_nb | exact isTy_ni | exact isTy_ns | exact isTy_nt | exact isTy_nl | exact isTy_bt | exact isTy_bl), ?_⟩
  | refine ⟨_, _, tyName_lst (by walk_at "s"), (by first | exact isTy_ll | exact isTy_lb | exact isTy_li | exact isTy_ls | exact isTy_lt), ?_⟩
  | refine if_q ?_
  | refine ⟨by walk_at "c", ?_⟩)
local macro_rules | `(tactic| walk_at "go") => `(tactic| (walk_at "w"; repeat (walk_at "g1"; walk_at "w")))
/-! a branch that cannot be -/
local macro_rules | `(tactic| walk_at "two") => `(tactic| refine ⟨fun h => ?_, fun h => ?_⟩)
section
variable {P : Program} {w : World} {K : PySem.W.Frag} {mg : Str → Option Value} {base : Heap}
def spMa : SpW := fun ws S Q => ∃ (p kl ml : Addr) (N : Int) (ks ms : List Str) (s0 : Stp) (ss : List Stp), ws = [.ref p, selW s0 ss, .ref kl, .ref ml] ∧ Drw p kl ml N ks ms S ∧ N < 2 ^ 29 ∧ ss.length ≤ 3 ∧ (∀ s ∈ s0 :: ss, s.ms.length ≤ 3) ∧
  ∀ (prs : List Pr) S', 1 ≤ prs.length → prs.length ≤ 20 → (∀ a ∈ prs, a.ok) → Pl S' p (N + 500) → OffL [p] S S' → Q (pathW prs) S'
theorem ma_go {p kl ml : Addr} {N : Int} {ks ms : List Str} {s0 : Stp} {ss : List Stp} {S : Sto} {Q : WK} (h : Drw p kl ml N ks ms S) (hN : N < 2 ^ 29) (hl : ss.length ≤ 3) (hs : ∀ s ∈ s0 :: ss, s.ms.length ≤ 3)
  (q : ∀ (prs : List Pr) S', 1 ≤ prs.length → prs.length ≤ 20 → (∀ a ∈ prs, a.ok) → Pl S' p (N + 500) → OffL [p] S S' → Q (pathW prs) S') : Hd spMa [.ref p, selW s0 ss, .ref kl, .ref ml] S Q := Hd.mk ⟨p, kl, ml, N, ks, ms, s0, ss, rfl, h, hN, hl, hs, q⟩
theorem er_map (f : Pr → W) : ∀ (l : List Pr) (k : Nat), (l.map f).eraseIdx k = (l.eraseIdx k).map f
  | [], k => by simp
  | a :: l, 0 => rfl
  | a :: l, k + 1 => by
    show f a :: (l.map f).eraseIdx k = f a :: (l.eraseIdx k).map f
    rw [er_map f l k]
theorem pr_at {prs : List Pr} {r : Int} (r0 : 0 ≤ r) (r1 : r < prs.length) : ∃ a, a ∈ prs ∧ atI (prs.map prW) r = some (prW a) := by
  obtain ⟨j, rfl⟩ : ∃ j : Nat, r = (j : Int) := ⟨r.toNat, by omega⟩
  have hj : j < prs.length := by omega
  exact ⟨prs[j], List.getElem_mem hj, atI_nat (by rw [List.getElem?_map, List.getElem?_eq_getElem hj]; rfl)⟩
theorem ok__law_made (T : Txt K mg) (c__law_take : CalW P w K mg base 1 "_law_take" (Hd spTk)) (c__law_marks : CalW P w K mg base 2 "_law_marks" (Hd spMs)) (c__law_pair_for : CalW P w K mg base 2 "_law_pair_for" (Hd spPf)) (d : DefAt K mg "_law_made" s__law_made ["_law_pool_here", "_law_selector_here", "_law_kinds", "_law_marks_here"]) : CalW P w K mg base 3 "_law_made" spMa :=
  have c__law_take := c__law_take.mono (k := 2) (by decide)
  calDI d sc__law_made (fun ws S Q ⟨p, kl, ml, N, ks, ms, s0, ss, e, _⟩ => by rw [e]; rfl) fun f cdv A outer s H E hr => ⟨_, _,
    (pss_cons (ps_set (i := 4) sc__law_made.nd rfl (Or.inl rfl) (pe_lst pa_nil))
      (pss_cons (ps_for PassesOwn.never rfl (k_any K (pv 1)) (pg_name (i := 5) sc__law_made.nd rfl (Or.inl rfl))
       (pss_mid (ps_if (pt_cmpR (k_ne K hr.units) (pe_ix (k_ix K) (pv 5) pe_int (fun _ _ => rfl)) pe_str (nomark _))
        (pss_one (ps_for PassesOwn.never rfl (pi_range1 rfl T.b_range (pa_cons (k_w K c__law_take hr (by decide) rfl (pa_cons (pv 0) (pa_cons pe_int pa_nil))) pa_nil)) (pg_name (i := 6) sc__law_made.nd rfl (Or.inl rfl))
         (pss_cons (ps_set (i := 9) sc__law_made.nd rfl (Or.inl rfl) (pe_ix (k_ix K) (pv 2) (k_w K c__law_take hr (by decide) rfl (pa_cons (pv 0) (pa_cons (pe_callB (k_len K) (by rfl) T.b_len (by decide +kernel) (pa_cons (pv 2) pa_nil)) pa_nil))) (fun _ _ => rfl)))
         (pss_one (ps_expr (k_bm K PySem.F.plainAttrs_list PySem.F.slot_list_append PySem.F.type_list_append mt_append (pv 4) (pa_cons (pe_tup (pa_cons (pv 9) (pa_cons (k_w K c__law_marks hr (by decide) rfl (pa_cons (pv 0) (pa_cons (pv 3) pa_nil))) pa_nil))) pa_nil)))))))
        pss_nil)
       (pss_one (ps_expr (k_bm K PySem.F.plainAttrs_list PySem.F.slot_list_append PySem.F.type_list_append mt_append (pv 4) (pa_cons (k_w K c__law_pair_for hr (by decide) rfl (pa_cons (pv 0) (pa_cons (pv 5) (pa_cons (pv 2) (pa_cons (pv 3) pa_nil))))) pa_nil))))))
      (pss_cons (ps_set (i := 7) sc__law_made.nd rfl (Or.inl rfl) (k_w K c__law_take hr (by decide) rfl (pa_cons (pv 0) (pa_cons pe_int pa_nil))))
      (pss_cons (ps_set (i := 8) sc__law_made.nd rfl (Or.inl rfl) (k_w K c__law_take hr (by decide) rfl (pa_cons (pv 0) (pa_cons (pe_callB (k_len K) (by rfl) T.b_len (by decide +kernel) (pa_cons (pv 4) pa_nil)) pa_nil))))
      (pss_cons (ps_set (i := 9) sc__law_made.nd rfl (Or.inl rfl) (pe_ix (k_ix K) (pv 2) (k_w K c__law_take hr (by decide) rfl (pa_cons (pv 0) (pa_cons (pe_callB (k_len K) (by rfl) T.b_len (by decide +kernel) (pa_cons (pv 2) pa_nil)) pa_nil))) (fun _ _ => rfl)))
      (pss_cons (ps_set (i := 10) sc__law_made.nd rfl (Or.inl rfl) (pe_tup (pa_cons (pv 9) (pa_cons (k_w K c__law_marks hr (by decide) rfl (pa_cons (pv 0) (pa_cons (pv 3) pa_nil))) pa_nil))))
      (pss_mid (ps_if (pt_cmpR (k_eq K hr.units) (pv 7) pe_int (nomark _))
       (pss_one (ps_expr (k_bm K PySem.F.plainAttrs_list PySem.F.slot_list_insert PySem.F.type_list_insert mt_insertA (pv 4) (pa_cons (pv 8) (pa_cons (pv 10) pa_nil)))))
       pss_nil)
      (pss_mid (ps_if (PW.pt (pw_and (pt_cmpR (k_eq K hr.units) (pv 7) pe_int (nomark _)) (pw_and1 (pt_cmpR op_gtA (pe_callB (k_len K) (by rfl) T.b_len (by decide +kernel) (pa_cons (pv 4) pa_nil)) pe_int (nomark _)))))
       (pss_one (ps_expr (k_bm K PySem.F.plainAttrs_list PySem.F.slot_list_pop PySem.F.type_list_pop mt_popAt (pv 4) (pa_cons (pv 8) pa_nil))))
       pss_nil)
      (pss_mid (ps_if (pt_cmpR (k_eq K hr.units) (pv 7) pe_int (nomark _))
       (pss_one (ps_asg (pe_tup (pa_cons (pv 9) (pa_cons (pe_ix (k_ix K) (pe_ix (k_ix K) (pv 4) (pv 8) (fun _ _ => rfl)) pe_int (fun _ _ => rfl)) pa_nil))) (pg_sub (pv 4) (pv 8) set_list)))
       pss_nil)
      (pss_mid (ps_if (pt_cmpR (k_eq K hr.units) (pv 7) pe_int (nomark _))
       (pss_one (ps_asg (pe_tup (pa_cons (pe_ix (k_ix K) (pe_ix (k_ix K) (pv 4) (pv 8) (fun _ _ => rfl)) pe_int (fun _ _ => rfl)) (pa_cons (pe_slice (k_sl K) (pe_ix (k_ix K) (pe_ix (k_ix K) (pv 4) (pv 8) (fun _ _ => rfl)) pe_int (fun _ _ => rfl)) (po_some pe_int) po_none) pa_nil))) (pg_sub (pv 4) (pv 8) set_list)))
       pss_nil)
      (pss_mid (ps_if (pt_cmpR (k_eq K hr.units) (pv 7) pe_int (nomark _))
       (pss_one (ps_expr (k_bm K PySem.F.plainAttrs_list PySem.F.slot_list_append PySem.F.type_list_append mt_append (pv 4) (pa_cons (pv 10) pa_nil))))
       pss_nil)
      (pss_one (ps_ret (pe_callTy (k_tuple K) (by rfl) T.b_tuple (by decide +kernel) (pa_cons (pv 4) pa_nil))))))))))))))), inferInstance, by
    rintro ws S Q ⟨p, kl, ml, N, ks, ms, s0, ss, rfl, B, hN, hsl, hs, q⟩
    have hk1 := B.k1
    have hk8 := B.k8
    walk_at "w"
    intro L hL
    have hLp := B.hp.ne hL
    have B1 := B.new (c := .lst []) hL
    walk_at "w"
    refine for_q (fun i ρ' S' => ∃ (prs : List Pr) (a5 a6 a9 : Option W), ρ' = [some (.ref p), some (selW s0 ss), some (.ref kl), some (.ref ml), some (.ref L), a5, a6, none, none, a9, none] ∧ i ≤ prs.length ∧ prs.length ≤ 3 * i ∧ i ≤ 4 ∧ (∀ a ∈ prs, a.ok) ∧ S' L = some (.lst (prs.map prW)) ∧ Pl S' p (N + 50 * (i : Int)) ∧ KpL [p] S S')
      ⟨[], _, _, _, rfl, by decide, by decide, by decide, (fun _ h => by cases h), put_same, B1.hp.mono (by omega), (KpL.refl [p] S).new hL⟩ (fun _ _ _ _ => trivial) ?_ ?_
    · rintro i w ρ' S4 e ⟨prs, a5, a6, a9, rfl, hi, pl, hi4, hok, hL4, p4, k4⟩
      rw [List.getElem?_map] at e
      obtain ⟨st, es, rfl⟩ : ∃ st : Stp, (s0 :: ss)[i]? = some st ∧ st.v = w := by
        cases hx : (s0 :: ss)[i]? with
        | none => rw [hx] at e; cases e
        | some st => rw [hx] at e; exact ⟨st, rfl, Option.some.inj e⟩
      have hst := hs st (List.mem_of_getElem? es)
      have hi3 : i < 4 := by
        have := (List.getElem?_eq_some_iff.mp es).1
        rw [List.length_cons] at this
        omega
      walk_at "w"
      refine mid_q (fun ρ' S' => ∃ (prs : List Pr) (a6 a9 : Option W), ρ' = [some (.ref p), some (selW s0 ss), some (.ref kl), some (.ref ml), some (.ref L), some st.v, a6, none, none, a9, none] ∧ i ≤ prs.length ∧ prs.length ≤ 3 * i + 2 ∧ (∀ a ∈ prs, a.ok) ∧ S' L = some (.lst (prs.map prW)) ∧ Pl S' p (N + 50 * (i : Int) + 30) ∧ KpL [p] S S') ?_ ?_
      · walk_at "w"
        refine ⟨fun _ => ?_, fun _ => ?_⟩
        · walk_at "w"
          refine tk_go p4 (by omega) (by decide) (by decide) fun r S5 r0 r1 p5 o5 => ?_
          have hL5 := (o5 L (notin1 hLp)).trans hL4
          walk_at "w"
          refine ⟨by omega, by omega, ?_⟩
          refine for_q (fun j ρ' S' => j ≤ 2 ∧ ∃ (prs : List Pr) (a6 a9 : Option W), ρ' = [some (.ref p), some (selW s0 ss), some (.ref kl), some (.ref ml), some (.ref L), some st.v, a6, none, none, a9, none] ∧ i ≤ prs.length ∧ prs.length ≤ 3 * i + j ∧ (∀ a ∈ prs, a.ok) ∧ S' L = some (.lst (prs.map prW)) ∧ Pl S' p (N + 50 * (i : Int) + 1 + 10 * (j : Int)) ∧ KpL [p] S S')
            ⟨by omega, prs, _, _, rfl, hi, by omega, hok, hL5, p5.mono (by omega), k4.trans o5.kp⟩ (fun _ _ _ _ => trivial) ?_ ?_
          · rintro j w ρ' S6 e ⟨_, prs, a6, a9, rfl, hi, pl, hok, hL6, p6, k6⟩
            obtain ⟨hj, rfl⟩ := intsW_at e
            have hj : j < 2 := by omega
            have B6 := B.kpl p6 k6
            walk_at "w"
            refine ⟨_, B6.hk, ?_⟩
            rw [List.length_map]
            refine tk_go p6 (by omega) (by omega) (by omega) fun u S7 u0 u1 p7 o7 => ?_
            have B7 := B6.off p7 o7
            obtain ⟨kd, _, hkd⟩ := kind_at u0 u1
            have hL7 := (o7 L (notin1 hLp)).trans hL6
            walk_at "w"
            refine ⟨_, B7.hk, rdAt_ok hkd ?_⟩
            walk_at "w"
            refine ⟨.inl ⟨rfl, _, hL7⟩, ?_⟩
            walk_at "w"
            refine ms_go p7 (by omega) B7.hm B7.m8 fun xs S8 xl p8 o8 => ?_
            have hL8 := (o8 L (notin1 hLp)).trans hL7
            walk_at "w"
            refine ⟨_, hL8, ?_, by omega, prs ++ [(kd, xs)], _, _, rfl, by rw [List.length_append]; omega, by rw [List.length_append]; show prs.length + 1 ≤ _; omega, ?_, ?_, (p8.eq (put_ne hLp.symm)).mono (by omega), ((k6.trans o7.kp).trans o8.kp).own hL⟩
            · rw [List.length_map]
              exact Nat.lt_of_lt_of_le (show _ < 1000 by omega) sizeLine_ge
            · intro a ha
              rcases List.mem_append.mp ha with ha | ha
              · exact hok a ha
              · rw [List.mem_singleton] at ha
                rw [ha]
                show xs.length ≤ 63
                omega
            · rw [put_same, List.map_append]
              rfl
          · rintro ρ' S6 ⟨hj, prs, a6, a9, rfl, hi, pl, hok, hL6, p6, k6⟩
            exact ⟨prs, _, _, rfl, hi, by omega, hok, hL6, p6.mono (by omega), k6⟩
        · exact ⟨prs, _, _, rfl, hi, by omega, hok, hL4, p4.mono (by omega), k4⟩
      · rintro ρ' S6 ⟨prs, a6, a9, rfl, hi, pl, hok, hL6, p6, k6⟩
        have B6 := B.kpl p6 k6
        walk_at "w"
        refine ⟨.inl ⟨rfl, _, hL6⟩, ?_⟩
        walk_at "w"
        refine pf_go B6 (by omega) hst fun a S8 ha p8 o8 => ?_
        have hL8 := (o8 L (notin1 hLp)).trans hL6
        walk_at "w"
        refine ⟨_, hL8, ?_, prs ++ [a], _, _, _, rfl, by rw [List.length_append]; show i + 1 ≤ prs.length + 1; omega, by rw [List.length_append]; show prs.length + 1 ≤ _; omega, by omega, ?_, ?_, (p8.eq (put_ne hLp.symm)).mono (by omega), (k6.trans o8.kp).own hL⟩
        · rw [List.length_map]
          exact Nat.lt_of_lt_of_le (show _ < 1000 by omega) sizeLine_ge
        · intro b hb
          rcases List.mem_append.mp hb with hb | hb
          · exact hok b hb
          · rw [List.mem_singleton] at hb
            rw [hb]
            exact ha
        · rw [put_same, List.map_append]
          rfl
    · rintro ρ' S4 ⟨prs, a5, a6, a9, rfl, hi, pl, hi4, hok, hL4, p4, k4⟩
      rw [List.length_map, List.length_cons] at hi
      have hi1 : 1 ≤ prs.length := by omega
      have pl12 : prs.length ≤ 12 := by omega
      have p4 : Pl S4 p (N + 200) := p4.mono (by omega)
      have B4 := B.kpl p4 k4
      walk_at "w"
      refine tk_go p4 (by omega) (by decide) (by decide) fun sp S5 sp0 sp1 p5 o5 => ?_
      have B5 := B4.off p5 o5
      have hL5 := (o5 L (notin1 hLp)).trans hL4
      walk_at "w"
      refine ⟨_, hL5, ?_⟩
      rw [List.length_map]
      refine tk_go p5 (by omega) (by omega) (by omega) fun at_ S6 a0 a1 p6 o6 => ?_
      have B6 := B5.off p6 o6
      have hL6 := (o6 L (notin1 hLp)).trans hL5
      walk_at "w"
      refine ⟨_, B6.hk, ?_⟩
      rw [List.length_map]
      refine tk_go p6 (by omega) (by omega) (by omega) fun u S7 u0 u1 p7 o7 => ?_
      have B7 := B6.off p7 o7
      obtain ⟨kd, _, hkd⟩ := kind_at u0 u1
      have hL7 := (o7 L (notin1 hLp)).trans hL6
      walk_at "w"
      refine ⟨_, B7.hk, rdAt_ok hkd ?_⟩
      walk_at "w"
      refine ms_go p7 (by omega) B7.hm B7.m8 fun xs S8 xl p8 o8 => ?_
      have hL8 := (o8 L (notin1 hLp)).trans hL7
      have k8 : KpL [p] S S8 := (((k4.trans o5.kp).trans o6.kp).trans o7.kp).trans o8.kp
      walk_at "w"
      have a0L : at_ < prs.length := by omega
      let M : Nat → Prop → StW → Sto → Prop := fun bd cnd ρ' S' => ρ' = [some (.ref p), some (selW s0 ss), some (.ref kl), some (.ref ml), some (.ref L), a5, a6, some (.int sp), some (.int at_), some (.str kd), some (prW (kd, xs))] ∧ ∃ prs : List Pr, 1 ≤ prs.length ∧ prs.length ≤ bd ∧ (∀ a ∈ prs, a.ok) ∧ S' L = some (.lst (prs.map prW)) ∧ Pl S' p (N + 490) ∧ KpL [p] S S' ∧ (cnd ∨ at_ < prs.length)
      have oks : Pr.ok (kd, xs) := by show xs.length ≤ 63; omega
      refine mid_q (M 14 False) ?_ ?_
      · walk_at "w"
        refine ⟨fun _ => ?_, fun _ => ?_⟩
        · walk_at "w"
          refine ⟨.inl ⟨rfl, _, hL8⟩, ?_⟩
          walk_at "w"
          refine ⟨_, hL8, ?_, a0, by omega, rfl, prs.take at_.toNat ++ [(kd, xs)] ++ prs.drop at_.toNat, ?_, ?_, ?_, ?_, (p8.eq (put_ne hLp.symm)).mono (by omega), k8.own hL, .inr ?_⟩
          · rw [List.length_map]
            exact Nat.lt_of_lt_of_le (show _ < 1000 by omega) sizeLine_ge
          · simp only [List.length_append, List.length_take, List.length_drop, List.length_singleton]
            omega
          · simp only [List.length_append, List.length_take, List.length_drop, List.length_singleton]
            omega
          · intro a ha
            rcases List.mem_append.mp ha with ha | ha
            · rcases List.mem_append.mp ha with ha | ha
              · exact hok a (List.mem_of_mem_take ha)
              · rw [List.mem_singleton] at ha; rw [ha]; exact oks
            · exact hok a (List.mem_of_mem_drop ha)
          · rw [put_same, List.map_append, List.map_append, List.map_take, List.map_drop]
            rfl
          · simp only [List.length_append, List.length_take, List.length_drop, List.length_singleton]
            omega
        · exact ⟨rfl, prs, hi1, by omega, hok, hL8, p8.mono (by omega), k8, .inr a0L⟩
      rintro ρ' S9 ⟨rfl, prs9, g1, g14, gok, gL, gp, gk, gat⟩
      walk_at "w"
      refine mid_q (M 14 (sp = 2)) ?_ ?_
      · walk_at "w"
        refine if_q ?_
        walk_at "w"
        refine ⟨fun h2 => ?_, fun _ => ?_⟩
        · have h2 : sp = 2 := of_decide_eq_true h2
          walk_at "w"
          refine ⟨_, gL, ?_⟩
          refine ⟨fun h1 => ?_, fun _ => ?_⟩
          · have h1 : (1 : Int) < (((prs9.map prW).length : Nat) : Int) := of_decide_eq_true h1
            rw [List.length_map] at h1
            walk_at "w"
            refine ⟨.inl ⟨rfl, _, gL⟩, ?_⟩
            walk_at "w"
            have gat' : at_ < prs9.length := gat.resolve_left id
            have hj : at_.toNat < prs9.length := by omega
            refine ⟨_, at_.toNat, prW prs9[at_.toNat], gL, by omega, by omega, ?_, ?_, rfl, prs9.eraseIdx at_.toNat, ?_, ?_, ?_, ?_, gp.eq (put_ne hLp.symm), gk.own hL, .inl h2⟩
            · unfold seqIndex?
              rw [List.length_map]
              have e : (if at_ < 0 then at_ + (prs9.length : Int) else at_) = at_ := if_neg (by omega)
              simp only [e]
              simp [a0, gat']
            · rw [List.getElem?_map, List.getElem?_eq_getElem hj]
              rfl
            · rw [List.length_eraseIdx_of_lt hj]
              omega
            · rw [List.length_eraseIdx_of_lt hj]
              omega
            · exact fun a ha => gok a (List.mem_of_mem_eraseIdx ha)
            · rw [put_same, er_map]
          · exact ⟨rfl, prs9, g1, g14, gok, gL, gp, gk, .inr (gat.resolve_left id)⟩
        · exact ⟨fun h => absurd (show false = true from h) Bool.false_ne_true, fun _ => ⟨rfl, prs9, g1, g14, gok, gL, gp, gk, .inr (gat.resolve_left id)⟩⟩
      rintro ρ' S9 ⟨rfl, prs9, g1, g14, gok, gL, gp, gk, gat⟩
      walk_at "w"
      refine mid_q (M 14 (sp = 2)) ?_ ?_
      · walk_at "w"
        refine ⟨fun h3 => ?_, fun _ => ?_⟩
        · have h3 : sp = 3 := of_decide_eq_true h3
          obtain ⟨a, ha, hat⟩ := pr_at a0 (show at_ < prs9.length by omega)
          walk_at "w"
          refine ⟨_, gL, rdAt_ok hat ?_⟩
          walk_at "w"
          have hj : at_.toNat < prs9.length := by omega
          have jx : ixN (prs9.map prW).length at_ = some at_.toNat := by
            unfold ixN
            rw [List.length_map, if_pos (by omega), if_pos (by omega)]
          refine ⟨_, _, gL, jx, rfl, prs9.set at_.toNat (kd, a.2), ?_, ?_, ?_, ?_, gp.eq (put_ne hLp.symm), gk.own hL, .inr ?_⟩
          · rw [List.length_set]; exact g1
          · rw [List.length_set]; exact g14
          · intro b hb
            rcases List.mem_or_eq_of_mem_set hb with hb | hb
            · exact gok b hb
            · rw [hb]
              exact gok a ha
          · rw [put_same, List.map_set]
            rfl
          · rw [List.length_set]
            omega
        · exact ⟨rfl, prs9, g1, g14, gok, gL, gp, gk, gat⟩
      rintro ρ' S9 ⟨rfl, prs9, g1, g14, gok, gL, gp, gk, gat⟩
      walk_at "w"
      refine mid_q (M 14 (sp = 2)) ?_ ?_
      · walk_at "w"
        refine ⟨fun h3 => ?_, fun _ => ?_⟩
        · have h3 : sp = 4 := of_decide_eq_true h3
          obtain ⟨a, ha, hat⟩ := pr_at a0 (show at_ < prs9.length by omega)
          walk_at "w"
          refine ⟨_, gL, rdAt_ok hat ?_⟩
          walk_at "w"
          refine ⟨_, gL, rdAt_ok hat ?_⟩
          walk_at "w"
          have ec : cutL (a.2.map W.str) (some 1) none = (a.2.drop 1).map W.str := by
            rw [List.map_drop]
            exact cut_from (a.2.map W.str) 1
          rw [ec]
          have hj : at_.toNat < prs9.length := by omega
          have jx : ixN (prs9.map prW).length at_ = some at_.toNat := by
            unfold ixN
            rw [List.length_map, if_pos (by omega), if_pos (by omega)]
          refine ⟨_, _, gL, jx, rfl, prs9.set at_.toNat (a.1, a.2.drop 1), ?_, ?_, ?_, ?_, gp.eq (put_ne hLp.symm), gk.own hL, .inr ?_⟩
          · rw [List.length_set]; exact g1
          · rw [List.length_set]; exact g14
          · intro b hb
            rcases List.mem_or_eq_of_mem_set hb with hb | hb
            · exact gok b hb
            · rw [hb]
              have h := gok a ha
              have h : a.2.length ≤ 63 := h
              show (a.2.drop 1).length ≤ 63
              rw [List.length_drop]
              omega
          · rw [put_same, List.map_set]
            rfl
          · rw [List.length_set]
            omega
        · exact ⟨rfl, prs9, g1, g14, gok, gL, gp, gk, gat⟩
      rintro ρ' S9 ⟨rfl, prs9, g1, g14, gok, gL, gp, gk, gat⟩
      walk_at "w"
      refine mid_q (M 15 True) ?_ ?_
      · walk_at "w"
        refine ⟨fun h3 => ?_, fun _ => ?_⟩
        · have h3 : sp = 5 := of_decide_eq_true h3
          walk_at "w"
          refine ⟨.inl ⟨rfl, _, gL⟩, ?_⟩
          walk_at "w"
          refine ⟨_, gL, ?_, rfl, prs9 ++ [(kd, xs)], ?_, ?_, ?_, ?_, gp.eq (put_ne hLp.symm), gk.own hL, .inl trivial⟩
          · rw [List.length_map]
            exact Nat.lt_of_lt_of_le (show _ < 1000 by omega) sizeLine_ge
          · rw [List.length_append]; omega
          · rw [List.length_append]; show prs9.length + 1 ≤ 15; omega
          · intro b hb
            rcases List.mem_append.mp hb with hb | hb
            · exact gok b hb
            · rw [List.mem_singleton] at hb
              rw [hb]
              exact oks
          · rw [put_same, List.map_append]
            rfl
        · exact ⟨rfl, prs9, g1, by omega, gok, gL, gp, gk, .inl trivial⟩
      rintro ρ' S9 ⟨rfl, prs9, g1, g14, gok, gL, gp, gk, gat⟩
      walk_at "w"
      refine ⟨_, gL, ?_⟩
      exact fg_off gk fun S6 f1 f2 => q prs9 S6 g1 (by omega) gok ((gp.eq (f2 p List.mem_cons_self)).mono (by omega)) f1⟩
end
end K14
set_option Elab.async false
set_option linter.all false
set_option maxRecDepth 100000
set_option maxHeartbeats 4000000
set_option synthInstance.maxHeartbeats 4000000
set_option synthInstance.maxSize 100000
namespace K14
open PySem PySem.Spec PyProof.Rows L2 Wl
local macro_rules | `(tactic| walk_at "w") => `(tactic| (conv => whnf))
/-! what a store holds -/
local macro_rules | `(tactic| walk_at "ne") => `(tactic| first | assumption | (apply Ne.symm; assumption) | exact ne_free (by assumption) (by assumption) | exact (ne_free (by assumption) (by assumption)).symm | exact Pl.ne (by assumption) (by assumption) | exact (Pl.ne (by assumption) (by assumption)).symm)
local macro_rules | `(tactic| walk_at "s") => `(tactic| first
  | exact put_same
  | assumption
  | (refine (put_ne ?_).trans ?_; (· walk_at "ne"); (· walk_at "s")))
/-! a side condition -/
local macro_rules | `(tactic| walk_at "c") => `(tactic| first
  | exact Or.inl (Or.inl ⟨by omega, by omega⟩)
  | exact Or.inl (Or.inr ⟨by omega, by omega⟩)
  | exact Or.inl ⟨by omega, by omega⟩
  | exact Or.inl ⟨rfl, _, by walk_at "s"⟩
  | rfl
  | omega
  | decide
  | exact Nat.le_trans (by omega) sizeLine_ge)
/-! one question is answered, if the answer is plain -/
local macro_rules | `(tactic| walk_at "g1") => `(tactic| first
  | refine ⟨fun _ => ?_, fun h => absurd (show true = false from h) (by decide)⟩
  | refine ⟨fun h => absurd (show false = true from h) Bool.false_ne_true, fun _ => ?_⟩
  | refine ⟨_, by walk_at "s", ?_⟩
  | refine ⟨_, _, by walk_at "s", by walk_at "s", ?_⟩
  | refine ⟨_, by walk_at "s", by simpa using (by omega), ?_⟩
  | refine ⟨_, rfl, ?_⟩
  | refine ⟨_, _, rfl, (by first | exact isTy_tt | exact isTy_ii | exact isTy_ll | exact isTy_ss | exact isTy_ib | exact isTy_tb | exact isTy_ti | exact isTy_ts | exact isTy_tl | exact isTy_lb | exact isTy_li | exact isTy_ls | exact isTy_lt | exact isTy_sb | exact isTy_si | exact isTy_st | exact isTy_sl | exact isTy_is | exact isTy_it | exact isTy_il | exact isTy_bi | exact isTy_bs | exact isTy_bb | exact isTy_nb | exact isTy_ni | exact isTy_ns | exact isTy_nt | exact isTy_nl | exact isTy_bt | exact isTy_bl), ?_⟩
  | refine ⟨_, _, tyName_lst (by walk_at "s"), (by first | exact isTy_ll | exact isTy_lb | exact isTy_li | exact isTy_ls | exact isTy_lt), ?_⟩
  | refine if_q ?_
  | refine ⟨by walk_at "c", ?_⟩)
local macro_rules | `(tactic| walk_at "go") => `(tactic| (walk_at "w"; repeat (walk_at "g1"; walk_at "w")))
/-! a branch that cannot be -/
local macro_rules | `(tactic| walk_at "two") => `(tactic| refine ⟨fun h => ?_, fun h => ?_⟩)
section
variable {P : Program} {w : World} {K : PySem.W.Frag} {mg : Str → Option Value} {base : Heap}
def spSb : SpW := fun ws S Q => ∃ a : Bool, ws = [.bl a, .bl a] ∧ Q (.bl true) S
theorem sb_go {a : Bool} {S : Sto} {Q : WK} (q : Q (.bl true) S) : Hd spSb [.bl a, .bl a] S Q := Hd.mk ⟨a, rfl, q⟩
theorem ok__law_same (T : Txt K mg) (c__law_same : CalW P w K mg base 1 "_law_same" (Hd spNever)) (d : DefAt K mg "_law_same" s__law_same ["_law_one", "_law_two"]) : CalW P w K mg base 2 "_law_same" spSb :=
  calDI d sc__law_same (fun ws S Q ⟨a, e, _⟩ => by rw [e]; rfl) fun f cdv A outer s H E hr => ⟨_, _,
    (pss_cons (ps_if (PW.pt (pw_or (pt_val (pe_callB (k_isi K) (by rfl) T.b_isinstance (by decide +kernel) (pa_cons (pv 0) (pa_cons (pe_bltn (v := .ty "bool") (by rfl) T.b_bool (by decide +kernel) rfl) pa_nil)))) (pw_or1 (pt_val (pe_callB (k_isi K) (by rfl) T.b_isinstance (by decide +kernel) (pa_cons (pv 1) (pa_cons (pe_bltn (v := .ty "bool") (by rfl) T.b_bool (by decide +kernel) rfl) pa_nil)))))))
       (pss_one (ps_ret (pe_and (pe_callB (k_isi K) (by rfl) T.b_isinstance (by decide +kernel) (pa_cons (pv 0) (pa_cons (pe_bltn (v := .ty "bool") (by rfl) T.b_bool (by decide +kernel) rfl) pa_nil))) (pe_and (pe_callB (k_isi K) (by rfl) T.b_isinstance (by decide +kernel) (pa_cons (pv 1) (pa_cons (pe_bltn (v := .ty "bool") (by rfl) T.b_bool (by decide +kernel) rfl) pa_nil))) (pe_one (pe_cmpR (k_eq K hr.units) (pv 0) (pv 1) (nomark _)))))))
       pss_nil)
      (pss_cons (ps_if (PW.pt (pw_and (pt_val (pe_callB (k_isi K) (by rfl) T.b_isinstance (by decide +kernel) (pa_cons (pv 0) (pa_cons (pe_bltn (v := .ty "int") (by rfl) T.b_int (by decide +kernel) rfl) pa_nil)))) (pw_and1 (pt_val (pe_callB (k_isi K) (by rfl) T.b_isinstance (by decide +kernel) (pa_cons (pv 1) (pa_cons (pe_bltn (v := .ty "int") (by rfl) T.b_int (by decide +kernel) rfl) pa_nil)))))))
       (pss_one (ps_ret (pe_cmpR (k_eq K hr.units) (pv 0) (pv 1) (nomark _))))
       pss_nil)
      (pss_cons (ps_if (PW.pt (pw_and (pt_val (pe_callB (k_isi K) (by rfl) T.b_isinstance (by decide +kernel) (pa_cons (pv 0) (pa_cons (pe_bltn (v := .ty "str") (by rfl) T.b_str (by decide +kernel) rfl) pa_nil)))) (pw_and1 (pt_val (pe_callB (k_isi K) (by rfl) T.b_isinstance (by decide +kernel) (pa_cons (pv 1) (pa_cons (pe_bltn (v := .ty "str") (by rfl) T.b_str (by decide +kernel) rfl) pa_nil)))))))
       (pss_one (ps_ret (pe_cmpR (k_eq K hr.units) (pv 0) (pv 1) (nomark _))))
       pss_nil)
      (pss_cons (ps_set (i := 2) sc__law_same.nd rfl (Or.inl rfl) (pe_and (pe_callB (k_isi K) (by rfl) T.b_isinstance (by decide +kernel) (pa_cons (pv 0) (pa_cons (pe_bltn (v := .ty "tuple") (by rfl) T.b_tuple (by decide +kernel) rfl) pa_nil))) (pe_one (pe_callB (k_isi K) (by rfl) T.b_isinstance (by decide +kernel) (pa_cons (pv 1) (pa_cons (pe_bltn (v := .ty "tuple") (by rfl) T.b_tuple (by decide +kernel) rfl) pa_nil))))))
      (pss_cons (ps_if (PW.pt (pw_or (pt_val (pv 2)) (pw_or1 (PW.pt (pw_and (pt_val (pe_callB (k_isi K) (by rfl) T.b_isinstance (by decide +kernel) (pa_cons (pv 0) (pa_cons (pe_bltn (v := .ty "list") (by rfl) T.b_list (by decide +kernel) rfl) pa_nil)))) (pw_and1 (pt_val (pe_callB (k_isi K) (by rfl) T.b_isinstance (by decide +kernel) (pa_cons (pv 1) (pa_cons (pe_bltn (v := .ty "list") (by rfl) T.b_list (by decide +kernel) rfl) pa_nil))))))))))
       (pss_cons (ps_if (pt_cmpR (k_ne K hr.units) (pe_callB (k_len K) (by rfl) T.b_len (by decide +kernel) (pa_cons (pv 0) pa_nil)) (pe_callB (k_len K) (by rfl) T.b_len (by decide +kernel) (pa_cons (pv 1) pa_nil)) (nomark _))
        (pss_one (ps_ret pe_bl))
        pss_nil)
       (pss_cons (ps_for PassesOwn.never rfl (pi_range1 rfl T.b_range (pa_cons (pe_callB (k_len K) (by rfl) T.b_len (by decide +kernel) (pa_cons (pv 0) pa_nil)) pa_nil)) (pg_name (i := 3) sc__law_same.nd rfl (Or.inl rfl))
        (pss_one (ps_if (pt_not (pt_val (k_w K c__law_same hr (by decide) rfl (pa_cons (pe_ix (k_ix K) (pv 0) (pv 3) (fun _ _ => rfl)) (pa_cons (pe_ix (k_ix K) (pv 1) (pv 3) (fun _ _ => rfl)) pa_nil)))))
         (pss_one (ps_ret pe_bl))
         pss_nil)))
       (pss_one (ps_ret pe_bl))))
       pss_nil)
      (pss_cons (ps_if (PW.pt (pw_and (pt_val (pe_callB (k_isi K) (by rfl) T.b_isinstance (by decide +kernel) (pa_cons (pv 0) (pa_cons (pe_bltn (v := .ty "dict") (by rfl) T.b_dict (by decide +kernel) rfl) pa_nil)))) (pw_and1 (pt_val (pe_callB (k_isi K) (by rfl) T.b_isinstance (by decide +kernel) (pa_cons (pv 1) (pa_cons (pe_bltn (v := .ty "dict") (by rfl) T.b_dict (by decide +kernel) rfl) pa_nil)))))))
       (pss_cons (ps_if (pt_not (pt_val (k_w K c__law_same hr (by decide) rfl (pa_cons (pe_callTy (k_list K) (by rfl) T.b_list (by decide +kernel) (pa_cons (pv 0) pa_nil)) (pa_cons (pe_callTy (k_list K) (by rfl) T.b_list (by decide +kernel) (pa_cons (pv 1) pa_nil)) pa_nil)))))
        (pss_one (ps_ret pe_bl))
        pss_nil)
       (pss_cons (ps_for PassesOwn.never rfl (k_any K (pe_callTy (k_list K) (by rfl) T.b_list (by decide +kernel) (pa_cons (pv 0) pa_nil))) (pg_name (i := 3) sc__law_same.nd rfl (Or.inl rfl))
        (pss_one (ps_if (pt_not (pt_val (k_w K c__law_same hr (by decide) rfl (pa_cons (pe_ix (k_ix K) (pv 0) (pv 3) (fun _ _ => rfl)) (pa_cons (pe_ix (k_ix K) (pv 1) (pv 3) (fun _ _ => rfl)) pa_nil)))))
         (pss_one (ps_ret pe_bl))
         pss_nil)))
       (pss_one (ps_ret pe_bl))))
       pss_nil)
      (pss_one (ps_ret (pe_and (pe_cmpR op_isN (pv 0) pe_non (nomark _)) (pe_one (pe_cmpR op_isN (pv 1) pe_non (nomark _)))))))))))), inferInstance, by
    rintro ws S Q ⟨a, rfl, q⟩
    walk_at "go"
    rw [decide_eq_true rfl]
    exact fg_here q⟩
theorem cutStr (ps : List Str) (lo hi : Option Int) : cutL (ps.map W.str) lo hi = (cutL ps lo hi).map W.str := by
  unfold cutL
  rw [List.length_map, List.map_take, List.map_drop]
theorem pathOk {prs : List Pr} (h : prs.length ≤ 20) (ok : ∀ a ∈ prs, a.ok) : PathOk prs := ⟨by omega, fun a ha => by
  have h : a.2.length ≤ 63 := ok a ha
  omega⟩
theorem ok_law (T : Txt K mg) {f : Addr} {fd : FuncData} (F : Fun K "law" "law" s_law f fd) (c__law_pool : CalW P w K mg base 1 "_law_pool" (Hd spPl)) (c__law_take : CalW P w K mg base 1 "_law_take" (Hd spTk)) (c__law_any_names : CalW P w K mg base 4 "_law_any_names" (Hd (spNms 200))) (c__law_selector : CalW P w K mg base 3 "_law_selector" (Hd spSe)) (c__law_lineage : CalW P w K mg base 3 "_law_lineage" (Hd (spLi 0))) (c__law_made : CalW P w K mg base 3 "_law_made" (Hd spMa))
    (c__law_laid : CalW P w K mg base 5 "_law_laid" (Hd (spLaid 3))) (c_matches : CalW P w K mg base 2 "matches" (Hd spMat)) (c__law_same : CalW P w K mg base 2 "_law_same" (Hd spSb)) : FnOk P w K mg base CX0 6 f fd ["_law_script"] (liftSp K spLaw) :=
  have c__law_pool := c__law_pool.mono (k := 5) (by decide)
  have c__law_take := c__law_take.mono (k := 5) (by decide)
  have c__law_any_names := c__law_any_names.mono (k := 5) (by decide)
  have c__law_selector := c__law_selector.mono (k := 5) (by decide)
  have c__law_lineage := c__law_lineage.mono (k := 5) (by decide)
  have c__law_made := c__law_made.mono (k := 5) (by decide)
  have c_matches := c_matches.mono (k := 5) (by decide)
  have c__law_same := c__law_same.mono (k := 5) (by decide)
  fnDI F sc_law (fun ws S Q ⟨ns, e, _⟩ => by rw [e]; rfl) fun f cdv A outer s H E hr => ⟨_, _,
    (pss_cons (ps_set (i := 1) sc_law.nd rfl (Or.inl rfl) (k_w K c__law_pool hr (by decide) rfl (pa_cons (pv 0) (pa_cons pe_int pa_nil))))
      (pss_cons (ps_set (i := 2) sc_law.nd rfl (Or.inl rfl) (k_w K c__law_any_names hr (by decide) rfl (pa_cons (pv 1) (pa_cons pe_int pa_nil))))
      (pss_cons (ps_set (i := 3) sc_law.nd rfl (Or.inl rfl) (pe_op (k_addB K) pe_int (k_w K c__law_take hr (by decide) rfl (pa_cons (pv 1) (pa_cons pe_int pa_nil)))))
      (pss_cons (ps_set (i := 4) sc_law.nd rfl (Or.inl rfl) (pe_slice (k_sl K) (pv 2) po_none (po_some (pv 3))))
      (pss_cons (ps_set (i := 5) sc_law.nd rfl (Or.inl rfl) (k_w K c__law_take hr (by decide) rfl (pa_cons (pv 1) (pa_cons pe_int pa_nil))))
      (pss_cons (ps_set (i := 6) sc_law.nd rfl (Or.inl rfl) (pe_slice (k_sl K) (pv 2) (po_some (pv 5)) (po_some (pe_op (k_addB K) (pv 5) (pv 3)))))
      (pss_cons (ps_set (i := 7) sc_law.nd rfl (Or.inl rfl) (k_w K c__law_pool hr (by decide) rfl (pa_cons (pv 0) (pa_cons pe_int pa_nil))))
      (pss_cons (ps_set (i := 8) sc_law.nd rfl (Or.inl rfl) (k_w K c__law_selector hr (by decide) rfl (pa_cons (pv 7) (pa_cons (pv 4) (pa_cons (pv 6) (pa_cons pe_int pa_nil))))))
      (pss_cons (ps_set (i := 9) sc_law.nd rfl (Or.inl rfl) (k_w K c__law_selector hr (by decide) rfl (pa_cons (pv 7) (pa_cons (pv 4) (pa_cons (pv 6) (pa_cons pe_int pa_nil))))))
      (pss_cons (ps_set (i := 10) sc_law.nd rfl (Or.inl rfl) (k_w K c__law_pool hr (by decide) rfl (pa_cons (pv 0) (pa_cons pe_int pa_nil))))
      (pss_cons (ps_set (i := 11) sc_law.nd rfl (Or.inl rfl) (k_w K c__law_take hr (by decide) rfl (pa_cons (pv 10) (pa_cons pe_int pa_nil))))
      (pss_mid (ps_if (pt_cmpR op_ltA (pv 11) pe_int (nomark _))
       (pss_one (ps_set (i := 12) sc_law.nd rfl (Or.inl rfl) (k_w K c__law_made hr (by decide) rfl (pa_cons (pv 10) (pa_cons (pv 8) (pa_cons (pv 4) (pa_cons (pv 6) pa_nil)))))))
       (pss_one (ps_if (pt_cmpR (k_eq K hr.units) (pv 11) pe_int (nomark _))
        (pss_one (ps_set (i := 12) sc_law.nd rfl (Or.inl rfl) (k_w K c__law_lineage hr (by decide) rfl (pa_cons (pv 10) (pa_cons (pv 4) (pa_cons (pv 6) (pa_cons pe_int pa_nil)))))))
        (pss_one (ps_set (i := 12) sc_law.nd rfl (Or.inl rfl) (k_w K c__law_lineage hr (by decide) rfl (pa_cons (pv 10) (pa_cons (pv 4) (pa_cons (pv 6) (pa_cons pe_int pa_nil))))))))))
      (pss_cons (ps_for PassesOwn.never rfl (pi_range2 rfl T.b_range (pa_cons pe_int (pa_cons (pe_op (k_addB K) (pe_callB (k_len K) (by rfl) T.b_len (by decide +kernel) (pa_cons (pv 12) pa_nil)) pe_int) pa_nil))) (pg_name (i := 13) sc_law.nd rfl (Or.inl rfl))
       (pss_cons (ps_set (i := 14) sc_law.nd rfl (Or.inl rfl) (pe_slice (k_sl K) (pv 12) po_none (po_some (pv 13))))
       (pss_one (ps_for PassesOwn.never rfl (k_any K (pe_lst (pa_cons (pv 8) (pa_cons (pv 9) pa_nil)))) (pg_name (i := 15) sc_law.nd rfl (Or.inl rfl))
        (pss_cons (ps_set (i := 16) sc_law.nd rfl (Or.inl rfl) (k_w K c__law_laid hr (by decide) rfl (pa_cons (pv 15) (pa_cons (pv 14) (pa_cons (pe_op op_sub (pe_callB (k_len K) (by rfl) T.b_len (by decide +kernel) (pa_cons (pv 15) pa_nil)) pe_int) (pa_cons (pe_op op_sub (pv 13) pe_int) pa_nil))))))
        (pss_one (ps_if (pt_not (pt_val (k_w K c__law_same hr (by decide) rfl (pa_cons (k_w K c_matches hr (by decide) rfl (pa_cons (pv 15) (pa_cons (pv 14) pa_nil))) (pa_cons (pv 16) pa_nil)))))
         (pss_one (ps_ret pe_bl))
         pss_nil)))))))
      (pss_cons (ps_set (i := 16) sc_law.nd rfl (Or.inl rfl) (k_w K c__law_laid hr (by decide) rfl (pa_cons (pv 8) (pa_cons (pv 12) (pa_cons (pe_op op_sub (pe_callB (k_len K) (by rfl) T.b_len (by decide +kernel) (pa_cons (pv 8) pa_nil)) pe_int) (pa_cons (pe_op op_sub (pe_callB (k_len K) (by rfl) T.b_len (by decide +kernel) (pa_cons (pv 12) pa_nil)) pe_int) pa_nil))))))
      (pss_one (ps_ret (k_w K c__law_same hr (by decide) rfl (pa_cons (k_w K c_matches hr (by decide) rfl (pa_cons (pv 8) (pa_cons (pv 12) pa_nil))) (pa_cons (pv 16) pa_nil))))))))))))))))))), inferInstance, by
    rintro ws S Q ⟨ns, rfl, hl, q⟩
    walk_at "w"
    refine pl_go (by decide) (by decide) hl fun p S1 hpf p1 o1 => ?_
    walk_at "w"
    refine nms_go p1 (by decide) fun ys NL S2 hyl hNL hf2 p2 k2 => ?_
    walk_at "w"
    refine tk_go p2 (by decide) (by decide) (by decide) fun mn S3 m0 m1 p3 o3 => ?_
    have hNp : NL ≠ p := p1.ne hf2
    have hN3 := (o3 NL (notin1 hNp)).trans hNL
    walk_at "w"
    refine ⟨_, hN3, ?_⟩
    walk_at "w"
    intro kl hkl
    have eks : cutL (ys.map W.str) none (some (2 + mn)) = (ys.take (2 + mn).toNat).map W.str := by
      have h := cut_to (ys.map W.str) (2 + mn).toNat (by rw [List.length_map]; omega)
      rw [show (((2 + mn).toNat : Nat) : Int) = 2 + mn by omega] at h
      rw [h, List.map_take]
    rw [eks]
    generalize hks : ys.take (2 + mn).toNat = ks
    have hk1 : 1 ≤ ks.length := by rw [← hks, List.length_take]; omega
    have hk8 : ks.length ≤ 8 := by rw [← hks, List.length_take]; omega
    have hkp : kl ≠ p := p3.ne hkl
    have p4 : Pl (put S3 kl (.lst (ks.map W.str))) p 201 := (p3.eq (put_ne hkp.symm)).mono (by decide)
    have hN4 : (put S3 kl (.lst (ks.map W.str))) NL = some (.lst (ys.map W.str)) := (put_ne (ne_free hN3 hkl).symm).trans hN3
    have hk4 : (put S3 kl (.lst (ks.map W.str))) kl = some (.lst (ks.map W.str)) := put_same
    walk_at "w"
    refine tk_go p4 (by decide) (by decide) (by decide) fun pc S5 c0 c1 p5 o5 => ?_
    have hN5 := (o5 NL (notin1 hNp)).trans hN4
    have hk5 := (o5 kl (notin1 hkp)).trans hk4
    walk_at "w"
    refine ⟨_, hN5, ?_⟩
    walk_at "w"
    intro ml hml
    rw [cutStr]
    generalize hms : cutL ys (some pc) (some (pc + (2 + mn))) = ms
    have hm8 : ms.length ≤ 8 := by rw [← hms, ← hyl]; exact cut_len _ _ _
    have hk6 : (put S5 ml (.lst (ms.map W.str))) kl = some (.lst (ks.map W.str)) := (put_ne (ne_free hk5 hml).symm).trans hk5
    have hm6 : (put S5 ml (.lst (ms.map W.str))) ml = some (.lst (ms.map W.str)) := put_same
    walk_at "w"
    refine pl_go (k := 1) (by decide) (by decide) hl fun pa S7 hpa pa7 o7 => ?_
    have hka : kl ≠ pa := (ne_free hk6 hpa).symm
    have hma : ml ≠ pa := (ne_free hm6 hpa).symm
    have B7 : Drw pa kl ml 0 ks ms S7 := ⟨pa7, (o7 kl (notin1 hka)).trans hk6, (o7 ml (notin1 hma)).trans hm6, hka, hma, hk1, hk8, hm8⟩
    walk_at "w"
    refine se_go B7 (by decide) fun s0 ss S8 sl sm p8 o8 => ?_
    have B8 := B7.off p8 o8
    walk_at "w"
    refine se_go B8 (by decide) fun t0 ts S9 tl_ tm p9 o9 => ?_
    have B9 := B8.off p9 o9
    walk_at "w"
    refine pl_go (k := 2) (by decide) (by decide) hl fun pr S10 hpr p10 o10 => ?_
    have hkr : kl ≠ pr := (ne_free B9.hk hpr).symm
    have hmr : ml ≠ pr := (ne_free B9.hm hpr).symm
    have B10 : Drw pr kl ml 0 ks ms S10 := ⟨p10, (o10 kl (notin1 hkr)).trans B9.hk, (o10 ml (notin1 hmr)).trans B9.hm, hkr, hmr, hk1, hk8, hm8⟩
    walk_at "w"
    refine tk_go p10 (by decide) (by decide) (by decide) fun so S11 so0 so1 p11 o11 => ?_
    have B11 := B10.off p11 o11
    walk_at "w"
    refine mid_q (fun ρ' S' => ∃ prs : List Pr, ρ' = [some (.rl (ns.map W.int)), some (.ref p), some (.ref NL), some (.int (2 + mn)), some (.ref kl), some (.int pc), some (.ref ml), some (.ref pa), some (selW s0 ss), some (selW t0 ts), some (.ref pr), some (.int so), some (pathW prs), none, none, none, none] ∧ 1 ≤ prs.length ∧ prs.length ≤ 20 ∧ ∀ a ∈ prs, a.ok) ?_ ?_
    · walk_at "w"
      refine ⟨fun _ => ?_, fun _ => ?_⟩
      · walk_at "w"
        refine ma_go B11 (by decide) sl sm fun prs S12 l1 l2 ok p12 o12 => ?_
        exact ⟨prs, rfl, l1, l2, ok⟩
      · walk_at "w"
        refine ⟨fun _ => ?_, fun _ => ?_⟩
        · walk_at "w"
          refine li_go B11 (by decide) (by decide) (by decide) fun prs S12 l1 l2 ok p12 o12 => ?_
          exact ⟨prs, rfl, l1, l2, ok⟩
        · walk_at "w"
          refine li_go B11 (by decide) (by decide) (by decide) fun prs S12 l1 l2 ok p12 o12 => ?_
          exact ⟨prs, rfl, l1, l2, ok⟩
    · rintro ρ' S12 ⟨prs, rfl, l1, l2, ok⟩
      walk_at "w"
      have pok := pathOk l2 ok
      refine ⟨⟨by omega, by omega, by omega, by rw [List.length_map]; omega⟩, ?_⟩
      have step : ∀ (a : Stp) (as : List Stp) (n : Nat), 1 ≤ n → n ≤ prs.length → as.length ≤ 3 → (∀ s ∈ a :: as, s.ms.length ≤ 3) → (∀ s ∈ a :: as, Sml s) ∧ PathOk (prs.take n) ∧ matchB (prs.take n) a as = laidB (a :: as) (prs.take n) as.length (n - 1) := fun a as n h1 h2 h3 h4 => by
        have hl : (prs.take n).length = n := by rw [List.length_take]; omega
        refine ⟨fun s hs => Nat.le_trans (h4 s hs) (by decide), ⟨by omega, fun b hb => pok.ms b (List.mem_of_mem_take hb)⟩, ?_⟩
        rw [mat_laid _ _ _ (by omega), hl]
      refine for_q (fun i ρ' S' => ∃ a13 a14 a15 a16 : Option W, ρ' = [some (.rl (ns.map W.int)), some (.ref p), some (.ref NL), some (.int (2 + mn)), some (.ref kl), some (.int pc), some (.ref ml), some (.ref pa), some (selW s0 ss), some (selW t0 ts), some (.ref pr), some (.int so), some (pathW prs), a13, a14, a15, a16])
        ⟨_, _, _, _, rfl⟩ (fun _ _ _ _ => trivial) ?_ ?_
      · rintro i w ρ' S13 e ⟨a13, a14, a15, a16, rfl⟩
        obtain ⟨hi, rfl⟩ := intsW_at e
        have hi : i < prs.length := by
          have hi : i < ((((prs.map prW).length : Nat) : Int) + 1 - 1).toNat := hi
          rw [List.length_map] at hi
          omega
        have ecut : cutL (prs.map prW) none (some (1 + (i : Int))) = (prs.take (i + 1)).map prW := by
          have h := cut_to (prs.map prW) (i + 1) (by rw [List.length_map]; omega)
          rw [show ((i + 1 : Nat) : Int) = 1 + (i : Int) by omega] at h
          rw [h, List.map_take]
        walk_at "w"
        rw [ecut]
        intro D hD
        walk_at "w"
        refine ⟨_, put_same, ?_⟩
        refine for_q (fun j ρ' S' => S' D = some (.lst [selW s0 ss, selW t0 ts]) ∧ ∃ a15 a16 : Option W, ρ' = [some (.rl (ns.map W.int)), some (.ref p), some (.ref NL), some (.int (2 + mn)), some (.ref kl), some (.int pc), some (.ref ml), some (.ref pa), some (selW s0 ss), some (selW t0 ts), some (.ref pr), some (.int so), some (pathW prs), some (.int (1 + (i : Int))), some (pathW (prs.take (i + 1))), a15, a16])
          ⟨put_same, _, _, rfl⟩ (fun _ _ _ h => h.1) ?_ ?_
        · rintro j w ρ' S14 e ⟨hD14, a15, a16, rfl⟩
          obtain ⟨a, as, ha, hb, rfl⟩ : ∃ a as, as.length ≤ 3 ∧ (∀ s ∈ a :: as, s.ms.length ≤ 3) ∧ w = selW a as := by
            have h := List.mem_of_getElem? e
            rcases List.mem_cons.mp h with h | h
            · exact ⟨s0, ss, sl, sm, h⟩
            · exact ⟨t0, ts, tl_, tm, List.mem_singleton.mp h⟩
          obtain ⟨g1, g2, g3⟩ := step a as (i + 1) (by omega) (by omega) ha hb
          have hpl : (prs.take (i + 1)).length = i + 1 := by rw [List.length_take]; omega
          walk_at "w"
          refine laid_go (n := as.length) (k := i) ha (by rw [List.length_map, List.length_cons]; omega) (by omega) (by rw [List.length_cons]; omega) (by omega) g1 (by rw [List.length_cons]; omega) g2 ?_
          walk_at "w"
          refine mat_go g1 (by omega) g2 ?_
          rw [g3]
          walk_at "w"
          refine sb_go ?_
          refine ⟨fun h => absurd (show false = true from h) Bool.false_ne_true, fun _ => ?_⟩
          exact ⟨hD14, _, _, rfl⟩
        · rintro ρ' S14 ⟨hD14, a15, a16, rfl⟩
          exact ⟨_, _, _, _, rfl⟩
      · rintro ρ' S13 ⟨a13, a14, a15, a16, rfl⟩
        obtain ⟨g1, g2, g3⟩ := step s0 ss prs.length l1 (Nat.le_refl _) sl sm
        rw [List.take_length] at g2 g3
        walk_at "w"
        refine laid_go (n := ss.length) (k := prs.length - 1) sl (by rw [List.length_map, List.length_cons]; omega) (by rw [List.length_map]; omega) (by rw [List.length_cons]; omega) (by omega) g1 (by rw [List.length_cons]; omega) g2 ?_
        walk_at "w"
        refine mat_go g1 (by omega) g2 ?_
        rw [g3]
        walk_at "w"
        refine sb_go ?_
        exact fg_here (q _)⟩
end
theorem all_mk {l : PySem.W.OpenLaw} {w : World} {K : PySem.W.Frag} {h : Heap} {mg : Str → Option Value} {fa : Addr} (X : K.In h) (G : h.Ns mainGlobals mg) (hfa : mg "law" = some (.ref fa))
    {f0 : Addr} {od0 an0 : Option Addr} {sl0 : Array (Option Value)} {oc0 kV0 dc0 pm0 cd0 ct0 : Value} (a0 : PySem.W.nsIn K mainGlobals "step_fits" = some (some (.ref f0)))
     (l0 : K.lookup f0 = some ⟨oc0, od0, .func (PySem.W.fnOf "step_fits" "step_fits" (defArgs s_step_fits) (defBody s_step_fits) (defScope s_step_fits) .none kV0 dc0 pm0 an0 cd0 ct0), sl0⟩)
     (c0 : PySem.W.codeIn K cd0 "step_fits" = true)
     (k0 : PySem.W.keepIn K (.ref f0) = true)
    {f1 : Addr} {od1 an1 : Option Addr} {sl1 : Array (Option Value)} {oc1 kV1 dc1 pm1 cd1 ct1 : Value} (a1 : PySem.W.nsIn K mainGlobals "_follows" = some (some (.ref f1)))
     (l1 : K.lookup f1 = some ⟨oc1, od1, .func (PySem.W.fnOf "_follows" "_follows" (defArgs s__follows) (defBody s__follows) (defScope s__follows) .none kV1 dc1 pm1 an1 cd1 ct1), sl1⟩)
     (c1 : PySem.W.codeIn K cd1 "_follows" = true)
     (k1 : PySem.W.keepIn K (.ref f1) = true)
    {f2 : Addr} {od2 an2 : Option Addr} {sl2 : Array (Option Value)} {oc2 kV2 dc2 pm2 cd2 ct2 : Value} (a2 : PySem.W.nsIn K mainGlobals "matches" = some (some (.ref f2)))
     (l2 : K.lookup f2 = some ⟨oc2, od2, .func (PySem.W.fnOf "matches" "matches" (defArgs s_matches) (defBody s_matches) (defScope s_matches) .none kV2 dc2 pm2 an2 cd2 ct2), sl2⟩)
     (c2 : PySem.W.codeIn K cd2 "matches" = true)
     (k2 : PySem.W.keepIn K (.ref f2) = true)
    {f3 : Addr} {od3 an3 : Option Addr} {sl3 : Array (Option Value)} {oc3 kV3 dc3 pm3 cd3 ct3 : Value} (a3 : PySem.W.nsIn K mainGlobals "_law_pool" = some (some (.ref f3)))
     (l3 : K.lookup f3 = some ⟨oc3, od3, .func (PySem.W.fnOf "_law_pool" "_law_pool" (defArgs s__law_pool) (defBody s__law_pool) (defScope s__law_pool) .none kV3 dc3 pm3 an3 cd3 ct3), sl3⟩)
     (c3 : PySem.W.codeIn K cd3 "_law_pool" = true)
     (k3 : PySem.W.keepIn K (.ref f3) = true)
    {f4 : Addr} {od4 an4 : Option Addr} {sl4 : Array (Option Value)} {oc4 kV4 dc4 pm4 cd4 ct4 : Value} (a4 : PySem.W.nsIn K mainGlobals "_law_take" = some (some (.ref f4)))
     (l4 : K.lookup f4 = some ⟨oc4, od4, .func (PySem.W.fnOf "_law_take" "_law_take" (defArgs s__law_take) (defBody s__law_take) (defScope s__law_take) .none kV4 dc4 pm4 an4 cd4 ct4), sl4⟩)
     (c4 : PySem.W.codeIn K cd4 "_law_take" = true)
     (k4 : PySem.W.keepIn K (.ref f4) = true)
    {f5 : Addr} {od5 an5 : Option Addr} {sl5 : Array (Option Value)} {oc5 kV5 dc5 pm5 cd5 ct5 : Value} (a5 : PySem.W.nsIn K mainGlobals "_law_same" = some (some (.ref f5)))
     (l5 : K.lookup f5 = some ⟨oc5, od5, .func (PySem.W.fnOf "_law_same" "_law_same" (defArgs s__law_same) (defBody s__law_same) (defScope s__law_same) .none kV5 dc5 pm5 an5 cd5 ct5), sl5⟩)
     (c5 : PySem.W.codeIn K cd5 "_law_same" = true)
     (k5 : PySem.W.keepIn K (.ref f5) = true)
    {f6 : Addr} {od6 an6 : Option Addr} {sl6 : Array (Option Value)} {oc6 kV6 dc6 pm6 cd6 ct6 : Value} (a6 : PySem.W.nsIn K mainGlobals "_law_letters" = some (some (.ref f6)))
     (l6 : K.lookup f6 = some ⟨oc6, od6, .func (PySem.W.fnOf "_law_letters" "_law_letters" (defArgs s__law_letters) (defBody s__law_letters) (defScope s__law_letters) .none kV6 dc6 pm6 an6 cd6 ct6), sl6⟩)
     (c6 : PySem.W.codeIn K cd6 "_law_letters" = true)
     (k6 : PySem.W.keepIn K (.ref f6) = true)
    {f7 : Addr} {od7 an7 : Option Addr} {sl7 : Array (Option Value)} {oc7 kV7 dc7 pm7 cd7 ct7 : Value} (a7 : PySem.W.nsIn K mainGlobals "_law_names" = some (some (.ref f7)))
     (l7 : K.lookup f7 = some ⟨oc7, od7, .func (PySem.W.fnOf "_law_names" "_law_names" (defArgs s__law_names) (defBody s__law_names) (defScope s__law_names) .none kV7 dc7 pm7 an7 cd7 ct7), sl7⟩)
     (c7 : PySem.W.codeIn K cd7 "_law_names" = true)
     (k7 : PySem.W.keepIn K (.ref f7) = true)
    {f8 : Addr} {od8 an8 : Option Addr} {sl8 : Array (Option Value)} {oc8 kV8 dc8 pm8 cd8 ct8 : Value} (a8 : PySem.W.nsIn K mainGlobals "_law_any_names" = some (some (.ref f8)))
     (l8 : K.lookup f8 = some ⟨oc8, od8, .func (PySem.W.fnOf "_law_any_names" "_law_any_names" (defArgs s__law_any_names) (defBody s__law_any_names) (defScope s__law_any_names) .none kV8 dc8 pm8 an8 cd8 ct8), sl8⟩)
     (c8 : PySem.W.codeIn K cd8 "_law_any_names" = true)
     (k8 : PySem.W.keepIn K (.ref f8) = true)
    {f9 : Addr} {od9 an9 : Option Addr} {sl9 : Array (Option Value)} {oc9 kV9 dc9 pm9 cd9 ct9 : Value} (a9 : PySem.W.nsIn K mainGlobals "_law_marks" = some (some (.ref f9)))
     (l9 : K.lookup f9 = some ⟨oc9, od9, .func (PySem.W.fnOf "_law_marks" "_law_marks" (defArgs s__law_marks) (defBody s__law_marks) (defScope s__law_marks) .none kV9 dc9 pm9 an9 cd9 ct9), sl9⟩)
     (c9 : PySem.W.codeIn K cd9 "_law_marks" = true)
     (k9 : PySem.W.keepIn K (.ref f9) = true)
    {f10 : Addr} {od10 an10 : Option Addr} {sl10 : Array (Option Value)} {oc10 kV10 dc10 pm10 cd10 ct10 : Value} (a10 : PySem.W.nsIn K mainGlobals "_law_selector" = some (some (.ref f10)))
     (l10 : K.lookup f10 = some ⟨oc10, od10, .func (PySem.W.fnOf "_law_selector" "_law_selector" (defArgs s__law_selector) (defBody s__law_selector) (defScope s__law_selector) .none kV10 dc10 pm10 an10 cd10 ct10), sl10⟩)
     (c10 : PySem.W.codeIn K cd10 "_law_selector" = true)
     (k10 : PySem.W.keepIn K (.ref f10) = true)
    {f11 : Addr} {od11 an11 : Option Addr} {sl11 : Array (Option Value)} {oc11 kV11 dc11 pm11 cd11 ct11 : Value} (a11 : PySem.W.nsIn K mainGlobals "_law_lineage" = some (some (.ref f11)))
     (l11 : K.lookup f11 = some ⟨oc11, od11, .func (PySem.W.fnOf "_law_lineage" "_law_lineage" (defArgs s__law_lineage) (defBody s__law_lineage) (defScope s__law_lineage) .none kV11 dc11 pm11 an11 cd11 ct11), sl11⟩)
     (c11 : PySem.W.codeIn K cd11 "_law_lineage" = true)
     (k11 : PySem.W.keepIn K (.ref f11) = true)
    {f12 : Addr} {od12 an12 : Option Addr} {sl12 : Array (Option Value)} {oc12 kV12 dc12 pm12 cd12 ct12 : Value} (a12 : PySem.W.nsIn K mainGlobals "_law_fits" = some (some (.ref f12)))
     (l12 : K.lookup f12 = some ⟨oc12, od12, .func (PySem.W.fnOf "_law_fits" "_law_fits" (defArgs s__law_fits) (defBody s__law_fits) (defScope s__law_fits) .none kV12 dc12 pm12 an12 cd12 ct12), sl12⟩)
     (c12 : PySem.W.codeIn K cd12 "_law_fits" = true)
     (k12 : PySem.W.keepIn K (.ref f12) = true)
    {f13 : Addr} {od13 an13 : Option Addr} {sl13 : Array (Option Value)} {oc13 kV13 dc13 pm13 cd13 ct13 : Value} (a13 : PySem.W.nsIn K mainGlobals "_law_pair_for" = some (some (.ref f13)))
     (l13 : K.lookup f13 = some ⟨oc13, od13, .func (PySem.W.fnOf "_law_pair_for" "_law_pair_for" (defArgs s__law_pair_for) (defBody s__law_pair_for) (defScope s__law_pair_for) .none kV13 dc13 pm13 an13 cd13 ct13), sl13⟩)
     (c13 : PySem.W.codeIn K cd13 "_law_pair_for" = true)
     (k13 : PySem.W.keepIn K (.ref f13) = true)
    {f14 : Addr} {od14 an14 : Option Addr} {sl14 : Array (Option Value)} {oc14 kV14 dc14 pm14 cd14 ct14 : Value} (a14 : PySem.W.nsIn K mainGlobals "_law_made" = some (some (.ref f14)))
     (l14 : K.lookup f14 = some ⟨oc14, od14, .func (PySem.W.fnOf "_law_made" "_law_made" (defArgs s__law_made) (defBody s__law_made) (defScope s__law_made) .none kV14 dc14 pm14 an14 cd14 ct14), sl14⟩)
     (c14 : PySem.W.codeIn K cd14 "_law_made" = true)
     (k14 : PySem.W.keepIn K (.ref f14) = true)
    {f15 : Addr} {od15 an15 : Option Addr} {sl15 : Array (Option Value)} {oc15 kV15 dc15 pm15 cd15 ct15 : Value} (a15 : PySem.W.nsIn K mainGlobals "_law_laid" = some (some (.ref f15)))
     (l15 : K.lookup f15 = some ⟨oc15, od15, .func (PySem.W.fnOf "_law_laid" "_law_laid" (defArgs s__law_laid) (defBody s__law_laid) (defScope s__law_laid) .none kV15 dc15 pm15 an15 cd15 ct15), sl15⟩)
     (c15 : PySem.W.codeIn K cd15 "_law_laid" = true)
     (k15 : PySem.W.keepIn K (.ref f15) = true)
    {f16 : Addr} {od16 an16 : Option Addr} {sl16 : Array (Option Value)} {oc16 kV16 dc16 pm16 cd16 ct16 : Value} (a16 : PySem.W.nsIn K mainGlobals "law" = some (some (.ref f16)))
     (l16 : K.lookup f16 = some ⟨oc16, od16, .func (PySem.W.fnOf "law" "law" (defArgs s_law) (defBody s_law) (defScope s_law) .none kV16 dc16 pm16 an16 cd16 ct16), sl16⟩)
     (c16 : PySem.W.codeIn K cd16 "law" = true)
     (k16 : PySem.W.keepIn K (.ref f16) = true)
     (z_abs : PySem.W.nsIn K mainGlobals "abs" = some none)
     (z_all : PySem.W.nsIn K mainGlobals "all" = some none)
     (z_bool : PySem.W.nsIn K mainGlobals "bool" = some none)
     (z_dict : PySem.W.nsIn K mainGlobals "dict" = some none)
     (z_int : PySem.W.nsIn K mainGlobals "int" = some none)
     (z_isinstance : PySem.W.nsIn K mainGlobals "isinstance" = some none)
     (z_len : PySem.W.nsIn K mainGlobals "len" = some none)
     (z_list : PySem.W.nsIn K mainGlobals "list" = some none)
     (z_max : PySem.W.nsIn K mainGlobals "max" = some none)
     (z_range : PySem.W.nsIn K mainGlobals "range" = some none)
     (z_sorted : PySem.W.nsIn K mainGlobals "sorted" = some none)
     (z_str : PySem.W.nsIn K mainGlobals "str" = some none)
     (z_tuple : PySem.W.nsIn K mainGlobals "tuple" = some none)
    : ∃ fd : FuncData, (∀ (s : Shared) (v : Value), BindsTo s fd ⟨[v], []⟩ [("_law_script", v)]) ∧ ∀ base : Heap, K.In base → base.Ns mainGlobals mg → FnOk l.prog w K mg base CX0 6 fa fd ["_law_script"] (liftSp K spLaw) := by
  have e := hfa.symm.trans (PySem.W.mg_of X G a16)
  cases e
  have T : Txt K mg := ⟨PySem.W.mg_none_of X G z_abs, PySem.W.mg_none_of X G z_all, PySem.W.mg_none_of X G z_bool, PySem.W.mg_none_of X G z_dict, PySem.W.mg_none_of X G z_int, PySem.W.mg_none_of X G z_isinstance, PySem.W.mg_none_of X G z_len, PySem.W.mg_none_of X G z_list, PySem.W.mg_none_of X G z_max, PySem.W.mg_none_of X G z_range, PySem.W.mg_none_of X G z_sorted, PySem.W.mg_none_of X G z_str, PySem.W.mg_none_of X G z_tuple⟩
  have d_step_fits : DefAt K mg "step_fits" s_step_fits ["step", "pair"] := ⟨_, _, fun_mk (st := s_step_fits) l0 c0 k0, PySem.W.mg_of X G a0, (fun_mk (st := s_step_fits) l0 c0 k0).binds (ps := ["step", "pair"]) fun _ _ _ _ _ _ us hl => match us, hl with | [_, _], _ => rfl⟩
  have d__follows : DefAt K mg "_follows" s__follows ["joint", "ends", "position"] := ⟨_, _, fun_mk (st := s__follows) l1 c1 k1, PySem.W.mg_of X G a1, (fun_mk (st := s__follows) l1 c1 k1).binds (ps := ["joint", "ends", "position"]) fun _ _ _ _ _ _ us hl => match us, hl with | [_, _, _], _ => rfl⟩
  have d_matches : DefAt K mg "matches" s_matches ["selector", "path"] := ⟨_, _, fun_mk (st := s_matches) l2 c2 k2, PySem.W.mg_of X G a2, (fun_mk (st := s_matches) l2 c2 k2).binds (ps := ["selector", "path"]) fun _ _ _ _ _ _ us hl => match us, hl with | [_, _], _ => rfl⟩
  have d__law_pool : DefAt K mg "_law_pool" s__law_pool ["_law_script", "_law_at"] := ⟨_, _, fun_mk (st := s__law_pool) l3 c3 k3, PySem.W.mg_of X G a3, (fun_mk (st := s__law_pool) l3 c3 k3).binds (ps := ["_law_script", "_law_at"]) fun _ _ _ _ _ _ us hl => match us, hl with | [_, _], _ => rfl⟩
  have d__law_take : DefAt K mg "_law_take" s__law_take ["_law_pool_here", "_law_many"] := ⟨_, _, fun_mk (st := s__law_take) l4 c4 k4, PySem.W.mg_of X G a4, (fun_mk (st := s__law_take) l4 c4 k4).binds (ps := ["_law_pool_here", "_law_many"]) fun _ _ _ _ _ _ us hl => match us, hl with | [_, _], _ => rfl⟩
  have d__law_same : DefAt K mg "_law_same" s__law_same ["_law_one", "_law_two"] := ⟨_, _, fun_mk (st := s__law_same) l5 c5 k5, PySem.W.mg_of X G a5, (fun_mk (st := s__law_same) l5 c5 k5).binds (ps := ["_law_one", "_law_two"]) fun _ _ _ _ _ _ us hl => match us, hl with | [_, _], _ => rfl⟩
  have d__law_letters : DefAt K mg "_law_letters" s__law_letters ["_law_pool_here", "_law_many"] := ⟨_, _, fun_mk (st := s__law_letters) l6 c6 k6, PySem.W.mg_of X G a6, (fun_mk (st := s__law_letters) l6 c6 k6).binds (ps := ["_law_pool_here", "_law_many"]) fun _ _ _ _ _ _ us hl => match us, hl with | [_, _], _ => rfl⟩
  have d__law_names : DefAt K mg "_law_names" s__law_names ["_law_pool_here", "_law_many"] := ⟨_, _, fun_mk (st := s__law_names) l7 c7 k7, PySem.W.mg_of X G a7, (fun_mk (st := s__law_names) l7 c7 k7).binds (ps := ["_law_pool_here", "_law_many"]) fun _ _ _ _ _ _ us hl => match us, hl with | [_, _], _ => rfl⟩
  have d__law_any_names : DefAt K mg "_law_any_names" s__law_any_names ["_law_pool_here", "_law_many"] := ⟨_, _, fun_mk (st := s__law_any_names) l8 c8 k8, PySem.W.mg_of X G a8, (fun_mk (st := s__law_any_names) l8 c8 k8).binds (ps := ["_law_pool_here", "_law_many"]) fun _ _ _ _ _ _ us hl => match us, hl with | [_, _], _ => rfl⟩
  have d__law_marks : DefAt K mg "_law_marks" s__law_marks ["_law_pool_here", "_law_names_here"] := ⟨_, _, fun_mk (st := s__law_marks) l9 c9 k9, PySem.W.mg_of X G a9, (fun_mk (st := s__law_marks) l9 c9 k9).binds (ps := ["_law_pool_here", "_law_names_here"]) fun _ _ _ _ _ _ us hl => match us, hl with | [_, _], _ => rfl⟩
  have d__law_selector : DefAt K mg "_law_selector" s__law_selector ["_law_pool_here", "_law_kinds", "_law_marks_here", "_law_longest"] := ⟨_, _, fun_mk (st := s__law_selector) l10 c10 k10, PySem.W.mg_of X G a10, (fun_mk (st := s__law_selector) l10 c10 k10).binds (ps := ["_law_pool_here", "_law_kinds", "_law_marks_here", "_law_longest"]) fun _ _ _ _ _ _ us hl => match us, hl with | [_, _, _, _], _ => rfl⟩
  have d__law_lineage : DefAt K mg "_law_lineage" s__law_lineage ["_law_pool_here", "_law_kinds", "_law_marks_here", "_law_longest"] := ⟨_, _, fun_mk (st := s__law_lineage) l11 c11 k11, PySem.W.mg_of X G a11, (fun_mk (st := s__law_lineage) l11 c11 k11).binds (ps := ["_law_pool_here", "_law_kinds", "_law_marks_here", "_law_longest"]) fun _ _ _ _ _ _ us hl => match us, hl with | [_, _, _, _], _ => rfl⟩
  have d__law_fits : DefAt K mg "_law_fits" s__law_fits ["_law_step", "_law_pair"] := ⟨_, _, fun_mk (st := s__law_fits) l12 c12 k12, PySem.W.mg_of X G a12, (fun_mk (st := s__law_fits) l12 c12 k12).binds (ps := ["_law_step", "_law_pair"]) fun _ _ _ _ _ _ us hl => match us, hl with | [_, _], _ => rfl⟩
  have d__law_pair_for : DefAt K mg "_law_pair_for" s__law_pair_for ["_law_pool_here", "_law_step", "_law_kinds", "_law_marks_here"] := ⟨_, _, fun_mk (st := s__law_pair_for) l13 c13 k13, PySem.W.mg_of X G a13, (fun_mk (st := s__law_pair_for) l13 c13 k13).binds (ps := ["_law_pool_here", "_law_step", "_law_kinds", "_law_marks_here"]) fun _ _ _ _ _ _ us hl => match us, hl with | [_, _, _, _], _ => rfl⟩
  have d__law_made : DefAt K mg "_law_made" s__law_made ["_law_pool_here", "_law_selector_here", "_law_kinds", "_law_marks_here"] := ⟨_, _, fun_mk (st := s__law_made) l14 c14 k14, PySem.W.mg_of X G a14, (fun_mk (st := s__law_made) l14 c14 k14).binds (ps := ["_law_pool_here", "_law_selector_here", "_law_kinds", "_law_marks_here"]) fun _ _ _ _ _ _ us hl => match us, hl with | [_, _, _, _], _ => rfl⟩
  have d__law_laid : DefAt K mg "_law_laid" s__law_laid ["_law_selector_here", "_law_lineage_here", "_law_step", "_law_at"] := ⟨_, _, fun_mk (st := s__law_laid) l15 c15 k15, PySem.W.mg_of X G a15, (fun_mk (st := s__law_laid) l15 c15 k15).binds (ps := ["_law_selector_here", "_law_lineage_here", "_law_step", "_law_at"]) fun _ _ _ _ _ _ us hl => match us, hl with | [_, _, _, _], _ => rfl⟩
  have F16 := fun_mk (st := s_law) l16 c16 k16
  refine ⟨PySem.W.fnOf "law" "law" (defArgs s_law) (defBody s_law) (defScope s_law) .none kV16 dc16 pm16 an16 cd16 ct16, fun s v => .of_eq rfl, fun base _ _ => ?_⟩
  have c_take := (ok__law_take (P := l.prog) (w := w) (base := base) T d__law_take).hd
  have c_pool := ok__law_pool (P := l.prog) (w := w) (base := base) T d__law_pool
  have c_let := (ok__law_letters T c_take d__law_letters).hd
  have c_names := (ok__law_names T c_take c_let d__law_names).hd
  have c_any := (ok__law_any_names T c_take c_let c_names d__law_any_names).hd
  have c_marks := (ok__law_marks T c_take d__law_marks).hd
  have c_sel := (ok__law_selector T c_take c_marks d__law_selector).hd
  have c_lin := (ok__law_lineage T c_take c_marks d__law_lineage).hd
  have c_pf := (ok__law_pair_for T c_take d__law_pair_for).hd
  have c_made := (ok__law_made T c_take c_marks c_pf d__law_made).hd
  have c_fits := (ok__law_fits (P := l.prog) (w := w) (base := base) T d__law_fits).hd
  have c_laid := (ok_laid T c_fits d__law_laid 3).hd
  have c_sf := (ok_step_fits (P := l.prog) (w := w) (base := base) T d_step_fits).hd
  have c_fo := (ok__follows (P := l.prog) (w := w) (base := base) T d__follows).hd
  have c_mat := (ok_matches T c_sf c_fo d_matches).hd
  have c_same := (ok__law_same (P := l.prog) (w := w) (base := base) T ((calNever d__law_same sc__law_same).hd) d__law_same).hd
  exact ok_law T F16 c_pool.hd c_take c_any c_sel c_lin c_made c_laid c_mat c_same
end K14
open PySem PySem.W PyProof.Rows
set_option maxRecDepth 100000 in
set_option maxHeartbeats 0 in
theorem PySem.Challenge.cw_stylepages_k14_selectors_match_holds : PySem.Challenge.rw_stylepages_k14_selectors_match.Holds := by
  w_on; o_law; k_head; (case hw => w_witness2)
  k_fill
  refine L2.walk_of (l := PySem.Challenge.rw_stylepages_k14_selectors_match) (n := 63) (k := 6) (x := "_law_script") (CX := fun _ => L2.CX0) (sp := fun w => Wl.liftSp _ Wl.spLaw) rfl (by decide) rfl ⟨rfl, by decide, by decide⟩ (fun w h Y => PySem.W.kIn_of Y) ?F (fun _ _ a ns hl hO hS => Wl.law_end hl hO hS) (fun _ _ _ _ _ h => h)
  case F =>
    intro w mg fa h KX G hmg
    refine' K14.all_mk KX G hmg ?a0 ?l0 ?c0 ?k0 ?a1 ?l1 ?c1 ?k1 ?a2 ?l2 ?c2 ?k2 ?a3 ?l3 ?c3 ?k3 ?a4 ?l4 ?c4 ?k4 ?a5 ?l5 ?c5 ?k5 ?a6 ?l6 ?c6 ?k6 ?a7 ?l7 ?c7 ?k7 ?a8 ?l8 ?c8 ?k8 ?a9 ?l9 ?c9 ?k9 ?a10 ?l10 ?c10 ?k10 ?a11 ?l11 ?c11 ?k11 ?a12 ?l12 ?c12 ?k12 ?a13 ?l13 ?c13 ?k13 ?a14 ?l14 ?c14 ?k14 ?a15 ?l15 ?c15 ?k15 ?a16 ?l16 ?c16 ?k16 ?z_abs ?z_all ?z_bool ?z_dict ?z_int ?z_isinstance ?z_len ?z_list ?z_max ?z_range ?z_sorted ?z_str ?z_tuple
    (case a0 => k_is)
    (case l0 => k_is)
    (case c0 => k_is)
    (case k0 => k_is)
    (case a1 => k_is)
    (case l1 => k_is)
    (case c1 => k_is)
    (case k1 => k_is)
    (case a2 => k_is)
    (case l2 => k_is)
    (case c2 => k_is)
    (case k2 => k_is)
    (case a3 => k_is)
    (case l3 => k_is)
    (case c3 => k_is)
    (case k3 => k_is)
    (case a4 => k_is)
    (case l4 => k_is)
    (case c4 => k_is)
    (case k4 => k_is)
    (case a5 => k_is)
    (case l5 => k_is)
    (case c5 => k_is)
    (case k5 => k_is)
    (case a6 => k_is)
    (case l6 => k_is)
    (case c6 => k_is)
    (case k6 => k_is)
    (case a7 => k_is)
    (case l7 => k_is)
    (case c7 => k_is)
    (case k7 => k_is)
    (case a8 => k_is)
    (case l8 => k_is)
    (case c8 => k_is)
    (case k8 => k_is)
    (case a9 => k_is)
    (case l9 => k_is)
    (case c9 => k_is)
    (case k9 => k_is)
    (case a10 => k_is)
    (case l10 => k_is)
    (case c10 => k_is)
    (case k10 => k_is)
    (case a11 => k_is)
    (case l11 => k_is)
    (case c11 => k_is)
    (case k11 => k_is)
    (case a12 => k_is)
    (case l12 => k_is)
    (case c12 => k_is)
    (case k12 => k_is)
    (case a13 => k_is)
    (case l13 => k_is)
    (case c13 => k_is)
    (case k13 => k_is)
    (case a14 => k_is)
    (case l14 => k_is)
    (case c14 => k_is)
    (case k14 => k_is)
    (case a15 => k_is)
    (case l15 => k_is)
    (case c15 => k_is)
    (case k15 => k_is)
    (case a16 => k_is)
    (case l16 => k_is)
    (case c16 => k_is)
    (case k16 => k_is)
    (case z_abs => k_is)
    (case z_all => k_is)
    (case z_bool => k_is)
    (case z_dict => k_is)
    (case z_int => k_is)
    (case z_isinstance => k_is)
    (case z_len => k_is)
    (case z_list => k_is)
    (case z_max => k_is)
    (case z_range => k_is)
    (case z_sorted => k_is)
    (case z_str => k_is)
    (case z_tuple => k_is)
#print axioms PySem.Challenge.cw_stylepages_k14_selectors_match_holds
