import PyProof.Rows.All
import Wide.All
import OpenK.AllK
import Wide.FinOn
import HandS.Base
import HandS.Call
import HandS.List
import HandS.Comp
import HandS.Ends
import HandS.Dict
import HandS.Iter
import HandS.Text
import HandS.Words
import HandS.Wide
import HandS.IsInst
import HandS.Exc
import HandS.ExcOwn
import HandS.WordsExc
import HandS.TryOnly
import HandS.Small
import HandS.TupAny
import HandS.More
import HandS.RaiseMore
import PyProof.Rows.StrMul
import HandS.GenList
import HandS.Conv
import HandS.StrMore
import HandS.SlotsOwn
import KE.KTupSum
import HandS.MakeKwOnly
import HandS.ClsMeth
import KE.GoesMore
import HandS.IterNext
import HandS.GenYield
import PySem.Challenge.RW_stylepages_k13_computed_values
set_option Elab.async false
set_option linter.all false
set_option maxRecDepth 100000
set_option maxHeartbeats 2000000
/-! Data-level readings: tuples as values, lists as cells of a store. -/
namespace Wl
open PySem L2

inductive W where
  | non | bl (b : Bool) | int (i : Int) | str (x : Str) | ty (n : String) | ref (a : Addr) | tup (ws : List W) | rl (ws : List W)

/-- a list that nobody writes -/
def RdL (K : PySem.W.Frag) (H : Hp) (a : Addr) (xs : List V) : Prop :=
  (∃ o, H a = some (.frz o (.lst xs))) ∨
    ∃ (o : Obj) (its : Array Value) (n : Nat), K.lookup a = some o ∧ o.cls = .type "list" ∧ o.dict = none ∧ o.data = .seq its n ∧ its.size ≤ sizeLine ∧ Vals xs its.toList
theorem RdL.sq {K : PySem.W.Frag} {H : Hp} {a : Addr} {xs : List V} (h : RdL K H a xs) : SqL K H a xs := by
  rcases h with h | h
  · exact .inl (.inr h)
  · exact .inr h

mutual
def Rep (K : PySem.W.Frag) (H : Hp) : W → V → Prop
  | .non, v => v = .non
  | .bl b, v => v = .bl b
  | .int i, v => v = .int i
  | .str x, v => v = .str x
  | .ty n, v => v = .ty n
  | .ref a, v => v = .ref a
  | .tup ws, v => ∃ a xs, v = .ref a ∧ SqT K H a xs ∧ RepL K H ws xs
  | .rl ws, v => ∃ a xs, v = .ref a ∧ RdL K H a xs ∧ RepL K H ws xs
def RepL (K : PySem.W.Frag) (H : Hp) : List W → List V → Prop
  | [], xs => xs = []
  | w :: ws, xs => ∃ x r, xs = x :: r ∧ Rep K H w x ∧ RepL K H ws r
end

/-- tuples, frozen things stay -/
structure Tk (H H' : Hp) : Prop where
  tup : ∀ a xs, H a = some (.tup xs) → H' a = some (.tup xs)
  frz : ∀ a o u, H a = some (.frz o u) → H' a = some (.frz o u)
theorem Tk.refl (H : Hp) : Tk H H := ⟨fun _ _ h => h, fun _ _ _ h => h⟩
theorem Tk.trans {H H1 H2 : Hp} (a : Tk H H1) (b : Tk H1 H2) : Tk H H2 := ⟨fun x xs h => b.tup x xs (a.tup x xs h), fun x o u h => b.frz x o u (a.frz x o u h)⟩
theorem Tk.new {H : Hp} {p : Addr} {o : HO} (h : H p = none) : Tk H (upd H p o) := ⟨fun a xs e => by rw [upd_ne (ne_of_none e h)]; exact e, fun a ob u e => by rw [upd_ne (ne_of_none e h)]; exact e⟩
theorem Tk.mut {H : Hp} {p : Addr} {o o' : HO} (h : H p = some o) (h1 : ∀ xs, o ≠ .tup xs) (h2 : ∀ ob u, o ≠ .frz ob u) : Tk H (upd H p o') :=
  ⟨fun a xs e => by rw [upd_ne (ne_of e h (fun z => h1 xs z.symm))]; exact e, fun a ob u e => by rw [upd_ne (ne_of e h (fun z => h2 ob u z.symm))]; exact e⟩
theorem Tk.rd {H H' : Hp} (t : Tk H H') {a : Addr} {xs : List V} (h : Rd H a (.tup xs)) : Rd H' a (.tup xs) := by
  rcases h with h | ⟨o, h⟩
  · exact .inl (t.tup a xs h)
  · exact .inr ⟨o, t.frz a o _ h⟩
theorem Tk.sqt {K : PySem.W.Frag} {H H' : Hp} (t : Tk H H') {a : Addr} {xs : List V} (h : SqT K H a xs) : SqT K H' a xs := by
  rcases h with h | h
  · exact .inl (t.rd h)
  · exact .inr h
theorem Tk.rdl {K : PySem.W.Frag} {H H' : Hp} (t : Tk H H') {a : Addr} {xs : List V} (h : RdL K H a xs) : RdL K H' a xs := by
  rcases h with ⟨o, h⟩ | h
  · exact .inl ⟨o, t.frz a o _ h⟩
  · exact .inr h
mutual
theorem Rep.tk {K : PySem.W.Frag} {H H' : Hp} (t : Tk H H') : ∀ (w : W) (v : V), Rep K H w v → Rep K H' w v
  | .non, _, h => h
  | .bl _, _, h => h
  | .int _, _, h => h
  | .str _, _, h => h
  | .ty _, _, h => h
  | .ref _, _, h => h
  | .tup ws, v, h => by
    obtain ⟨a, xs, e, h1, h2⟩ := h
    exact ⟨a, xs, e, t.sqt h1, RepL.tk t ws xs h2⟩
  | .rl ws, v, h => by
    obtain ⟨a, xs, e, h1, h2⟩ := h
    exact ⟨a, xs, e, t.rdl h1, RepL.tk t ws xs h2⟩
theorem RepL.tk {K : PySem.W.Frag} {H H' : Hp} (t : Tk H H') : ∀ (ws : List W) (xs : List V), RepL K H ws xs → RepL K H' ws xs
  | [], _, h => h
  | w :: ws, _, h => by
    obtain ⟨x, r, e, h1, h2⟩ := h
    exact ⟨x, r, e, Rep.tk t w x h1, RepL.tk t ws r h2⟩
end
section
variable {K : PySem.W.Frag} {H : Hp}
theorem RepL.nil : RepL K H [] [] := rfl
theorem RepL.cons {w : W} {ws : List W} {x : V} {xs : List V} (h : Rep K H w x) (t : RepL K H ws xs) : RepL K H (w :: ws) (x :: xs) := ⟨x, xs, rfl, h, t⟩
theorem RepL.length : ∀ {ws : List W} {xs : List V}, RepL K H ws xs → xs.length = ws.length
  | [], _, h => by cases (show _ = [] from h); rfl
  | w :: ws, _, h => by
    obtain ⟨x, r, rfl, _, h2⟩ := h
    rw [List.length_cons, List.length_cons, RepL.length h2]
theorem RepL.get : ∀ {ws : List W} {xs : List V} {i : Nat} {w : W}, RepL K H ws xs → ws[i]? = some w → ∃ x, xs[i]? = some x ∧ Rep K H w x
  | [], _, _, _, _, e => by simp at e
  | _ :: _, _, 0, _, h, e => by
    obtain ⟨x, r, rfl, h1, _⟩ := h
    simp at e; subst e
    exact ⟨x, rfl, h1⟩
  | _ :: _, _, i + 1, _, h, e => by
    obtain ⟨x, r, rfl, _, h2⟩ := h
    obtain ⟨y, e1, e2⟩ := RepL.get (i := i) h2 (by simpa using e)
    exact ⟨y, by simpa using e1, e2⟩
theorem RepL.get' : ∀ {ws : List W} {xs : List V} {i : Nat} {x : V}, RepL K H ws xs → xs[i]? = some x → ∃ w, ws[i]? = some w ∧ Rep K H w x
  | [], _, _, _, h, e => by cases (show _ = [] from h); simp at e
  | _ :: _, _, 0, _, h, e => by
    obtain ⟨x, r, rfl, h1, _⟩ := h
    simp at e; subst e
    exact ⟨_, rfl, h1⟩
  | _ :: _, _, i + 1, _, h, e => by
    obtain ⟨x, r, rfl, _, h2⟩ := h
    obtain ⟨y, e1, e2⟩ := RepL.get' (i := i) h2 (by simpa using e)
    exact ⟨y, by simpa using e1, e2⟩
theorem RepL.append : ∀ {ws zs : List W} {xs ys : List V}, RepL K H ws xs → RepL K H zs ys → RepL K H (ws ++ zs) (xs ++ ys)
  | [], _, _, _, h, t => by cases (show _ = [] from h); exact t
  | _ :: _, _, _, _, h, t => by
    obtain ⟨x, r, rfl, h1, h2⟩ := h
    exact ⟨x, r ++ _, rfl, h1, RepL.append h2 t⟩
theorem RepL.one {w : W} {x : V} (h : Rep K H w x) : RepL K H [w] [x] := .cons h .nil
theorem RepL.take : ∀ {ws : List W} {xs : List V} (n : Nat), RepL K H ws xs → RepL K H (ws.take n) (xs.take n)
  | _, _, 0, _ => by simp; rfl
  | [], _, n + 1, h => by cases (show _ = [] from h); rfl
  | _ :: _, _, n + 1, h => by
    obtain ⟨x, r, rfl, h1, h2⟩ := h
    exact ⟨x, r.take n, rfl, h1, RepL.take n h2⟩
theorem RepL.drop : ∀ {ws : List W} {xs : List V} (n : Nat), RepL K H ws xs → RepL K H (ws.drop n) (xs.drop n)
  | _, _, 0, h => by simpa using h
  | [], _, n + 1, h => by cases (show _ = [] from h); rfl
  | _ :: _, _, n + 1, h => by
    obtain ⟨x, r, rfl, h1, h2⟩ := h
    simpa using RepL.drop n h2
theorem RepL.set {w : W} {x : V} (q : Rep K H w x) : ∀ {ws : List W} {xs : List V} (i : Nat), RepL K H ws xs → RepL K H (ws.set i w) (xs.set i x)
  | [], _, _, h => by cases (show _ = [] from h); rfl
  | _ :: _, _, 0, h => by
    obtain ⟨y, r, rfl, h1, h2⟩ := h
    exact ⟨x, r, rfl, q, h2⟩
  | _ :: _, _, i + 1, h => by
    obtain ⟨y, r, rfl, h1, h2⟩ := h
    exact ⟨y, r.set i x, rfl, h1, RepL.set q i h2⟩
theorem RepL.reverse : ∀ {ws : List W} {xs : List V}, RepL K H ws xs → RepL K H ws.reverse xs.reverse
  | [], _, h => by cases (show _ = [] from h); rfl
  | _ :: _, _, h => by
    obtain ⟨y, r, rfl, h1, h2⟩ := h
    rw [List.reverse_cons, List.reverse_cons]
    exact RepL.append (RepL.reverse h2) (.one h1)
theorem RepL.dropLast : ∀ {ws : List W} {xs : List V}, RepL K H ws xs → RepL K H ws.dropLast xs.dropLast := fun {ws xs} h => by
  rw [List.dropLast_eq_take, List.dropLast_eq_take, h.length]
  exact h.take _
theorem RepL.eraseIdx : ∀ {ws : List W} {xs : List V} (i : Nat), RepL K H ws xs → RepL K H (ws.eraseIdx i) (xs.eraseIdx i) := fun {ws xs} i h => by
  rw [List.eraseIdx_eq_take_drop_succ, List.eraseIdx_eq_take_drop_succ]
  exact (h.take i).append (h.drop (i + 1))
theorem RepL.ints {ns : List Int} : ∀ {xs : List V}, RepL K H (ns.map W.int) xs → xs = ns.map V.int := by
  induction ns with
  | nil => intro xs h; exact h
  | cons n ns ih =>
    intro xs h
    obtain ⟨x, r, rfl, h1, h2⟩ := h
    rw [show x = V.int n from h1, ih h2]
    rfl
theorem RepL.ofInts {ns : List Int} : RepL K H (ns.map W.int) (ns.map V.int) := by
  induction ns with
  | nil => rfl
  | cons n ns ih => exact ⟨_, _, rfl, rfl, ih⟩
theorem RepL.bls {ns : List Bool} : ∀ {xs : List V}, RepL K H (ns.map W.bl) xs → xs = ns.map V.bl := by
  induction ns with
  | nil => intro xs h; exact h
  | cons n ns ih =>
    intro xs h
    obtain ⟨x, r, rfl, h1, h2⟩ := h
    rw [show x = V.bl n from h1, ih h2]
    rfl
theorem RepL.strs {ns : List Str} : ∀ {xs : List V}, RepL K H (ns.map W.str) xs → xs = ns.map V.str := by
  induction ns with
  | nil => intro xs h; exact h
  | cons n ns ih =>
    intro xs h
    obtain ⟨x, r, rfl, h1, h2⟩ := h
    rw [show x = V.str n from h1, ih h2]
    rfl
theorem RepL.ofStrs {ns : List Str} : RepL K H (ns.map W.str) (ns.map V.str) := by
  induction ns with
  | nil => rfl
  | cons n ns ih => exact ⟨_, _, rfl, rfl, ih⟩
end

/-! ### the store -/
inductive Cell where
  | lst (ws : List W)
  | dk (kvs : List (Key × W))
  | ins (C : Addr) (fs : List (Str × W))
def RepKV {κ : Type} (K : PySem.W.Frag) (H : Hp) : List (κ × W) → List (κ × V) → Prop
  | [], ys => ys = []
  | p :: ps, ys => ∃ v r, ys = (p.1, v) :: r ∧ Rep K H p.2 v ∧ RepKV K H ps r
theorem RepKV.tk {κ : Type} {K : PySem.W.Frag} {H H' : Hp} (t : Tk H H') : ∀ (ps : List (κ × W)) (ys : List (κ × V)), RepKV K H ps ys → RepKV K H' ps ys
  | [], _, h => h
  | p :: ps, _, h => by
    obtain ⟨v, r, e, h1, h2⟩ := h
    exact ⟨v, r, e, Rep.tk t _ v h1, RepKV.tk t ps r h2⟩
def CRep (K : PySem.W.Frag) (H : Hp) (a : Addr) : Cell → Prop
  | .lst ws => ∃ xs, H a = some (.lst xs) ∧ RepL K H ws xs
  | .dk kvs => ∃ ys, H a = some (.dK ys) ∧ RepKV K H kvs ys
  | .ins C fs => ∃ dx gs, H a = some (.ins C dx gs) ∧ RepKV K H fs gs
abbrev Sto := Addr → Option Cell
def put (S : Sto) (a : Addr) (c : Cell) : Sto := fun b => if b = a then some c else S b
theorem put_same {S : Sto} {a : Addr} {c : Cell} : put S a c a = some c := by unfold put; rw [if_pos rfl]
theorem put_ne {S : Sto} {a b : Addr} {c : Cell} (h : b ≠ a) : put S a c b = S b := by unfold put; rw [if_neg h]
theorem put_put {S : Sto} {a : Addr} {c d : Cell} : put (put S a c) a d = put S a d := by
  funext b; unfold put; split <;> rfl
theorem put_comm {S : Sto} {a b : Addr} {c d : Cell} (h : a ≠ b) : put (put S a c) b d = put (put S b d) a c := by
  funext z; unfold put
  by_cases h1 : z = b
  · rw [if_pos h1]
    by_cases h2 : z = a
    · exact absurd (h2.symm.trans h1) h
    · rw [if_neg h2, if_pos h1]
  · rw [if_neg h1]
    by_cases h2 : z = a
    · rw [if_pos h2, if_pos h2]
    · rw [if_neg h2, if_neg h2, if_neg h1]
theorem put_self {S : Sto} {a : Addr} {c : Cell} (h : S a = some c) : put S a c = S := by
  funext z; unfold put
  by_cases h2 : z = a
  · rw [if_pos h2, h2, h]
  · rw [if_neg h2]
/-- a smaller store -/
def Sub (S S' : Sto) : Prop := ∀ a c, S a = some c → S' a = some c
theorem Sub.refl (S : Sto) : Sub S S := fun _ _ h => h
theorem Sub.trans {S S1 S2 : Sto} (a : Sub S S1) (b : Sub S1 S2) : Sub S S2 := fun x c h => b x c (a x c h)
theorem Sub.new {S : Sto} {p : Addr} {c : Cell} (h : S p = none) : Sub S (put S p c) := fun a d e => by
  by_cases q : a = p
  · rw [q, h] at e; cases e
  · rw [put_ne q]; exact e
theorem Sub.put {S S' : Sto} {p : Addr} {c : Cell} (h : Sub S S') : Sub (put S p c) (put S' p c) := fun a d e => by
  by_cases q : a = p
  · rw [q, put_same] at e ⊢; exact e
  · rw [put_ne q] at e ⊢; exact h a d e
/-- new in the greater, not spoken of in the smaller -/
theorem Sub.put_new {S S' : Sto} {p : Addr} {c : Cell} (h : Sub S S') (n : S p = none) : Sub S (Wl.put S' p c) := fun a d e => by
  by_cases q : a = p
  · rw [q, n] at e; cases e
  · rw [put_ne q]; exact h a d e
theorem Sub.free {S S' : Sto} {p : Addr} (h : Sub S S') (n : S' p = none) : S p = none := by
  cases q : S p with
  | none => rfl
  | some c => rw [h p c q] at n; cases n
def HRep (K : PySem.W.Frag) (H : Hp) (S : Sto) : Prop := ∀ a c, S a = some c → CRep K H a c
theorem CRep.some {K : PySem.W.Frag} {H : Hp} {a : Addr} {c : Cell} (h : CRep K H a c) : ∃ o, H a = some o ∧ (∀ xs, o ≠ .tup xs) ∧ (∀ ob u, o ≠ .frz ob u) := by
  cases c with
  | lst ws => obtain ⟨xs, e, _⟩ := h; exact ⟨_, e, fun _ z => (by cases z), fun _ _ z => (by cases z)⟩
  | dk ws => obtain ⟨xs, e, _⟩ := h; exact ⟨_, e, fun _ z => (by cases z), fun _ _ z => (by cases z)⟩
  | ins C ws => obtain ⟨dx, xs, e, _⟩ := h; exact ⟨_, e, fun _ z => (by cases z), fun _ _ z => (by cases z)⟩
theorem CRep.tk {K : PySem.W.Frag} {H H' : Hp} {a : Addr} {c : Cell} (t : Tk H H') (e : H' a = H a) (h : CRep K H a c) : CRep K H' a c := by
  cases c with
  | lst ws => obtain ⟨xs, q, r⟩ := h; exact ⟨xs, by rw [e]; exact q, RepL.tk t _ _ r⟩
  | dk ws => obtain ⟨xs, q, r⟩ := h; exact ⟨xs, by rw [e]; exact q, RepKV.tk t _ _ r⟩
  | ins C ws => obtain ⟨dx, xs, q, r⟩ := h; exact ⟨dx, xs, by rw [e]; exact q, RepKV.tk t _ _ r⟩
section
variable {K : PySem.W.Frag} {H H' : Hp} {S S' : Sto} {p : Addr} {o : HO} {c : Cell}
theorem HRep.fresh (h : HRep K H S) (n : H p = none) : S p = none := by
  cases q : S p with
  | none => rfl
  | some c =>
    obtain ⟨o, e, _⟩ := (h p c q).some
    rw [n] at e; cases e
theorem HRep.sub (h : HRep K H S') (s : Sub S S') : HRep K H S := fun a c e => h a c (s a c e)
theorem HRep.laid (h : HRep K H S) (n : H p = none) : HRep K (upd H p o) S := fun a c e => by
  obtain ⟨u, q, _⟩ := (h a c e).some
  exact (h a c e).tk (Tk.new n) (upd_ne (ne_of_none q n))
theorem HRep.new (h : HRep K H S) (n : H p = none) (hc : CRep K (upd H p o) p c) : HRep K (upd H p o) (put S p c) := fun a d e => by
  by_cases q : a = p
  · subst q; rw [put_same] at e; cases e; exact hc
  · rw [put_ne q] at e; exact h.laid n a d e
theorem HRep.mut {c' : Cell} (h : HRep K H S) (e : S p = some c) (hc : CRep K (upd H p o) p c') : Tk H (upd H p o) ∧ HRep K (upd H p o) (put S p c') := by
  obtain ⟨u, q, h1, h2⟩ := (h p c e).some
  have t : Tk H (upd H p o) := Tk.mut q h1 h2
  refine ⟨t, fun a d z => ?_⟩
  by_cases y : a = p
  · subst y; rw [put_same] at z; cases z; exact hc
  · rw [put_ne y] at z
    exact (h a d z).tk t (upd_ne y)
end

/-! ### the frame -/
abbrev StW := List (Option W)
structure SRep (K : PySem.W.Frag) (B H : Hp) (σ : L2.St) (ρ : StW) : Prop where
  bs : Tk B H
  len : σ.length = ρ.length
  at_ : ∀ (i : Nat) (w : W), ρ[i]? = some (some w) → ∃ v, σ[i]? = some (some v) ∧ Rep K H w v
section
variable {K : PySem.W.Frag} {B H H' : Hp} {σ : L2.St} {ρ : StW}
theorem SRep.tk (h : SRep K B H σ ρ) (t : Tk H H') : SRep K B H' σ ρ := ⟨h.bs.trans t, h.len, fun i w e => by
  obtain ⟨v, e1, e2⟩ := h.at_ i w e
  exact ⟨v, e1, Rep.tk t w v e2⟩⟩
theorem SRep.set {w : W} {v : V} (h : SRep K B H σ ρ) (i : Nat) (r : Rep K H w v) : SRep K B H (σ.set i (some v)) (ρ.set i (some w)) := ⟨h.bs, by rw [List.length_set, List.length_set, h.len], fun j z e => by
  by_cases q : i = j
  · subst q
    by_cases hl : i < ρ.length
    · rw [List.getElem?_set_self hl] at e
      cases e
      exact ⟨v, List.getElem?_set_self (by rw [h.len]; exact hl), r⟩
    · rw [List.getElem?_eq_none (by rw [List.length_set]; omega)] at e
      cases e
  · rw [List.getElem?_set_ne q] at e ⊢
    exact h.at_ j z e⟩
theorem SRep.init {N : List Str} {ws : List W} {vs : List V} (r : RepL K H ws vs) : SRep K H H (L2.start N vs) (ws.map some ++ List.replicate (N.length - ws.length) none) := by
  have hl := r.length
  refine ⟨Tk.refl H, by unfold L2.start; simp [hl], fun i w e => ?_⟩
  unfold L2.start
  by_cases h : i < ws.length
  · rw [List.getElem?_append_left (by simpa using h), List.getElem?_map] at e
    cases q : ws[i]? with
    | none => rw [q] at e; cases e
    | some z =>
      rw [q] at e
      have e' : z = w := by injection e with e; injection e
      subst e'
      obtain ⟨x, hx, rx⟩ := r.get q
      refine ⟨x, ?_, rx⟩
      rw [List.getElem?_append_left (by simp [hl]; exact h), List.getElem?_map, hx]
      rfl
  · rw [List.getElem?_append_right (by simpa using h), List.getElem?_replicate] at e
    split at e <;> cases e
end
/-- the frame at a def's entry -/
def startW (N : List Str) (ws : List W) : StW := ws.map some ++ List.replicate (N.length - ws.length) none

/-! ### readings over data -/
abbrev WK := W → Sto → Prop
abbrev TEW := StW → Sto → WK → Prop
abbrev TTW := StW → Sto → (Bool → Sto → Prop) → Prop
abbrev TAW := StW → Sto → (List W → Sto → Prop) → Prop
abbrev TOW := StW → Sto → (Option Int → Sto → Prop) → Prop
abbrev RW2 := W → W → Sto → WK → Prop
abbrev RW1 := W → Sto → WK → Prop
abbrev RWC := List W → Sto → WK → Prop
structure EndsW where
  nx : StW → Sto → Prop
  rt : WK
  bk : StW → Sto → Prop := fun _ _ => False
  ct : StW → Sto → Prop := fun _ _ => False
abbrev TSW := EndsW → StW → Sto → Prop

def PoE (K : PySem.W.Frag) (H : Hp) (Q : VK) (Qw : WK) : Prop := ∀ v H' w S', Tk H H' → HRep K H' S' → Rep K H' w v → Qw w S' → Q v H'
def PoT (K : PySem.W.Frag) (H : Hp) (Q : Bool → Hp → Prop) (Qw : Bool → Sto → Prop) : Prop := ∀ b H' S', Tk H H' → HRep K H' S' → Qw b S' → Q b H'
def PoA (K : PySem.W.Frag) (H : Hp) (Q : List V → Hp → Prop) (Qw : List W → Sto → Prop) : Prop := ∀ vs H' ws S', Tk H H' → HRep K H' S' → RepL K H' ws vs → Qw ws S' → Q vs H'
def PoO (K : PySem.W.Frag) (H : Hp) (Q : Option Int → Hp → Prop) (Qw : Option Int → Sto → Prop) : Prop := ∀ b H' S', Tk H H' → HRep K H' S' → Qw b S' → Q b H'
def PoS (K : PySem.W.Frag) (B H : Hp) (Q : L2.St → Hp → Prop) (Qw : StW → Sto → Prop) : Prop := ∀ σ' H' ρ' S', Tk H H' → SRep K B H' σ' ρ' → HRep K H' S' → Qw ρ' S' → Q σ' H'
theorem PoE.tk {K : PySem.W.Frag} {H H1 : Hp} {Q : VK} {Qw : WK} (h : PoE K H Q Qw) (t : Tk H H1) : PoE K H1 Q Qw := fun v H' w S' t' => h v H' w S' (t.trans t')
theorem PoT.tk {K : PySem.W.Frag} {H H1 : Hp} {Q : Bool → Hp → Prop} {Qw : Bool → Sto → Prop} (h : PoT K H Q Qw) (t : Tk H H1) : PoT K H1 Q Qw := fun v H' S' t' => h v H' S' (t.trans t')
theorem PoA.tk {K : PySem.W.Frag} {H H1 : Hp} {Q : List V → Hp → Prop} {Qw : List W → Sto → Prop} (h : PoA K H Q Qw) (t : Tk H H1) : PoA K H1 Q Qw := fun v H' w S' t' => h v H' w S' (t.trans t')
theorem PoO.tk {K : PySem.W.Frag} {H H1 : Hp} {Q : Option Int → Hp → Prop} {Qw : Option Int → Sto → Prop} (h : PoO K H Q Qw) (t : Tk H H1) : PoO K H1 Q Qw := fun v H' S' t' => h v H' S' (t.trans t')
theorem PoS.tk {K : PySem.W.Frag} {B H H1 : Hp} {Q : L2.St → Hp → Prop} {Qw : StW → Sto → Prop} (h : PoS K B H Q Qw) (t : Tk H H1) : PoS K B H1 Q Qw := fun v H' w S' t' => h v H' w S' (t.trans t')
section
variable {K : PySem.W.Frag} {H H1 : Hp} {S : Sto} {Q : VK} {Qw : WK}
theorem PoE.int {i : Int} (po : PoE K H Q Qw) (t : Tk H H1) (hh : HRep K H1 S) (q : Qw (.int i) S) : Q (.int i) H1 := po _ H1 (.int i) S t hh rfl q
theorem PoE.str {i : Str} (po : PoE K H Q Qw) (t : Tk H H1) (hh : HRep K H1 S) (q : Qw (.str i) S) : Q (.str i) H1 := po _ H1 (.str i) S t hh rfl q
theorem PoE.bl {i : Bool} (po : PoE K H Q Qw) (t : Tk H H1) (hh : HRep K H1 S) (q : Qw (.bl i) S) : Q (.bl i) H1 := po _ H1 (.bl i) S t hh rfl q
theorem PoE.non (po : PoE K H Q Qw) (t : Tk H H1) (hh : HRep K H1 S) (q : Qw .non S) : Q .non H1 := po _ H1 .non S t hh rfl q
theorem PoE.ref {a : Addr} (po : PoE K H Q Qw) (t : Tk H H1) (hh : HRep K H1 S) (q : Qw (.ref a) S) : Q (.ref a) H1 := po _ H1 (.ref a) S t hh rfl q
theorem PoE.tup {a : Addr} {xs : List V} {ws : List W} (po : PoE K H Q Qw) (t : Tk H H1) (hh : HRep K H1 S) (h : SqT K H1 a xs) (r : RepL K H1 ws xs) (q : Qw (.tup ws) S) : Q (.ref a) H1 := po _ H1 (.tup ws) S t hh ⟨a, xs, rfl, h, r⟩ q
/-- a new list -/
theorem PoE.nlst {p : Addr} {xs : List V} {ws : List W} (po : PoE K H Q Qw) (hp : H p = none) (hh : HRep K H S) (r : RepL K H ws xs) (q : ∀ p, S p = none → Qw (.ref p) (Wl.put S p (.lst ws))) : Q (.ref p) (upd H p (.lst xs)) :=
  po.ref (Tk.new hp) (hh.new (c := .lst ws) hp ⟨xs, upd_same, RepL.tk (Tk.new hp) _ _ r⟩) (q p (hh.fresh hp))
theorem PoE.ntup {p : Addr} {xs : List V} {ws : List W} (po : PoE K H Q Qw) (hp : H p = none) (hh : HRep K H S) (r : RepL K H ws xs) (q : Qw (.tup ws) S) : Q (.ref p) (upd H p (.tup xs)) :=
  po.tup (Tk.new hp) (hh.laid hp) (SqT.of upd_same) (RepL.tk (Tk.new hp) _ _ r) q
end
structure PoD (K : PySem.W.Frag) (B H : Hp) (D : Ends) (Dw : EndsW) : Prop where
  nx : PoS K B H D.nx Dw.nx
  bk : PoS K B H D.bk Dw.bk
  ct : PoS K B H D.ct Dw.ct
  rt : PoE K H D.rt Dw.rt
theorem PoD.tk {K : PySem.W.Frag} {B H H1 : Hp} {D : Ends} {Dw : EndsW} (h : PoD K B H D Dw) (t : Tk H H1) : PoD K B H1 D Dw := ⟨h.nx.tk t, h.bk.tk t, h.ct.tk t, h.rt.tk t⟩

class LE (K : PySem.W.Frag) (B : Hp) (t : TE) (tw : outParam TEW) : Prop where
  l : ∀ σ H ρ S Q Qw, SRep K B H σ ρ → HRep K H S → tw ρ S Qw → PoE K H Q Qw → t σ H Q
class LT (K : PySem.W.Frag) (B : Hp) (t : TT) (tw : outParam TTW) : Prop where
  l : ∀ σ H ρ S Q Qw, SRep K B H σ ρ → HRep K H S → tw ρ S Qw → PoT K H Q Qw → t σ H Q
class LA (K : PySem.W.Frag) (B : Hp) (t : TA) (tw : outParam TAW) : Prop where
  l : ∀ σ H ρ S Q Qw, SRep K B H σ ρ → HRep K H S → tw ρ S Qw → PoA K H Q Qw → t σ H Q
class LO (K : PySem.W.Frag) (B : Hp) (t : TO) (tw : outParam TOW) : Prop where
  l : ∀ σ H ρ S Q Qw, SRep K B H σ ρ → HRep K H S → tw ρ S Qw → PoO K H Q Qw → t σ H Q
class LS (K : PySem.W.Frag) (B : Hp) (t : TS) (tw : outParam TSW) : Prop where
  l : ∀ σ H ρ S D Dw, SRep K B H σ ρ → HRep K H S → tw Dw ρ S → PoD K B H D Dw → t D σ H
class L2R (K : PySem.W.Frag) (r : R2) (rw : outParam RW2) : Prop where
  l : ∀ H S x y wx wy Q Qw, HRep K H S → Rep K H wx x → Rep K H wy y → rw wx wy S Qw → PoE K H Q Qw → r x y H Q
class L1R (K : PySem.W.Frag) (r : V → Hp → VK → Prop) (rw : outParam RW1) : Prop where
  l : ∀ H S x wx Q Qw, HRep K H S → Rep K H wx x → rw wx S Qw → PoE K H Q Qw → r x H Q
class LCR (K : PySem.W.Frag) (r : List V → Hp → VK → Prop) (rw : outParam RWC) : Prop where
  l : ∀ H S xs ws Q Qw, HRep K H S → RepL K H ws xs → rw ws S Qw → PoE K H Q Qw → r xs H Q
class LMR (K : PySem.W.Frag) (r : V → List V → Hp → VK → Prop) (rw : outParam (W → List W → Sto → WK → Prop)) : Prop where
  l : ∀ H S x wx xs ws Q Qw, HRep K H S → Rep K H wx x → RepL K H ws xs → rw wx ws S Qw → PoE K H Q Qw → r x xs H Q
abbrev TGW := W → StW → Sto → (StW → Sto → Prop) → Prop
abbrev TGWs := List W → StW → Sto → (StW → Sto → Prop) → Prop
class LG (K : PySem.W.Frag) (B : Hp) (g : TG) (gw : outParam TGW) : Prop where
  l : ∀ v w σ H ρ S Q Qw, Rep K H w v → SRep K B H σ ρ → HRep K H S → gw w ρ S Qw → PoS K B H Q Qw → g v σ H Q
class LGs (K : PySem.W.Frag) (B : Hp) (g : TGs) (gw : outParam TGWs) : Prop where
  l : ∀ v w σ H ρ S Q Qw, RepL K H w v → SRep K B H σ ρ → HRep K H S → gw w ρ S Qw → PoS K B H Q Qw → g v σ H Q
end Wl
set_option Elab.async false
set_option linter.all false
set_option maxRecDepth 100000
set_option maxHeartbeats 2000000
namespace Wl
open PySem L2
variable {K : PySem.W.Frag} {B : Hp}

/-! ### names, constants -/
class KR (K : PySem.W.Frag) (v : V) (w : outParam W) : Prop where
  r : ∀ H, Rep K H w v
instance kr_non : KR K .non .non := ⟨fun _ => rfl⟩
instance kr_bl {b : Bool} : KR K (.bl b) (.bl b) := ⟨fun _ => rfl⟩
instance kr_int {i : Int} : KR K (.int i) (.int i) := ⟨fun _ => rfl⟩
instance kr_str {x : Str} : KR K (.str x) (.str x) := ⟨fun _ => rfl⟩
instance kr_ty {n : String} : KR K (.ty n) (.ty n) := ⟨fun _ => rfl⟩

def rdVar (o : Option (Option W)) (S : Sto) (Q : WK) : Prop := match o with
  | some (some w) => Q w S
  | _ => False
def wVar (i : Nat) : TEW := fun ρ S Q => rdVar ρ[i]? S Q
def wC (w : W) : TEW := fun _ S Q => Q w S
instance le_var {i : Nat} : LE K B (tVar i) (wVar i) := ⟨fun σ H ρ S Q Qw hs hh q po => by
  obtain ⟨w, e, q⟩ : ∃ w, ρ[i]? = some (some w) ∧ Qw w S := by
    unfold wVar rdVar at q
    split at q
    · rename_i w e
      exact ⟨w, e, q⟩
    · exact q.elim
  obtain ⟨v, e1, r⟩ := hs.at_ i w e
  exact ⟨v, e1, po v H w S (Tk.refl H) hh r q⟩⟩
instance le_c {v : V} {w : W} [k : KR K v w] : LE K B (tC v) (wC w) := ⟨fun σ H ρ S Q Qw _ hh q po => po v H w S (Tk.refl H) hh (k.r H) q⟩

/-! ### operators -/
def wOp (r : RW2) (ta tb : TEW) : TEW := fun ρ S Q => ta ρ S fun x S1 => tb ρ S1 fun y S2 => r x y S2 Q
def wUn (r : RW1) (ta : TEW) : TEW := fun ρ S Q => ta ρ S fun x S1 => r x S1 Q
instance le_op {r : R2} {ta tb : TE} {rw : RW2} {wa wb : TEW} [h : L2R K r rw] [a : LE K B ta wa] [b : LE K B tb wb] : LE K B (tOp r ta tb) (wOp rw wa wb) := ⟨fun σ H ρ S Q Qw hs hh q po =>
  a.l σ H ρ S _ _ hs hh q fun x H1 wx S1 t1 hh1 r1 q1 => b.l σ H1 ρ S1 _ _ (hs.tk t1) hh1 q1 fun y H2 wy S2 t2 hh2 r2 q2 =>
    h.l H2 S2 x y wx wy Q Qw hh2 (Rep.tk t2 _ _ r1) r2 q2 (po.tk (t1.trans t2))⟩
instance le_un {r : V → Hp → VK → Prop} {ta : TE} {rw : RW1} {wa : TEW} [h : L1R K r rw] [a : LE K B ta wa] : LE K B (tUn r ta) (wUn rw wa) := ⟨fun σ H ρ S Q Qw hs hh q po =>
  a.l σ H ρ S _ _ hs hh q fun x H1 wx S1 t1 hh1 r1 q1 => h.l H1 S1 x wx Q Qw hh1 r1 q1 (po.tk t1)⟩

/-! a + b -/
def rAddA (K : PySem.W.Frag) : R2 := fun x y H Q => rI0 (fun i j => .int (i + j)) x y H Q ∨ (∃ i j, x = .str i ∧ y = .str j ∧ i.length + j.length ≤ sizeLine ∧ Q (.str (i ++ j)) H) ∨ rCatT K x y H Q ∨ rCat x y H Q
theorem op_addA {X : Cx} : OpR X (binaryOp .Add) (rAddA X.K) := by
  intro pins s σ H x y v u Q I rx ry h
  rcases h with h | h | h | h
  · exact op_add pins s σ H x y v u Q I rx ry h
  · exact op_add_str pins s σ H x y v u Q I rx ry h
  · exact op_catT pins s σ H x y v u Q I rx ry h
  · exact op_cat pins s σ H x y v u Q I rx ry h
def wAdd : RW2 := fun x y S Q => match x, y with
  | .int i, .int j => Q (.int (i + j)) S
  | .str i, .str j => i.length + j.length ≤ sizeLine ∧ Q (.str (i ++ j)) S
  | .tup a, .tup b => a ≠ [] ∧ a.length + b.length ≤ sizeLine ∧ Q (.tup (a ++ b)) S
  | .ref a, .ref b => ∃ xs ys, S a = some (.lst xs) ∧ S b = some (.lst ys) ∧ xs.length + ys.length ≤ sizeLine ∧ ∀ p, S p = none → Q (.ref p) (put S p (.lst (xs ++ ys)))
  | _, _ => False
instance l2_add : L2R K (rAddA K) wAdd := ⟨fun H S x y wx wy Q Qw hh rx ry q po => by
  cases wx <;> cases wy <;> try exact q.elim
  · cases (show x = _ from rx); cases (show y = _ from ry)
    exact .inl ⟨_, _, rfl, rfl, po.int (Tk.refl H) hh q⟩
  · cases (show x = _ from rx); cases (show y = _ from ry)
    exact .inr (.inl ⟨_, _, rfl, rfl, q.1, po.str (Tk.refl H) hh q.2⟩)
  · cases (show x = _ from rx); cases (show y = _ from ry)
    obtain ⟨xs, ys, e1, e2, hl, q⟩ := q
    obtain ⟨as, h1, r1⟩ := hh _ _ e1
    obtain ⟨bs, h2, r2⟩ := hh _ _ e2
    refine .inr (.inr (.inr ⟨_, _, as, bs, rfl, rfl, h1, h2, by rw [r1.length, r2.length]; exact hl, fun p hp => ?_⟩))
    exact po.nlst hp hh (r1.append r2) q
  · obtain ⟨a, as, rfl, h1, r1⟩ := (show ∃ a xs, x = .ref a ∧ _ from rx)
    obtain ⟨b, bs, rfl, h2, r2⟩ := (show ∃ a xs, y = .ref a ∧ _ from ry)
    obtain ⟨hn, hl, q⟩ := q
    refine .inr (.inr (.inl ⟨a, b, as, bs, rfl, rfl, h1, h2, fun z => ?_, by rw [r1.length, r2.length]; exact hl, fun z => ?_, fun z p hp => ?_⟩))
    · subst z
      have := r1.length
      exact hn (List.length_eq_zero_iff.mp (by simpa using this.symm))
    · subst z
      have e : _ = [] := List.length_eq_zero_iff.mp (by simpa using (r2.length).symm)
      rw [e, List.append_nil] at q
      exact po.tup (Tk.refl H) hh h1 r1 q
    · exact po.ntup hp hh (r1.append r2) q⟩

/-! ints -/
def wII (f : Int → Int → Int) : RW2 := fun x y S Q => match x, y with
  | .int i, .int j => Q (.int (f i j)) S
  | _, _ => False
def wIC (C : Int → Int → Prop) (f : Int → Int → Int) : RW2 := fun x y S Q => match x, y with
  | .int i, .int j => C i j ∧ Q (.int (f i j)) S
  | _, _ => False
instance l2_ii {f : Int → Int → Int} : L2R K (rI0 fun i j => .int (f i j)) (wII f) := ⟨fun H S x y wx wy Q Qw hh rx ry q po => by
  cases wx <;> cases wy <;> try exact q.elim
  cases (show x = _ from rx); cases (show y = _ from ry)
  exact ⟨_, _, rfl, rfl, po.int (Tk.refl H) hh q⟩⟩
instance l2_ic {C : Int → Int → Prop} {f : Int → Int → Int} : L2R K (rI C fun i j => .int (f i j)) (wIC C f) := ⟨fun H S x y wx wy Q Qw hh rx ry q po => by
  cases wx <;> cases wy <;> try exact q.elim
  cases (show x = _ from rx); cases (show y = _ from ry)
  exact ⟨_, _, rfl, rfl, q.1, po.int (Tk.refl H) hh q.2⟩⟩
def CMulA (i j : Int) : Prop := CMul i j ∨ CMulW i j
def CDivA (i j : Int) : Prop := CDiv i j ∨ CDivW i j
theorem op_mulA {X : Cx} : OpR X (binaryOp .Mult) (rI CMulA fun i j => .int (i * j)) := by
  rintro pins s σ H x y v u Q I rx ry ⟨i, j, e1, e2, h | h, q⟩
  · exact op_mul pins s σ H x y v u Q I rx ry ⟨i, j, e1, e2, h, q⟩
  · exact op_mulW pins s σ H x y v u Q I rx ry ⟨i, j, e1, e2, h, q⟩
theorem op_fdivA {X : Cx} : OpR X (binaryOp .FloorDiv) (rI CDivA fun i j => .int (i / j)) := by
  rintro pins s σ H x y v u Q I rx ry ⟨i, j, e1, e2, h | h, q⟩
  · exact op_fdiv pins s σ H x y v u Q I rx ry ⟨i, j, e1, e2, h, q⟩
  · exact op_fdivW pins s σ H x y v u Q I rx ry ⟨i, j, e1, e2, h, q⟩
def wNeg : RW1 := fun x S Q => match x with
  | .int i => Q (.int (-i)) S
  | _ => False
instance l1_neg : L1R K (rU fun i => .int (-i)) wNeg := ⟨fun H S x wx Q Qw hh rx q po => by
  cases wx <;> try exact q.elim
  cases (show x = _ from rx)
  exact ⟨_, rfl, po.int (Tk.refl H) hh q⟩⟩

/-! ### comparisons -/
mutual
def datW : W → Bool
  | .non => true | .bl _ => true | .int _ => true | .str _ => true
  | .tup ws => datWs ws | .rl ws => datWs ws
  | .ref _ => false | .ty _ => false
def datWs : List W → Bool
  | [] => true
  | w :: ws => datW w && datWs ws
end
mutual
def toD : W → PyData
  | .non => .none | .bl b => .bool b | .int i => .int i | .str x => .str x
  | .tup ws => .tuple (toDs ws) | .rl ws => .list (toDs ws)
  | .ref _ => .none | .ty _ => .none
def toDs : List W → List PyData
  | [] => []
  | w :: ws => toD w :: toDs ws
end
mutual
theorem dp_of {H : Hp} : ∀ (w : W) (v : V), datW w = true → Rep K H w v → Dp K H v (toD w)
  | .non, _, _, h => by cases (show _ = _ from h); exact .non
  | .bl b, _, _, h => by cases (show _ = _ from h); exact .bl b
  | .int i, _, _, h => by cases (show _ = _ from h); exact .int i
  | .str x, _, _, h => by cases (show _ = _ from h); exact .str x
  | .tup ws, _, d, h => by
    obtain ⟨a, xs, rfl, h1, h2⟩ := h
    exact .tup h1 (dps_of ws xs (by unfold datW at d; exact d) h2)
  | .rl ws, _, d, h => by
    obtain ⟨a, xs, rfl, h1, h2⟩ := h
    exact .lst h1.sq (dps_of ws xs (by unfold datW at d; exact d) h2)
  | .ref _, _, d, _ => by unfold datW at d; cases d
  | .ty _, _, d, _ => by unfold datW at d; cases d
theorem dps_of {H : Hp} : ∀ (ws : List W) (xs : List V), datWs ws = true → RepL K H ws xs → DpAll K H xs (toDs ws)
  | [], _, _, h => by cases (show _ = [] from h); exact .nil
  | w :: ws, _, d, h => by
    obtain ⟨x, r, rfl, h1, h2⟩ := h
    unfold datWs at d
    rw [Bool.and_eq_true] at d
    exact .cons (dp_of w x d.1 h1) (dps_of ws r d.2 h2)
end
def rEqA (K : PySem.W.Frag) : R2 := fun x y H Q => rEq x y H Q ∨ rEqD K x y H Q
def rNeA (K : PySem.W.Frag) : R2 := fun x y H Q => rNe x y H Q ∨ rNeD K x y H Q
theorem op_eqA {X : Cx} (hu : X.A.units + 64 < cLine) : OpR X (compareOp .Eq) (rEqA X.K) := by
  intro pins s σ H x y v u Q I rx ry h
  rcases h with h | h
  · exact op_eq pins s σ H x y v u Q I rx ry h
  · exact op_eqD hu pins s σ H x y v u Q I rx ry h
theorem op_neA {X : Cx} (hu : X.A.units + 64 < cLine) : OpR X (compareOp .NotEq) (rNeA X.K) := by
  intro pins s σ H x y v u Q I rx ry h
  rcases h with h | h
  · exact op_ne pins s σ H x y v u Q I rx ry h
  · exact op_neD hu pins s σ H x y v u Q I rx ry h
def shW (x : W) : Prop := datW x = true ∧ SeqAt.shaped (toD x) = true
/-- a == b: the answer goes to k -/
def wEqK (x y : W) (S : Sto) (k : Bool → Prop) : Prop := match x, y with
  | .int i, .int j => k (decide (i = j))
  | .str i, .str j => k (decide (i = j))
  | .bl i, .bl j => k (decide (i = j))
  | .non, .non => k true
  | .non, .int _ => k false
  | .int _, .non => k false
  | .non, .str _ => k false
  | .str _, .non => k false
  | .non, .bl _ => k false
  | .bl _, .non => k false
  | .int _, .str _ => k false
  | .str _, .int _ => k false
  | .ref a, .ref b => ∃ xs ys, S a = some (.lst xs) ∧ S b = some (.lst ys) ∧ shW (.rl xs) ∧ shW (.rl ys) ∧ k (PyData.eqvAll (toDs xs) (toDs ys))
  | x, y => shW x ∧ shW y ∧ k (PyData.eqv (toD x) (toD y))
def wEq : RW2 := fun x y S Q => wEqK x y S fun b => Q (.bl b) S
def wNe : RW2 := fun x y S Q => wEqK x y S fun b => Q (.bl (!b)) S
theorem eqK_of {H : Hp} {S : Sto} {x y : V} {wx wy : W} {k : Bool → Prop} (hh : HRep K H S) (rx : Rep K H wx x) (ry : Rep K H wy y) (q : wEqK wx wy S k) :
    (∃ b, scal x y = true ∧ decide (x = y) = b ∧ k b) ∨ ∃ d e, Dp K H x d ∧ Dp K H y e ∧ SeqAt.shaped d = true ∧ SeqAt.shaped e = true ∧ k (PyData.eqv d e) := by
  have gen : shW wx ∧ shW wy ∧ k (PyData.eqv (toD wx) (toD wy)) → ∃ d e, Dp K H x d ∧ Dp K H y e ∧ SeqAt.shaped d = true ∧ SeqAt.shaped e = true ∧ k (PyData.eqv d e) :=
    fun ⟨h1, h2, h3⟩ => ⟨_, _, dp_of _ _ h1.1 rx, dp_of _ _ h2.1 ry, h1.2, h2.2, h3⟩
  cases wx <;> cases wy <;> first
    | exact .inr (gen q)
    | (cases (show x = _ from rx); cases (show y = _ from ry); refine .inl ⟨_, rfl, ?_, q⟩; first | rfl | (rw [dec_int]; rw [Bool.eq_iff_iff]; simp) | (rw [dec_str]; rw [Bool.eq_iff_iff]; simp) | (rw [dec_bl]; rw [Bool.eq_iff_iff]; simp))
    | skip
  · obtain ⟨xs, ys, e1, e2, h1, h2, q⟩ := q
    cases (show x = _ from rx); cases (show y = _ from ry)
    obtain ⟨as, g1, r1⟩ := hh _ _ e1
    obtain ⟨bs, g2, r2⟩ := hh _ _ e2
    refine .inr ⟨.list (toDs xs), .list (toDs ys), .lst (SqL.of g1) (dps_of _ _ ?_ r1), .lst (SqL.of g2) (dps_of _ _ ?_ r2), h1.2, h2.2, ?_⟩
    · have := h1.1; unfold datW at this; exact this
    · have := h2.1; unfold datW at this; exact this
    · rw [show PyData.eqv (.list (toDs xs)) (.list (toDs ys)) = PyData.eqvAll (toDs xs) (toDs ys) by first | rfl | simp [PyData.eqv]]
      exact q
instance l2_eq : L2R K (rEqA K) wEq := ⟨fun H S x y wx wy Q Qw hh rx ry q po => by
  rcases eqK_of hh rx ry q with ⟨b, e, e2, q⟩ | ⟨d, e, h1, h2, h3, h4, q⟩
  · exact .inl ⟨e, by rw [e2]; exact po.bl (Tk.refl H) hh q⟩
  · exact .inr ⟨d, e, h1, h2, h3, h4, po.bl (Tk.refl H) hh q⟩⟩
instance l2_ne : L2R K (rNeA K) wNe := ⟨fun H S x y wx wy Q Qw hh rx ry q po => by
  rcases eqK_of hh rx ry q with ⟨b, e, e2, q⟩ | ⟨d, e, h1, h2, h3, h4, q⟩
  · exact .inl ⟨e, by rw [e2]; exact po.bl (Tk.refl H) hh q⟩
  · exact .inr ⟨d, e, h1, h2, h3, h4, po.bl (Tk.refl H) hh q⟩⟩
/-- orders: ints, texts -/
def rOrd (p : Int → Int → Bool) (s : Str → Str → Bool) : R2 := fun x y H Q => (∃ i j, x = .int i ∧ y = .int j ∧ Q (.bl (p i j)) H) ∨ ∃ i j, x = .str i ∧ y = .str j ∧ Q (.bl (s i j)) H
def wOrd (p : Int → Int → Bool) (s : Str → Str → Bool) : RW2 := fun x y S Q => match x, y with
  | .int i, .int j => Q (.bl (p i j)) S
  | .str i, .str j => Q (.bl (s i j)) S
  | _, _ => False
instance l2_ord {p : Int → Int → Bool} {s : Str → Str → Bool} : L2R K (rOrd p s) (wOrd p s) := ⟨fun H S x y wx wy Q Qw hh rx ry q po => by
  cases wx <;> cases wy <;> try exact q.elim
  · cases (show x = _ from rx); cases (show y = _ from ry)
    exact .inl ⟨_, _, rfl, rfl, po.bl (Tk.refl H) hh q⟩
  · cases (show x = _ from rx); cases (show y = _ from ry)
    exact .inr ⟨_, _, rfl, rfl, po.bl (Tk.refl H) hh q⟩⟩
abbrev sLt (i j : Str) : Bool := decide (i.cps.toList < j.cps.toList)
theorem op_ltA {X : Cx} : OpR X (compareOp .Lt) (rOrd (fun i j => decide (i < j)) fun i j => sLt i j) := by
  intro pins s σ H x y v u Q I rx ry h
  rcases h with h | h
  · exact op_lt pins s σ H x y v u Q I rx ry h
  · exact op_lt_str pins s σ H x y v u Q I rx ry h
theorem op_leA {X : Cx} : OpR X (compareOp .LtE) (rOrd (fun i j => decide (i ≤ j)) fun i j => !sLt j i) := by
  intro pins s σ H x y v u Q I rx ry h
  rcases h with h | h
  · exact op_le pins s σ H x y v u Q I rx ry h
  · exact op_le_str pins s σ H x y v u Q I rx ry h
theorem op_gtA {X : Cx} : OpR X (compareOp .Gt) (rOrd (fun i j => decide (j < i)) fun i j => sLt j i) := by
  intro pins s σ H x y v u Q I rx ry h
  rcases h with h | h
  · exact op_gt pins s σ H x y v u Q I rx ry h
  · exact op_gt_str pins s σ H x y v u Q I rx ry h
theorem op_geA {X : Cx} : OpR X (compareOp .GtE) (rOrd (fun i j => decide (j ≤ i)) fun i j => !sLt i j) := by
  intro pins s σ H x y v u Q I rx ry h
  rcases h with h | h
  · exact op_ge pins s σ H x y v u Q I rx ry h
  · exact op_ge_str pins s σ H x y v u Q I rx ry h

/-! in -/
def flatW : W → Bool
  | .non => true | .bl _ => true | .int _ => true | .str _ => true
  | _ => false
def eqF : W → W → Bool
  | .non, .non => true
  | .bl a, .bl b => a == b
  | .bl a, .int b => (if a then 1 else 0) == b
  | .int a, .bl b => a == (if b then 1 else 0)
  | .int a, .int b => a == b
  | .str a, .str b => a == b
  | _, _ => false
def isInW (x : W) (ws : List W) : Bool := ws.any fun y => eqF y x
theorem flat_of {H : Hp} {w : W} {v : V} (r : Rep K H w v) (f : flatW w = true) : flatV v = true := by
  cases w <;> try (cases f)
  all_goals (cases (show v = _ from r); rfl)
theorem flats_of {H : Hp} : ∀ {ws : List W} {xs : List V}, RepL K H ws xs → ws.all flatW = true → xs.all flatV = true
  | [], _, h, _ => by cases (show _ = [] from h); rfl
  | w :: ws, _, h, f => by
    obtain ⟨x, r, rfl, h1, h2⟩ := h
    rw [List.all_cons, Bool.and_eq_true] at f ⊢
    exact ⟨flat_of h1 f.1, flats_of h2 f.2⟩
theorem eqF_of {H : Hp} {w z : W} {v x : V} (r : Rep K H w v) (f : flatW w = true) (r2 : Rep K H z x) (g : flatW z = true) : eqV v x = eqF w z := by
  cases w <;> cases z <;> first
    | (cases f; done)
    | (cases g; done)
    | (cases (show v = _ from r); cases (show x = _ from r2); rfl)
theorem isIn_of {H : Hp} {z : W} {x : V} (r2 : Rep K H z x) (g : flatW z = true) : ∀ {ws : List W} {xs : List V}, RepL K H ws xs → ws.all flatW = true → inV x xs = isInW z ws
  | [], _, h, _ => by cases (show _ = [] from h); rfl
  | w :: ws, _, h, f => by
    obtain ⟨y, r, rfl, h1, h2⟩ := h
    rw [List.all_cons, Bool.and_eq_true] at f
    have ih := isIn_of r2 g h2 f.2
    unfold inV isInW at ih ⊢
    rw [List.any_cons, List.any_cons, eqF_of h1 f.1 r2 g, ih]
def rInA (K : PySem.W.Frag) (neg : Bool) : R2 := fun x y H Q => rIn K neg x y H Q ∨ ∃ i j, x = .str i ∧ y = .str j ∧ Q (.bl (if neg then !(!(Builtin.Str.occurrences j i 0 j.length 1).isEmpty) else !(Builtin.Str.occurrences j i 0 j.length 1).isEmpty)) H
theorem op_inA {X : Cx} : OpR X (compareOp .In) (rInA X.K false) := by
  intro pins s σ H x y v u Q I rx ry h
  rcases h with h | h
  · exact op_in_seq pins s σ H x y v u Q I rx ry h
  · exact op_in_str pins s σ H x y v u Q I rx ry h
theorem op_notInA {X : Cx} : OpR X (compareOp .NotIn) (rInA X.K true) := by
  intro pins s σ H x y v u Q I rx ry h
  rcases h with h | h
  · exact op_notIn_seq pins s σ H x y v u Q I rx ry h
  · exact op_notin_str pins s σ H x y v u Q I rx ry h
def wInK (x y : W) (S : Sto) (k : Bool → Prop) : Prop := match x, y with
  | .str i, .str j => k (!(Builtin.Str.occurrences j i 0 j.length 1).isEmpty)
  | x, .tup ws => flatW x = true ∧ ws.all flatW = true ∧ k (isInW x ws)
  | x, .rl ws => flatW x = true ∧ ws.all flatW = true ∧ k (isInW x ws)
  | x, .ref a => flatW x = true ∧ ∃ ws, S a = some (.lst ws) ∧ ws.all flatW = true ∧ k (isInW x ws)
  | _, _ => False
def wIn (neg : Bool) : RW2 := fun x y S Q => wInK x y S fun b => Q (.bl (if neg then !b else b)) S
instance l2_in {neg : Bool} : L2R K (rInA K neg) (wIn neg) := ⟨fun H S x y wx wy Q Qw hh rx ry q po => by
  have go : ∀ {p : Addr} {xs : List V} {ws : List W}, y = .ref p → (SqL K H p xs ∨ SqT K H p xs) → RepL K H ws xs → flatW wx = true → ws.all flatW = true → Qw (.bl (if neg then !isInW wx ws else isInW wx ws)) S → rInA K neg x y H Q :=
    fun {p xs ws} e h r f g q => .inl ⟨p, xs, e, h, flat_of rx f, flats_of r g, by rw [isIn_of rx f r g]; exact po.bl (Tk.refl H) hh q⟩
  have tup : ∀ {ws : List W}, Rep K H (.tup ws) y → (flatW wx = true ∧ ws.all flatW = true ∧ Qw (.bl (if neg then !isInW wx ws else isInW wx ws)) S) → rInA K neg x y H Q := fun {ws} r q => by
    obtain ⟨a, xs, e, h1, h2⟩ := r
    exact go e (.inr h1) h2 q.1 q.2.1 q.2.2
  have rl : ∀ {ws : List W}, Rep K H (.rl ws) y → (flatW wx = true ∧ ws.all flatW = true ∧ Qw (.bl (if neg then !isInW wx ws else isInW wx ws)) S) → rInA K neg x y H Q := fun {ws} r q => by
    obtain ⟨a, xs, e, h1, h2⟩ := r
    exact go e (.inl h1.sq) h2 q.1 q.2.1 q.2.2
  have ref : ∀ {a : Addr}, Rep K H (.ref a) y → (flatW wx = true ∧ ∃ ws, S a = some (.lst ws) ∧ ws.all flatW = true ∧ Qw (.bl (if neg then !isInW wx ws else isInW wx ws)) S) → rInA K neg x y H Q := fun {a} r q => by
    obtain ⟨f, ws, e, g, q⟩ := q
    obtain ⟨xs, h1, h2⟩ := hh _ _ e
    exact go r (.inl (SqL.of h1)) h2 f g q
  cases wx <;> cases wy <;> first
    | exact q.elim
    | exact tup ry q
    | exact rl ry q
    | exact ref ry q
    | (cases (show x = _ from rx); cases (show y = _ from ry)
       refine .inr ⟨_, _, rfl, rfl, ?_⟩
       cases neg <;> exact po.bl (Tk.refl H) hh q)⟩

/-! chains -/
def wChain (r r' : RW2) (ta tb tc : TEW) : TEW := fun ρ S Q => ta ρ S fun x S1 => tb ρ S1 fun y S2 => r x y S2 fun z S3 => match z with
  | .bl k => (k = true → tc ρ S3 fun w S4 => r' y w S4 Q) ∧ (k = false → Q (.bl false) S3)
  | _ => False
instance le_chain {r r' : R2} {ta tb tc : TE} {rw rw' : RW2} {wa wb wc : TEW} [h : L2R K r rw] [h' : L2R K r' rw'] [a : LE K B ta wa] [b : LE K B tb wb] [c : LE K B tc wc] : LE K B (tChain r r' ta tb tc) (wChain rw rw' wa wb wc) := ⟨fun σ H ρ S Q Qw hs hh q po =>
  a.l σ H ρ S _ _ hs hh q fun x H1 wx S1 t1 hh1 r1 q1 => b.l σ H1 ρ S1 _ _ (hs.tk t1) hh1 q1 fun y H2 wy S2 t2 hh2 r2 q2 =>
    h.l H2 S2 x y wx wy _ _ hh2 (Rep.tk t2 _ _ r1) r2 q2 fun z H3 wz S3 t3 hh3 r3 q3 => by
      cases wz <;> try exact q3.elim
      rename_i k
      cases (show z = _ from r3)
      refine ⟨k, rfl, ?_⟩
      cases k with
      | true =>
        rw [if_pos rfl]
        exact c.l σ H3 ρ S3 _ _ (hs.tk ((t1.trans t2).trans t3)) hh3 (q3.1 rfl) fun w H4 ww S4 t4 hh4 r4 q4 => h'.l H4 S4 y w wy ww Q Qw hh4 (Rep.tk (t3.trans t4) _ _ r2) r4 q4 (po.tk (((t1.trans t2).trans t3).trans t4))
      | false =>
        rw [if_neg Bool.false_ne_true]
        exact po.bl ((t1.trans t2).trans t3) hh3 (q3.2 rfl)⟩

/-! ### tests -/
def wT (t : TEW) : TTW := fun ρ S Q => t ρ S fun x S1 => match x with
  | .bl k => Q k S1
  | _ => False
instance lt_test {t : TE} {tw : TEW} [a : LE K B t tw] : LT K B (tTest t) (wT tw) := ⟨fun σ H ρ S Q Qw hs hh q po =>
  a.l σ H ρ S _ _ hs hh q fun x H1 wx S1 t1 hh1 r1 q1 => by
    cases wx <;> try exact q1.elim
    rename_i k
    cases (show x = _ from r1)
    exact ⟨k, rfl, po _ H1 S1 t1 hh1 q1⟩⟩
instance lt_B {t : TE} {tw : TEW} [a : LE K B t tw] : LT K B (tB t) (wT tw) := ⟨fun σ H ρ S Q Qw hs hh q po =>
  a.l σ H ρ S _ _ hs hh q fun x H1 wx S1 t1 hh1 r1 q1 => by
    cases wx <;> try exact q1.elim
    rename_i k
    cases (show x = _ from r1)
    exact ⟨k, rfl, po _ H1 S1 t1 hh1 q1⟩⟩
def wAnd (t u : TTW) : TTW := fun ρ S Q => t ρ S fun c S1 => (c = true → u ρ S1 Q) ∧ (c = false → Q false S1)
def wOr (t u : TTW) : TTW := fun ρ S Q => t ρ S fun c S1 => (c = true → Q true S1) ∧ (c = false → u ρ S1 Q)
def wNot (t : TTW) : TTW := fun ρ S Q => t ρ S fun c S1 => Q (!c) S1
instance lt_and {t u : TT} {tw uw : TTW} [a : LT K B t tw] [b : LT K B u uw] : LT K B (tAnd t u) (wAnd tw uw) := ⟨fun σ H ρ S Q Qw hs hh q po =>
  a.l σ H ρ S _ _ hs hh q fun c H1 S1 t1 hh1 q1 => by
    cases c with
    | true => rw [if_pos rfl]; exact b.l σ H1 ρ S1 _ _ (hs.tk t1) hh1 (q1.1 rfl) (po.tk t1)
    | false => rw [if_neg Bool.false_ne_true]; exact po _ H1 S1 t1 hh1 (q1.2 rfl)⟩
instance lt_or {t u : TT} {tw uw : TTW} [a : LT K B t tw] [b : LT K B u uw] : LT K B (tOr t u) (wOr tw uw) := ⟨fun σ H ρ S Q Qw hs hh q po =>
  a.l σ H ρ S _ _ hs hh q fun c H1 S1 t1 hh1 q1 => by
    cases c with
    | true => rw [if_pos rfl]; exact po _ H1 S1 t1 hh1 (q1.1 rfl)
    | false => rw [if_neg Bool.false_ne_true]; exact b.l σ H1 ρ S1 _ _ (hs.tk t1) hh1 (q1.2 rfl) (po.tk t1)⟩
instance lt_not {t : TT} {tw : TTW} [a : LT K B t tw] : LT K B (tNot t) (wNot tw) := ⟨fun σ H ρ S Q Qw hs hh q po =>
  a.l σ H ρ S _ _ hs hh q fun c H1 S1 t1 hh1 q1 => po _ H1 S1 t1 hh1 q1⟩
def wYes : TTW := fun _ S Q => Q true S
instance lt_yes : LT K B tYes wYes := ⟨fun σ H ρ S Q Qw hs hh q po => po _ H S (Tk.refl H) hh q⟩
def wAndV (t u : TEW) : TEW := fun ρ S Q => t ρ S fun x S1 => match x with
  | .bl c => (c = true → u ρ S1 Q) ∧ (c = false → Q (.bl false) S1)
  | _ => False
def wOrV (t u : TEW) : TEW := fun ρ S Q => t ρ S fun x S1 => match x with
  | .bl c => (c = true → Q (.bl true) S1) ∧ (c = false → u ρ S1 Q)
  | _ => False
def wNotV (t : TEW) : TEW := fun ρ S Q => t ρ S fun x S1 => match x with
  | .bl c => Q (.bl (!c)) S1
  | _ => False
instance le_andV {t u : TE} {tw uw : TEW} [a : LE K B t tw] [b : LE K B u uw] : LE K B (tAndV t u) (wAndV tw uw) := ⟨fun σ H ρ S Q Qw hs hh q po =>
  a.l σ H ρ S _ _ hs hh q fun x H1 wx S1 t1 hh1 r1 q1 => by
    cases wx <;> try exact q1.elim
    rename_i c
    cases (show x = _ from r1)
    refine ⟨c, rfl, ?_⟩
    cases c with
    | true => rw [if_pos rfl]; exact b.l σ H1 ρ S1 _ _ (hs.tk t1) hh1 (q1.1 rfl) (po.tk t1)
    | false => rw [if_neg Bool.false_ne_true]; exact po.bl t1 hh1 (q1.2 rfl)⟩
instance le_orV {t u : TE} {tw uw : TEW} [a : LE K B t tw] [b : LE K B u uw] : LE K B (tOrV t u) (wOrV tw uw) := ⟨fun σ H ρ S Q Qw hs hh q po =>
  a.l σ H ρ S _ _ hs hh q fun x H1 wx S1 t1 hh1 r1 q1 => by
    cases wx <;> try exact q1.elim
    rename_i c
    cases (show x = _ from r1)
    refine ⟨c, rfl, ?_⟩
    cases c with
    | true => rw [if_pos rfl]; exact po.bl t1 hh1 (q1.1 rfl)
    | false => rw [if_neg Bool.false_ne_true]; exact b.l σ H1 ρ S1 _ _ (hs.tk t1) hh1 (q1.2 rfl) (po.tk t1)⟩
instance le_notV {t : TE} {tw : TEW} [a : LE K B t tw] : LE K B (tNotV t) (wNotV tw) := ⟨fun σ H ρ S Q Qw hs hh q po =>
  a.l σ H ρ S _ _ hs hh q fun x H1 wx S1 t1 hh1 r1 q1 => by
    cases wx <;> try exact q1.elim
    rename_i c
    cases (show x = _ from r1)
    exact ⟨c, rfl, po.bl t1 hh1 q1⟩⟩
def wIfE (t : TTW) (a b : TEW) : TEW := fun ρ S Q => t ρ S fun c S1 => (c = true → a ρ S1 Q) ∧ (c = false → b ρ S1 Q)
instance le_if {t : TT} {a b : TE} {tw : TTW} {aw bw : TEW} [h : LT K B t tw] [h1 : LE K B a aw] [h2 : LE K B b bw] : LE K B (tIf t a b) (wIfE tw aw bw) := ⟨fun σ H ρ S Q Qw hs hh q po =>
  h.l σ H ρ S _ _ hs hh q fun c H1 S1 t1 hh1 q1 => by
    cases c with
    | true => rw [if_pos rfl]; exact h1.l σ H1 ρ S1 _ _ (hs.tk t1) hh1 (q1.1 rfl) (po.tk t1)
    | false => rw [if_neg Bool.false_ne_true]; exact h2.l σ H1 ρ S1 _ _ (hs.tk t1) hh1 (q1.2 rfl) (po.tk t1)⟩

/-! ### displays, arguments -/
def wNil : TAW := fun _ S Q => Q [] S
def wCons (ta : TEW) (tr : TAW) : TAW := fun ρ S Q => ta ρ S fun x S1 => tr ρ S1 fun xs S2 => Q (x :: xs) S2
instance la_nil : LA K B tNil wNil := ⟨fun σ H ρ S Q Qw hs hh q po => po [] H [] S (Tk.refl H) hh (show RepL K H [] [] from rfl) q⟩
instance la_cons {ta : TE} {tr : TA} {wa : TEW} {wr : TAW} [a : LE K B ta wa] [b : LA K B tr wr] : LA K B (tCons ta tr) (wCons wa wr) := ⟨fun σ H ρ S Q Qw hs hh q po =>
  a.l σ H ρ S _ _ hs hh q fun x H1 wx S1 t1 hh1 r1 q1 => b.l σ H1 ρ S1 _ _ (hs.tk t1) hh1 q1 fun xs H2 ws S2 t2 hh2 r2 q2 =>
    po _ H2 _ S2 (t1.trans t2) hh2 (.cons (Rep.tk t2 _ _ r1) r2) q2⟩
/-- a size that is small at sight asks nothing -/
def fits (n : Nat) (A : Prop) : Prop := match Nat.ble n 1000 with
  | true => A
  | false => n ≤ sizeLine ∧ A
theorem fits_of {n : Nat} {A : Prop} (h : fits n A) : n ≤ sizeLine ∧ A := by
  unfold fits at h
  split at h
  · rename_i e
    exact ⟨Nat.le_trans (Nat.le_of_ble_eq_true e) (by decide), h⟩
  · exact h
theorem fits_mk {n : Nat} {A : Prop} (h : n ≤ sizeLine) (a : A) : fits n A := by
  unfold fits
  split
  · exact a
  · exact ⟨h, a⟩
def wTup (t : TAW) : TEW := fun ρ S Q => t ρ S fun ws S1 => fits ws.length (Q (.tup ws) S1)
def wLst (t : TAW) : TEW := fun ρ S Q => t ρ S fun ws S1 => fits ws.length (∀ p, S1 p = none → Q (.ref p) (put S1 p (.lst ws)))
instance le_tup {t : TA} {tw : TAW} [a : LA K B t tw] : LE K B (tTup t) (wTup tw) := ⟨fun σ H ρ S Q Qw hs hh q po =>
  a.l σ H ρ S _ _ hs hh q fun xs H1 ws S1 t1 hh1 r1 q1 => ⟨by rw [r1.length]; exact (fits_of q1).1, fun p hp =>
    (po.tk t1).ntup hp hh1 r1 (fits_of q1).2⟩⟩
instance le_lst {t : TA} {tw : TAW} [a : LA K B t tw] : LE K B (tLst t) (wLst tw) := ⟨fun σ H ρ S Q Qw hs hh q po =>
  a.l σ H ρ S _ _ hs hh q fun xs H1 ws S1 t1 hh1 r1 q1 => ⟨by rw [r1.length]; exact (fits_of q1).1, fun p hp =>
    (po.tk t1).nlst hp hh1 r1 (fits_of q1).2⟩⟩

/-! ### items, slices -/
theorem atI_of {H : Hp} {ws : List W} {xs : List V} {i : Int} {w : W} (r : RepL K H ws xs) (e : atI ws i = some w) : ∃ x, atI xs i = some x ∧ Rep K H w x := by
  unfold atI at e ⊢
  rw [r.length]
  cases q : ixN ws.length i with
  | none => rw [q] at e; cases e
  | some j =>
    rw [q] at e
    exact r.get e
def rdAt (o : Option W) (S : Sto) (Q : WK) : Prop := match o with
  | some w => Q w S
  | none => False
theorem rdAt_of {o : Option W} {S : Sto} {Q : WK} (h : rdAt o S Q) : ∃ w, o = some w ∧ Q w S := by
  cases o with
  | none => exact h.elim
  | some w => exact ⟨w, rfl, h⟩
def wIx : RW2 := fun x y S Q => match x, y with
  | .tup ws, .int i => rdAt (atI ws i) S Q
  | .rl ws, .int i => rdAt (atI ws i) S Q
  | .ref a, .int i => ∃ ws, S a = some (.lst ws) ∧ rdAt (atI ws i) S Q
  | .str z, .int i => z.length ≤ sizeLine ∧ ∃ c, atI z.cps.toList i = some c ∧ Q (.str ⟨#[c]⟩) S
  | _, _ => False
instance l2_ix : L2R K (rIx K) wIx := ⟨fun H S x y wx wy Q Qw hh rx ry q po => by
  cases wx <;> cases wy <;> try exact q.elim
  · cases (show x = _ from rx); cases (show y = _ from ry)
    obtain ⟨hl, c, e, q⟩ := q
    exact .inr (.inr ⟨_, _, c, rfl, rfl, hl, e, po.str (Tk.refl H) hh q⟩)
  · cases (show x = _ from rx); cases (show y = _ from ry)
    obtain ⟨ws, e, q⟩ := q
    obtain ⟨w, e2, q⟩ := rdAt_of q
    obtain ⟨xs, h1, h2⟩ := hh _ _ e
    obtain ⟨v, e3, r⟩ := atI_of h2 e2
    exact .inl ⟨_, xs, _, v, rfl, rfl, SqL.of h1, e3, po v H w S (Tk.refl H) hh r q⟩
  · cases (show y = _ from ry)
    obtain ⟨a, xs, rfl, h1, h2⟩ := rx
    obtain ⟨w, e2, q⟩ := rdAt_of q
    obtain ⟨v, e3, r⟩ := atI_of h2 e2
    exact .inr (.inl ⟨_, xs, _, v, rfl, rfl, h1, e3, po v H w S (Tk.refl H) hh r q⟩)
  · cases (show y = _ from ry)
    obtain ⟨a, xs, rfl, h1, h2⟩ := rx
    obtain ⟨w, e2, q⟩ := rdAt_of q
    obtain ⟨v, e3, r⟩ := atI_of h2 e2
    exact .inl ⟨_, xs, _, v, rfl, rfl, h1.sq, e3, po v H w S (Tk.refl H) hh r q⟩⟩

end Wl
set_option Elab.async false
set_option linter.all false
set_option maxRecDepth 100000
set_option maxHeartbeats 2000000
namespace HT
open PySem PySem.Spec PyProof.Rows L2
variable {prog : Program} {w : World} {A : Around} {E : Value → Shared → Prop} {s : Shared}
theorem getItem_tuple_whole {t sl : Addr} {items : Array Value} {vl vu : Value} {lo hi : Option Int} {Q : Value → Shared → Prop} (ht : IsTup s.heap t items) (hs : s.heap.IsSliceOf sl vl vu .none) (pl : IsPart vl lo) (pu : IsPart vu hi)
    (hw : sIx items.size 0 lo = 0 ∧ sIx items.size items.size hi = items.size)
    (h : Q (.ref t) s) : wpAny (model prog w) A (getItem (.ref t) (.ref sl)) Q E s := by
  obtain ⟨os, hos, hcs, hds⟩ := id hs
  have hTs : s.TypeIs (.ref sl) "slice" := ⟨os, hos, hcs⟩
  unfold getItem
  try with_reducible refine wpAny_holding ?_
  first | refine wpAny_bind (wpAny_pure ?_) | skip
  refine wpAny_bind (wpAny_sequenceKey ht.typeIs (by decide) ?_)
  refine wpAny_bind (wpAny_callSpecial?_slot (name := Str.ofString "__getitem__") ht.typeIs PyProof.Rows.slot_tuple_getitem
    (wpAny_call_entry PyProof.Rows.slot_tuple_getitem ht.typeIs entry_tuple_getitem ?_ (args_tuple_getitem _ _)))
  show wpAny _ _ (Builtin.Tuple.tupleItemsOf (.ref t) >>= _) _ _ s
  refine wpAny_bind (tupleItemsOf_ ht ?_)
  refine wpAny_bind (wpAny_typeOf hTs ?_)
  rw [if_pos (by decide)]
  refine wpAny_bind (sliceApplied_gen hs pl pu ?_)
  have hyes : ((((sIx items.size 0 lo : Nat) : Int) == 0 && (1 : Int) == 1 && (sIx items.size items.size hi - sIx items.size 0 lo) == items.size) = true) := by
    rw [hw.1, hw.2]
    simp
  show wpAny _ _ (if (((sIx items.size 0 lo : Nat) : Int) == 0 && (1 : Int) == 1 && (sIx items.size items.size hi - sIx items.size 0 lo) == items.size) = true then _ else _) _ _ s
  rw [if_pos hyes]
  have hT : s.TypeIs (.ref t) "tuple" := ht.typeIs
  first
    | exact wpAny_pure ⟨_, rfl, wpAny_pure h⟩
    | exact wpAny_bind (wpAny_pure ⟨_, rfl, wpAny_pure h⟩)
    | (refine wpAny_bind (wpAny_typeOf hT ?_); rw [if_pos (by decide)]; exact wpAny_pure ⟨_, rfl, wpAny_pure h⟩)
    | (refine wpAny_bind (wpAny_bind (wpAny_typeOf hT ?_))
       refine wpAny_pure ?_
       rw [if_pos (by decide)]
       exact wpAny_bind (wpAny_rule (wpAny_pure ⟨_, rfl, wpAny_pure h⟩)))
end HT
namespace Wl
open PySem PySem.Spec PyProof.Rows L2
variable {K : PySem.W.Frag} {B : Hp}

/-! ### slices -/
def rSlTw (K : PySem.W.Frag) : V → Option Int → Option Int → Hp → VK → Prop := fun x lo hi H Q => ∃ a xs, x = .ref a ∧ SqT K H a xs ∧ (HT.sIx xs.length 0 lo = 0 ∧ HT.sIx xs.length xs.length hi = xs.length) ∧ Q (.ref a) H
theorem sl_tupw {X : Cx} : SlR X (rSlTw X.K) := by
  intro pins s σ H x v vl vu lo hi sl Q I rx hs pl pu h
  obtain ⟨a, xs, rfl, hx, hw, q⟩ := h
  cases rx
  obtain ⟨its, r, ht, hz⟩ := I.tuple hx
  have hlen : its.toArray.size = xs.length := by rw [List.size_toArray]; exact r.length.symm
  refine ⟨"tuple", _, PyProof.Rows.slot_tuple_getitem.lookup, ht.typeIs, ?_⟩
  exact HT.getItem_tuple_whole ht hs pl pu (by rw [hlen]; exact hw) ⟨.ref a, H, I, rfl, q⟩
def rSlA (K : PySem.W.Frag) : V → Option Int → Option Int → Hp → VK → Prop := fun x lo hi H Q => rSlS x lo hi H Q ∨ rSlL K x lo hi H Q ∨ rSlT K x lo hi H Q ∨ rSlTw K x lo hi H Q
theorem sl_A {X : Cx} : SlR X (rSlA X.K) := by
  intro pins s σ H x v vl vu lo hi sl Q I rx hs pl pu h
  rcases h with h | h | h | h
  · exact sl_str pins s σ H x v vl vu lo hi sl Q I rx hs pl pu h
  · exact sl_list pins s σ H x v vl vu lo hi sl Q I rx hs pl pu h
  · exact sl_tup pins s σ H x v vl vu lo hi sl Q I rx hs pl pu h
  · exact sl_tupw pins s σ H x v vl vu lo hi sl Q I rx hs pl pu h
def cutL {α : Type} (xs : List α) (lo hi : Option Int) : List α := (xs.drop (HT.sIx xs.length 0 lo)).take (HT.sIx xs.length xs.length hi - HT.sIx xs.length 0 lo)
theorem cutL_rep {H : Hp} {ws : List W} {xs : List V} (r : RepL K H ws xs) (lo hi : Option Int) : RepL K H (cutL ws lo hi) (cutV xs lo hi) := by
  unfold cutL cutV
  rw [r.length]
  exact (r.drop _).take _
theorem cutL_whole {ws : List W} {lo hi : Option Int} (h : HT.sIx ws.length 0 lo = 0 ∧ HT.sIx ws.length ws.length hi = ws.length) : cutL ws lo hi = ws := by
  unfold cutL
  rw [h.1, h.2]
  simp
def wSlR (x : W) (lo hi : Option Int) (S : Sto) (Q : WK) : Prop := match x with
  | .str z => z.length ≤ sizeLine ∧ Q (.str (cutS z lo hi)) S
  | .tup ws => Q (.tup (cutL ws lo hi)) S
  | .rl ws => ∀ p, S p = none → Q (.ref p) (put S p (.lst (cutL ws lo hi)))
  | .ref a => ∃ ws, S a = some (.lst ws) ∧ ∀ p, S p = none → Q (.ref p) (put S p (.lst (cutL ws lo hi)))
  | _ => False
def wSl (te : TEW) (tl th : TOW) : TEW := fun ρ S Q => te ρ S fun x S1 => tl ρ S1 fun l S2 => th ρ S2 fun u S3 => wSlR x l u S3 Q
def wNoPart : TOW := fun _ S Q => Q none S
def wPart (t : TEW) : TOW := fun ρ S Q => t ρ S fun x S1 => match x with
  | .int i => Q (some i) S1
  | _ => False
instance lo_none : LO K B tNoPart wNoPart := ⟨fun σ H ρ S Q Qw hs hh q po => po _ H S (Tk.refl H) hh q⟩
instance lo_some {t : TE} {tw : TEW} [a : LE K B t tw] : LO K B (tPart t) (wPart tw) := ⟨fun σ H ρ S Q Qw hs hh q po => a.l σ H ρ S _ _ hs hh q fun x H1 wx S1 t1 hh1 r1 q1 => by
  cases wx <;> try exact q1.elim
  cases (show x = _ from r1)
  exact ⟨_, rfl, po _ H1 S1 t1 hh1 q1⟩⟩
instance le_sl {te : TE} {tl th : TO} {we : TEW} {wl wh : TOW} [a : LE K B te we] [b : LO K B tl wl] [c : LO K B th wh] : LE K B (tSl (rSlA K) te tl th) (wSl we wl wh) := ⟨fun σ H ρ S Q Qw hs hh q po =>
  a.l σ H ρ S _ _ hs hh q fun x H1 wx S1 t1 hh1 r1 q1 => b.l σ H1 ρ S1 _ _ (hs.tk t1) hh1 q1 fun lo H2 S2 t2 hh2 q2 => c.l σ H2 ρ S2 _ _ (hs.tk (t1.trans t2)) hh2 q2 fun hi H3 S3 t3 hh3 q3 => by
    have rx := Rep.tk (t2.trans t3) _ _ r1
    have t := (t1.trans t2).trans t3
    cases wx <;> try exact q3.elim
    · cases (show x = _ from rx)
      exact .inl ⟨_, rfl, q3.1, po.str t hh3 q3.2⟩
    · cases (show x = _ from rx)
      obtain ⟨ws, e, q⟩ := q3
      obtain ⟨xs, h1, h2⟩ := hh3 _ _ e
      exact .inr (.inl ⟨_, xs, rfl, SqL.of h1, fun p hp => (po.tk t).nlst hp hh3 (cutL_rep h2 lo hi) q⟩)
    · obtain ⟨a, xs, rfl, h1, h2⟩ := rx
      rename_i ws
      by_cases hw : HT.sIx xs.length 0 lo = 0 ∧ HT.sIx xs.length xs.length hi = xs.length
      · refine .inr (.inr (.inr ⟨a, xs, rfl, h1, hw, ?_⟩))
        have q4 : Qw (.tup (cutL ws lo hi)) S3 := q3
        rw [cutL_whole (by rw [← h2.length]; exact hw)] at q4
        exact po.tup t hh3 h1 h2 q4
      · exact .inr (.inr (.inl ⟨a, xs, rfl, h1, hw, fun p hp => (po.tk t).ntup hp hh3 (cutL_rep h2 lo hi) q3⟩))
    · obtain ⟨a, xs, rfl, h1, h2⟩ := rx
      exact .inr (.inl ⟨a, xs, rfl, h1.sq, fun p hp => (po.tk t).nlst hp hh3 (cutL_rep h2 lo hi) q3⟩)⟩

/-! ### built-in calls -/
def wCB (r : RWC) (t : TAW) : TEW := fun ρ S Q => t ρ S fun ws S1 => r ws S1 Q
instance le_cb {r : List V → Hp → VK → Prop} {t : TA} {rw : RWC} {tw : TAW} [h : LCR K r rw] [a : LA K B t tw] : LE K B (tCB r t) (wCB rw tw) := ⟨fun σ H ρ S Q Qw hs hh q po =>
  a.l σ H ρ S _ _ hs hh q fun xs H1 ws S1 t1 hh1 r1 q1 => h.l H1 S1 xs ws Q Qw hh1 r1 q1 (po.tk t1)⟩
theorem rep1 {H : Hp} {w : W} {xs : List V} (r : RepL K H [w] xs) : ∃ x, xs = [x] ∧ Rep K H w x := by
  obtain ⟨x, r, rfl, h1, h2⟩ := r
  cases (show r = [] from h2)
  exact ⟨x, rfl, h1⟩
theorem rep2 {H : Hp} {w z : W} {xs : List V} (r : RepL K H [w, z] xs) : ∃ x y, xs = [x, y] ∧ Rep K H w x ∧ Rep K H z y := by
  obtain ⟨x, r, rfl, h1, h2⟩ := r
  obtain ⟨y, rfl, h3⟩ := rep1 h2
  exact ⟨x, y, rfl, h1, h3⟩
/-- len -/
def wLen : RWC := fun ws S Q => match ws with
  | [.str z] => z.length ≤ sizeLine ∧ Q (.int z.length) S
  | [.tup ws] => Q (.int ws.length) S
  | [.rl ws] => Q (.int ws.length) S
  | [.ref a] => ∃ ws, S a = some (.lst ws) ∧ Q (.int ws.length) S
  | _ => False
abbrev rLenA (K : PySem.W.Frag) : List V → Hp → VK → Prop := fun xs H Q => ∃ x n, xs = [x] ∧ LenV K x H n ∧ Q (.int n) H
instance lc_len : LCR K (rLenA K) wLen := ⟨fun H S xs ws Q Qw hh r q po => by
  unfold wLen at q
  split at q
  · obtain ⟨x, rfl, h1⟩ := rep1 r
    cases (show x = _ from h1)
    exact ⟨_, _, rfl, ⟨q.1, rfl⟩, po.int (Tk.refl H) hh q.2⟩
  · obtain ⟨x, rfl, a, xs, rfl, h1, h2⟩ := rep1 r
    exact ⟨_, _, rfl, .inr ⟨xs, h1, h2.length.symm⟩, po.int (Tk.refl H) hh q⟩
  · obtain ⟨x, rfl, a, xs, rfl, h1, h2⟩ := rep1 r
    exact ⟨_, _, rfl, .inl ⟨xs, h1.sq, h2.length.symm⟩, po.int (Tk.refl H) hh q⟩
  · obtain ⟨x, rfl, h1⟩ := rep1 r
    cases (show x = _ from h1)
    obtain ⟨ws, e, q⟩ := q
    obtain ⟨xs, h1, h2⟩ := hh _ _ e
    exact ⟨_, _, rfl, .inl ⟨xs, SqL.of h1, h2.length.symm⟩, po.int (Tk.refl H) hh q⟩
  · exact q.elim⟩
/-- one int in, one out -/
def w1I (f : Int → Int) : RWC := fun ws S Q => match ws with
  | [.int i] => Q (.int (f i)) S
  | _ => False
instance lc_abs : LCR K (fun xs H Q => ∃ i, xs = [.int i] ∧ Q (.int (if i < 0 then -i else i)) H) (w1I fun i => if i < 0 then -i else i) := ⟨fun H S xs ws Q Qw hh r q po => by
  unfold w1I at q
  split at q
  · obtain ⟨x, rfl, h1⟩ := rep1 r
    cases (show x = _ from h1)
    exact ⟨_, rfl, po.int (Tk.refl H) hh q⟩
  · exact q.elim⟩
def w2I (f : Int → Int → Int) : RWC := fun ws S Q => match ws with
  | [.int i, .int j] => Q (.int (f i j)) S
  | _ => False
instance lc_2i {f : Int → Int → Int} : LCR K (fun xs H Q => ∃ i j, xs = [.int i, .int j] ∧ Q (.int (f i j)) H) (w2I f) := ⟨fun H S xs ws Q Qw hh r q po => by
  unfold w2I at q
  split at q
  · obtain ⟨x, y, rfl, h1, h2⟩ := rep2 r
    cases (show x = _ from h1)
    cases (show y = _ from h2)
    exact ⟨_, _, rfl, po.int (Tk.refl H) hh q⟩
  · exact q.elim⟩
/-- int(n), int(flag) -/
def wInt1 : RWC := fun ws S Q => match ws with
  | [.int i] => Q (.int i) S
  | [.bl k] => Q (.int (if k then 1 else 0)) S
  | _ => False
instance lc_int : LCR K (fun xs H Q => (∃ i, xs = [.int i] ∧ Q (.int i) H) ∨ ∃ k, xs = [.bl k] ∧ Q (.int (if k then 1 else 0)) H) wInt1 := ⟨fun H S xs ws Q Qw hh r q po => by
  unfold wInt1 at q
  split at q
  · obtain ⟨x, rfl, h1⟩ := rep1 r
    cases (show x = _ from h1)
    exact .inl ⟨_, rfl, po.int (Tk.refl H) hh q⟩
  · obtain ⟨x, rfl, h1⟩ := rep1 r
    cases (show x = _ from h1)
    exact .inr ⟨_, rfl, po.int (Tk.refl H) hh q⟩
  · exact q.elim⟩
/-- str(n) -/
def wStr1 : RWC := fun ws S Q => match ws with
  | [.int i] => i.natAbs.log2 < 1920 ∧ Q (.str (toString i)) S
  | _ => False
instance lc_str : LCR K (fun xs H Q => ∃ i, xs = [.int i] ∧ i.natAbs.log2 < 1920 ∧ Q (.str (toString i)) H) wStr1 := ⟨fun H S xs ws Q Qw hh r q po => by
  unfold wStr1 at q
  split at q
  · obtain ⟨x, rfl, h1⟩ := rep1 r
    cases (show x = _ from h1)
    exact ⟨_, rfl, q.1, po.str (Tk.refl H) hh q.2⟩
  · exact q.elim⟩
/-- list(xs) -/
abbrev rListA (K : PySem.W.Frag) : List V → Hp → VK → Prop := fun xs H Q => ∃ p ys, xs = [.ref p] ∧ (SqL K H p ys ∨ SqT K H p ys) ∧ ∀ l, H l = none → Q (.ref l) (upd H l (.lst ys))
def wList : RWC := fun ws S Q => match ws with
  | [.tup ws] => ∀ p, S p = none → Q (.ref p) (put S p (.lst ws))
  | [.rl ws] => ∀ p, S p = none → Q (.ref p) (put S p (.lst ws))
  | [.ref a] => ∃ ws, S a = some (.lst ws) ∧ ∀ p, S p = none → Q (.ref p) (put S p (.lst ws))
  | _ => False
instance lc_list : LCR K (rListA K) wList := ⟨fun H S xs ws Q Qw hh r q po => by
  unfold wList at q
  split at q
  · obtain ⟨x, rfl, a, xs, rfl, h1, h2⟩ := rep1 r
    exact ⟨a, xs, rfl, .inr h1, fun p hp => po.nlst hp hh h2 q⟩
  · obtain ⟨x, rfl, a, xs, rfl, h1, h2⟩ := rep1 r
    exact ⟨a, xs, rfl, .inl h1.sq, fun p hp => po.nlst hp hh h2 q⟩
  · obtain ⟨x, rfl, h1⟩ := rep1 r
    cases (show x = _ from h1)
    obtain ⟨ws, e, q⟩ := q
    obtain ⟨xs, h1, h2⟩ := hh _ _ e
    exact ⟨_, xs, rfl, .inl (SqL.of h1), fun p hp => po.nlst hp hh h2 q⟩
  · exact q.elim⟩
/-- tuple(xs) -/
abbrev rTupA (K : PySem.W.Frag) : List V → Hp → VK → Prop := fun xs H Q => ∃ p ys, xs = [.ref p] ∧ ((SqL K H p ys ∧ ∀ l, H l = none → Q (.ref l) (upd H l (.tup ys))) ∨ (SqT K H p ys ∧ Q (.ref p) H))
def wTupC : RWC := fun ws S Q => match ws with
  | [.tup ws] => Q (.tup ws) S
  | [.rl ws] => Q (.tup ws) S
  | [.ref a] => ∃ ws, S a = some (.lst ws) ∧ Q (.tup ws) S
  | _ => False
instance lc_tuple : LCR K (rTupA K) wTupC := ⟨fun H S xs ws Q Qw hh r q po => by
  unfold wTupC at q
  split at q
  · obtain ⟨x, rfl, a, xs, rfl, h1, h2⟩ := rep1 r
    exact ⟨a, xs, rfl, .inr ⟨h1, po.tup (Tk.refl H) hh h1 h2 q⟩⟩
  · obtain ⟨x, rfl, a, xs, rfl, h1, h2⟩ := rep1 r
    exact ⟨a, xs, rfl, .inl ⟨h1.sq, fun p hp => po.ntup hp hh h2 q⟩⟩
  · obtain ⟨x, rfl, h1⟩ := rep1 r
    cases (show x = _ from h1)
    obtain ⟨ws, e, q⟩ := q
    obtain ⟨xs, h1, h2⟩ := hh _ _ e
    exact ⟨_, xs, rfl, .inl ⟨SqL.of h1, fun p hp => po.ntup hp hh h2 q⟩⟩
  · exact q.elim⟩
/-- sum, all, any of a list -/
instance lc_sum : LCR K (rSum K) (fun ws S Q => ∃ (a : Addr) (ns : List Int), ws = [.ref a] ∧ S a = some (.lst (ns.map W.int)) ∧ Q (.int ns.sum) S) := ⟨fun H S xs ws Q Qw hh r q po => by
  obtain ⟨a, ns, rfl, e, q⟩ := q
  obtain ⟨x, rfl, h1⟩ := rep1 r
  cases (show x = _ from h1)
  obtain ⟨xs, h1, h2⟩ := hh _ _ e
  rw [h2.ints] at h1
  exact ⟨a, ns, rfl, SqL.of h1, po.int (Tk.refl H) hh q⟩⟩
def wAllC : RWC := fun ws S Q => ∃ (a : Addr) (bs : List Bool), ws = [.ref a] ∧ S a = some (.lst (bs.map W.bl)) ∧ Q (.bl (bs.all id)) S
def wAnyC : RWC := fun ws S Q => ∃ (a : Addr) (bs : List Bool), ws = [.ref a] ∧ S a = some (.lst (bs.map W.bl)) ∧ Q (.bl (bs.any id)) S
instance lc_all : LCR K (rAll K) wAllC := ⟨fun H S xs ws Q Qw hh r q po => by
  obtain ⟨a, ns, rfl, e, q⟩ := q
  obtain ⟨x, rfl, h1⟩ := rep1 r
  cases (show x = _ from h1)
  obtain ⟨xs, h1, h2⟩ := hh _ _ e
  rw [h2.bls] at h1
  exact ⟨a, ns, rfl, SqL.of h1, po.bl (Tk.refl H) hh q⟩⟩
instance lc_any : LCR K (rAny K) wAnyC := ⟨fun H S xs ws Q Qw hh r q po => by
  obtain ⟨a, ns, rfl, e, q⟩ := q
  obtain ⟨x, rfl, h1⟩ := rep1 r
  cases (show x = _ from h1)
  obtain ⟨xs, h1, h2⟩ := hh _ _ e
  rw [h2.bls] at h1
  exact ⟨a, ns, rfl, SqL.of h1, po.bl (Tk.refl H) hh q⟩⟩

/-! isinstance of built-in types -/
def tyName : W → Sto → Option String
  | .non, _ => some "NoneType" | .bl _, _ => some "bool" | .int _, _ => some "int" | .str _, _ => some "str"
  | .tup _, _ => some "tuple" | .rl _, _ => some "list" | .ty _, _ => none
  | .ref a, S => match S a with
    | some (.lst _) => some "list"
    | some (.dk _) => some "dict"
    | _ => none
def isTy (a b : String) : Option Bool :=
  if b = "int" then (if a = "int" ∨ a = "bool" then some true else if a = "str" ∨ a = "tuple" ∨ a = "list" ∨ a = "dict" ∨ a = "NoneType" then some false else none)
  else if b = "bool" ∨ b = "str" ∨ b = "tuple" ∨ b = "list" ∨ b = "dict" then
    (if a = b then some true else if a = "int" ∨ a = "bool" ∨ a = "str" ∨ a = "tuple" ∨ a = "list" ∨ a = "dict" ∨ a = "NoneType" then some false else none)
  else none
theorem isTy_kit {a b : String} {r : Bool} (h : isTy a b = some r) : kitB a b = some r := by
  have hb : b = "int" ∨ b = "bool" ∨ b = "str" ∨ b = "tuple" ∨ b = "list" ∨ b = "dict" := by
    unfold isTy at h
    split at h
    · exact .inl (by assumption)
    · split at h
      · exact .inr (by assumption)
      · cases h
  have ha : a = "int" ∨ a = "bool" ∨ a = "str" ∨ a = "tuple" ∨ a = "list" ∨ a = "dict" ∨ a = "NoneType" := by
    unfold isTy at h
    split at h
    · split at h
      · rename_i q; rcases q with q | q
        · exact .inl q
        · exact .inr (.inl q)
      · split at h
        · rename_i q; exact .inr (.inr q)
        · cases h
    · split at h
      · rename_i q
        split at h
        · rename_i e
          rcases q with q | q | q | q | q
          · exact .inr (.inl (e.trans q))
          · exact .inr (.inr (.inl (e.trans q)))
          · exact .inr (.inr (.inr (.inl (e.trans q))))
          · exact .inr (.inr (.inr (.inr (.inl (e.trans q)))))
          · exact .inr (.inr (.inr (.inr (.inr (.inl (e.trans q))))))
        · split at h
          · assumption
          · cases h
      · cases h
  rcases hb with rfl | rfl | rfl | rfl | rfl | rfl <;> rcases ha with rfl | rfl | rfl | rfl | rfl | rfl | rfl <;>
    (rw [← h]; decide +kernel)
theorem tyX_of {H : Hp} {S : Sto} {w : W} {v : V} {n : String} (hh : HRep K H S) (r : Rep K H w v) (h : tyName w S = some n) : TyX K H v (.type n) := by
  cases w with
  | non => cases (show v = _ from r); cases h; exact .base .non
  | bl b => cases (show v = _ from r); cases h; exact .base (.bl b)
  | int b => cases (show v = _ from r); cases h; exact .base (.int b)
  | str b => cases (show v = _ from r); cases h; exact .base (.str b)
  | ty n => cases h
  | ref a =>
    cases (show v = _ from r)
    unfold tyName at h
    simp only at h
    split at h
    · rename_i e
      cases h
      obtain ⟨xs, h1, _⟩ := hh _ _ e
      exact .base (.lst h1)
    · rename_i e
      cases h
      obtain ⟨xs, h1, _⟩ := hh _ _ e
      exact .base (.dK h1)
    · cases h
  | tup ws =>
    obtain ⟨a, xs, rfl, h1, _⟩ := r
    cases h
    rcases h1 with (h1 | ⟨o, h1⟩) | ⟨o, its, n, h1, h2, _⟩
    · exact .base (.tup h1)
    · exact .fTuple h1
    · exact .kTuple h1 h2
  | rl ws =>
    obtain ⟨a, xs, rfl, h1, _⟩ := r
    cases h
    rcases h1 with ⟨o, h1⟩ | ⟨o, its, n, h1, h2, _⟩
    · exact .base (.frz h1)
    · exact .kList h1 h2
def wIsi : RWC := fun ws S Q => match ws with
  | [x, .ty n] => ∃ t b, tyName x S = some t ∧ isTy t n = some b ∧ Q (.bl b) S
  | _ => False
instance lc_isi : LCR K (rIsi K) wIsi := ⟨fun H S xs ws Q Qw hh r q po => by
  unfold wIsi at q
  split at q
  · obtain ⟨x, y, rfl, h1, h2⟩ := rep2 r
    cases (show y = _ from h2)
    obtain ⟨t, b, e1, e2, q⟩ := q
    exact ⟨x, _, _, _, b, rfl, .ty _, tyX_of hh h1 e1, kit_ty (isTy_kit e2), po.bl (Tk.refl H) hh q⟩
  · exact q.elim⟩

/-! ### calls of the text's own defs -/
abbrev SpW := List W → Sto → WK → Prop
def liftSp (K : PySem.W.Frag) (sp : SpW) : Sp := fun vs H Q _ => ∃ ws S Qw, RepL K H ws vs ∧ HRep K H S ∧ sp ws S Qw ∧ PoE K H Q Qw
def wCall (sp : SpW) (t : TAW) : TEW := fun ρ S Q => t ρ S fun ws S1 => sp ws S1 Q
instance le_call {sp : SpW} {E : XK} {t : TA} {tw : TAW} [a : LA K B t tw] : LE K B (tCall (liftSp K sp) [] E t) (wCall sp tw) := ⟨fun σ H ρ S Q Qw hs hh q po =>
  a.l σ H ρ S _ _ hs hh q fun xs H1 ws S1 t1 hh1 r1 q1 => ⟨ws, S1, Qw, by rw [List.append_nil]; exact r1, hh1, q1, po.tk t1⟩⟩
section
variable {P : Program} {w : World} {mg : Str → Option Value} {base : Heap}
structure CalW (P : Program) (w : World) (K : PySem.W.Frag) (mg : Str → Option Value) (base : Heap) (k : Nat) (x : Str) (sp : SpW) : Prop where
  ex : ∃ (f : Addr) (fd : FuncData) (ps : List Str), FnOk P w K mg base CX0 k f fd ps (liftSp K sp) ∧ mg x = some (.ref f) ∧ PySem.W.keepIn K (.ref f) = true ∧ Binds K fd ps []
theorem CalW.mono {j k : Nat} {x : Str} {sp : SpW} (c : CalW P w K mg base j x sp) (h : j ≤ k) : CalW P w K mg base k x sp := by
  obtain ⟨f, fd, ps, F, r⟩ := c.ex
  exact ⟨f, fd, ps, F.mono h, r⟩
theorem CalW.imp {k : Nat} {x : Str} {sp sp' : SpW} (c : CalW P w K mg base k x sp) (h : ∀ ws S Q, sp' ws S Q → sp ws S Q) : CalW P w K mg base k x sp' := by
  obtain ⟨f, fd, ps, F, r⟩ := c.ex
  exact ⟨f, fd, ps, F.imp fun vs H Q E ⟨ws, S, Qw, h1, h2, h3, h4⟩ => ⟨ws, S, Qw, h1, h2, h _ _ _ h3, h4⟩, r⟩
theorem pe_w {X : Cx} {k j : Nat} {x : Str} {sp : SpW} {p pos : Pos} {e : Expr} {es : List Expr} {t : TA} (c : CalW X.prog X.w X.K X.mg X.base k x sp) (hr : Room j X.A) (hk : k ≤ j) (hg : Gl X x) (ha : PA X (e :: es) t)
    (hdb : (x == ("__debug__" : Str)) = false := by decide) (he : starEach (e :: es) X.env = (false, eval e X.env) :: starEach es X.env := by rfl) (hpl : (backTo pos (starEach es X.env)).any (·.1) = false := by rfl) :
    PE X (.Call (.Name x p) (e :: es) [] pos) (tCall (liftSp X.K sp) [] E0 t) := by
  obtain ⟨f, fd, ps, F, hm, kp, b⟩ := c.ex
  exact pe_call F (hr.mono hk) hg hm kp b .nil pass0 ha hdb he hpl
theorem pe_w0 {X : Cx} {k j : Nat} {x : Str} {sp : SpW} {p pos : Pos} (c : CalW X.prog X.w X.K X.mg X.base k x sp) (hr : Room j X.A) (hk : k ≤ j) (hg : Gl X x)
    (hdb : (x == ("__debug__" : Str)) = false := by decide) : PE X (.Call (.Name x p) [] [] pos) (tCall (liftSp X.K sp) [] E0 tNil) := by
  obtain ⟨f, fd, ps, F, hm, kp, b⟩ := c.ex
  exact pe_call0 F (hr.mono hk) hg hm kp b .nil pass0 hdb
/-- behind a def's end what is wanted may speak of a smaller store -/
def Fg (Q : WK) : WK := fun v S => ∃ S', Sub S' S ∧ Q v S'
theorem Fg.here {Q : WK} {v : W} {S : Sto} (h : Q v S) : Fg Q v S := ⟨S, Sub.refl S, h⟩
theorem calW {x : Str} {st : Stmt} {f : Addr} {fd : FuncData} {N ps : List Str} {k : Nat} {sp : SpW} (F : Fun K x x st f fd) (hm : mg x = some (.ref f)) (b : Binds K fd ps []) (SC : FnScope N ps (defScope st))
    (len : ∀ ws S Q, sp ws S Q → ws.length = ps.length)
    (hbody : ∀ (cdv : Value) (A : Around) (outer : List Env) (s : Shared) (H : Hp) (E : XK), Room k (A.deeper (envOfC x (defScope st) s.heap.objs.size f cdv)) →
      ∃ t tw, PSs (cxOf CX0 P w K mg base N x (defScope st) f cdv A outer s H E).nox (defBody st) t ∧ LS K H t tw ∧ ∀ ws S Q, sp ws S Q → tw { nx := fun _ S' => Fg Q .non S', rt := Fg Q } (startW N ws) S) :
    CalW P w K mg base (k + 1) x sp :=
  ⟨f, fd, ps, F.ok SC (fun vs H Q E ⟨ws, S, Qw, h1, _, h3, _⟩ => by rw [h1.length]; exact len _ _ _ h3) (fun cdv A outer s H vs Q E hr ⟨ws, S, Qw, h1, h2, h3, h4⟩ => by
    obtain ⟨t, tw, ht, hl, hq⟩ := hbody cdv A outer s H E hr
    refine ⟨t, ht, hl.l _ H (startW N ws) S _ _ (SRep.init h1) h2 (hq ws S Qw h3) ⟨?_, fun _ _ _ _ _ _ _ z => z.elim, fun _ _ _ _ _ _ _ z => z.elim, ?_⟩⟩
    · rintro σ' H' ρ' S' t1 _ hh ⟨S2, sub, q⟩
      exact h4.non t1 (hh.sub sub) q
    · rintro v H' w S' t1 hh r ⟨S2, sub, q⟩
      exact h4 v H' w S2 t1 (hh.sub sub) r q), hm, F.kp, b⟩
end

/-! ### methods -/
def tyB (T : String) : W → Sto → Prop
  | .str _, _ => T = "str"
  | .int _, _ => T = "int"
  | .rl _, _ => T = "list"
  | .ref a, S => (T = "list" ∧ ∃ ws, S a = some (.lst ws)) ∨ (T = "dict" ∧ ∃ kvs, S a = some (.dk kvs))
  | _, _ => False
theorem tyB_of {H : Hp} {S : Sto} {T : String} {w : W} {v : V} (hh : HRep K H S) (r : Rep K H w v) (h : tyB T w S) : tyV K T v H := by
  cases w with
  | str x => cases (show v = _ from r); exact h
  | int x => cases (show v = _ from r); exact h
  | rl ws => obtain ⟨a, xs, rfl, h1, _⟩ := r; exact .inl ⟨h, xs, h1.sq⟩
  | ref a =>
    cases (show v = _ from r)
    rcases h with ⟨h, ws, e⟩ | ⟨h, kvs, e⟩
    · obtain ⟨xs, h1, _⟩ := hh _ _ e
      exact .inl ⟨h, xs, SqL.of h1⟩
    · obtain ⟨xs, h1, _⟩ := hh _ _ e
      exact .inr (.inr (.inl ⟨h, .inl ⟨xs, h1⟩⟩))
  | _ => exact h.elim
def wBM (T : String) (r : W → List W → Sto → WK → Prop) (to : TEW) (t : TAW) : TEW := fun ρ S Q => to ρ S fun x S1 => tyB T x S1 ∧ t ρ S1 fun xs S2 => r x xs S2 Q
def wBM0 (T : String) (r : W → List W → Sto → WK → Prop) (to : TEW) : TEW := fun ρ S Q => to ρ S fun x S1 => tyB T x S1 ∧ r x [] S1 Q
instance le_bm {T : String} {r : V → List V → Hp → VK → Prop} {to : TE} {t : TA} {rw : W → List W → Sto → WK → Prop} {wo : TEW} {tw : TAW} [h : LMR K r rw] [a : LE K B to wo] [b : LA K B t tw] : LE K B (tBM K T r to t) (wBM T rw wo tw) := ⟨fun σ H ρ S Q Qw hs hh q po =>
  a.l σ H ρ S _ _ hs hh q fun x H1 wx S1 t1 hh1 r1 q1 => ⟨tyB_of hh1 r1 q1.1, b.l σ H1 ρ S1 _ _ (hs.tk t1) hh1 q1.2 fun xs H2 ws S2 t2 hh2 r2 q2 => h.l H2 S2 x wx xs ws Q Qw hh2 (Rep.tk t2 _ _ r1) r2 q2 (po.tk (t1.trans t2))⟩⟩
instance le_bm0 {T : String} {r : V → List V → Hp → VK → Prop} {to : TE} {rw : W → List W → Sto → WK → Prop} {wo : TEW} [h : LMR K r rw] [a : LE K B to wo] : LE K B (tBM0 K T r to) (wBM0 T rw wo) := ⟨fun σ H ρ S Q Qw hs hh q po =>
  a.l σ H ρ S _ _ hs hh q fun x H1 wx S1 t1 hh1 r1 q1 => ⟨tyB_of hh1 r1 q1.1, h.l H1 S1 x wx [] [] Q Qw hh1 r1 RepL.nil q1.2 (po.tk t1)⟩⟩
def wAppend : W → List W → Sto → WK → Prop := fun x ws S Q => match x, ws with
  | .ref l, [y] => ∃ xs, S l = some (.lst xs) ∧ xs.length < sizeLine ∧ Q .non (put S l (.lst (xs ++ [y])))
  | _, _ => False
instance lm_append : LMR K rAppend wAppend := ⟨fun H S x wx xs ws Q Qw hh rx r q po => by
  unfold wAppend at q
  split at q
  · cases (show x = _ from rx)
    obtain ⟨y, rfl, ry⟩ := rep1 r
    obtain ⟨zs, e, hl, q⟩ := q
    obtain ⟨vs, h1, h2⟩ := hh _ _ e
    have t : Tk H (upd H _ (.lst (vs ++ [y]))) := Tk.mut h1 (fun _ z => (by cases z)) (fun _ _ z => (by cases z))
    obtain ⟨t, hm⟩ := hh.mut (c' := .lst _) (o := .lst (vs ++ [y])) e ⟨_, upd_same, (RepL.tk t _ _ h2).append (.one (Rep.tk t _ _ ry))⟩
    exact ⟨_, vs, y, rfl, rfl, h1, by rw [h2.length]; exact hl, po.non t hm q⟩
  · exact q.elim⟩
def wPop : W → List W → Sto → WK → Prop := fun x ws S Q => match x, ws with
  | .ref l, [] => ∃ xs y, S l = some (.lst xs) ∧ xs[xs.length - 1]? = some y ∧ Q y (put S l (.lst xs.dropLast))
  | _, _ => False
instance lm_pop : LMR K rPop wPop := ⟨fun H S x wx xs ws Q Qw hh rx r q po => by
  unfold wPop at q
  split at q
  · cases (show x = _ from rx)
    cases (show xs = [] from r)
    obtain ⟨zs, y, e, hy, q⟩ := q
    obtain ⟨vs, h1, h2⟩ := hh _ _ e
    obtain ⟨v, e2, rv⟩ := h2.get hy
    have t : Tk H (upd H _ (.lst vs.dropLast)) := Tk.mut h1 (fun _ z => (by cases z)) (fun _ _ z => (by cases z))
    obtain ⟨t, hm⟩ := hh.mut (c' := .lst _) (o := .lst vs.dropLast) e ⟨_, upd_same, (RepL.tk t _ _ h2).dropLast⟩
    exact ⟨_, vs, v, rfl, rfl, h1, by rw [h2.length]; exact e2, po v _ y _ t hm (Rep.tk t _ _ rv) q⟩
  · exact q.elim⟩
def wPopAt : W → List W → Sto → WK → Prop := fun x ws S Q => match x, ws with
  | .ref l, [.int i] => ∃ xs k y, S l = some (.lst xs) ∧ -(2 ^ 63) ≤ i ∧ i < 2 ^ 63 ∧ seqIndex? i xs.length = some k ∧ xs[k]? = some y ∧ Q y (put S l (.lst (xs.eraseIdx k)))
  | _, _ => False
instance lm_popAt : LMR K rPopAt wPopAt := ⟨fun H S x wx xs ws Q Qw hh rx r q po => by
  unfold wPopAt at q
  split at q
  · cases (show x = _ from rx)
    obtain ⟨i, rfl, ri⟩ := rep1 r
    cases (show i = _ from ri)
    obtain ⟨zs, k, y, e, b1, b2, b3, hy, q⟩ := q
    obtain ⟨vs, h1, h2⟩ := hh _ _ e
    obtain ⟨v, e2, rv⟩ := h2.get hy
    have t : Tk H (upd H _ (.lst (vs.eraseIdx k))) := Tk.mut h1 (fun _ z => (by cases z)) (fun _ _ z => (by cases z))
    obtain ⟨t, hm⟩ := hh.mut (c' := .lst _) (o := .lst (vs.eraseIdx k)) e ⟨_, upd_same, (RepL.tk t _ _ h2).eraseIdx k⟩
    exact ⟨_, vs, _, k, v, rfl, rfl, h1, b1, b2, by rw [h2.length]; exact b3, e2, po v _ y _ t hm (Rep.tk t _ _ rv) q⟩
  · exact q.elim⟩
def wReverse : W → List W → Sto → WK → Prop := fun x ws S Q => match x, ws with
  | .ref l, [] => ∃ xs, S l = some (.lst xs) ∧ Q .non (put S l (.lst xs.reverse))
  | _, _ => False
instance lm_reverse : LMR K rReverse wReverse := ⟨fun H S x wx xs ws Q Qw hh rx r q po => by
  unfold wReverse at q
  split at q
  · cases (show x = _ from rx)
    cases (show xs = [] from r)
    obtain ⟨zs, e, q⟩ := q
    obtain ⟨vs, h1, h2⟩ := hh _ _ e
    have t : Tk H (upd H _ (.lst vs.reverse)) := Tk.mut h1 (fun _ z => (by cases z)) (fun _ _ z => (by cases z))
    obtain ⟨t, hm⟩ := hh.mut (c' := .lst _) (o := .lst vs.reverse) e ⟨_, upd_same, (RepL.tk t _ _ h2).reverse⟩
    exact ⟨_, vs, rfl, rfl, h1, po.non t hm q⟩
  · exact q.elim⟩

/-! ### targets -/
def wName (i : Nat) : TGW := fun w ρ S Q => Q (ρ.set i (some w)) S
instance lg_name {i : Nat} : LG K B (gName i) (wName i) := ⟨fun v w σ H ρ S Q Qw r hs hh q po => po _ H _ S (Tk.refl H) (hs.set i r) hh q⟩
def wGNil : TGWs := fun ws ρ S Q => ws = [] ∧ Q ρ S
def wGCons (t : TGW) (u : TGWs) : TGWs := fun ws ρ S Q => match ws with
  | w :: r => t w ρ S fun ρ' S' => u r ρ' S' Q
  | [] => False
instance lgs_nil : LGs K B gNil wGNil := ⟨fun v w σ H ρ S Q Qw r hs hh q po => by
  obtain ⟨e, q⟩ := q
  subst e
  exact ⟨r, po _ H _ S (Tk.refl H) hs hh q⟩⟩
instance lgs_cons {t : TG} {u : TGs} {tw : TGW} {uw : TGWs} [a : LG K B t tw] [b : LGs K B u uw] : LGs K B (gCons t u) (wGCons tw uw) := ⟨fun v w σ H ρ S Q Qw r hs hh q po => by
  cases w with
  | nil => exact q.elim
  | cons w ws =>
    obtain ⟨x, xs, rfl, h1, h2⟩ := r
    exact ⟨x, xs, rfl, a.l x w σ H ρ S _ _ h1 hs hh q fun σ' H' ρ' S' t1 hs' hh' q' => b.l xs ws σ' H' ρ' S' _ _ (RepL.tk t1 _ _ h2) hs' hh' q' (po.tk t1)⟩⟩
def wGTup (n : Nat) (u : TGWs) : TGW := fun w ρ S Q => match w with
  | .tup ws => ws.length = n ∧ u ws ρ S Q
  | _ => False
instance lg_tup {n : Nat} {u : TGs} {uw : TGWs} [b : LGs K B u uw] : LG K B (gTup K n u) (wGTup n uw) := ⟨fun v w σ H ρ S Q Qw r hs hh q po => by
  cases w <;> try exact q.elim
  obtain ⟨a, xs, rfl, h1, h2⟩ := r
  exact ⟨a, xs, rfl, h1, by rw [h2.length]; exact q.1, b.l _ _ σ H ρ S _ _ h2 hs hh q.2 po⟩⟩
/-- xs[i] = e -/
def wGSub (to ti : TEW) : TGW := fun w ρ S Q => to ρ S fun o S1 => ti ρ S1 fun i S2 => match o, i with
  | .ref p, .int k => ∃ ws j, S2 p = some (.lst ws) ∧ ixN ws.length k = some j ∧ Q ρ (put S2 p (.lst (ws.set j w)))
  | _, _ => False
instance lg_sub {to ti : TE} {wo wi : TEW} [a : LE K B to wo] [b : LE K B ti wi] : LG K B (gSub to ti rSetL) (wGSub wo wi) := ⟨fun v w σ H ρ S Q Qw r hs hh q po =>
  a.l σ H ρ S _ _ hs hh q fun o H1 wo S1 t1 hh1 r1 q1 => b.l σ H1 ρ S1 _ _ (hs.tk t1) hh1 q1 fun i H2 wi S2 t2 hh2 r2 q2 => by
    have ro := Rep.tk t2 _ _ r1
    cases wo <;> cases wi <;> try exact q2.elim
    cases (show o = _ from ro)
    cases (show i = _ from r2)
    obtain ⟨ws, j, e, hj, q⟩ := q2
    obtain ⟨xs, h1, h2⟩ := hh2 _ _ e
    have rv := Rep.tk (t1.trans t2) _ _ r
    have t : Tk H2 (upd H2 _ (.lst (xs.set j v))) := Tk.mut h1 (fun _ z => (by cases z)) (fun _ _ z => (by cases z))
    obtain ⟨t, hm⟩ := hh2.mut (c' := .lst _) (o := .lst (xs.set j v)) e ⟨_, upd_same, RepL.set (Rep.tk t _ _ rv) j (RepL.tk t _ _ h2)⟩
    exact ⟨_, xs, _, j, rfl, rfl, h1, by rw [h2.length]; exact hj, po _ _ _ _ ((t1.trans t2).trans t) (hs.tk ((t1.trans t2).trans t)) hm q⟩⟩

/-! ### statements -/
def wNext : TSW := fun D ρ S => D.nx ρ S
def wSeq (t u : TSW) : TSW := fun D ρ S => t { D with nx := u D } ρ S
def wBreak : TSW := fun D ρ S => D.bk ρ S
def wCont : TSW := fun D ρ S => D.ct ρ S
def wAsg (te : TEW) (g : TGW) : TSW := fun D ρ S => te ρ S fun x S1 => g x ρ S1 D.nx
def wDrop (te : TEW) : TSW := fun D ρ S => te ρ S fun _ S1 => D.nx ρ S1
def wRet (te : TEW) : TSW := fun D ρ S => te ρ S D.rt
def wRetN : TSW := fun D _ S => D.rt .non S
def wIfS (c : TTW) (t u : TSW) : TSW := fun D ρ S => c ρ S fun b S1 => (b = true → t D ρ S1) ∧ (b = false → u D ρ S1)
instance ls_next : LS K B tNext wNext := ⟨fun σ H ρ S D Dw hs hh q po => po.nx σ H ρ S (Tk.refl H) hs hh q⟩
instance ls_seq {t u : TS} {tw uw : TSW} [a : LS K B t tw] [b : LS K B u uw] : LS K B (tSeq t u) (wSeq tw uw) := ⟨fun σ H ρ S D Dw hs hh q po =>
  a.l σ H ρ S { D with nx := u D } { Dw with nx := uw Dw } hs hh q ⟨fun σ' H' ρ' S' t1 hs' hh' q' => b.l σ' H' ρ' S' D Dw hs' hh' q' (po.tk t1), po.bk, po.ct, po.rt⟩⟩
instance ls_break : LS K B tBreak wBreak := ⟨fun σ H ρ S D Dw hs hh q po => po.bk σ H ρ S (Tk.refl H) hs hh q⟩
instance ls_cont : LS K B tCont wCont := ⟨fun σ H ρ S D Dw hs hh q po => po.ct σ H ρ S (Tk.refl H) hs hh q⟩
instance ls_asg {te : TE} {g : TG} {we : TEW} {gw : TGW} [a : LE K B te we] [b : LG K B g gw] : LS K B (tAsg te g) (wAsg we gw) := ⟨fun σ H ρ S D Dw hs hh q po =>
  a.l σ H ρ S _ _ hs hh q fun x H1 wx S1 t1 hh1 r1 q1 => b.l x wx σ H1 ρ S1 _ _ r1 (hs.tk t1) hh1 q1 (po.nx.tk t1)⟩
instance ls_drop {te : TE} {we : TEW} [a : LE K B te we] : LS K B (tDrop te) (wDrop we) := ⟨fun σ H ρ S D Dw hs hh q po =>
  a.l σ H ρ S _ _ hs hh q fun x H1 wx S1 t1 hh1 r1 q1 => po.nx σ H1 ρ S1 t1 (hs.tk t1) hh1 q1⟩
instance ls_ret {te : TE} {we : TEW} [a : LE K B te we] : LS K B (tRet te) (wRet we) := ⟨fun σ H ρ S D Dw hs hh q po => a.l σ H ρ S _ _ hs hh q po.rt⟩
instance ls_retN : LS K B tRetN wRetN := ⟨fun σ H ρ S D Dw hs hh q po => po.rt.non (Tk.refl H) hh q⟩
instance ls_if {c : TT} {t u : TS} {cw : TTW} {tw uw : TSW} [h : LT K B c cw] [a : LS K B t tw] [b : LS K B u uw] : LS K B (tIfS c t u) (wIfS cw tw uw) := ⟨fun σ H ρ S D Dw hs hh q po =>
  h.l σ H ρ S _ _ hs hh q fun k H1 S1 t1 hh1 q1 => by
    cases k with
    | true => rw [if_pos rfl]; exact a.l σ H1 ρ S1 D Dw (hs.tk t1) hh1 (q1.1 rfl) (po.tk t1)
    | false => rw [if_neg Bool.false_ne_true]; exact b.l σ H1 ρ S1 D Dw (hs.tk t1) hh1 (q1.2 rfl) (po.tk t1)⟩
/-- x += e, x -= e (ints) -/
def wAugI (i : Nat) (te : TEW) (f : Int → Int → Int) : TSW := fun D ρ S => ∃ x, ρ[i]? = some (some x) ∧ te ρ S fun y S1 => match x, y with
  | .int a, .int b => D.nx (ρ.set i (some (.int (f a b)))) S1
  | _, _ => False
instance ls_aug {i : Nat} {te : TE} {f : Int → Int → Int} {we : TEW} [a : LE K B te we] : LS K B (tAug i te (ipI f)) (wAugI i we f) := ⟨fun σ H ρ S D Dw hs hh ⟨x, e, q⟩ po => by
  obtain ⟨v, e1, r⟩ := hs.at_ i x e
  refine ⟨v, e1, a.l σ H ρ S _ _ hs hh q fun y H1 wy S1 t1 hh1 r1 q1 => ?_⟩
  cases x <;> cases wy <;> try exact q1.elim
  cases (show v = _ from r)
  cases (show y = _ from r1)
  rename_i n m
  exact ⟨_, _, rfl, rfl, po.nx _ H1 _ S1 t1 ((hs.tk t1).set i (w := .int (f n m)) (show Rep K H1 (.int (f n m)) (.int (f n m)) from rfl)) hh1 q1⟩⟩
def wWhile (c : TTW) (tb : TSW) : TSW := fun D ρ S => ∃ I : Nat → StW → Sto → Prop, (∃ m, I m ρ S) ∧ ∀ m ρ S, I m ρ S → c ρ S fun b S1 =>
  (b = true → tb { D with nx := fun ρ' S' => ∃ m', m' < m ∧ I m' ρ' S', ct := fun ρ' S' => ∃ m', m' < m ∧ I m' ρ' S', bk := D.nx } ρ S1) ∧ (b = false → D.nx ρ S1)
instance ls_while {c : TT} {tb : TS} {cw : TTW} {tw : TSW} [h : LT K B c cw] [a : LS K B tb tw] : LS K B (tWhile c tb) (wWhile cw tw) := ⟨fun σ H ρ S D Dw hs hh ⟨I, ⟨m0, i0⟩, st⟩ po => by
  refine ⟨fun m σ' H' => ∃ ρ' S', Tk H H' ∧ SRep K B H' σ' ρ' ∧ HRep K H' S' ∧ I m ρ' S', ⟨m0, ρ, S, Tk.refl H, hs, hh, i0⟩, ?_⟩
  rintro m σ1 H1 ⟨ρ1, S1, t1, hs1, hh1, i1⟩
  refine h.l σ1 H1 ρ1 S1 _ _ hs1 hh1 (st m ρ1 S1 i1) fun b H2 S2 t2 hh2 q2 => ?_
  cases b with
  | true =>
    rw [if_pos rfl]
    refine ⟨fun σ' H' => ∃ m', m' < m ∧ ∃ ρ' S', Tk H H' ∧ SRep K B H' σ' ρ' ∧ HRep K H' S' ∧ I m' ρ' S', fun σ' H' z => z, ?_⟩
    refine a.l σ1 H2 ρ1 S2 _ _ (hs1.tk t2) hh2 (q2.1 rfl) ⟨?_, ?_, ?_, po.rt.tk (t1.trans t2)⟩
    · rintro σ' H' ρ' S' t3 hs3 hh3 ⟨m', hm, q⟩
      exact ⟨m', hm, ρ', S', (t1.trans t2).trans t3, hs3, hh3, q⟩
    · exact po.nx.tk (t1.trans t2)
    · rintro σ' H' ρ' S' t3 hs3 hh3 ⟨m', hm, q⟩
      exact ⟨m', hm, ρ', S', (t1.trans t2).trans t3, hs3, hh3, q⟩
  | false =>
    rw [if_neg Bool.false_ne_true]
    exact po.nx σ1 H2 ρ1 S2 (t1.trans t2) (hs1.tk t2) hh2 (q2.2 rfl)⟩
end Wl
set_option Elab.async false
set_option linter.all false
set_option maxRecDepth 100000
set_option maxHeartbeats 2000000
namespace Wl
open PySem PySem.Spec PyProof.Rows L2
variable {K : PySem.W.Frag} {B : Hp}

/-! ### what a for walks -/
/-- the iterator J goes over the data ws while ok holds of the store -/
structure IsSrc (K : PySem.W.Frag) (H1 : Hp) (J : It) (ws : List W) (ok : Sto → Prop) : Prop where
  go : ∀ i H S, Tk H1 H → HRep K H S → ok S → i < ws.length → J.go i H
  yld : ∀ i H S x H', Tk H1 H → HRep K H S → ok S → i < ws.length → J.yld i H x H' → Tk H H' ∧ HRep K H' S ∧ ∃ w, ws[i]? = some w ∧ Rep K H' w x
  stop : ∀ i H S, Tk H1 H → HRep K H S → ok S → ws.length ≤ i → J.stop i H
abbrev TIW := StW → Sto → (List W → (Sto → Prop) → Sto → Prop) → Prop
class LI (K : PySem.W.Frag) (B : Hp) (t : TI) (tw : outParam TIW) : Prop where
  l : ∀ σ H ρ S R Rw, SRep K B H σ ρ → HRep K H S → tw ρ S Rw → (∀ J H' S' ws ok, Tk H H' → HRep K H' S' → IsSrc K H' J ws ok → Rw ws ok S' → R J H') → t σ H R

def anyS : Sto → Prop := fun _ => True
def keepS (a : Addr) (ws : List W) : Sto → Prop := fun S => S a = some (.lst ws)
theorem src_list {H1 : Hp} {a : Addr} {ws : List W} : IsSrc K H1 (Itl K a) ws (keepS a ws) where
  go := fun i H S t hh ok hi => by
    obtain ⟨xs, h1, h2⟩ := hh _ _ ok
    exact ⟨xs, xs[i]'(by rw [h2.length]; exact hi), SqL.of h1, by simp [h2.length, hi]⟩
  yld := fun i H S x H' t hh ok hi y => by
    obtain ⟨e, y⟩ := y
    subst e
    obtain ⟨xs, h1, h2⟩ := hh _ _ ok
    obtain ⟨w, e, r⟩ := h2.get' (y xs (SqL.of h1))
    exact ⟨Tk.refl _, hh, w, e, r⟩
  stop := fun i H S t hh ok hi => by
    obtain ⟨xs, h1, h2⟩ := hh _ _ ok
    exact ⟨xs, SqL.of h1, by rw [h2.length]; exact hi⟩
theorem src_rl {H1 : Hp} {a : Addr} {xs : List V} {ws : List W} (h : RdL K H1 a xs) (r : RepL K H1 ws xs) : IsSrc K H1 (Itl K a) ws anyS where
  go := fun i H S t hh ok hi => ⟨xs, xs[i]'(by rw [r.length]; exact hi), (t.rdl h).sq, by simp [r.length, hi]⟩
  yld := fun i H S x H' t hh ok hi y => by
    obtain ⟨e, y⟩ := y
    subst e
    obtain ⟨w, e, r⟩ := (RepL.tk t _ _ r).get' (y xs (t.rdl h).sq)
    exact ⟨Tk.refl _, hh, w, e, r⟩
  stop := fun i H S t hh ok hi => ⟨xs, (t.rdl h).sq, by rw [r.length]; exact hi⟩
theorem src_tup {H1 : Hp} {a : Addr} {xs : List V} {ws : List W} (h : SqT K H1 a xs) (r : RepL K H1 ws xs) : IsSrc K H1 (Itt K a) ws anyS where
  go := fun i H S t hh ok hi => ⟨xs, xs[i]'(by rw [r.length]; exact hi), t.sqt h, by simp [r.length, hi]⟩
  yld := fun i H S x H' t hh ok hi y => by
    obtain ⟨e, y⟩ := y
    subst e
    obtain ⟨w, e, r⟩ := (RepL.tk t _ _ r).get' (y xs (t.sqt h))
    exact ⟨Tk.refl _, hh, w, e, r⟩
  stop := fun i H S t hh ok hi => ⟨xs, t.sqt h, by rw [r.length]; exact hi⟩
/-- lo, lo + 1, .. n of them -/
def intsW (lo : Int) (n : Nat) : List W := (List.range n).map fun i => W.int (lo + (i : Nat))
theorem intsW_len {lo : Int} {n : Nat} : (intsW lo n).length = n := by unfold intsW; simp
theorem intsW_get {lo : Int} {n i : Nat} (h : i < n) : (intsW lo n)[i]? = some (W.int (lo + (i : Nat))) := by unfold intsW; simp [h]
theorem intsW_at {lo : Int} {n i : Nat} {w : W} (h : (intsW lo n)[i]? = some w) : i < n ∧ w = W.int (lo + (i : Nat)) := by
  unfold intsW at h
  rw [List.getElem?_map] at h
  by_cases q : i < n
  · rw [List.getElem?_range q] at h
    exact ⟨q, (Option.some.inj h).symm⟩
  · rw [List.getElem?_eq_none (by simpa using q)] at h
    cases h
theorem src_range {H1 : Hp} {lo : Int} {n : Nat} : IsSrc K H1 (Itr lo n) (intsW lo n) anyS where
  go := fun i H S t hh ok hi => by rw [intsW_len] at hi; exact hi
  yld := fun i H S x H' t hh ok hi y => by
    obtain ⟨e, y⟩ := y
    subst e y
    rw [intsW_len] at hi
    exact ⟨Tk.refl _, hh, W.int (lo + (i : Nat)), intsW_get hi, (show Rep K _ (W.int (lo + (i : Nat))) _ from rfl)⟩
  stop := fun i H S t hh ok hi => by rw [intsW_len] at hi; exact hi
/-- over a list, a tuple, a text -/
def signs (x : Str) : List W := x.cps.toList.map fun c => W.str ⟨#[c]⟩
theorem src_str {H1 : Hp} {x : Str} : IsSrc K H1 (Its x) (signs x) anyS where
  go := fun i H S t hh ok hi => by
    unfold signs at hi
    rw [List.length_map, Array.length_toList] at hi
    exact hi
  yld := fun i H S z H' t hh ok hi y => by
    obtain ⟨e, c, e2, e3⟩ := y
    subst e e3
    refine ⟨Tk.refl _, hh, .str ⟨#[c]⟩, ?_, (show Rep K _ (.str ⟨#[c]⟩) _ from rfl)⟩
    unfold signs
    rw [List.getElem?_map, Array.getElem?_toList, e2]
    rfl
  stop := fun i H S t hh ok hi => by
    unfold signs at hi
    rw [List.length_map, Array.length_toList] at hi
    exact hi
def iAny (K : PySem.W.Frag) (tl : TE) : TI := fun σ H R => tl σ H fun x H1 => (∃ a, x = .ref a ∧ (∃ xs, SqL K H1 a xs) ∧ R (Itl K a) H1) ∨ (∃ a, x = .ref a ∧ (∃ xs, SqT K H1 a xs) ∧ R (Itt K a) H1) ∨ ∃ z, x = .str z ∧ R (Its z) H1
theorem pi_any {X : Cx} {tg l : Expr} {tl : TE} (hl : PE X l tl) : PI X tg l (iAny X.K tl) := by
  refine ⟨fun pins s σ H R I h => ?_⟩
  refine thn (hl.run pins s σ H _ I h) fun v s1 ⟨x, H1, I1, r1, q1⟩ => ?_
  rcases q1 with ⟨a, e, ⟨xs, hq⟩, q⟩ | ⟨a, e, ⟨xs, hq⟩, q⟩ | ⟨x, ex, q⟩
  · subst e
    cases r1
    obtain ⟨its, rv, p, hz⟩ := I1.list hq
    refine wpAny_pyIter_list p.isList ?_
    refine ⟨s1.heap.objs.size, [s1.heap.objs.size], _, _, H1, rfl, I1.kept (t' := s1.toks) fun b o e => Heap.get?_push_of_some _ e, turn_list a _, ⟨_, Heap.get?_push_size _ rfl, rfl, rfl⟩, fun b hb => ?_, q⟩
    have e : b = s1.heap.objs.size := by simpa using hb
    subst e
    exact I1.fpOk (Nat.le_refl _) (I1.hok.fresh (Nat.le_refl _))
  · subst e
    cases r1
    obtain ⟨its, rv, p, hz⟩ := I1.tuple hq
    refine wpAny_pyIter_tuple (show s1.heap.IsTuple a its.toArray from p) ?_
    refine ⟨s1.heap.objs.size, [s1.heap.objs.size], _, _, H1, rfl, I1.kept (t' := s1.toks) fun b o e => Heap.get?_push_of_some _ e, turn_tuple a _, ⟨_, Heap.get?_push_size _ rfl, rfl, rfl⟩, fun b hb => ?_, q⟩
    have e : b = s1.heap.objs.size := by simpa using hb
    subst e
    exact I1.fpOk (Nat.le_refl _) (I1.hok.fresh (Nat.le_refl _))
  · subst ex
    obtain ⟨t, rfl⟩ := r1
    cases ha : x.cps.all (· < 128)
    · exact wpAny_pyIter_wide ha (pi_one (tk := s1.toks) I1 _ (turn_str _ x t "str_iterator" (.inr rfl)) ⟨_, Heap.get?_push_size _ rfl, rfl, rfl⟩ q)
    · exact wpAny_pyIter_ascii ha (pi_one (tk := s1.toks) I1 _ (turn_str _ x t "str_ascii_iterator" (.inl rfl)) ⟨_, Heap.get?_push_size _ rfl, rfl, rfl⟩ q)
def wiAny (te : TEW) : TIW := fun ρ S R => te ρ S fun x S1 => match x with
  | .tup ws => R ws anyS S1
  | .rl ws => R ws anyS S1
  | .str z => R (signs z) anyS S1
  | .ref a => ∃ ws, S1 a = some (.lst ws) ∧ R ws (keepS a ws) S1
  | _ => False
instance li_any {t : TE} {tw : TEW} [a : LE K B t tw] : LI K B (iAny K t) (wiAny tw) := ⟨fun σ H ρ S R Rw hs hh q po => a.l σ H ρ S _ _ hs hh q fun x H1 wx S1 t1 hh1 r1 q1 => by
  cases wx <;> try exact q1.elim
  · cases (show x = _ from r1)
    exact .inr (.inr ⟨_, rfl, po _ H1 S1 _ _ t1 hh1 src_str q1⟩)
  · cases (show x = _ from r1)
    obtain ⟨ws, e, q⟩ := q1
    obtain ⟨xs, h1, h2⟩ := hh1 _ _ e
    exact .inl ⟨_, rfl, ⟨xs, SqL.of h1⟩, po _ H1 S1 _ _ t1 hh1 src_list q⟩
  · obtain ⟨a, xs, rfl, h1, h2⟩ := r1
    exact .inr (.inl ⟨a, rfl, ⟨xs, h1⟩, po _ H1 S1 _ _ t1 hh1 (src_tup h1 h2) q1⟩)
  · obtain ⟨a, xs, rfl, h1, h2⟩ := r1
    exact .inl ⟨a, rfl, ⟨xs, h1.sq⟩, po _ H1 S1 _ _ t1 hh1 (src_rl h1 h2) q1⟩⟩
def wiR1 (ta : TAW) : TIW := fun ρ S R => ta ρ S fun ws S1 => match ws with
  | [.int j] => -(2 ^ 62) ≤ j ∧ j < 2 ^ 62 ∧ R (intsW 0 j.toNat) anyS S1
  | _ => False
def wiR2 (ta : TAW) : TIW := fun ρ S R => ta ρ S fun ws S1 => match ws with
  | [.int i, .int j] => (-(2 ^ 62) ≤ i ∧ i < 2 ^ 62 ∧ -(2 ^ 62) ≤ j ∧ j < 2 ^ 62) ∧ R (intsW i (j - i).toNat) anyS S1
  | _ => False
instance li_r1 {t : TA} {tw : TAW} [a : LA K B t tw] : LI K B (iRng1 t) (wiR1 tw) := ⟨fun σ H ρ S R Rw hs hh q po => a.l σ H ρ S _ _ hs hh q fun xs H1 ws S1 t1 hh1 r1 q1 => by
  split at q1
  · obtain ⟨x, rfl, h1⟩ := rep1 r1
    cases (show x = _ from h1)
    exact ⟨_, rfl, q1.1, q1.2.1, po _ H1 S1 _ _ t1 hh1 src_range q1.2.2⟩
  · exact q1.elim⟩
instance li_r2 {t : TA} {tw : TAW} [a : LA K B t tw] : LI K B (iRng2 t) (wiR2 tw) := ⟨fun σ H ρ S R Rw hs hh q po => a.l σ H ρ S _ _ hs hh q fun xs H1 ws S1 t1 hh1 r1 q1 => by
  split at q1
  · obtain ⟨x, y, rfl, h1, h2⟩ := rep2 r1
    cases (show x = _ from h1)
    cases (show y = _ from h2)
    exact ⟨_, _, rfl, q1.1, po _ H1 S1 _ _ t1 hh1 src_range q1.2⟩
  · exact q1.elim⟩

/-! ### for -/
def wFor (wi : TIW) (g : TGW) (tb : TSW) : TSW := fun D ρ S => wi ρ S fun ws ok S1 => ∃ P : Nat → StW → Sto → Prop, P 0 ρ S1 ∧ (∀ i ρ' S', P i ρ' S' → ok S') ∧
  (∀ i w ρ' S', ws[i]? = some w → P i ρ' S' → g w ρ' S' fun ρ2 S2 => tb { D with nx := P (i + 1), ct := P (i + 1), bk := D.nx } ρ2 S2) ∧ ∀ ρ' S', P ws.length ρ' S' → D.nx ρ' S'
instance ls_for {wi : TI} {g : TG} {tb : TS} {ww : TIW} {gw : TGW} {tw : TSW} [h : LI K B wi ww] [b : LG K B g gw] [a : LS K B tb tw] : LS K B (tFor wi g tb) (wFor ww gw tw) := ⟨fun σ H ρ S D Dw hs hh q po => by
  refine h.l σ H ρ S _ _ hs hh q fun J H1 S1 ws ok t1 hh1 src ⟨P, p0, pok, pst, pend⟩ => ?_
  refine ⟨fun i m σ' H' => m = ws.length - i ∧ i ≤ ws.length ∧ ∃ ρ' S', Tk H1 H' ∧ SRep K B H' σ' ρ' ∧ HRep K H' S' ∧ P i ρ' S', ⟨ws.length, by simp, Nat.zero_le _, ρ, S1, Tk.refl H1, hs.tk t1, hh1, p0⟩, ?_⟩
  rintro i m σ2 H2 ⟨rfl, hi, ρ2, S2, t2, hs2, hh2, p2⟩
  by_cases hlt : i < ws.length
  · refine .inr ⟨src.go i H2 S2 t2 hh2 (pok _ _ _ p2) hlt, fun σ' H' => ∃ ρ' S', Tk H1 H' ∧ SRep K B H' σ' ρ' ∧ HRep K H' S' ∧ P (i + 1) ρ' S', fun σ' H' z => ⟨ws.length - (i + 1), by omega, rfl, hlt, z⟩, fun x H3 y => ?_⟩
    obtain ⟨t3, hh3, w, e, r⟩ := src.yld i H2 S2 x H3 t2 hh2 (pok _ _ _ p2) hlt y
    refine b.l x w σ2 H3 ρ2 S2 _ _ r (hs2.tk t3) hh3 (pst i w ρ2 S2 e p2) fun σ4 H4 ρ4 S4 t4 hs4 hh4 q4 => ?_
    have t14 := (t2.trans t3).trans t4
    refine a.l σ4 H4 ρ4 S4 _ _ hs4 hh4 q4 ⟨?_, po.nx.tk (t1.trans t14), ?_, po.rt.tk (t1.trans t14)⟩
    · exact fun σ' H' ρ' S' t5 hs5 hh5 q5 => ⟨ρ', S', t14.trans t5, hs5, hh5, q5⟩
    · exact fun σ' H' ρ' S' t5 hs5 hh5 q5 => ⟨ρ', S', t14.trans t5, hs5, hh5, q5⟩
  · have e : i = ws.length := by omega
    subst e
    exact .inl ⟨src.stop _ H2 S2 t2 hh2 (pok _ _ _ p2) (Nat.le_refl _), po.nx σ2 H2 ρ2 S2 (t1.trans t2) hs2 hh2 (pend _ _ p2)⟩⟩

/-! ### comprehensions -/
def wipeW (ρ : StW) : List Nat → StW
  | [] => ρ
  | v :: vs => (wipeW ρ vs).set v none
theorem srep_wipe {H : Hp} {σ : L2.St} {ρ : StW} (h : SRep K B H σ ρ) : ∀ vs : List Nat, SRep K B H (wipe σ vs) (wipeW ρ vs)
  | [] => h
  | v :: vs => by
    have ih := srep_wipe h vs
    unfold wipe wipeW
    refine ⟨ih.bs, by rw [List.length_set, List.length_set, ih.len], fun j z e => ?_⟩
    by_cases q : v = j
    · subst q
      by_cases hl : v < (wipeW ρ vs).length
      · rw [List.getElem?_set_self hl] at e; cases e
      · rw [List.getElem?_eq_none (by rw [List.length_set]; omega)] at e; cases e
    · rw [List.getElem?_set_ne q] at e ⊢
      exact ih.at_ j z e
/-- a target that stores own names alone -/
class GW (g : TG) (vs : List Nat) : Prop where
  l : ∀ v σ H Q, g v (wipe σ vs) H Q → g v (wipe σ vs) H fun σ2 H2 => wipe σ2 vs = wipe σ vs ∧ Q σ2 H2
theorem wipe_at (σ : L2.St) (vs : List Nat) (i : Nat) : (wipe σ vs)[i]? = if i ∈ vs then (if i < σ.length then some none else none) else σ[i]? := by
  induction vs with
  | nil => simp [wipe]
  | cons v vs ih =>
    unfold wipe
    by_cases q : v = i
    · subst q
      by_cases hl : v < σ.length
      · rw [List.getElem?_set_self (by rw [wipe_length]; exact hl)]
        simp [hl]
      · rw [List.getElem?_eq_none (by rw [List.length_set, wipe_length]; omega)]
        simp [hl]
    · rw [List.getElem?_set_ne q, ih]
      simp [Ne.symm q]
theorem wipe_set {σ : L2.St} {vs : List Nat} {j : Nat} {x : V} (hj : j ∈ vs) : wipe ((wipe σ vs).set j (some x)) vs = wipe σ vs := by
  apply List.ext_getElem?
  intro i
  rw [wipe_at, wipe_at]
  by_cases hi : i ∈ vs
  · simp [hi, wipe_length]
  · rw [if_neg hi, if_neg hi, List.getElem?_set_ne (show j ≠ i from fun e => hi (by rw [← e]; exact hj)), wipe_at, if_neg hi]
class MemN (j : Nat) (vs : List Nat) : Prop where
  h : j ∈ vs
instance mem_hd {j : Nat} {vs : List Nat} : MemN j (j :: vs) := ⟨by simp⟩
instance mem_tl {j v : Nat} {vs : List Nat} [h : MemN j vs] : MemN j (v :: vs) := ⟨by simp [h.h]⟩
instance memm_hd {j : Nat} {x : Str} {vs : List (Str × Nat)} : MemN j (((x, j) :: vs).map (·.2)) := ⟨by simp⟩
instance memm_tl {j : Nat} {y : Str × Nat} {vs : List (Str × Nat)} [h : MemN j (vs.map (·.2))] : MemN j ((y :: vs).map (·.2)) := ⟨by rw [List.map_cons]; exact List.mem_cons_of_mem _ h.h⟩
instance gw_name {j : Nat} {vs : List Nat} [h : MemN j vs] : GW (gName j) vs := ⟨fun v σ H Q q => ⟨wipe_set h.h, q⟩⟩
def wLc (wi : TIW) (g : TGW) (tt : TTW) (te : TEW) (vs : List Nat) : TEW := fun ρ S Q => wi ρ S fun ws ok S1 => ∀ D, S1 D = none → ∃ P : Nat → List W → Sto → Prop, P 0 [] (put S1 D (.lst [])) ∧
  (∀ i acc S', P i acc S' → ok S') ∧
  (∀ i w acc S', ws[i]? = some w → P i acc S' → g w (wipeW ρ vs) S' fun ρ2 S2 => tt ρ2 S2 fun b S3 =>
    (b = true → te ρ2 S3 fun y S4 => S4 D = some (.lst acc) ∧ acc.length < sizeLine ∧ P (i + 1) (acc ++ [y]) (put S4 D (.lst (acc ++ [y])))) ∧ (b = false → P (i + 1) acc S3)) ∧
  ∀ acc S', P ws.length acc S' → Q (.ref D) S'
instance le_lc {wi : TI} {g : TG} {tt : TT} {te : TE} {vs : List Nat} {ww : TIW} {gw : TGW} {tw : TTW} {ew : TEW} [h : LI K B wi ww] [b : LG K B g gw] [gg : GW g vs] [c : LT K B tt tw] [a : LE K B te ew] : LE K B (tLc wi g tt te vs) (wLc ww gw tw ew vs) := ⟨fun σ H ρ S Q Qw hs hh q po => by
  refine h.l σ H ρ S _ _ hs hh q fun J H1 S1 ws ok t1 hh1 src hD => fun D hDn => ?_
  obtain ⟨P, p0, pok, pst, pend⟩ := hD D (hh1.fresh hDn)
  have tD : Tk H1 (upd H1 D (.lst [])) := Tk.new hDn
  have hhD : HRep K (upd H1 D (.lst [])) (put S1 D (.lst [])) := hh1.new hDn ⟨[], upd_same, rfl⟩
  refine ⟨fun i m H' => m = ws.length - i ∧ i ≤ ws.length ∧ ∃ acc S', Tk H1 H' ∧ HRep K H' S' ∧ P i acc S', ⟨ws.length, by simp, Nat.zero_le _, [], _, tD, hhD, p0⟩, ?_⟩
  rintro i m H2 ⟨rfl, hi, acc, S2, t2, hh2, p2⟩
  by_cases hlt : i < ws.length
  · refine .inr ⟨src.go i H2 S2 t2 hh2 (pok _ _ _ p2) hlt, fun H' => ∃ acc S', Tk H1 H' ∧ HRep K H' S' ∧ P (i + 1) acc S', fun H' z => ⟨ws.length - (i + 1), by omega, rfl, hlt, z⟩, fun x H3 y => ?_⟩
    obtain ⟨t3, hh3, w, e, r⟩ := src.yld i H2 S2 x H3 t2 hh2 (pok _ _ _ p2) hlt y
    refine gg.l x σ H3 _ ?_
    have hs3 : SRep K B H3 (wipe σ vs) (wipeW ρ vs) := srep_wipe (hs.tk ((t1.trans t2).trans t3)) vs
    refine b.l x w (wipe σ vs) H3 (wipeW ρ vs) S2 _ _ r hs3 hh3 (pst i w acc S2 e p2) fun σ4 H4 ρ4 S4 t4 hs4 hh4 q4 => ?_
    refine c.l σ4 H4 ρ4 S4 _ _ hs4 hh4 q4 fun bb H5 S5 t5 hh5 q5 => ?_
    have t15 := ((t2.trans t3).trans t4).trans t5
    cases bb with
    | true =>
      rw [if_pos rfl]
      refine a.l σ4 H5 ρ4 S5 _ _ (hs4.tk t5) hh5 (q5.1 rfl) fun z H6 wz S6 t6 hh6 r6 ⟨eD, hl, q6⟩ => ?_
      obtain ⟨vs', h1, h2⟩ := hh6 _ _ eD
      have t : Tk H6 (upd H6 D (.lst (vs' ++ [z]))) := Tk.mut h1 (fun _ z => (by cases z)) (fun _ _ z => (by cases z))
      obtain ⟨t, hm⟩ := hh6.mut (c' := .lst (acc ++ [wz])) (o := .lst (vs' ++ [z])) eD ⟨_, upd_same, (RepL.tk t _ _ h2).append (.one (Rep.tk t _ _ r6))⟩
      exact ⟨vs', h1, by rw [h2.length]; exact hl, _, _, (t15.trans t6).trans t, hm, q6⟩
    | false =>
      rw [if_neg Bool.false_ne_true]
      exact ⟨acc, S5, t15, hh5, q5.2 rfl⟩
  · have e : i = ws.length := by omega
    subst e
    exact .inl ⟨src.stop _ H2 S2 t2 hh2 (pok _ _ _ p2) (Nat.le_refl _), po.ref (t1.trans t2) hh2 (pend _ _ p2)⟩⟩
end Wl
set_option Elab.async false
set_option linter.all false
set_option maxRecDepth 100000
set_option maxHeartbeats 2000000
namespace Wl
open PySem PySem.Spec PyProof.Rows L2
variable {K : PySem.W.Frag} {B : Hp}
/-! ### more statements -/
def wPar (i j : Nat) (ta : TAW) : TSW := fun D ρ S => ta ρ S fun ws S1 => match ws with
  | [v, w] => D.nx ((ρ.set i (some v)).set j (some w)) S1
  | _ => False
instance ls_par {i j : Nat} {ta : TA} {wa : TAW} [a : LA K B ta wa] : LS K B (tPar i j ta) (wPar i j wa) := ⟨fun σ H ρ S D Dw hs hh q po => a.l σ H ρ S _ _ hs hh q fun xs H1 ws S1 t1 hh1 r1 q1 => by
  split at q1
  · obtain ⟨x, y, rfl, h1, h2⟩ := rep2 r1
    exact ⟨x, y, rfl, po.nx _ H1 _ S1 t1 (((hs.tk t1).set i h1).set j h2) hh1 q1⟩
  · exact q1.elim⟩

/-- a statement, then the rest, with a word between them -/
def tMid (t u : TS) : TS := fun D σ H => ∃ M : L2.St → Hp → Prop, t { D with nx := M } σ H ∧ ∀ σ' H', M σ' H' → u D σ' H'
theorem pss_mid {X : Cx} {st : Stmt} {rest : List Stmt} {t u : TS} (h1 : PS X st t) (h2 : PSs X rest u) : PSs X (st :: rest) (tMid t u) := by
  refine ⟨fun pins s σ H D I h => ?_⟩
  obtain ⟨Mid, hm, hu⟩ := h
  refine wpAny_execs_cons (thn (h1.run pins s σ H { D with nx := Mid } I hm) fun f s1 q => ?_)
  cases f with
  | next =>
    obtain ⟨σ', H', I', q⟩ := q
    exact h2.run pins s1 σ' H' D I' (hu σ' H' q)
  | ret v => exact q
  | brk => exact q
  | cont => exact q
def wMid (t u : TSW) : TSW := fun D ρ S => ∃ M : StW → Sto → Prop, t { D with nx := M } ρ S ∧ ∀ ρ' S', M ρ' S' → u D ρ' S'
instance ls_mid {t u : TS} {tw uw : TSW} [a : LS K B t tw] [b : LS K B u uw] : LS K B (tMid t u) (wMid tw uw) := ⟨fun σ H ρ S D Dw hs hh ⟨M, hm, hu⟩ po =>
  ⟨fun σ' H' => ∃ ρ' S', Tk H H' ∧ SRep K B H' σ' ρ' ∧ HRep K H' S' ∧ M ρ' S', a.l σ H ρ S _ { Dw with nx := M } hs hh hm ⟨fun σ' H' ρ' S' t1 hs' hh' q' => ⟨ρ', S', t1, hs', hh', q'⟩, po.bk, po.ct, po.rt⟩,
    fun σ' H' ⟨ρ', S', t1, hs', hh', q'⟩ => b.l σ' H' ρ' S' D Dw hs' hh' (hu ρ' S' q') (po.tk t1)⟩⟩

/-! ### the text's defs -/
section
variable {P : Program} {w : World} {mg : Str → Option Value} {base : Heap}
structure DefAt (K : PySem.W.Frag) (mg : Str → Option Value) (x : Str) (st : Stmt) (ps : List Str) : Prop where
  ex : ∃ (f : Addr) (fd : FuncData), Fun K x x st f fd ∧ mg x = some (.ref f) ∧ Binds K fd ps []
theorem calD {x : Str} {st : Stmt} {N ps : List Str} {k : Nat} {sp : SpW} (d : DefAt K mg x st ps) (SC : FnScope N ps (defScope st))
    (len : ∀ ws S Q, sp ws S Q → ws.length = ps.length)
    (hbody : ∀ (f : Addr) (cdv : Value) (A : Around) (outer : List Env) (s : Shared) (H : Hp) (E : XK), Room k (A.deeper (envOfC x (defScope st) s.heap.objs.size f cdv)) →
      ∃ t tw, PSs (cxOf CX0 P w K mg base N x (defScope st) f cdv A outer s H E).nox (defBody st) t ∧ LS K H t tw ∧ ∀ ws S Q, sp ws S Q → tw { nx := fun _ S' => Fg Q .non S', rt := Fg Q } (startW N ws) S) :
    CalW P w K mg base (k + 1) x sp := by
  obtain ⟨f, fd, F, hm, b⟩ := d.ex
  exact calW F hm b SC len (hbody f)
/-- the law itself -/
theorem fnD {x : Str} {st : Stmt} {N ps : List Str} {k : Nat} {sp : SpW} {f : Addr} {fd : FuncData} (F : Fun K x x st f fd) (SC : FnScope N ps (defScope st))
    (len : ∀ ws S Q, sp ws S Q → ws.length = ps.length)
    (hbody : ∀ (f : Addr) (cdv : Value) (A : Around) (outer : List Env) (s : Shared) (H : Hp) (E : XK), Room k (A.deeper (envOfC x (defScope st) s.heap.objs.size f cdv)) →
      ∃ t tw, PSs (cxOf CX0 P w K mg base N x (defScope st) f cdv A outer s H E).nox (defBody st) t ∧ LS K H t tw ∧ ∀ ws S Q, sp ws S Q → tw { nx := fun _ S' => Fg Q .non S', rt := Fg Q } (startW N ws) S) :
    FnOk P w K mg base CX0 (k + 1) f fd ps (liftSp K sp) :=
  F.ok SC (fun vs H Q E ⟨ws, S, Qw, h1, _, h3, _⟩ => by rw [h1.length]; exact len _ _ _ h3) (fun cdv A outer s H vs Q E hr ⟨ws, S, Qw, h1, h2, h3, h4⟩ => by
    obtain ⟨t, tw, ht, hl, hq⟩ := hbody f cdv A outer s H E hr
    refine ⟨t, ht, hl.l _ H (startW N ws) S _ _ (SRep.init h1) h2 (hq ws S Qw h3) ⟨?_, fun _ _ _ _ _ _ _ z => z.elim, fun _ _ _ _ _ _ _ z => z.elim, ?_⟩⟩
    · rintro σ' H' ρ' S' t1 _ hh ⟨S2, sub, q⟩
      exact h4.non t1 (hh.sub sub) q
    · rintro v H' w S' t1 hh r ⟨S2, sub, q⟩
      exact h4 v H' w S2 t1 (hh.sub sub) r q)
end
/-- the law's promise: True, whatever the script -/
def spLaw : SpW := fun ws _ Q => ∃ ns : List Int, ws = [.rl (ns.map W.int)] ∧ ns.length ≤ 63 ∧ ∀ S', Q (.bl true) S'
theorem law_end {H : Hp} {a : Addr} {ns : List Int} (hl : ns.length ≤ 63) (hO : Only H) (hS : SqL K H a (ns.map V.int)) : liftSp K spLaw [.ref a] H (fun v _ => v = .bl true) (fun _ _ _ => False) := by
  refine ⟨[.rl (ns.map W.int)], fun _ => none, fun v _ => v = .bl true, ?_, fun a c e => (by cases e), ⟨ns, rfl, hl, fun _ => rfl⟩, fun v H' w S' _ _ r q => ?_⟩
  · refine .one ⟨a, ns.map V.int, rfl, ?_, RepL.ofInts⟩
    rcases hS with (h | h) | h
    · rcases hO a with z | ⟨o, xs, z⟩
      · rw [h] at z; cases z
      · rw [h] at z; cases z
    · exact .inl h
    · exact .inr h
  · have q' : w = .bl true := q
    subst q'
    exact r

theorem isTy_tt : isTy "tuple" "tuple" = some true := by decide +kernel
theorem isTy_ii : isTy "int" "int" = some true := by decide +kernel
theorem isTy_ib : isTy "int" "bool" = some false := by decide +kernel
theorem isTy_bb : isTy "bool" "bool" = some true := by decide +kernel
theorem isTy_ll : isTy "list" "list" = some true := by decide +kernel
theorem isTy_ss : isTy "str" "str" = some true := by decide +kernel
theorem tyName_lst {S : Sto} {a : Addr} {ws : List W} (h : S a = some (.lst ws)) : tyName (.ref a) S = some "list" := by
  unfold tyName
  simp only [h]
/-! ### never called -/
def wNever : TSW := fun _ _ _ => False
instance ls_never : LS K B tNever wNever := ⟨fun σ H ρ S D Dw hs hh q po => q.elim⟩
def spNever : SpW := fun _ _ _ => False
theorem calNever {P : Program} {w : World} {mg : Str → Option Value} {base : Heap} {x : Str} {st : Stmt} {N ps : List Str} (d : DefAt K mg x st ps) (SC : FnScope N ps (defScope st)) : CalW P w K mg base 1 x spNever :=
  calD d SC (fun _ _ _ h => h.elim) fun f cdv A outer s H E hr => ⟨_, _, pss_never, inferInstance, fun ws S Q h => h.elim⟩

/-! ### stores -/
theorem ne_free {S : Sto} {p q : Addr} {c : Cell} (h : S p = some c) (n : S q = none) : q ≠ p := fun e => by rw [e, h] at n; cases n
theorem sub_new2 {S : Sto} {p : Addr} {c : Cell} (n : S p = none) : Sub S (put S p c) := Sub.new n

/-! ### pools: the drawn numbers of a script -/
/-- a pool's list: what is left, how many were drawn, whether by digits, the seed, three -/
def poolL (c n b s : Int) : List W := [.int c, .int n, .int b, .int s, .int 3]
structure PoolOk (c n s : Int) : Prop where
  c0 : 0 ≤ c
  n0 : 0 ≤ n
  n1 : n ≤ 1000000
  s0 : 0 ≤ s
  s1 : s < 2147483647
/-- a new pool at p; its own cell, anything else as it was -/
def spPool : SpW := fun ws S Q => ∃ (ns : List Int) (k : Int), ws = [.rl (ns.map W.int), .int k] ∧ 0 ≤ k ∧ k ≤ 1000 ∧ ns.length ≤ 63 ∧
  ∀ p c b s, S p = none → PoolOk c 0 s → Q (.ref p) (put S p (.lst (poolL c 0 b s)))
/-- one number is drawn, 0 or more and less than many -/
def spTake : SpW := fun ws S Q => ∃ (p : Addr) (c n b s many : Int), ws = [.ref p, .int many] ∧ S p = some (.lst (poolL c n b s)) ∧ PoolOk c n s ∧ n < 1000000 ∧ 0 < many ∧ many < 2 ^ 64 ∧
  ∀ r c', 0 ≤ r → r < many → PoolOk c' (n + 1) s → Q (.int r) (put S p (.lst (poolL c' (n + 1) b s)))
theorem sizeLine_ge : 1000 ≤ sizeLine := by decide
theorem atI_int {ns : List Int} {i : Int} (h0 : 0 ≤ i) (h1 : i < ns.length) : ∃ n, atI (ns.map W.int) i = some (.int n) := by
  obtain ⟨j, rfl⟩ : ∃ j : Nat, i = (j : Int) := ⟨i.toNat, by omega⟩
  have hj : j < ns.length := by omega
  refine ⟨ns[j], ?_⟩
  unfold atI ixN
  rw [if_pos (by omega), if_pos (by rw [List.length_map]; omega)]
  simp [hj]
end Wl
set_option Elab.async false
set_option linter.all false
set_option maxRecDepth 100000
set_option maxHeartbeats 2000000
/-! The rules with the written part named. -/
namespace Wl
open PySem PySem.Spec PyProof.Rows L2
section
variable {X : Cx} (K : PySem.W.Frag)
theorem k_add (hK : X.K = K := by rfl) : OpR X (binaryOp .Add) (rAddA K) := by subst hK; exact op_addA
theorem k_eq (hu : X.A.units + 64 < cLine) (hK : X.K = K := by rfl) : OpR X (compareOp .Eq) (rEqA K) := by subst hK; exact op_eqA hu
theorem k_ne (hu : X.A.units + 64 < cLine) (hK : X.K = K := by rfl) : OpR X (compareOp .NotEq) (rNeA K) := by subst hK; exact op_neA hu
theorem k_in (hK : X.K = K := by rfl) : OpR X (compareOp .In) (rInA K false) := by subst hK; exact op_inA
theorem k_notIn (hK : X.K = K := by rfl) : OpR X (compareOp .NotIn) (rInA K true) := by subst hK; exact op_notInA
theorem k_ix (hK : X.K = K := by rfl) : IxR X (rIx K) := by subst hK; exact ix_seq
theorem k_sl (hK : X.K = K := by rfl) : SlR X (rSlA K) := by subst hK; exact sl_A
theorem k_any {tg l : Expr} {tl : TE} (hl : PE X l tl) (hK : X.K = K := by rfl) : PI X tg l (iAny K tl) := by subst hK; exact pi_any hl
theorem k_len (hK : X.K = K := by rfl) : CallR X (.builtin "len") (rLenA K) := by subst hK; exact call_len
theorem k_list (hK : X.K = K := by rfl) : CallR X (.type "list") (rListA K) := by subst hK; exact call_list_of
theorem k_tuple (hK : X.K = K := by rfl) : CallR X (.type "tuple") (rTupA K) := by subst hK; exact call_tuple_of
theorem k_sum (hc : X.calm = true) (hK : X.K = K := by rfl) : CallR X (.builtin "sum") (rSum K) := by subst hK; exact cr_sum hc
theorem k_all (hc : X.calm = true) (hK : X.K = K := by rfl) : CallR X (.builtin "all") (rAll K) := by subst hK; exact cr_all hc
theorem k_anyC (hc : X.calm = true) (hK : X.K = K := by rfl) : CallR X (.builtin "any") (rAny K) := by subst hK; exact cr_any hc
theorem k_isi (hK : X.K = K := by rfl) : CallR X (.builtin "isinstance") (rIsi K) := by subst hK; exact call_isi
theorem k_gtup {es : List Expr} {k : Nat} {t : TGs} {n : Nat} {pos : Pos} (hc : X.calm = true) (h : PGs X es t)
    (hn : (assignEach es X.env).length = n := by rfl) (hst : (assignEach es X.env).findIdx? (·.1) = none := by rfl) (hK : X.K = K := by rfl) : PG X (.Tuple es k pos) (gTup K n t) := by subst hK; exact pg_tup hc h hn hst
theorem k_bm {o e : Expr} {es : List Expr} {to : TE} {t : TA} {name : Str} {apos cpos : Pos} {T id : String} {r : V → List V → Hp → VK → Prop} (pa : PlainAttrs T) (slot : Slot T name id) (hty : typeOf (.builtin id) = pure (.type "method_descriptor")) (hm : MtR X id r) (ho : PE X o to) (ha : PA X (e :: es) t)
    (hbase : attributeBase o name X.env (eval o X.env) = eval o X.env := by rfl)
    (hfew : ((backTo cpos (starEach (e :: es) X.env)).all (fun x => !x.1) && (backToKw cpos (keywordEach [] X.env)).all (fun x => x.1.isSome)
      && decide ((e :: es).length + ([] : List Keyword).length + (if ([] : List Keyword).isEmpty then 0 else 1) < 30)) = true := by rfl)
    (hline : (apos.endLine == cpos.line) = true := by rfl) (hs : starEach (e :: es) X.env = (false, eval e X.env) :: starEach es X.env := by rfl) (hplain : (backTo cpos (starEach es X.env)).any (·.1) = false := by rfl)
    (hK : X.K = K := by rfl) : PE X (.Call (.Attribute o name apos) (e :: es) [] cpos) (tBM K T r to t) := by subst hK; exact pe_bm pa slot hty hm ho ha hbase hfew hline hs hplain
theorem k_bm0 {o : Expr} {to : TE} {name : Str} {apos cpos : Pos} {T id : String} {r : V → List V → Hp → VK → Prop} (pa : PlainAttrs T) (slot : Slot T name id) (hty : typeOf (.builtin id) = pure (.type "method_descriptor")) (hm : MtR X id r) (ho : PE X o to)
    (hbase : attributeBase o name X.env (eval o X.env) = eval o X.env := by rfl) (hline : (apos.endLine == cpos.line) = true := by rfl) (hK : X.K = K := by rfl) : PE X (.Call (.Attribute o name apos) [] [] cpos) (tBM0 K T r to) := by subst hK; exact pe_bm0 pa slot hty hm ho hbase hline
theorem k_w {k j : Nat} {x : Str} {sp : SpW} {p pos : Pos} {e : Expr} {es : List Expr} {t : TA} (c : CalW X.prog X.w K X.mg X.base k x sp) (hr : Room j X.A) (hk : k ≤ j) (hg : Gl X x) (ha : PA X (e :: es) t)
    (hdb : (x == ("__debug__" : Str)) = false := by decide) (he : starEach (e :: es) X.env = (false, eval e X.env) :: starEach es X.env := by rfl) (hpl : (backTo pos (starEach es X.env)).any (·.1) = false := by rfl) (hK : X.K = K := by rfl) :
    PE X (.Call (.Name x p) (e :: es) [] pos) (tCall (liftSp K sp) [] E0 t) := by subst hK; exact pe_w c hr hk hg ha hdb he hpl
theorem k_w0 {k j : Nat} {x : Str} {sp : SpW} {p pos : Pos} (c : CalW X.prog X.w K X.mg X.base k x sp) (hr : Room j X.A) (hk : k ≤ j) (hg : Gl X x)
    (hdb : (x == ("__debug__" : Str)) = false := by decide) (hK : X.K = K := by rfl) : PE X (.Call (.Name x p) [] [] pos) (tCall (liftSp K sp) [] E0 tNil) := by subst hK; exact pe_w0 c hr hk hg hdb
end
/-! ### tests that change nothing, told by their answer -/
def EvW (t : TTW) (ρ : StW) (S : Sto) (b : Bool) : Prop := ∀ Q : Bool → Sto → Prop, Q b S → t ρ S Q
section
variable {t u : TTW} {ρ : StW} {S : Sto} {a b : Bool}
theorem evOr (h1 : EvW t ρ S a) (h2 : a = false → EvW u ρ S b) : EvW (wOr t u) ρ S (a || b) := fun Q q => h1 _ ⟨fun e => by rw [e] at q; exact q, fun e => by rw [e] at q; exact h2 e Q q⟩
theorem evAnd (h1 : EvW t ρ S a) (h2 : a = true → EvW u ρ S b) : EvW (wAnd t u) ρ S (a && b) := fun Q q => h1 _ ⟨fun e => by rw [e] at q; exact h2 e Q q, fun e => by rw [e] at q; exact q⟩
theorem evNot (h1 : EvW t ρ S a) : EvW (wNot t) ρ S (!a) := fun Q q => h1 _ q
theorem evIs {c : Bool} (h : EvW t ρ S a) (e : a = c) : EvW t ρ S c := by rw [← e]; exact h
theorem ifEv {p q : TSW} {D : EndsW} (h : EvW t ρ S b) (h1 : b = true → p D ρ S) (h2 : b = false → q D ρ S) : wIfS t p q D ρ S := h _ ⟨h1, h2⟩
end
theorem orGo {t : TTW} {ρ : StW} {S : Sto} {c b d : Bool} {K : Bool → Sto → Prop} (h : c = false → EvW t ρ S b) (e : (c || b) = d) (q : K d S) : (c = false → t ρ S K) ∧ (c = true → K true S) := by
  subst e
  exact ⟨fun e => by rw [e] at q; exact h e K q, fun e => by rw [e] at q; exact q⟩
theorem andGo {t : TTW} {ρ : StW} {S : Sto} {c b d : Bool} {K : Bool → Sto → Prop} (h : c = true → EvW t ρ S b) (e : (c && b) = d) (q : K d S) : (c = true → t ρ S K) ∧ (c = false → K false S) := by
  subst e
  exact ⟨fun e => by rw [e] at q; exact h e K q, fun e => by rw [e] at q; exact q⟩
theorem wEq_t {x y : W} {S : Sto} {Q : WK} (tx : ∃ a, x = .tup a) (ty : ∃ b, y = .tup b) (hx : shW x) (hy : shW y) (q : Q (.bl (PyData.eqv (toD x) (toD y))) S) : wEq x y S Q := by
  obtain ⟨a, rfl⟩ := tx
  obtain ⟨b, rfl⟩ := ty
  exact ⟨hx, hy, q⟩
theorem wNe_t {x y : W} {S : Sto} {Q : WK} (tx : ∃ a, x = .tup a) (ty : ∃ b, y = .tup b) (hx : shW x) (hy : shW y) (q : Q (.bl (!PyData.eqv (toD x) (toD y))) S) : wNe x y S Q := by
  obtain ⟨a, rfl⟩ := tx
  obtain ⟨b, rfl⟩ := ty
  exact ⟨hx, hy, q⟩
theorem rdAt_ok {o : Option W} {w : W} {S : Sto} {Q : WK} (e : o = some w) (q : Q w S) : rdAt o S Q := by rw [e]; exact q
/-- a comprehension whose element changes nothing: map -/
theorem lcMap {wi : TIW} {j : Nat} {te : TEW} {vs : List Nat} {ρ : StW} {S S1 : Sto} {Q : WK} {ws : List W} {ok : Sto → Prop} (f : W → W) (hw : ∀ R : List W → (Sto → Prop) → Sto → Prop, R ws ok S1 → wi ρ S R) (hl : ws.length ≤ 100000)
    (hok : ∀ (D : Addr) (acc : List W), S1 D = none → ok (put S1 D (.lst acc)))
    (he : ∀ (i : Nat) (w : W) (D : Addr) (acc : List W), ws[i]? = some w → S1 D = none → ∀ Q' : WK, Q' (f w) (put S1 D (.lst acc)) → te ((wipeW ρ vs).set j (some w)) (put S1 D (.lst acc)) Q')
    (hd : ∀ (D : Addr), S1 D = none → Q (.ref D) (put S1 D (.lst (ws.map f)))) : wLc wi (wName j) wYes te vs ρ S Q := by
  refine hw _ fun D hD => ⟨fun i acc S' => i ≤ ws.length ∧ acc = (ws.map f).take i ∧ S' = put S1 D (.lst acc), ⟨Nat.zero_le _, rfl, rfl⟩, ?_, ?_, ?_⟩
  · rintro i acc S' ⟨_, _, rfl⟩
    exact hok D acc hD
  · rintro i w acc S' e ⟨_, ha, rfl⟩
    refine ⟨fun _ => he i w D acc e hD _ ⟨put_same, ?_, ?_⟩, fun h => by cases h⟩
    · rw [ha, List.length_take]
      exact Nat.lt_of_le_of_lt (Nat.min_le_left _ _) (Nat.lt_of_lt_of_le (show i < 200000 by have := (List.getElem?_eq_some_iff.mp e).1; omega) (by decide))
    · refine ⟨(List.getElem?_eq_some_iff.mp e).1, ?_, put_put⟩
      rw [List.take_add_one, List.getElem?_map, e, ha]
      rfl
  · rintro acc S' ⟨_, ha, rfl⟩
    rw [List.take_of_length_le (by rw [List.length_map]; exact Nat.le_refl _)] at ha
    rw [ha]
    exact hd D hD
/-! ### is None -/
def isN : W → Bool
  | .non => true
  | _ => false
def wIsN : RW2 := fun x y S Q => y = .non ∧ Q (.bl (isN x)) S
instance l2_isN {K : PySem.W.Frag} : L2R K (fun x y H Q => y = V.non ∧ Q (V.bl (decide (x = V.non))) H) wIsN := ⟨fun H S x y wx wy Q Qw hh rx ry q po => by
  obtain ⟨rfl, q⟩ := q
  refine ⟨ry, ?_⟩
  have e : decide (x = V.non) = isN wx := by
    cases wx with
    | tup ws =>
      obtain ⟨a, xs, rfl, _⟩ := (show ∃ a xs, x = .ref a ∧ _ from rx)
      rfl
    | rl ws =>
      obtain ⟨a, xs, rfl, _⟩ := (show ∃ a xs, x = .ref a ∧ _ from rx)
      rfl
    | _ => cases (show x = _ from rx); rfl
  rw [e]
  exact po.bl (Tk.refl H) hh q⟩
theorem isN_of {K : PySem.W.Frag} {H : Hp} {x : V} {wx : W} (rx : Rep K H wx x) : decide (x = V.non) = isN wx := by
  cases wx with
  | tup ws =>
    obtain ⟨a, xs, rfl, _⟩ := (show ∃ a xs, x = .ref a ∧ _ from rx)
    rfl
  | rl ws =>
    obtain ⟨a, xs, rfl, _⟩ := (show ∃ a xs, x = .ref a ∧ _ from rx)
    rfl
  | _ => cases (show x = _ from rx); rfl
def wNotN : RW2 := fun x y S Q => y = .non ∧ Q (.bl (!isN x)) S
instance l2_notN {K : PySem.W.Frag} : L2R K (fun x y H Q => y = V.non ∧ Q (V.bl (!decide (x = V.non))) H) wNotN := ⟨fun H S x y wx wy Q Qw hh rx ry q po => by
  obtain ⟨rfl, q⟩ := q
  refine ⟨ry, ?_⟩
  rw [isN_of rx]
  exact po.bl (Tk.refl H) hh q⟩
/-! ### more of the types -/
theorem isTy_tb : isTy "tuple" "bool" = some false := by decide +kernel
theorem isTy_ti : isTy "tuple" "int" = some false := by decide +kernel
theorem isTy_ts : isTy "tuple" "str" = some false := by decide +kernel
theorem isTy_tl : isTy "tuple" "list" = some false := by decide +kernel
theorem isTy_lb : isTy "list" "bool" = some false := by decide +kernel
theorem isTy_li : isTy "list" "int" = some false := by decide +kernel
theorem isTy_ls : isTy "list" "str" = some false := by decide +kernel
theorem isTy_lt : isTy "list" "tuple" = some false := by decide +kernel
theorem isTy_sb : isTy "str" "bool" = some false := by decide +kernel
theorem isTy_si : isTy "str" "int" = some false := by decide +kernel
theorem isTy_st : isTy "str" "tuple" = some false := by decide +kernel
theorem isTy_sl : isTy "str" "list" = some false := by decide +kernel
theorem isTy_is : isTy "int" "str" = some false := by decide +kernel
theorem isTy_it : isTy "int" "tuple" = some false := by decide +kernel
theorem isTy_il : isTy "int" "list" = some false := by decide +kernel
theorem isTy_bi : isTy "bool" "int" = some true := by decide +kernel
theorem isTy_bs : isTy "bool" "str" = some false := by decide +kernel
/-! ### shapes -/
def shN (n : Nat) (w : W) : Prop := datW w = true ∧ (toD w).canLay0 = true ∧ (toD w).depth ≤ n
theorem shN_list {n : Nat} : ∀ {ws : List W}, (∀ w ∈ ws, shN n w) → datWs ws = true ∧ PyData.canLayAll0 (toDs ws) = true ∧ PyData.depthAll (toDs ws) ≤ n
  | [], _ => ⟨rfl, rfl, Nat.zero_le _⟩
  | w :: ws, h => by
    obtain ⟨a, b, c⟩ := h w List.mem_cons_self
    obtain ⟨d, e, f⟩ := shN_list fun x hx => h x (List.mem_cons_of_mem _ hx)
    refine ⟨?_, ?_, ?_⟩
    · unfold datWs; rw [a, d]; rfl
    · unfold toDs; unfold PyData.canLayAll0; rw [b, e]; rfl
    · unfold toDs; unfold PyData.depthAll; exact Nat.max_le.mpr ⟨c, f⟩
theorem shN_tup {n : Nat} {ws : List W} (h : ∀ w ∈ ws, shN n w) : shN (n + 1) (.tup ws) := by
  obtain ⟨a, b, c⟩ := shN_list h
  refine ⟨by unfold datW; exact a, by unfold toD; unfold PyData.canLay0; exact b, ?_⟩
  unfold toD
  unfold PyData.depth
  omega
theorem shN_rl {n : Nat} {ws : List W} (h : ∀ w ∈ ws, shN n w) : shN (n + 1) (.rl ws) := by
  obtain ⟨a, b, c⟩ := shN_list h
  refine ⟨by unfold datW; exact a, by unfold toD; unfold PyData.canLay0; exact b, ?_⟩
  unfold toD
  unfold PyData.depth
  omega
theorem shN_int (n : Int) : shN 0 (.int n) := ⟨rfl, rfl, Nat.le_refl 0⟩
theorem shN_str {n : Str} (h : PyData.strOk n = true) : shN 0 (.str n) := ⟨rfl, h, Nat.le_refl 0⟩
theorem shN_bl (n : Bool) : shN 0 (.bl n) := ⟨rfl, rfl, Nat.le_refl 0⟩
theorem shN_up {n m : Nat} {w : W} (h : shN n w) (l : n ≤ m) : shN m w := ⟨h.1, h.2.1, Nat.le_trans h.2.2 l⟩
theorem shN_sh {n : Nat} {w : W} (h : shN n w) (l : n ≤ 64) : shW w := ⟨h.1, by unfold SeqAt.shaped; rw [h.2.1, decide_eq_true (Nat.le_trans h.2.2 l)]; rfl⟩
theorem eqvW_refl {w : W} (h : shW w) : PyData.eqv (toD w) (toD w) = true := SeqAt.eqv_refl _ (by
  have := h.2
  unfold SeqAt.shaped at this
  rw [Bool.and_eq_true] at this
  exact this.1)
theorem eqvAllW_refl {ws : List W} (h : shW (.rl ws)) : PyData.eqvAll (toDs ws) (toDs ws) = true := SeqAt.eqvAll_refl _ (by
  have := h.2
  unfold SeqAt.shaped at this
  rw [Bool.and_eq_true] at this
  exact this.1)
end Wl
set_option Elab.async false
set_option linter.all false
set_option maxRecDepth 100000
set_option maxHeartbeats 2000000
/-! Words that whnf does not open. -/
namespace Wl
open PySem PySem.Spec PyProof.Rows L2
section
variable {K : PySem.W.Frag} {P : Program} {w : World} {mg : Str → Option Value} {base : Heap}
@[irreducible] def Hd (sp : SpW) : SpW := sp
theorem Hd_eq (sp : SpW) : Hd sp = sp := by unfold Hd; rfl
theorem Hd.mk {sp : SpW} {ws : List W} {S : Sto} {Q : WK} (h : sp ws S Q) : Hd sp ws S Q := by rw [Hd_eq]; exact h
theorem CalW.hd {k : Nat} {x : Str} {sp : SpW} (c : CalW P w K mg base k x sp) : CalW P w K mg base k x (Hd sp) := by rw [Hd_eq]; exact c
@[irreducible] def FgI (Q : WK) : WK := Fg Q
theorem FgI_eq (Q : WK) : FgI Q = Fg Q := by unfold FgI; rfl
theorem fg_here {Q : WK} {v : W} {S : Sto} (h : Q v S) : FgI Q v S := by rw [FgI_eq]; exact ⟨S, Sub.refl S, h⟩
theorem fg_sub {Q : WK} {v : W} {S S' : Sto} (h : Sub S' S) (q : Q v S') : FgI Q v S := by rw [FgI_eq]; exact ⟨S', h, q⟩
theorem calDI {x : Str} {st : Stmt} {N ps : List Str} {k : Nat} {sp : SpW} (d : DefAt K mg x st ps) (SC : FnScope N ps (defScope st))
    (len : ∀ ws S Q, sp ws S Q → ws.length = ps.length)
    (hbody : ∀ (f : Addr) (cdv : Value) (A : Around) (outer : List Env) (s : Shared) (H : Hp) (E : XK), Room k (A.deeper (envOfC x (defScope st) s.heap.objs.size f cdv)) →
      ∃ t tw, PSs (cxOf CX0 P w K mg base N x (defScope st) f cdv A outer s H E).nox (defBody st) t ∧ LS K H t tw ∧ ∀ ws S Q, sp ws S Q → tw { nx := fun _ S' => FgI Q .non S', rt := FgI Q } (startW N ws) S) :
    CalW P w K mg base (k + 1) x sp := calD d SC len fun f cdv A outer s H E hr => by
  obtain ⟨t, tw, h1, h2, h3⟩ := hbody f cdv A outer s H E hr
  refine ⟨t, tw, h1, h2, fun ws S Q h => ?_⟩
  have h4 := h3 ws S Q h
  rw [FgI_eq] at h4
  exact h4
theorem fnDI {x : Str} {st : Stmt} {N ps : List Str} {k : Nat} {sp : SpW} {f : Addr} {fd : FuncData} (F : Fun K x x st f fd) (SC : FnScope N ps (defScope st))
    (len : ∀ ws S Q, sp ws S Q → ws.length = ps.length)
    (hbody : ∀ (f : Addr) (cdv : Value) (A : Around) (outer : List Env) (s : Shared) (H : Hp) (E : XK), Room k (A.deeper (envOfC x (defScope st) s.heap.objs.size f cdv)) →
      ∃ t tw, PSs (cxOf CX0 P w K mg base N x (defScope st) f cdv A outer s H E).nox (defBody st) t ∧ LS K H t tw ∧ ∀ ws S Q, sp ws S Q → tw { nx := fun _ S' => FgI Q .non S', rt := FgI Q } (startW N ws) S) :
    FnOk P w K mg base CX0 (k + 1) f fd ps (liftSp K sp) := fnD F SC len fun f cdv A outer s H E hr => by
  obtain ⟨t, tw, h1, h2, h3⟩ := hbody f cdv A outer s H E hr
  refine ⟨t, tw, h1, h2, fun ws S Q h => ?_⟩
  have h4 := h3 ws S Q h
  rw [FgI_eq] at h4
  exact h4
@[irreducible] def wLcI (wi : TIW) (g : TGW) (tt : TTW) (te : TEW) (vs : List Nat) : TEW := wLc wi g tt te vs
theorem wLcI_eq (wi : TIW) (g : TGW) (tt : TTW) (te : TEW) (vs : List Nat) : wLcI wi g tt te vs = wLc wi g tt te vs := by unfold wLcI; rfl
instance (priority := high) le_lcI {wi : TI} {g : TG} {tt : TT} {te : TE} {vs : List Nat} {ww : TIW} {gw : TGW} {tw : TTW} {ew : TEW} [h : LI K B wi ww] [b : LG K B g gw] [gg : GW g vs] [c : LT K B tt tw] [a : LE K B te ew] : LE K B (tLc wi g tt te vs) (wLcI ww gw tw ew vs) := by
  rw [wLcI_eq]; infer_instance
theorem lc_mk {wi : TIW} {g : TGW} {tt : TTW} {te : TEW} {vs : List Nat} {ρ : StW} {S : Sto} {Q : WK} (h : wi ρ S fun ws ok S1 => ∀ D, S1 D = none → ∃ P : Nat → List W → Sto → Prop, P 0 [] (put S1 D (.lst [])) ∧
  (∀ i acc S', P i acc S' → ok S') ∧
  (∀ i w acc S', ws[i]? = some w → P i acc S' → g w (wipeW ρ vs) S' fun ρ2 S2 => tt ρ2 S2 fun b S3 =>
    (b = true → te ρ2 S3 fun y S4 => S4 D = some (.lst acc) ∧ acc.length < sizeLine ∧ P (i + 1) (acc ++ [y]) (put S4 D (.lst (acc ++ [y])))) ∧ (b = false → P (i + 1) acc S3)) ∧
  ∀ acc S', P ws.length acc S' → Q (.ref D) S') : wLcI wi g tt te vs ρ S Q := by rw [wLcI_eq]; exact h
theorem lcMapI {wi : TIW} {j : Nat} {te : TEW} {vs : List Nat} {ρ : StW} {S S1 : Sto} {Q : WK} {ws : List W} {ok : Sto → Prop} (f : W → W) (hw : ∀ R : List W → (Sto → Prop) → Sto → Prop, R ws ok S1 → wi ρ S R) (hl : ws.length ≤ 100000)
    (hok : ∀ (D : Addr) (acc : List W), S1 D = none → ok (put S1 D (.lst acc)))
    (he : ∀ (i : Nat) (w : W) (D : Addr) (acc : List W), ws[i]? = some w → S1 D = none → ∀ Q' : WK, Q' (f w) (put S1 D (.lst acc)) → te ((wipeW ρ vs).set j (some w)) (put S1 D (.lst acc)) Q')
    (hd : ∀ (D : Addr), S1 D = none → Q (.ref D) (put S1 D (.lst (ws.map f)))) : wLcI wi (wName j) wYes te vs ρ S Q := by rw [wLcI_eq]; exact lcMap f hw hl hok he hd
/-- all but p is as it was -/
@[irreducible] def Kp (S : Sto) (p : Addr) (S' : Sto) : Prop := ∀ a c, a ≠ p → S a = some c → S' a = some c
theorem Kp_eq (S : Sto) (p : Addr) (S' : Sto) : Kp S p S' = ∀ a c, a ≠ p → S a = some c → S' a = some c := by unfold Kp; rfl
theorem Kp.refl (S : Sto) (p : Addr) : Kp S p S := by rw [Kp_eq]; exact fun _ _ _ h => h
theorem Kp.at {S S' : Sto} {p : Addr} {c : Cell} (h : Kp S p S') : Kp S p (put S' p c) := by
  rw [Kp_eq] at *
  exact fun a d ha e => by rw [put_ne ha]; exact h a d ha e
theorem Kp.free {S S' : Sto} {p d : Addr} {c : Cell} (h : Kp S p S') (hp : S' p = some c) (n : S' d = none) : S d = none := by
  rw [Kp_eq] at h
  cases e : S d with
  | none => rfl
  | some x =>
    have hd : d ≠ p := fun z => by rw [z, hp] at n; cases n
    rw [h d x hd e] at n; cases n
theorem Kp.new {S S' : Sto} {p d : Addr} {c : Cell} (h : Kp S p S') (n : S d = none) : Kp S p (put S' d c) := by
  rw [Kp_eq] at *
  exact fun a e ha q => by
    have hd : a ≠ d := fun z => by rw [z, n] at q; cases q
    rw [put_ne hd]; exact h a e ha q
theorem Kp.sub {S S' : Sto} {p : Addr} {c : Cell} (h : Kp S p S') (hp : S' p = some c) : Sub (put S p c) S' := by
  rw [Kp_eq] at h
  exact fun a d e => by
    by_cases q : a = p
    · rw [q, put_same] at e; rw [q, hp]; exact e
    · rw [put_ne q] at e; exact h a d q e
/-! pools -/
theorem take_go {p : Addr} {c n b s many : Int} {S : Sto} {Q : WK} (h : S p = some (.lst (poolL c n b s))) (ok : PoolOk c n s) (hn : n < 1000000) (h0 : 0 < many) (h1 : many < 2 ^ 64)
    (q : ∀ r c', 0 ≤ r → r < many → PoolOk c' (n + 1) s → Q (.int r) (put S p (.lst (poolL c' (n + 1) b s)))) : Hd spTake [.ref p, .int many] S Q := Hd.mk ⟨p, c, n, b, s, many, rfl, h, ok, hn, h0, h1, q⟩
theorem pool_go {ns : List Int} {k : Int} {S : Sto} {Q : WK} (h0 : 0 ≤ k) (h1 : k ≤ 1000) (hl : ns.length ≤ 63) (q : ∀ p c b s, S p = none → PoolOk c 0 s → Q (.ref p) (put S p (.lst (poolL c 0 b s)))) : Hd spPool [.rl (ns.map W.int), .int k] S Q := Hd.mk ⟨ns, k, rfl, h0, h1, hl, q⟩
theorem sh_pr (a b : Int) : shW (.tup [.int a, .int b]) := shN_sh (n := 1) (shN_tup fun w hw => by
  rw [List.mem_cons, List.mem_cons] at hw
  rcases hw with rfl | rfl | hw
  · exact shN_int _
  · exact shN_int _
  · cases hw) (by decide)
end
end Wl
set_option Elab.async false
set_option linter.all false
set_option maxRecDepth 100000
set_option maxHeartbeats 2000000
/-! Exceptions over data. -/
namespace Wl
open PySem PySem.Spec PyProof.Rows L2
variable {K : PySem.W.Frag} {B : Hp}
/-- an exception: its class, the fields of its own dict -/
structure Ex where
  cls : Value
  fs : List (Str × W) := []
def RepX (K : PySem.W.Frag) (H : Hp) (ex : Ex) (cls : Value) (d : Option Addr) : Prop :=
  cls = ex.cls ∧ ((d = none ∧ ex.fs = []) ∨ ∃ a gs, d = some a ∧ H a = some (.xd gs) ∧ RepKV K H ex.fs gs)
abbrev XQ := Ex → Sto → Prop
abbrev XW := Ex → StW → Sto → Prop
def PoX (K : PySem.W.Frag) (H : Hp) (E : XK) (Ew : XQ) : Prop := ∀ cls d H' ex S', Tk H H' → HRep K H' S' → RepX K H' ex cls d → Ew ex S' → E cls d H'
theorem PoX.tk {H H1 : Hp} {E : XK} {Ew : XQ} (h : PoX K H E Ew) (t : Tk H H1) : PoX K H1 E Ew := fun cls d H' ex S' t' => h cls d H' ex S' (t.trans t')
class PX (K : PySem.W.Frag) (B : Hp) (W : WX) (Xw : outParam XW) : Prop where
  l : ∀ cls d σ H ex ρ S, SRep K B H σ ρ → HRep K H S → RepX K H ex cls d → Xw ex ρ S → W cls d σ H
/-- nothing is let out -/
abbrev WX0 : WX := fun _ _ _ _ => False
abbrev XW0 : XW := fun _ _ _ => False
instance px_none : PX K B WX0 XW0 := ⟨fun _ _ _ _ _ _ _ _ _ _ h => h⟩
theorem SRep.rebase {H H' : Hp} {σ : L2.St} {ρ : StW} (h : SRep K H H' σ ρ) (t : Tk B H) : SRep K B H' σ ρ := ⟨t.trans h.bs, h.len, h.at_⟩
theorem SRep.top {H : Hp} {σ : L2.St} {ρ : StW} (h : SRep K B H σ ρ) : SRep K H H σ ρ := ⟨Tk.refl H, h.len, h.at_⟩
theorem PoD.rebase {H : Hp} {D : Ends} {Dw : EndsW} (h : PoD K B H D Dw) (t : Tk B H) : PoD K H H D Dw :=
  ⟨fun σ' H' ρ' S' t' hs => h.nx σ' H' ρ' S' t' (hs.rebase t), fun σ' H' ρ' S' t' hs => h.bk σ' H' ρ' S' t' (hs.rebase t), fun σ' H' ρ' S' t' hs => h.ct σ' H' ρ' S' t' (hs.rebase t), h.rt⟩

/-! ### raise -/
abbrev TMk := L2.St → Hp → XK → Prop
abbrev TMkW := StW → Sto → XQ → Prop
class LMk (K : PySem.W.Frag) (B : Hp) (t : TMk) (tw : outParam TMkW) : Prop where
  l : ∀ σ H ρ S Q Qw, SRep K B H σ ρ → HRep K H S → tw ρ S Qw → PoX K H Q Qw → t σ H Q
def tMk0 (C : Addr) : TMk := fun _ H Q => Q (.ref C) none H
def wMk0 (C : Addr) : TMkW := fun _ S Q => Q ⟨.ref C, []⟩ S
instance lmk_0 {C : Addr} : LMk K B (tMk0 C) (wMk0 C) := ⟨fun σ H ρ S Q Qw hs hh q po => po _ _ H _ S (Tk.refl H) hh ⟨rfl, .inl ⟨rfl, rfl⟩⟩ q⟩
theorem pmk_own0 {X : Cx} {C : Addr} {bmB : List Value} {B newId initId : String} {x : Str} {p pos : Pos} (F : ExcBaseFacts B newId initId bmB) (q : PySem.W.excIn X.K C bmB newId = true) (gC : X.mg x = some (.ref C)) (kC : PySem.W.keepIn X.K (.ref C) = true) (r : Raises X (.ref C)) (hg : Gl X x)
    (hdb : (x == ("__debug__" : Str)) = false := by decide) : PMk X (.Call (.Name x p) [] [] pos) (tMk0 C) := by
  intro pins s σ H Q I h
  refine wpAny_Call_Name_kw (ld_glob I hg gC ?_ hdb)
  refine PySem.W.callWith_K0 I.kIn kC ?_
  show wpAny _ _ (call (.ref C) []) _ _ _
  obtain ⟨bm, N, nm, qn, bs, hdct, sn, sub, ab, col, dd, k0, k1, k2, k3, k5, mN, hC, hN, hni, T⟩ := exc_obj I.kIn q
  refine wpAny_call_exc_subT F T hC hN hni (fun h' e hm => ?_) (Nat.zero_le _)
  exact mk_of I hm r h (I.hok.gone hm.new)
def tRaise (t : TMk) (W : WX) : TS := fun _ σ H => t σ H fun cls d H' => W cls d σ H'
def wRaise (t : TMkW) (Xw : XW) : TSW := fun _ ρ S => t ρ S fun ex S' => Xw ex ρ S'
instance ls_raise {t : TMk} {W : WX} {tw : TMkW} {Xw : XW} [px : PX K B W Xw] [m : LMk K B t tw] : LS K B (tRaise t W) (wRaise tw Xw) := ⟨fun σ H ρ S D Dw hs hh q po =>
  m.l σ H ρ S _ _ hs hh q fun cls d H' ex S' t' hh' r q' => px.l cls d σ H' ex ρ S' (hs.tk t') hh' r q'⟩
theorem ps_raiseW {X : Cx} {W : WX} {e : Expr} {t : TMk} {pos : Pos} (hc : X.calm = true) (tk : Takes X W) (he : PMk X e t) : PS X (.Raise (some e) none pos) (tRaise t W) := ps_raise hc tk he

/-! ### defs that may raise -/
abbrev SpX := List W → Sto → WK → XQ → Prop
def liftX (K : PySem.W.Frag) (sp : SpX) : Sp := fun vs H Q E => ∃ ws S Qw Ew, RepL K H ws vs ∧ HRep K H S ∧ sp ws S Qw Ew ∧ PoE K H Q Qw ∧ PoX K H E Ew
def wCallX (sp : SpX) (Xw : XW) (t : TAW) : TEW := fun ρ S Q => t ρ S fun ws S1 => sp ws S1 Q fun ex S2 => Xw ex ρ S2
instance le_callX {sp : SpX} {W : WX} {Xw : XW} {t : TA} {tw : TAW} [px : PX K B W Xw] [a : LA K B t tw] : LE K B (tCallS (liftX K sp) (WE W) t) (wCallX sp Xw tw) := ⟨fun σ H ρ S Q Qw hs hh q po =>
  a.l σ H ρ S _ _ hs hh q fun xs H1 ws S1 t1 hh1 r1 q1 => ⟨ws, S1, Qw, _, r1, hh1, q1, po.tk t1, fun cls d H' ex S' t hh' r q' => px.l cls d σ H' ex ρ S' (hs.tk (t1.trans t)) hh' r q'⟩⟩
section
variable {P : Program} {w : World} {mg : Str → Option Value} {base : Heap}
structure CalX (P : Program) (w : World) (K : PySem.W.Frag) (mg : Str → Option Value) (base : Heap) (k : Nat) (x : Str) (sp : SpX) : Prop where
  ex : ∃ (f : Addr) (fd : FuncData) (ps : List Str), FnOk P w K mg base (L2.CX P w) k f fd ps (liftX K sp) ∧ mg x = some (.ref f) ∧ PySem.W.keepIn K (.ref f) = true ∧ Binds K fd ps []
theorem CalX.mono {j k : Nat} {x : Str} {sp : SpX} (c : CalX P w K mg base j x sp) (h : j ≤ k) : CalX P w K mg base k x sp := by
  obtain ⟨f, fd, ps, F, r⟩ := c.ex
  exact ⟨f, fd, ps, F.mono h, r⟩
theorem CalX.imp {k : Nat} {x : Str} {sp sp' : SpX} (c : CalX P w K mg base k x sp) (h : ∀ ws S Q E, sp' ws S Q E → sp ws S Q E) : CalX P w K mg base k x sp' := by
  obtain ⟨f, fd, ps, F, r⟩ := c.ex
  exact ⟨f, fd, ps, F.imp fun vs H Q E ⟨ws, S, Qw, Ew, h1, h2, h3, h4⟩ => ⟨ws, S, Qw, Ew, h1, h2, h _ _ _ _ h3, h4⟩, r⟩
@[irreducible] def HdX (sp : SpX) : SpX := sp
theorem HdX_eq (sp : SpX) : HdX sp = sp := by unfold HdX; rfl
theorem HdX.mk {sp : SpX} {ws : List W} {S : Sto} {Q : WK} {E : XQ} (h : sp ws S Q E) : HdX sp ws S Q E := by rw [HdX_eq]; exact h
theorem CalX.hd {k : Nat} {x : Str} {sp : SpX} (c : CalX P w K mg base k x sp) : CalX P w K mg base k x (HdX sp) := by rw [HdX_eq]; exact c
/-- a def that raises nothing where its promise holds, called where something may be raised -/
theorem k_x (K : PySem.W.Frag) {X : Cx} {W : WX} {k j : Nat} {x : Str} {sp : SpX} {p pos : Pos} {e : Expr} {es : List Expr} {t : TA} (tk : Takes X W) (c : CalX X.prog X.w K X.mg X.base k x sp) (hr : Room j X.A) (hk : k ≤ j) (hg : Gl X x) (ha : PA X (e :: es) t)
    (hdb : (x == ("__debug__" : Str)) = false := by decide) (he : starEach (e :: es) X.env = (false, eval e X.env) :: starEach es X.env := by rfl) (hpl : (backTo pos (starEach es X.env)).any (·.1) = false := by rfl) (hK : X.K = K := by rfl) :
    PE X (.Call (.Name x p) (e :: es) [] pos) (tCallS (liftX K sp) (WE W) t) := by
  subst hK
  obtain ⟨f, fd, ps, F, hm, kp, b⟩ := c.ex
  exact pe_callS F (hr.mono hk) hg hm kp b (passAt tk) ha hdb he hpl
/-- what a def lets out -/
abbrev WD (E : XK) : WX := fun cls d _ H => E cls d H
@[irreducible] def FgX (Ew : XQ) : XQ := fun ex S => ∃ S', Sub S' S ∧ Ew ex S'
theorem FgX_eq (Ew : XQ) (ex : Ex) (S : Sto) : FgX Ew ex S = ∃ S', Sub S' S ∧ Ew ex S' := by unfold FgX; rfl
theorem fgx_here {Ew : XQ} {ex : Ex} {S : Sto} (h : Ew ex S) : FgX Ew ex S := by rw [FgX_eq]; exact ⟨S, Sub.refl S, h⟩
theorem fgx_sub {Ew : XQ} {ex : Ex} {S S' : Sto} (h : Sub S' S) (q : Ew ex S') : FgX Ew ex S := by rw [FgX_eq]; exact ⟨S', h, q⟩
abbrev XD (Ew : XQ) : XW := fun ex _ S => FgX Ew ex S
theorem calX {x : Str} {st : Stmt} {N ps : List Str} {k : Nat} {sp : SpX} (d : DefAt K mg x st ps) (SC : FnScope N ps (defScope st))
    (len : ∀ ws S Q E, sp ws S Q E → ws.length = ps.length)
    (hbody : ∀ (f : Addr) (cdv : Value) (A : Around) (outer : List Env) (s : Shared) (H : Hp) (E : XK) (Ew : XQ), Room k (A.deeper (envOfC x (defScope st) s.heap.objs.size f cdv)) →
      Takes (cxOf (L2.CX P w) P w K mg base N x (defScope st) f cdv A outer s H E) (WD E) → PX K H (WD E) (XD Ew) →
      ∃ t tw, PSs (cxOf (L2.CX P w) P w K mg base N x (defScope st) f cdv A outer s H E) (defBody st) t ∧ LS K H t tw ∧ ∀ ws S Q, sp ws S Q Ew → tw { nx := fun _ S' => FgI Q .non S', rt := FgI Q } (startW N ws) S) :
    CalX P w K mg base (k + 1) x sp := by
  obtain ⟨f, fd, F, hm, b⟩ := d.ex
  refine ⟨f, fd, ps, F.okX SC (fun vs H Q E ⟨ws, S, Qw, Ew, h1, _, h3, _⟩ => by rw [h1.length]; exact len _ _ _ _ h3) (fun cdv A outer s H vs Q E hr ⟨ws, S, Qw, Ew, h1, h2, h3, h4, h5⟩ => ?_), hm, F.kp, b⟩
  have px : PX K H (WD E) (XD Ew) := ⟨fun cls d σ H' ex ρ S' hs hh r q => by
    have q : FgX Ew ex S' := q
    rw [FgX_eq] at q
    obtain ⟨S2, sub, q⟩ := q
    exact h5 cls d H' ex S2 hs.bs (hh.sub sub) r q⟩
  obtain ⟨t, tw, ht, hl, hq⟩ := hbody f cdv A outer s H E Ew hr (takes_of rfl rfl rfl rfl) px
  refine ⟨t, ht, hl.l _ H (startW N ws) S _ _ (SRep.init h1) h2 (hq ws S Qw h3) ⟨?_, fun _ _ _ _ _ _ _ z => z.elim, fun _ _ _ _ _ _ _ z => z.elim, ?_⟩⟩
  · intro σ' H' ρ' S' t1 _ hh q
    have q : FgI Qw .non S' := q
    rw [FgI_eq] at q
    obtain ⟨S2, sub, q⟩ := q
    exact h4.non t1 (hh.sub sub) q
  · intro v H' w S' t1 hh r q
    have q : FgI Qw w S' := q
    rw [FgI_eq] at q
    obtain ⟨S2, sub, q⟩ := q
    exact h4 v H' w S2 t1 (hh.sub sub) r q
/-- where nothing can be raised, a def that may raise raises nothing -/
theorem CalX.calm {k : Nat} {x : Str} {sp : SpX} (c : CalX P w K mg base k x sp) : CalX P w K mg base k x sp := c
end

/-! ### try: .. except C: .. -/
/-- the wish that a data wish makes -/
def Wc (K : PySem.W.Frag) (B : Hp) (Xw : XW) : WX := fun cls d σ H => ∃ ex ρ S, SRep K B H σ ρ ∧ HRep K H S ∧ RepX K H ex cls d ∧ Xw ex ρ S
instance px_wc {Xw : XW} : PX K B (Wc K B Xw) Xw := ⟨fun cls d σ H ex ρ S h1 h2 h3 h4 => ⟨ex, ρ, S, h1, h2, h3, h4⟩⟩
def tWeak (tb : WX → TS) (W : WX) : TS := fun D σ H => ∃ W' : WX, (∀ cls d σ' H', W' cls d σ' H' → W cls d σ' H') ∧ tb W' D σ H
abbrev HbW (K : PySem.W.Frag) (tb : WX → TS) (tbw : XW → TSW) : Prop := ∀ (B1 : Hp) (Xw : XW), LS K B1 (tb (Wc K B1 Xw)) (tbw Xw)
def tTryO (K : PySem.W.Frag) (c : Value) (tb : WX → TS) (ts : Addr → Value → Option Addr → TS) (Wout : WX) (tbw : XW → TSW) (_ : HbW K tb tbw) : TS := fun D σ H => tWeak tb (wOnly K c ts Wout D) D σ H
def wTryO (K : PySem.W.Frag) (c : Value) (tb : XW → TSW) (ts : TSW) (Xout : XW) : TSW := fun D ρ S =>
  tb (fun ex ρ' S' => ∃ b, PySem.W.exmOne K ex.cls c = some b ∧ (b = true → ts D ρ' S') ∧ (b = false → Xout ex ρ' S')) D ρ S
instance ls_tryO {c : Value} {tb : WX → TS} {ts : Addr → Value → Option Addr → TS} {Wout : WX} {tbw : XW → TSW} {hb : HbW K tb tbw} {tsw : TSW} {Xout : XW} [px : PX K B Wout Xout]
    [hsu : ∀ a cls d, LS K B (ts a cls d) tsw] : LS K B (tTryO K c tb ts Wout tbw hb) (wTryO K c tbw tsw Xout) := ⟨fun σ H ρ S D Dw hs hh q po => by
  refine ⟨Wc K H (fun ex ρ' S' => ∃ b, PySem.W.exmOne K ex.cls c = some b ∧ (b = true → tsw Dw ρ' S') ∧ (b = false → Xout ex ρ' S')), ?_, ?_⟩
  · rintro cls d σ' H' ⟨ex, ρ', S', hs', hh', r, b, e1, e2, e3⟩
    have rc := r.1
    refine ⟨b, by rw [rc]; exact e1, fun hbt a ha => ?_, fun hbf => px.l cls d σ' H' ex ρ' S' (hs'.rebase hs.bs) hh' r (e3 hbf)⟩
    exact (hsu a cls d).l σ' H' ρ' S' D Dw (hs'.rebase hs.bs) hh' (e2 hbt) (po.tk hs'.bs)
  · exact (hb H _).l σ H ρ S D Dw hs.top hh q (po.rebase hs.bs)⟩
theorem pss_weak {X : Cx} {body : List Stmt} {tb : WX → TS} {W : WX} (tk : Takes X W) (hb : ∀ W', Takes X W' → PSs X body (tb W')) : PSs X body (tWeak tb W) :=
  ⟨fun pins s σ H D I ⟨W', hi, h⟩ => (hb W' (tk.imp hi)).run pins s σ H D I h⟩
theorem ps_tryO (K : PySem.W.Frag) {X : Cx} {x : Str} {c : Value} {body suite : List Stmt} {b₀ : Stmt} {np pos pos' : Pos} {tb : WX → TS} {ts : Addr → Value → Option Addr → TS} {Wout : WX} {tbw : XW → TSW} (hs : X.stack = X.env :: X.outer) (hf : X.env.frame = some X.env.locals) (hc : Names X x c) (tk : Takes X Wout)
    (hb : ∀ (W : WX) (pn : List (Addr × Obj)) (xe : Value → Shared → Prop), Takes (X.tr pn xe) W → PassesOwn (model X.prog X.w) X.A X.env xe → PSs (X.tr pn xe) body (tb W))
    (hsu : ∀ (a : Addr) (oe : Obj) (cls : Value) (d : Option Addr) (pn : List (Addr × Obj)), Zc cls d oe → (∃ vs, oe.data = .fields vs) → PSs (X.suite a ((a, oe) :: pn)) (b₀ :: suite) (ts a cls d)) (hbw : HbW K tb tbw) (hK : X.K = K := by rfl) :
    PS X (.Try body [.ExceptHandler (some (.Name x np)) none (b₀ :: suite) pos'] [] [] pos) (tTryO K c tb ts Wout tbw hbw) := by
  subst hK
  exact ps_try_only (tb := tWeak tb) hs hf hc tk (fun W pn xe tkb pob => pss_weak tkb fun W' tk' => hb W' pn xe tk' pob) hsu
end Wl
set_option Elab.async false
set_option linter.all false
set_option maxRecDepth 100000
set_option maxHeartbeats 2000000
/-! More built-in things over data. -/
namespace Wl
open PySem PySem.Spec PyProof.Rows L2
variable {K : PySem.W.Frag} {B : Hp}
/-! ### sep.join(texts) -/
def rJoinA (K : PySem.W.Frag) : V → List V → Hp → VK → Prop := fun x xs H Q => ∃ a p, ∃ ys : List Str, x = .str a ∧ xs = [.ref p] ∧ (SqL K H p (ys.map V.str) ∨ SqT K H p (ys.map V.str)) ∧
    (ys.map (·.length)).sum + ys.length * a.length ≤ 16777216 ∧ Q (.str (Txt.join a ys)) H
theorem k_joinM (K : PySem.W.Frag) {X : Cx} (hK : X.K = K := by rfl) : MtR X "str.join" (rJoinA K) := by subst hK; exact mt_join
/-- the texts of a row -/
def strsOf : List W → Option (List Str)
  | [] => some []
  | .str x :: ws => (strsOf ws).map (x :: ·)
  | _ => none
theorem strsOf_map (ys : List Str) : strsOf (ys.map W.str) = some ys := by
  induction ys with
  | nil => rfl
  | cons y ys ih => show (strsOf (ys.map W.str)).map (y :: ·) = _; rw [ih]; rfl
theorem strsOf_eq : ∀ {ws : List W} {ys : List Str}, strsOf ws = some ys → ws = ys.map W.str
  | [], ys, h => by cases h; rfl
  | w :: ws, ys, h => by
    cases w with
    | str x =>
      have h : (strsOf ws).map (x :: ·) = some ys := h
      cases e : strsOf ws with
      | none => rw [e] at h; cases h
      | some zs =>
        rw [e] at h
        cases h
        rw [strsOf_eq e]
        rfl
    | _ => cases h
def joinAt (a : Str) (ws : List W) (S : Sto) (Q : WK) : Prop := ∃ ys, ws = List.map W.str ys ∧ (ys.map (·.length)).sum + ys.length * a.length ≤ 16777216 ∧ Q (.str (Txt.join a ys)) S
def wJoin : W → List W → Sto → WK → Prop := fun x ws S Q => match x, ws with
  | .str a, [.tup ws] => joinAt a ws S Q
  | .str a, [.rl ws] => joinAt a ws S Q
  | .str a, [.ref p] => ∃ ws, S p = some (.lst ws) ∧ joinAt a ws S Q
  | _, _ => False
instance lm_join : LMR K (rJoinA K) wJoin := ⟨fun H S x wx xs ws Q Qw hh rx r q po => by
  unfold wJoin at q
  split at q
  · cases (show x = _ from rx)
    obtain ⟨y, rfl, p, zs, rfl, h1, h2⟩ := rep1 r
    obtain ⟨ys, rfl, hl, q⟩ := q
    rw [h2.strs] at h1
    exact ⟨_, p, ys, rfl, rfl, .inr h1, hl, po.str (Tk.refl H) hh q⟩
  · cases (show x = _ from rx)
    obtain ⟨y, rfl, p, zs, rfl, h1, h2⟩ := rep1 r
    obtain ⟨ys, rfl, hl, q⟩ := q
    rw [h2.strs] at h1
    exact ⟨_, p, ys, rfl, rfl, .inl h1.sq, hl, po.str (Tk.refl H) hh q⟩
  · cases (show x = _ from rx)
    obtain ⟨y, rfl, ry⟩ := rep1 r
    cases (show y = _ from ry)
    obtain ⟨ws, e, ys, rfl, hl, q⟩ := q
    obtain ⟨zs, h1, h2⟩ := hh _ _ e
    rw [h2.strs] at h1
    exact ⟨_, _, ys, rfl, rfl, .inl (SqL.of h1), hl, po.str (Tk.refl H) hh q⟩
  · exact q.elim⟩
/-! ### xs.extend(ys) -/
def wExtend : W → List W → Sto → WK → Prop := fun x ws S Q => match x, ws with
  | .ref l, [.ref b] => ∃ xs ys, S l = some (.lst xs) ∧ S b = some (.lst ys) ∧ xs.length + ys.length ≤ sizeLine ∧ Q .non (put S l (.lst (xs ++ ys)))
  | _, _ => False
instance lm_extend : LMR K rExtend wExtend := ⟨fun H S x wx xs ws Q Qw hh rx r q po => by
  unfold wExtend at q
  split at q
  · cases (show x = _ from rx)
    obtain ⟨y, rfl, ry⟩ := rep1 r
    cases (show y = _ from ry)
    obtain ⟨xs, ys, e1, e2, hl, q⟩ := q
    obtain ⟨vs, h1, h2⟩ := hh _ _ e1
    obtain ⟨us, g1, g2⟩ := hh _ _ e2
    have t : Tk H (upd H _ (.lst (vs ++ us))) := Tk.mut h1 (fun _ z => (by cases z)) (fun _ _ z => (by cases z))
    obtain ⟨t, hm⟩ := hh.mut (c' := .lst _) (o := .lst (vs ++ us)) e1 ⟨_, upd_same, (RepL.tk t _ _ h2).append (RepL.tk t _ _ g2)⟩
    exact ⟨_, _, vs, us, rfl, rfl, h1, g1, by rw [h2.length, g2.length]; exact hl, po.non t hm q⟩
  · exact q.elim⟩
end Wl
set_option Elab.async false
set_option linter.all false
set_option maxRecDepth 100000
set_option maxHeartbeats 2000000
/-! A module's constants, the text's own errors. -/
namespace Wl
open PySem PySem.Spec PyProof.Rows L2
variable {K : PySem.W.Frag} {B : Hp}
structure ConstAt (K : PySem.W.Frag) (mg : Str → Option Value) (x : Str) (wd : W) : Prop where
  ex : ∃ u v, mg x = some u ∧ RelV v u ∧ ∀ H, Rep K H wd v
def tGl (K : PySem.W.Frag) (wd : W) : TE := fun _ H Q => ∀ v, (∀ H', Rep K H' wd v) → Q v H
instance le_gl {wd : W} : LE K B (tGl K wd) (wC wd) := ⟨fun σ H ρ S Q Qw hs hh q po v hv => po v H wd S (Tk.refl H) hh (hv H) q⟩
theorem k_gl (K : PySem.W.Frag) {X : Cx} {x : Str} {wd : W} {pos : Pos} (c : ConstAt K X.mg x wd) (hg : Gl X x) (hd : (x == ("__debug__" : Str)) = false := by decide) : PE X (.Name x pos) (tGl K wd) := by
  obtain ⟨u, v, hm, r, hv⟩ := c.ex
  exact ⟨fun pins s σ H Q I h => (pe_glob (pos := pos) hg hm r hd).run pins s σ H Q I (h v hv)⟩
theorem const_int {mg : Str → Option Value} {x : Str} {i : Int} {t : Tok} (h : mg x = some (.int i t)) : ConstAt K mg x (.int i) := ⟨⟨_, .int i, h, ⟨t, rfl⟩, fun _ => rfl⟩⟩
theorem const_str {mg : Str → Option Value} {x : Str} {i : Str} {t : Tok} (h : mg x = some (.str i t)) : ConstAt K mg x (.str i) := ⟨⟨_, .str i, h, ⟨t, rfl⟩, fun _ => rfl⟩⟩
/-- a value of the written part -/
def Wr (K : PySem.W.Frag) (wd : W) (u : Value) : Prop := ∃ v, RelV v u ∧ ∀ H, Rep K H wd v
theorem wr_int {i : Int} {t : Tok} : Wr K (.int i) (.int i t) := ⟨.int i, ⟨t, rfl⟩, fun _ => rfl⟩
theorem wr_str {i : Str} {t : Tok} : Wr K (.str i) (.str i t) := ⟨.str i, ⟨t, rfl⟩, fun _ => rfl⟩
theorem wr_bl {i : Bool} : Wr K (.bl i) (.bool i) := ⟨.bl i, rfl, fun _ => rfl⟩
theorem wr_non : Wr K .non .none := ⟨.non, rfl, fun _ => rfl⟩
inductive Wrs (K : PySem.W.Frag) : List W → List Value → Prop where
  | nil : Wrs K [] []
  | cons {wd : W} {u : Value} {ws : List W} {us : List Value} : Wr K wd u → Wrs K ws us → Wrs K (wd :: ws) (u :: us)
theorem Wrs.vals : ∀ {ws : List W} {us : List Value}, Wrs K ws us → ∃ vs, Vals vs us ∧ ∀ H, RepL K H ws vs
  | _, _, .nil => ⟨[], .nil, fun _ => rfl⟩
  | _, _, .cons ⟨v, r, hv⟩ t => by
    obtain ⟨vs, h1, h2⟩ := t.vals
    exact ⟨v :: vs, .cons r h1, fun H => .cons (hv H) (h2 H)⟩
theorem wr_tup {r : Addr} {od : Option Addr} {its : List Value} {n : Nat} {sl : Array (Option Value)} {ws : List W} (l : K.lookup r = some ⟨.type "tuple", od, .seq its.toArray n, sl⟩) (hz : its.length ≤ 1000) (h : Wrs K ws its) : Wr K (.tup ws) (.ref r) := by
  obtain ⟨vs, h1, h2⟩ := h.vals
  exact ⟨.ref r, rfl, fun H => ⟨r, vs, rfl, .inr ⟨_, _, _, l, rfl, rfl, by rw [List.size_toArray]; exact Nat.le_trans hz (by decide), by simpa using h1⟩, h2 H⟩⟩
theorem const_wr {mg : Str → Option Value} {x : Str} {u : Value} {wd : W} (h : mg x = some u) (r : Wr K wd u) : ConstAt K mg x wd := by
  obtain ⟨v, r, hv⟩ := r
  exact ⟨⟨_, v, h, r, hv⟩⟩
/-! ### an own error class over ValueError, without __init__ -/
structure ErrAt (K : PySem.W.Frag) (mg : Str → Option Value) (x : Str) (C : Addr) : Prop where
  gC : mg x = some (.ref C)
  xC : PySem.W.excIn K C [.type "ValueError", .type "Exception", .type "BaseException", .type "object"] "ValueError.__new__" = true
  kC : PySem.W.keepIn K (.ref C) = true
  bC : PySem.W.subIn K (.ref C) (.type "BaseException") = some true
  tC : PySem.W.typeIn K (.ref C) = some (.type "type")
/-- raise C() -/
theorem k_raise0 (K : PySem.W.Frag) {X : Cx} {W : WX} {C : Addr} {x : Str} {p pos pos' : Pos} (c : ErrAt K X.mg x C) (hc : X.calm = true) (tk : Takes X W) (hg : Gl X x) (hdb : (x == ("__debug__" : Str)) = false := by decide) (hK : X.K = K := by rfl) :
    PS X (.Raise (some (.Call (.Name x p) [] [] pos)) none pos') (tRaise (tMk0 C) W) := by
  subst hK
  exact ps_raiseW hc tk (pmk_own0 PySem.F.excBase_ValueError c.xC c.gC c.kC (raises_own c.bC c.tC) hg hdb)
theorem ErrAt.names {X : Cx} {mg : Str → Option Value} {x : Str} {C : Addr} (c : ErrAt K mg x C) (hg : Gl X x) (hmg : X.mg = mg := by rfl) (hdb : (x == ("__debug__" : Str)) = false := by decide) : Names X x (.ref C) := by
  subst hmg
  exact ⟨hg, hdb, .inl c.gC⟩
end Wl
set_option Elab.async false
set_option linter.all false
set_option maxRecDepth 100000
set_option maxHeartbeats 2000000
/-! Loops, comprehensions, meeting ways: hidden until asked. -/
namespace Wl
open PySem PySem.Spec PyProof.Rows L2
variable {K : PySem.W.Frag} {B : Hp}
@[irreducible] def ForQ (g : TGW) (tb : TSW) (D : EndsW) (ρ : StW) (ws : List W) (ok : Sto → Prop) (S1 : Sto) : Prop := ∃ P : Nat → StW → Sto → Prop, P 0 ρ S1 ∧ (∀ i ρ' S', P i ρ' S' → ok S') ∧
  (∀ i w ρ' S', ws[i]? = some w → P i ρ' S' → g w ρ' S' fun ρ2 S2 => tb { D with nx := P (i + 1), ct := P (i + 1), bk := D.nx } ρ2 S2) ∧ ∀ ρ' S', P ws.length ρ' S' → D.nx ρ' S'
theorem for_q {g : TGW} {tb : TSW} {D : EndsW} {ρ : StW} {ws : List W} {ok : Sto → Prop} {S1 : Sto} (P : Nat → StW → Sto → Prop) (h0 : P 0 ρ S1) (hok : ∀ i ρ' S', P i ρ' S' → ok S')
    (turn : ∀ i w ρ' S', ws[i]? = some w → P i ρ' S' → g w ρ' S' fun ρ2 S2 => tb { D with nx := P (i + 1), ct := P (i + 1), bk := D.nx } ρ2 S2) (fin : ∀ ρ' S', P ws.length ρ' S' → D.nx ρ' S') : ForQ g tb D ρ ws ok S1 := by
  unfold ForQ
  exact ⟨P, h0, hok, turn, fin⟩
def wForQ (wi : TIW) (g : TGW) (tb : TSW) : TSW := fun D ρ S => wi ρ S fun ws ok S1 => ForQ g tb D ρ ws ok S1
theorem wForQ_eq (wi : TIW) (g : TGW) (tb : TSW) : wForQ wi g tb = wFor wi g tb := by
  funext D ρ S
  unfold wForQ wFor ForQ
  rfl
instance (priority := high) ls_forQ {wi : TI} {g : TG} {tb : TS} {ww : TIW} {gw : TGW} {tw : TSW} [h : LI K B wi ww] [b : LG K B g gw] [a : LS K B tb tw] : LS K B (tFor wi g tb) (wForQ ww gw tw) := by
  rw [wForQ_eq]; infer_instance
@[irreducible] def LcQ (g : TGW) (tt : TTW) (te : TEW) (vs : List Nat) (ρ : StW) (Q : WK) (ws : List W) (ok : Sto → Prop) (S1 : Sto) : Prop := ∀ D, S1 D = none → ∃ P : Nat → List W → Sto → Prop, P 0 [] (put S1 D (.lst [])) ∧
  (∀ i acc S', P i acc S' → ok S') ∧
  (∀ i w acc S', ws[i]? = some w → P i acc S' → g w (wipeW ρ vs) S' fun ρ2 S2 => tt ρ2 S2 fun b S3 =>
    (b = true → te ρ2 S3 fun y S4 => S4 D = some (.lst acc) ∧ acc.length < sizeLine ∧ P (i + 1) (acc ++ [y]) (put S4 D (.lst (acc ++ [y])))) ∧ (b = false → P (i + 1) acc S3)) ∧
  ∀ acc S', P ws.length acc S' → Q (.ref D) S'
def wLcQ (wi : TIW) (g : TGW) (tt : TTW) (te : TEW) (vs : List Nat) : TEW := fun ρ S Q => wi ρ S fun ws ok S1 => LcQ g tt te vs ρ Q ws ok S1
theorem wLcQ_eq (wi : TIW) (g : TGW) (tt : TTW) (te : TEW) (vs : List Nat) : wLcQ wi g tt te vs = wLc wi g tt te vs := by
  funext ρ S Q
  unfold wLcQ wLc LcQ
  rfl
instance (priority := high + 1) le_lcQ {wi : TI} {g : TG} {tt : TT} {te : TE} {vs : List Nat} {ww : TIW} {gw : TGW} {tw : TTW} {ew : TEW} [h : LI K B wi ww] [b : LG K B g gw] [gg : GW g vs] [c : LT K B tt tw] [a : LE K B te ew] : LE K B (tLc wi g tt te vs) (wLcQ ww gw tw ew vs) := by
  rw [wLcQ_eq]; exact le_lc
section
variable {g : TGW} {tt : TTW} {te : TEW} {vs : List Nat} {ρ : StW} {Q : WK} {ws : List W} {ok : Sto → Prop} {S1 : Sto}
/-- any element: what holds behind the i-th -/
theorem lc_q (h : ∀ D, S1 D = none → ∃ P : Nat → List W → Sto → Prop, P 0 [] (put S1 D (.lst [])) ∧ (∀ i acc S', P i acc S' → ok S') ∧
    (∀ i w acc S', ws[i]? = some w → P i acc S' → g w (wipeW ρ vs) S' fun ρ2 S2 => tt ρ2 S2 fun b S3 =>
      (b = true → te ρ2 S3 fun y S4 => S4 D = some (.lst acc) ∧ acc.length < sizeLine ∧ P (i + 1) (acc ++ [y]) (put S4 D (.lst (acc ++ [y])))) ∧ (b = false → P (i + 1) acc S3)) ∧
    ∀ acc S', P ws.length acc S' → Q (.ref D) S') : LcQ g tt te vs ρ Q ws ok S1 := by unfold LcQ; exact h
theorem lc_map {j : Nat} (f : W → W) (hl : ws.length ≤ 100000) (hok : ∀ (D : Addr) (acc : List W), S1 D = none → ok (put S1 D (.lst acc)))
    (he : ∀ (i : Nat) (w : W) (D : Addr) (acc : List W), ws[i]? = some w → S1 D = none → ∀ Q' : WK, Q' (f w) (put S1 D (.lst acc)) → te ((wipeW ρ vs).set j (some w)) (put S1 D (.lst acc)) Q')
    (hd : ∀ (D : Addr), S1 D = none → Q (.ref D) (put S1 D (.lst (ws.map f)))) : LcQ (wName j) wYes te vs ρ Q ws ok S1 := by
  have h := lcMap (wi := fun ρ S R => R ws ok S) (ρ := ρ) (S := S1) f (fun R h => h) hl hok he hd
  unfold wLc at h
  unfold LcQ
  exact h
/-- with a test that changes nothing -/
theorem lc_fil {j : Nat} (p : W → Bool) (f : W → W) (hl : ws.length ≤ 100000) (hok : ∀ (D : Addr) (acc : List W), S1 D = none → ok (put S1 D (.lst acc)))
    (ht : ∀ (i : Nat) (w : W) (D : Addr) (acc : List W), ws[i]? = some w → S1 D = none → EvW tt ((wipeW ρ vs).set j (some w)) (put S1 D (.lst acc)) (p w))
    (he : ∀ (i : Nat) (w : W) (D : Addr) (acc : List W), ws[i]? = some w → p w = true → S1 D = none → ∀ Q' : WK, Q' (f w) (put S1 D (.lst acc)) → te ((wipeW ρ vs).set j (some w)) (put S1 D (.lst acc)) Q')
    (hd : ∀ (D : Addr), S1 D = none → Q (.ref D) (put S1 D (.lst ((ws.filter p).map f)))) : LcQ (wName j) tt te vs ρ Q ws ok S1 := by
  refine lc_q fun D hD => ⟨fun i acc S' => i ≤ ws.length ∧ acc = ((ws.take i).filter p).map f ∧ S' = put S1 D (.lst acc), ⟨Nat.zero_le _, rfl, rfl⟩, ?_, ?_, ?_⟩
  · rintro i acc S' ⟨_, _, rfl⟩
    exact hok D acc hD
  · rintro i w acc S' e ⟨_, ha, rfl⟩
    have hi : i < ws.length := (List.getElem?_eq_some_iff.mp e).1
    have tk : ws.take (i + 1) = ws.take i ++ [w] := by rw [List.take_add_one, e]; rfl
    refine ht i w D acc e hD _ ⟨fun hb => he i w D acc e hb hD _ ⟨put_same, ?_, ?_⟩, fun hb => ⟨hi, ?_, rfl⟩⟩
    · rw [ha, List.length_map]
      refine Nat.lt_of_le_of_lt (Nat.le_trans (List.length_filter_le _ _) (by rw [List.length_take]; exact Nat.min_le_left _ _)) (Nat.lt_of_lt_of_le (show i < 200000 by omega) (by decide))
    · refine ⟨hi, ?_, put_put⟩
      rw [tk, List.filter_append, List.map_append, ha]
      simp [hb]
    · rw [tk, List.filter_append, List.map_append, ha]
      simp [hb]
  · rintro acc S' ⟨_, ha, rfl⟩
    rw [List.take_of_length_le (Nat.le_refl _)] at ha
    rw [ha]
    exact hd D hD
end
@[irreducible] def WhQ (c : TTW) (tb : TSW) : TSW := wWhile c tb
theorem WhQ_eq (c : TTW) (tb : TSW) : WhQ c tb = wWhile c tb := by unfold WhQ; rfl
instance (priority := high) ls_whQ {c : TT} {tb : TS} {cw : TTW} {tw : TSW} [h : LT K B c cw] [a : LS K B tb tw] : LS K B (tWhile c tb) (WhQ cw tw) := by
  rw [WhQ_eq]; infer_instance
theorem wh_q {c : TTW} {tb : TSW} {D : EndsW} {ρ : StW} {S : Sto} (I : Nat → StW → Sto → Prop) (h0 : ∃ m, I m ρ S) (turn : ∀ m ρ S, I m ρ S → c ρ S fun b S1 =>
  (b = true → tb { D with nx := fun ρ' S' => ∃ m', m' < m ∧ I m' ρ' S', ct := fun ρ' S' => ∃ m', m' < m ∧ I m' ρ' S', bk := D.nx } ρ S1) ∧ (b = false → D.nx ρ S1)) : WhQ c tb D ρ S := by
  rw [WhQ_eq]; exact ⟨I, h0, turn⟩
@[irreducible] def MidQ (t u : TSW) : TSW := wMid t u
theorem MidQ_eq (t u : TSW) : MidQ t u = wMid t u := by unfold MidQ; rfl
instance (priority := high) ls_midQ {t u : TS} {tw uw : TSW} [a : LS K B t tw] [b : LS K B u uw] : LS K B (tMid t u) (MidQ tw uw) := by
  rw [MidQ_eq]; infer_instance
theorem mid_q {t u : TSW} {D : EndsW} {ρ : StW} {S : Sto} (M : StW → Sto → Prop) (h1 : t { D with nx := M } ρ S) (h2 : ∀ ρ' S', M ρ' S' → u D ρ' S') : MidQ t u D ρ S := by
  rw [MidQ_eq]; exact ⟨M, h1, h2⟩
end Wl
set_option Elab.async false
set_option linter.all false
set_option maxRecDepth 100000
set_option maxHeartbeats 2000000
/-! What stays; pools; joined texts. -/
namespace Wl
open PySem PySem.Spec PyProof.Rows L2
variable {K : PySem.W.Frag} {B : Hp}
/-! a + b, tuples of any length -/
def rAddB (K : PySem.W.Frag) : R2 := fun x y H Q => rAddA K x y H Q ∨ L2.rCatA K x y H Q
theorem k_addB (K : PySem.W.Frag) {X : Cx} (hK : X.K = K := by rfl) : OpR X (binaryOp .Add) (rAddB K) := by
  subst hK
  intro pins s σ H x y v u Q I rx ry h
  rcases h with h | h
  · exact op_addA pins s σ H x y v u Q I rx ry h
  · exact L2.op_catA pins s σ H x y v u Q I rx ry h
def wAddB : RW2 := fun x y S Q => match x, y with
  | .int i, .int j => Q (.int (i + j)) S
  | .str i, .str j => i.length + j.length ≤ sizeLine ∧ Q (.str (i ++ j)) S
  | .tup a, .tup b => a.length + b.length ≤ sizeLine ∧ Q (.tup (a ++ b)) S
  | .ref a, .ref b => ∃ xs ys, S a = some (.lst xs) ∧ S b = some (.lst ys) ∧ xs.length + ys.length ≤ sizeLine ∧ ∀ p, S p = none → Q (.ref p) (put S p (.lst (xs ++ ys)))
  | _, _ => False
instance l2_addB : L2R K (rAddB K) wAddB := ⟨fun H S x y wx wy Q Qw hh rx ry q po => by
  have old : wAdd wx wy S Qw → rAddB K x y H Q := fun q => .inl (l2_add.l H S x y wx wy Q Qw hh rx ry q po)
  cases wx <;> cases wy <;> first
    | exact q.elim
    | exact old q
    | skip
  obtain ⟨a, as, rfl, h1, r1⟩ := (show ∃ a xs, x = .ref a ∧ _ from rx)
  obtain ⟨b, bs, rfl, h2, r2⟩ := (show ∃ a xs, y = .ref a ∧ _ from ry)
  obtain ⟨hl, q⟩ := q
  refine .inr ⟨a, b, as, bs, rfl, rfl, h1, h2, by rw [r1.length, r2.length]; exact hl, fun z => ?_, fun _ z => ?_, fun _ _ p hp => po.ntup hp hh (r1.append r2) q⟩
  · subst z
    have e := List.length_eq_zero_iff.mp (r1.length.symm.trans (List.length_nil))
    rw [e, List.nil_append] at q
    exact po.tup (Tk.refl H) hh h2 r2 q
  · subst z
    have e := List.length_eq_zero_iff.mp (r2.length.symm.trans (List.length_nil))
    rw [e, List.append_nil] at q
    exact po.tup (Tk.refl H) hh h1 r1 q⟩
/-- just the cells of ps may be others -/
def OffL (ps : List Addr) (S S' : Sto) : Prop := ∀ a, a ∉ ps → S' a = S a
def KpL (ps : List Addr) (S T : Sto) : Prop := ∀ a c, a ∉ ps → S a = some c → T a = some c
theorem OffL.kp {ps : List Addr} {S T : Sto} (h : OffL ps S T) : KpL ps S T := fun a c ha e => by rw [h a ha]; exact e
theorem KpL.refl (ps : List Addr) (S : Sto) : KpL ps S S := fun _ _ _ h => h
theorem KpL.trans {ps : List Addr} {S T U : Sto} (h : KpL ps S T) (g : KpL ps T U) : KpL ps S U := fun a c ha e => g a c ha (h a c ha e)
theorem KpL.mono {ps qs : List Addr} {S T : Sto} (h : KpL ps S T) (hs : ∀ a ∈ ps, a ∈ qs) : KpL qs S T := fun a c ha e => h a c (fun z => ha (hs a z)) e
theorem KpL.new {ps : List Addr} {S T : Sto} {d : Addr} {c : Cell} (h : KpL ps S T) (n : T d = none) : KpL ps S (put T d c) := fun a e ha q => by
  have h1 := h a e ha q
  rw [put_ne (fun z => by rw [z, n] at h1; cases h1)]
  exact h1
theorem KpL.at {ps : List Addr} {S T : Sto} {d : Addr} {c : Cell} (h : KpL ps S T) (hd : d ∈ ps) : KpL ps S (put T d c) := fun a e ha q => by
  rw [put_ne (fun z => ha (by rw [z]; exact hd))]
  exact h a e ha q
/-- the free cells of S may be written -/
theorem KpL.own {ps : List Addr} {S T : Sto} {d : Addr} {c : Cell} (h : KpL ps S T) (n : S d = none) : KpL ps S (put T d c) := fun a e ha q => by
  rw [put_ne (fun z => by rw [z, n] at q; cases q)]
  exact h a e ha q
theorem KpL.off {ps qs : List Addr} {S T U : Sto} (h : KpL ps S T) (g : OffL qs T U) (hs : ∀ a ∈ qs, a ∈ ps ∨ S a = none) : KpL ps S U := fun a c ha e => by
  rw [g a (fun z => by
    rcases hs a z with h1 | h1
    · exact ha h1
    · rw [h1] at e; cases e)]
  exact h a c ha e
theorem KpL.free {ps : List Addr} {S T : Sto} {d : Addr} (h : KpL ps S T) (n : T d = none) (hd : d ∉ ps) : S d = none := by
  cases e : S d with
  | none => rfl
  | some x => rw [h d x hd e] at n; cases n
theorem fg_off {ps : List Addr} {S T : Sto} {Q : WK} {v : W} (h : KpL ps S T) (q : ∀ S', OffL ps S S' → (∀ a ∈ ps, S' a = T a) → Q v S') : FgI Q v T := by
  refine fg_sub (S' := fun a => if a ∈ ps then T a else S a) (fun a c e => ?_) (q _ (fun a ha => if_neg ha) (fun a ha => if_pos ha))
  have e : (if a ∈ ps then T a else S a) = some c := e
  by_cases ha : a ∈ ps
  · rw [if_pos ha] at e; exact e
  · rw [if_neg ha] at e; exact h a c ha e
theorem notin1 {a p : Addr} (h : a ≠ p) : a ∉ [p] := fun z => h (List.mem_singleton.mp z)
theorem notin2 {a p q : Addr} (h : a ≠ p) (g : a ≠ q) : a ∉ [p, q] := fun z => by
  rcases List.mem_cons.mp z with e | e
  · exact h e
  · exact g (List.mem_singleton.mp e)
theorem notin3 {a p q r : Addr} (h : a ≠ p) (g : a ≠ q) (f : a ≠ r) : a ∉ [p, q, r] := fun z => by
  rcases List.mem_cons.mp z with e | e
  · exact h e
  · exact notin2 g f e
/-- a pool of at most N drawn numbers -/
def Pl (S : Sto) (p : Addr) (N : Int) : Prop := ∃ c n b s, S p = some (.lst (poolL c n b s)) ∧ 0 ≤ c ∧ 0 ≤ n ∧ n ≤ N ∧ 0 ≤ s ∧ s < 2147483647
theorem Pl.some {S : Sto} {p : Addr} {N : Int} (h : Pl S p N) : ∃ c, S p = some c := by
  obtain ⟨c, n, b, s, e, _⟩ := h
  exact ⟨_, e⟩
theorem Pl.ne {S : Sto} {p d : Addr} {N : Int} (h : Pl S p N) (n : S d = none) : d ≠ p := by
  obtain ⟨c, e⟩ := h.some
  exact ne_free e n
theorem Pl.eq {S T : Sto} {p : Addr} {N : Int} (h : Pl S p N) (e : T p = S p) : Pl T p N := by
  obtain ⟨c, n, b, s, e1, r⟩ := h
  exact ⟨c, n, b, s, e.trans e1, r⟩
theorem Pl.mono {S : Sto} {p : Addr} {N M : Int} (h : Pl S p N) (l : N ≤ M) : Pl S p M := by
  obtain ⟨c, n, b, s, e1, h1, h2, h3, h4⟩ := h
  exact ⟨c, n, b, s, e1, h1, h2, by omega, h4⟩
def spTk : SpW := fun ws S Q => ∃ (p : Addr) (N many : Int), ws = [.ref p, .int many] ∧ Pl S p N ∧ N < 2 ^ 40 ∧ 0 < many ∧ many < 2 ^ 64 ∧ ∀ r S', 0 ≤ r → r < many → Pl S' p (N + 1) → OffL [p] S S' → Q (.int r) S'
theorem tk_go {p : Addr} {N many : Int} {S : Sto} {Q : WK} (h : Pl S p N) (hN : N < 2 ^ 40) (h0 : 0 < many) (h1 : many < 2 ^ 64) (q : ∀ r S', 0 ≤ r → r < many → Pl S' p (N + 1) → OffL [p] S S' → Q (.int r) S') : Hd spTk [.ref p, .int many] S Q := Hd.mk ⟨p, N, many, rfl, h, hN, h0, h1, q⟩
def spPl : SpW := fun ws S Q => ∃ (ns : List Int) (k : Int), ws = [.rl (ns.map W.int), .int k] ∧ 0 ≤ k ∧ k ≤ 1000 ∧ ns.length ≤ 63 ∧ ∀ p S', S p = none → Pl S' p 0 → OffL [p] S S' → Q (.ref p) S'
theorem pl_go {ns : List Int} {k : Int} {S : Sto} {Q : WK} (h0 : 0 ≤ k) (h1 : k ≤ 1000) (hl : ns.length ≤ 63) (q : ∀ p S', S p = none → Pl S' p 0 → OffL [p] S S' → Q (.ref p) S') : Hd spPl [.rl (ns.map W.int), .int k] S Q := Hd.mk ⟨ns, k, rfl, h0, h1, hl, q⟩
/-! texts -/
def tl (x : Str) : List Nat := x.cps.toList
theorem tl_len (x : Str) : (tl x).length = x.length := by unfold tl Str.length; simp
theorem tl_ext {x y : Str} (h : tl x = tl y) : x = y := by
  cases x; cases y
  unfold tl at h
  simp only at h
  congr 1
  exact Array.ext' h
theorem tl_append (x y : Str) : tl (x ++ y) = tl x ++ tl y := by
  show (x.cps ++ y.cps).toList = _
  simp [tl]
theorem tl_one (c : Nat) : tl ⟨#[c]⟩ = [c] := rfl
theorem tl_join0 : ∀ ys : List Str, tl (Txt.join "" ys) = (ys.map tl).flatten
  | [] => by decide +kernel
  | [x] => by
    have e : Txt.join "" [x] = Str.join "" [x] := StrLaws.glued_eq_join _ _
    rw [e]
    simp [Str.join]
  | x :: y :: r => by
    have e : ∀ zs, Txt.join "" zs = Str.join "" zs := fun zs => StrLaws.glued_eq_join _ _
    have ih := tl_join0 (y :: r)
    rw [e] at ih ⊢
    show tl (x ++ "" ++ Str.join "" (y :: r)) = _
    rw [tl_append, tl_append, ih]
    have z : tl ("" : Str) = [] := by decide +kernel
    rw [z]
    simp
/-- n letters from a to z -/
def Abc (x : Str) : Prop := ∀ c ∈ tl x, 97 ≤ c ∧ c ≤ 122
def NameOk (x : Str) : Prop := 1 ≤ (tl x).length ∧ (tl x).length ≤ 8 ∧ Abc x
theorem cut_tl (z : Str) (lo hi : Option Int) : tl (cutS z lo hi) = cutL (tl z) lo hi := by
  unfold cutS cutL tl
  simp [Str.length]
end Wl
set_option Elab.async false
set_option linter.all false
set_option maxRecDepth 100000
set_option maxHeartbeats 2000000
/-! Ifs over several tests: hidden until asked. -/
namespace Wl
open PySem PySem.Spec PyProof.Rows L2
variable {K : PySem.W.Frag} {B : Hp}
@[irreducible] def IfQ (c : TTW) (t u : TSW) : TSW := wIfS c t u
theorem IfQ_eq (c : TTW) (t u : TSW) : IfQ c t u = wIfS c t u := by unfold IfQ; rfl
instance (priority := high) ls_ifAnd {c1 c2 : TT} {t u : TS} {cw : TTW} {tw uw : TSW} [h : LT K B (tAnd c1 c2) cw] [a : LS K B t tw] [b : LS K B u uw] : LS K B (tIfS (tAnd c1 c2) t u) (IfQ cw tw uw) := by
  rw [IfQ_eq]; infer_instance
instance (priority := high) ls_ifOr {c1 c2 : TT} {t u : TS} {cw : TTW} {tw uw : TSW} [h : LT K B (tOr c1 c2) cw] [a : LS K B t tw] [b : LS K B u uw] : LS K B (tIfS (tOr c1 c2) t u) (IfQ cw tw uw) := by
  rw [IfQ_eq]; infer_instance
theorem if_q {c : TTW} {t u : TSW} {D : EndsW} {ρ : StW} {S : Sto} (h : wIfS c t u D ρ S) : IfQ c t u D ρ S := by rw [IfQ_eq]; exact h
/-- the tests change nothing -/
theorem if_ev {c : TTW} {t u : TSW} {D : EndsW} {ρ : StW} {S : Sto} (b : Bool) (h : EvW c ρ S b) (h1 : b = true → t D ρ S) (h2 : b = false → u D ρ S) : IfQ c t u D ρ S := by
  rw [IfQ_eq]; exact ifEv h h1 h2
theorem isTy_nb : isTy "NoneType" "bool" = some false := by decide +kernel
theorem isTy_ni : isTy "NoneType" "int" = some false := by decide +kernel
theorem isTy_ns : isTy "NoneType" "str" = some false := by decide +kernel
theorem isTy_nt : isTy "NoneType" "tuple" = some false := by decide +kernel
theorem isTy_nl : isTy "NoneType" "list" = some false := by decide +kernel
theorem isTy_bt : isTy "bool" "tuple" = some false := by decide +kernel
theorem isTy_bl : isTy "bool" "list" = some false := by decide +kernel
theorem isTy_td : isTy "tuple" "dict" = some false := by decide +kernel
theorem isTy_dd : isTy "dict" "dict" = some true := by decide +kernel
theorem OffL.trans1 {ps : List Addr} {S T U : Sto} (h : OffL ps S T) (g : OffL ps T U) : OffL ps S U := fun a ha => (g a ha).trans (h a ha)
end Wl
set_option Elab.async false
set_option linter.all false
set_option maxRecDepth 100000
set_option maxHeartbeats 2000000
/-! insert, str of a text, sorted texts. -/
namespace Wl
open PySem PySem.Spec PyProof.Rows L2
variable {K : PySem.W.Frag} {B : Hp}
/-! ### xs.insert(i, y), i not below 0 -/
def rInsA : V → List V → Hp → VK → Prop := fun x vs H Q => ∃ (l : Addr) (xs : List V) (i : Int) (y : V), x = .ref l ∧ vs = [.int i, y] ∧ H l = some (.lst xs) ∧ xs.length < sizeLine ∧ 0 ≤ i ∧ i < 2 ^ 63 ∧
    Q .non (upd H l (.lst (xs.take i.toNat ++ [y] ++ xs.drop i.toNat)))
theorem mt_insertA {X : Cx} : MtR X "list.insert" rInsA := mt_insert
def wInsA : W → List W → Sto → WK → Prop := fun x ws S Q => match x, ws with
  | .ref l, [.int i, y] => ∃ xs, S l = some (.lst xs) ∧ xs.length < sizeLine ∧ 0 ≤ i ∧ i < 2 ^ 63 ∧ Q .non (put S l (.lst (xs.take i.toNat ++ [y] ++ xs.drop i.toNat)))
  | _, _ => False
instance lm_insertA : LMR K rInsA wInsA := ⟨fun H S x wx xs ws Q Qw hh rx r q po => by
  unfold wInsA at q
  split at q
  · rename_i l i wy
    cases (show x = _ from rx)
    obtain ⟨y, ys, rfl, ry, r⟩ := r
    cases (show y = _ from ry)
    obtain ⟨z, rfl, rz⟩ := rep1 r
    obtain ⟨zs, e, hl, h0, h1, q⟩ := q
    obtain ⟨vs, g1, g2⟩ := hh _ _ e
    have t : Tk H (upd H _ (.lst (vs.take i.toNat ++ [z] ++ vs.drop i.toNat))) := Tk.mut g1 (fun _ z => (by cases z)) (fun _ _ z => (by cases z))
    obtain ⟨t, hm⟩ := hh.mut (c' := .lst _) (o := .lst (vs.take i.toNat ++ [z] ++ vs.drop i.toNat)) e ⟨_, upd_same, ((RepL.tk t _ _ (g2.take i.toNat)).append (.one (Rep.tk t _ _ rz))).append (RepL.tk t _ _ (g2.drop i.toNat))⟩
    exact ⟨_, vs, _, z, rfl, rfl, g1, by rw [g2.length]; exact hl, h0, h1, po.non t hm q⟩
  · exact q.elim⟩
/-! ### str(n), str(x) -/
def rStrA : List V → Hp → VK → Prop := fun xs H Q => (∃ i, xs = [.int i] ∧ i.natAbs.log2 < 1920 ∧ Q (.str (toString i)) H) ∨ ∃ a, xs = [.str a] ∧ Q (.str a) H
theorem call_strA {X : Cx} : CallR X (.type "str") rStrA := by
  intro pins s σ H xs us Q I r h
  rcases h with h | h
  · exact call_str_int pins s σ H xs us Q I r h
  · exact SkE.call_str_str pins s σ H xs us Q I r h
def wStrA : RWC := fun ws S Q => match ws with
  | [.int i] => i.natAbs.log2 < 1920 ∧ Q (.str (toString i)) S
  | [.str a] => Q (.str a) S
  | _ => False
instance lc_strA : LCR K rStrA wStrA := ⟨fun H S xs ws Q Qw hh r q po => by
  unfold wStrA at q
  split at q
  · obtain ⟨x, rfl, h1⟩ := rep1 r
    cases (show x = _ from h1)
    exact .inl ⟨_, rfl, q.1, po.str (Tk.refl H) hh q.2⟩
  · obtain ⟨x, rfl, h1⟩ := rep1 r
    cases (show x = _ from h1)
    exact .inr ⟨_, rfl, po.str (Tk.refl H) hh q⟩
  · exact q.elim⟩
/-! ### sorted(xs): ints, texts -/
def rSortA (K : PySem.W.Frag) : List V → Hp → VK → Prop := fun vs H Q => rSorted K vs H Q ∨ rSortedS K vs H Q
theorem k_sortA (K : PySem.W.Frag) {X : Cx} (hK : X.K = K := by rfl) : CallR X (.builtin "sorted") (rSortA K) := by
  intro pins s σ H xs us Q I r h
  subst hK
  rcases h with h | h
  · exact cr_sorted pins s σ H xs us Q I r h
  · exact cr_sortedS pins s σ H xs us Q I r h
def wSortA : RWC := fun vs S Q => match vs with
  | [.ref a] => (∃ ns : List Int, S a = some (.lst (ns.map W.int)) ∧ ns.length < 64 ∧ ∀ (ns' : List Int) p, ns'.Perm ns → ns'.Pairwise (· ≤ ·) → S p = none → Q (.ref p) (put S p (.lst (ns'.map W.int)))) ∨
      ∃ xs : List Str, S a = some (.lst (xs.map W.str)) ∧ xs.length < 64 ∧ ∀ (ys : List Str) p, ys.Perm xs → sortedS ys = true → S p = none → Q (.ref p) (put S p (.lst (ys.map W.str)))
  | _ => False
instance lc_sortA : LCR K (rSortA K) wSortA := ⟨fun H S xs ws Q Qw hh r q po => by
  unfold wSortA at q
  split at q
  · obtain ⟨x, rfl, h1⟩ := rep1 r
    cases (show x = _ from h1)
    rcases q with ⟨ns, e, hl, q⟩ | ⟨ns, e, hl, q⟩
    · obtain ⟨vs, g1, g2⟩ := hh _ _ e
      have g3 := g2.ints
      subst g3
      exact .inl ⟨_, ns, rfl, SqL.of g1, hl, fun ns' p h1 h2 hp => po.nlst hp hh RepL.ofInts fun p hp => q ns' p h1 h2 hp⟩
    · obtain ⟨vs, g1, g2⟩ := hh _ _ e
      have g3 := g2.strs
      subst g3
      exact .inr ⟨_, ns, rfl, SqL.of g1, hl, fun ns' p h1 h2 hp => po.nlst hp hh RepL.ofStrs fun p hp => q ns' p h1 h2 hp⟩
  · exact q.elim⟩
/-! ### a text times an int -/
def rMulS : R2 := fun x y H Q => ∃ a n, x = .str a ∧ y = .int n ∧ MulOk a n ∧ Q (.str (Txt.mul a n)) H
theorem op_mulS {X : Cx} : OpR X (binaryOp .Mult) rMulS := by
  intro pins s σ H x y v u Q I rx ry h
  obtain ⟨a, n, rfl, rfl, ok, q⟩ := h
  obtain ⟨t, rfl⟩ := rx
  obtain ⟨t2, rfl⟩ := ry
  exact SB.mul ok fun t' k => ⟨.str _, H, I.tok _, ⟨_, rfl⟩, q⟩
def wMulS : RW2 := fun x y S Q => match x, y with
  | .str a, .int n => MulOk a n ∧ Q (.str (Txt.mul a n)) S
  | _, _ => False
instance l2_mulS : L2R K rMulS wMulS := ⟨fun H S x y wx wy Q Qw hh rx ry q po => by
  unfold wMulS at q
  split at q
  · cases (show x = _ from rx)
    cases (show y = _ from ry)
    exact ⟨_, _, rfl, rfl, q.1, po.str (Tk.refl H) hh q.2⟩
  · exact q.elim⟩
end Wl
set_option Elab.async false
set_option linter.all false
set_option maxRecDepth 100000
set_option maxHeartbeats 2000000
/-! Truth of lists and tuples, ranges with a step, tuple targets in comprehensions, generators. -/
namespace Wl
open PySem PySem.Spec PyProof.Rows L2
variable {K : PySem.W.Frag} {B : Hp}
/-! ### truth -/
def tTruA (K : PySem.W.Frag) (ta : TE) : TT := fun σ H Q => ta σ H fun x H' => ∃ k, TruV K x H' k ∧ Q k H'
theorem k_truth (K : PySem.W.Frag) {X : Cx} {a : Expr} {ta : TE} (ha : PE X a ta) (he : ∀ whole, isTrue a X.env whole = (do let v ← whole; standAt a.pos; holding [v] (truthy v)) := by intro _; rfl) (hK : X.K = K := by rfl) : PT X a (tTruA K ta) := by
  subst hK; exact pt_truth ha he
def wTruA (t : TEW) : TTW := fun ρ S Q => t ρ S fun x S1 => match x with
  | .non => Q false S1
  | .bl k => Q k S1
  | .int i => Q (i != 0) S1
  | .str z => z.length ≤ sizeLine ∧ Q ((z.length : Int) != 0) S1
  | .tup ws => Q (!ws.isEmpty) S1
  | .rl ws => Q (!ws.isEmpty) S1
  | .ref a => ∃ ws, S1 a = some (.lst ws) ∧ Q (!ws.isEmpty) S1
  | _ => False
theorem RepL.isE {H : Hp} {ws : List W} {xs : List V} (r : RepL K H ws xs) : xs.isEmpty = ws.isEmpty := by
  have h := r.length
  cases xs <;> cases ws <;> first | rfl | (simp at h)
instance lt_truA {t : TE} {tw : TEW} [a : LE K B t tw] : LT K B (tTruA K t) (wTruA tw) := ⟨fun σ H ρ S Q Qw hs hh q po =>
  a.l σ H ρ S _ _ hs hh q fun x H1 wx S1 t1 hh1 r1 q1 => by
    cases wx <;> try exact q1.elim
    · cases (show x = _ from r1)
      exact ⟨_, rfl, po _ H1 S1 t1 hh1 q1⟩
    · cases (show x = _ from r1)
      exact ⟨_, rfl, po _ H1 S1 t1 hh1 q1⟩
    · cases (show x = _ from r1)
      exact ⟨_, rfl, po _ H1 S1 t1 hh1 q1⟩
    · cases (show x = _ from r1)
      exact ⟨_, ⟨q1.1, rfl⟩, po _ H1 S1 t1 hh1 q1.2⟩
    · cases (show x = _ from r1)
      obtain ⟨ws, e, q⟩ := q1
      obtain ⟨xs, h1, h2⟩ := hh1 _ _ e
      exact ⟨_, .inl ⟨xs, SqL.of h1, rfl⟩, po _ H1 S1 t1 hh1 (by rw [h2.isE]; exact q)⟩
    · obtain ⟨a, xs, rfl, h1, h2⟩ := r1
      exact ⟨_, .inr (.inl ⟨xs, h1, rfl⟩), po _ H1 S1 t1 hh1 (by rw [h2.isE]; exact q1)⟩
    · obtain ⟨a, xs, rfl, h1, h2⟩ := r1
      exact ⟨_, .inl ⟨xs, h1.sq, rfl⟩, po _ H1 S1 t1 hh1 (by rw [h2.isE]; exact q1)⟩⟩

/-! ### range(i, j, -1), any step -/
def stepsW (lo c : Int) (n : Nat) : List W := (List.range n).map fun i => W.int (lo + (i : Nat) * c)
theorem stepsW_len {lo c : Int} {n : Nat} : (stepsW lo c n).length = n := by unfold stepsW; simp
theorem stepsW_get {lo c : Int} {n i : Nat} (h : i < n) : (stepsW lo c n)[i]? = some (W.int (lo + (i : Nat) * c)) := by unfold stepsW; simp [h]
theorem stepsW_at {lo c : Int} {n i : Nat} {w : W} (h : (stepsW lo c n)[i]? = some w) : i < n ∧ w = W.int (lo + (i : Nat) * c) := by
  unfold stepsW at h
  rw [List.getElem?_map] at h
  by_cases q : i < n
  · rw [List.getElem?_range q] at h
    exact ⟨q, (Option.some.inj h).symm⟩
  · rw [List.getElem?_eq_none (by simpa using q)] at h
    cases h
theorem src_steps {H1 : Hp} {lo c : Int} {n : Nat} : IsSrc K H1 (Itc lo c n) (stepsW lo c n) anyS where
  go := fun i H S t hh ok hi => by rw [stepsW_len] at hi; exact hi
  yld := fun i H S x H' t hh ok hi y => by
    obtain ⟨e, y⟩ := y
    subst e y
    rw [stepsW_len] at hi
    exact ⟨Tk.refl _, hh, W.int (lo + (i : Nat) * c), stepsW_get hi, (show Rep K _ (W.int (lo + (i : Nat) * c)) _ from rfl)⟩
  stop := fun i H S t hh ok hi => by rw [stepsW_len] at hi; exact hi
def wiR3 (ta : TAW) : TIW := fun ρ S R => ta ρ S fun ws S1 => match ws with
  | [.int i, .int j, .int c] => ∃ n, RgC i j c n ∧ R (stepsW i c n) anyS S1
  | _ => False
theorem rep3 {H : Hp} {w z u : W} {xs : List V} (r : RepL K H [w, z, u] xs) : ∃ x y a, xs = [x, y, a] ∧ Rep K H w x ∧ Rep K H z y ∧ Rep K H u a := by
  obtain ⟨x, r, rfl, h1, h2⟩ := r
  obtain ⟨y, a, rfl, h3, h4⟩ := rep2 h2
  exact ⟨x, y, a, rfl, h1, h3, h4⟩
instance li_r3 {t : TA} {tw : TAW} [a : LA K B t tw] : LI K B (iRng3 t) (wiR3 tw) := ⟨fun σ H ρ S R Rw hs hh q po => a.l σ H ρ S _ _ hs hh q fun xs H1 ws S1 t1 hh1 r1 q1 => by
  split at q1
  · obtain ⟨x, y, z, rfl, h1, h2, h3⟩ := rep3 r1
    cases (show x = _ from h1)
    cases (show y = _ from h2)
    cases (show z = _ from h3)
    obtain ⟨n, hn, q⟩ := q1
    exact ⟨_, _, _, n, rfl, hn, po _ H1 S1 _ _ t1 hh1 src_steps q⟩
  · exact q1.elim⟩

/-! ### tuple targets in comprehensions -/
class GWg (g : TG) (vs : List Nat) : Prop where
  l : ∀ v σ H Q, g v σ H Q → g v σ H fun σ2 H2 => wipe σ2 vs = wipe σ vs ∧ Q σ2 H2
  m : ∀ v σ H (Q R : L2.St → Hp → Prop), (∀ a b, Q a b → R a b) → g v σ H Q → g v σ H R
class GWgs (g : TGs) (vs : List Nat) : Prop where
  l : ∀ v σ H Q, g v σ H Q → g v σ H fun σ2 H2 => wipe σ2 vs = wipe σ vs ∧ Q σ2 H2
  m : ∀ v σ H (Q R : L2.St → Hp → Prop), (∀ a b, Q a b → R a b) → g v σ H Q → g v σ H R
theorem wipe_set' {σ : L2.St} {vs : List Nat} {j : Nat} {x : V} (hj : j ∈ vs) : wipe (σ.set j (some x)) vs = wipe σ vs := by
  apply List.ext_getElem?
  intro i
  rw [wipe_at, wipe_at]
  by_cases hi : i ∈ vs
  · simp [hi]
  · rw [if_neg hi, if_neg hi, List.getElem?_set_ne (show j ≠ i from fun e => hi (by rw [← e]; exact hj))]
theorem wipe_wipe (σ : L2.St) (vs : List Nat) : wipe (wipe σ vs) vs = wipe σ vs := by
  apply List.ext_getElem?
  intro i
  rw [wipe_at, wipe_at]
  by_cases hi : i ∈ vs
  · simp [hi, wipe_length]
  · rw [if_neg hi, if_neg hi]
instance gwg_name {j : Nat} {vs : List Nat} [h : MemN j vs] : GWg (gName j) vs := ⟨fun v σ H Q q => ⟨wipe_set' h.h, q⟩, fun v σ H Q R hm q => hm _ _ q⟩
instance gwgs_nil {vs : List Nat} : GWgs gNil vs := ⟨fun v σ H Q q => ⟨q.1, rfl, q.2⟩, fun v σ H Q R hm q => ⟨q.1, hm _ _ q.2⟩⟩
instance gwgs_cons {t : TG} {u : TGs} {vs : List Nat} [a : GWg t vs] [b : GWgs u vs] : GWgs (gCons t u) vs := ⟨fun v σ H Q ⟨x, r, e, q⟩ => ⟨x, r, e, by
  refine a.m _ _ _ _ _ ?_ (a.l x σ H _ q)
  rintro σ2 H2 ⟨e2, q2⟩
  refine b.m _ _ _ _ _ ?_ (b.l r σ2 H2 Q q2)
  rintro σ3 H3 ⟨e3, q3⟩
  exact ⟨e3.trans e2, q3⟩⟩, fun v σ H Q R hm ⟨x, r, e, q⟩ => ⟨x, r, e, a.m _ _ _ _ _ (fun σ2 H2 q2 => b.m _ _ _ _ _ hm q2) q⟩⟩
instance gwg_tup {n : Nat} {u : TGs} {vs : List Nat} [b : GWgs u vs] : GWg (gTup K n u) vs := ⟨fun v σ H Q ⟨a, xs, h1, h2, h3, q⟩ => ⟨a, xs, h1, h2, h3, b.l xs σ H Q q⟩, fun v σ H Q R hm ⟨a, xs, h1, h2, h3, q⟩ => ⟨a, xs, h1, h2, h3, b.m _ _ _ _ _ hm q⟩⟩
instance gw_tup {n : Nat} {u : TGs} {vs : List Nat} [b : GWgs u vs] : GW (gTup K n u) vs := ⟨fun v σ H Q q => by
  have h := (gwg_tup (K := K) (n := n) (u := u) (vs := vs)).l v (wipe σ vs) H Q q
  refine (gwg_tup (K := K) (n := n) (u := u) (vs := vs)).m _ _ _ _ _ ?_ h
  rintro σ2 H2 ⟨e, q2⟩
  exact ⟨e.trans (wipe_wipe σ vs), q2⟩⟩

/-! ### generators -/
structure GEndsW where
  nx : List W → StW → Sto → Prop
  rt : List W → WK
  bk : List W → StW → Sto → Prop := fun _ _ _ => False
  ct : List W → StW → Sto → Prop := fun _ _ _ => False
abbrev TGnW := GEndsW → List W → StW → Sto → Prop
def PoGS (K : PySem.W.Frag) (B H : Hp) (Q : List V → L2.St → Hp → Prop) (Qw : List W → StW → Sto → Prop) : Prop := ∀ ys ws σ' H' ρ' S', Tk H H' → RepL K H' ws ys → SRep K B H' σ' ρ' → HRep K H' S' → Qw ws ρ' S' → Q ys σ' H'
theorem PoGS.tk {H H1 : Hp} {Q : List V → L2.St → Hp → Prop} {Qw : List W → StW → Sto → Prop} (h : PoGS K B H Q Qw) (t : Tk H H1) : PoGS K B H1 Q Qw := fun ys ws σ' H' ρ' S' t' => h ys ws σ' H' ρ' S' (t.trans t')
def PoGR (K : PySem.W.Frag) (H : Hp) (Q : List V → VK) (Qw : List W → WK) : Prop := ∀ ys ws v H' w S', Tk H H' → RepL K H' ws ys → HRep K H' S' → Rep K H' w v → Qw ws w S' → Q ys v H'
theorem PoGR.tk {H H1 : Hp} {Q : List V → VK} {Qw : List W → WK} (h : PoGR K H Q Qw) (t : Tk H H1) : PoGR K H1 Q Qw := fun ys ws v H' w S' t' => h ys ws v H' w S' (t.trans t')
structure PoG (K : PySem.W.Frag) (B H : Hp) (D : GEnds) (Dw : GEndsW) : Prop where
  nx : PoGS K B H D.nx Dw.nx
  bk : PoGS K B H D.bk Dw.bk
  ct : PoGS K B H D.ct Dw.ct
  rt : PoGR K H D.rt Dw.rt
theorem PoG.tk {H H1 : Hp} {D : GEnds} {Dw : GEndsW} (h : PoG K B H D Dw) (t : Tk H H1) : PoG K B H1 D Dw := ⟨h.nx.tk t, h.bk.tk t, h.ct.tk t, h.rt.tk t⟩
class LGn (K : PySem.W.Frag) (B : Hp) (t : TGn) (tw : outParam TGnW) : Prop where
  l : ∀ ys ws σ H ρ S D Dw, RepL K H ws ys → SRep K B H σ ρ → HRep K H S → tw Dw ws ρ S → PoG K B H D Dw → t D ys σ H
def GEndsW.at (D : GEndsW) (ys : List W) : EndsW := { nx := D.nx ys, rt := D.rt ys, bk := D.bk ys, ct := D.ct ys }
def wPlainG (t : TSW) : TGnW := fun D ys ρ S => t (D.at ys) ρ S
instance lgn_plain {t : TS} {tw : TSW} [a : LS K B t tw] : LGn K B (tPlain t) (wPlainG tw) := ⟨fun ys ws σ H ρ S D Dw hy hs hh q po =>
  a.l σ H ρ S (D.at ys) (Dw.at ws) hs hh q ⟨fun σ' H' ρ' S' t1 hs' hh' q' => po.nx ys ws σ' H' ρ' S' t1 (RepL.tk t1 _ _ hy) hs' hh' q', fun σ' H' ρ' S' t1 hs' hh' q' => po.bk ys ws σ' H' ρ' S' t1 (RepL.tk t1 _ _ hy) hs' hh' q',
    fun σ' H' ρ' S' t1 hs' hh' q' => po.ct ys ws σ' H' ρ' S' t1 (RepL.tk t1 _ _ hy) hs' hh' q', fun v H' w S' t1 hh' r q' => po.rt ys ws v H' w S' t1 (RepL.tk t1 _ _ hy) hh' r q'⟩⟩
def wG0 : TGnW := fun D ys ρ S => D.nx ys ρ S
instance lgn_0 : LGn K B tG0 wG0 := ⟨fun ys ws σ H ρ S D Dw hy hs hh q po => po.nx ys ws σ H ρ S (Tk.refl H) hy hs hh q⟩
def wGThen (t u : TGnW) : TGnW := fun D ys ρ S => t { D with nx := fun ys' ρ' S' => u D ys' ρ' S' } ys ρ S
instance lgn_then {t u : TGn} {tw uw : TGnW} [a : LGn K B t tw] [b : LGn K B u uw] : LGn K B (tGThen t u) (wGThen tw uw) := ⟨fun ys ws σ H ρ S D Dw hy hs hh q po =>
  a.l ys ws σ H ρ S _ _ hy hs hh q ⟨fun ys' ws' σ' H' ρ' S' t1 hy' hs' hh' q' => b.l ys' ws' σ' H' ρ' S' D Dw hy' hs' hh' q' (po.tk t1), po.bk, po.ct, po.rt⟩⟩
def wGYield (te : TEW) : TGnW := fun D ys ρ S => ys.length < sizeLine ∧ te ρ S fun x S1 => D.nx (ys ++ [x]) ρ S1
instance lgn_yield {te : TE} {we : TEW} [a : LE K B te we] : LGn K B (tGYield te) (wGYield we) := ⟨fun ys ws σ H ρ S D Dw hy hs hh q po =>
  ⟨by rw [hy.length]; exact q.1, a.l σ H ρ S _ _ hs hh q.2 fun x H1 wx S1 t1 hh1 r1 q1 => po.nx _ _ σ H1 ρ S1 t1 ((RepL.tk t1 _ _ hy).append (.one r1)) (hs.tk t1) hh1 q1⟩⟩
@[irreducible] def WhG (c : TTW) (tb : TGnW) : TGnW := fun D ys ρ S => ∃ I : Nat → List W → StW → Sto → Prop, (∃ m, I m ys ρ S) ∧ ∀ m ys ρ S, I m ys ρ S → c ρ S fun b S1 =>
  (b = true → tb { D with nx := fun ys' ρ' S' => ∃ m', m' < m ∧ I m' ys' ρ' S', ct := fun ys' ρ' S' => ∃ m', m' < m ∧ I m' ys' ρ' S', bk := D.nx } ys ρ S1) ∧ (b = false → D.nx ys ρ S1)
theorem wh_g {c : TTW} {tb : TGnW} {D : GEndsW} {ys : List W} {ρ : StW} {S : Sto} (I : Nat → List W → StW → Sto → Prop) (h0 : ∃ m, I m ys ρ S) (turn : ∀ m ys ρ S, I m ys ρ S → c ρ S fun b S1 =>
  (b = true → tb { D with nx := fun ys' ρ' S' => ∃ m', m' < m ∧ I m' ys' ρ' S', ct := fun ys' ρ' S' => ∃ m', m' < m ∧ I m' ys' ρ' S', bk := D.nx } ys ρ S1) ∧ (b = false → D.nx ys ρ S1)) : WhG c tb D ys ρ S := by
  unfold WhG; exact ⟨I, h0, turn⟩
instance lgn_while {c : TT} {tb : TGn} {cw : TTW} {tw : TGnW} [h : LT K B c cw] [a : LGn K B tb tw] : LGn K B (tGWhile c tb) (WhG cw tw) := ⟨fun ys ws σ H ρ S D Dw hy hs hh q po => by
  unfold WhG at q
  obtain ⟨I, ⟨m0, i0⟩, st⟩ := q
  refine ⟨fun m ys' σ' H' => ∃ ws' ρ' S', Tk H H' ∧ RepL K H' ws' ys' ∧ SRep K B H' σ' ρ' ∧ HRep K H' S' ∧ I m ws' ρ' S', ⟨m0, ws, ρ, S, Tk.refl H, hy, hs, hh, i0⟩, ?_⟩
  rintro m ys1 σ1 H1 ⟨ws1, ρ1, S1, t1, hy1, hs1, hh1, i1⟩
  refine h.l σ1 H1 ρ1 S1 _ _ hs1 hh1 (st m ws1 ρ1 S1 i1) fun b H2 S2 t2 hh2 q2 => ?_
  cases b with
  | true =>
    rw [if_pos rfl]
    refine ⟨fun ys' σ' H' => ∃ m', m' < m ∧ ∃ ws' ρ' S', Tk H H' ∧ RepL K H' ws' ys' ∧ SRep K B H' σ' ρ' ∧ HRep K H' S' ∧ I m' ws' ρ' S', fun ys' σ' H' z => z, ?_⟩
    refine a.l ys1 ws1 σ1 H2 ρ1 S2 _ _ (RepL.tk t2 _ _ hy1) (hs1.tk t2) hh2 (q2.1 rfl) ⟨?_, ?_, ?_, po.rt.tk (t1.trans t2)⟩
    · rintro ys' ws' σ' H' ρ' S' t3 hy3 hs3 hh3 ⟨m', hm, q⟩
      exact ⟨m', hm, ws', ρ', S', (t1.trans t2).trans t3, hy3, hs3, hh3, q⟩
    · exact po.nx.tk (t1.trans t2)
    · rintro ys' ws' σ' H' ρ' S' t3 hy3 hs3 hh3 ⟨m', hm, q⟩
      exact ⟨m', hm, ws', ρ', S', (t1.trans t2).trans t3, hy3, hs3, hh3, q⟩
  | false =>
    rw [if_neg Bool.false_ne_true]
    exact po.nx ys1 ws1 σ1 H2 ρ1 S2 (t1.trans t2) (RepL.tk t2 _ _ hy1) (hs1.tk t2) hh2 (q2.2 rfl)⟩
/-- a generator def's promise over data: the arguments, the store, what is wanted of all that is handed out -/
abbrev SpGW := List W → Sto → (List W → Sto → Prop) → Prop
def liftG (K : PySem.W.Frag) (sp : SpGW) : SpG := fun vs H cont _ => ∃ ws S cw, RepL K H ws vs ∧ HRep K H S ∧ sp ws S cw ∧ PoA K H cont cw
section
variable {P : Program} {w : World} {mg : Str → Option Value} {base : Heap}
structure CalG (P : Program) (w : World) (K : PySem.W.Frag) (mg : Str → Option Value) (base : Heap) (k : Nat) (x : Str) (sp : SpGW) : Prop where
  ex : ∃ (f : Addr) (fd : FuncData) (ps : List Str), GFn P w K mg base k f fd ps (liftG K sp) ∧ mg x = some (.ref f) ∧ PySem.W.keepIn K (.ref f) = true ∧ Binds K fd ps []
@[irreducible] def HdG (sp : SpGW) : SpGW := sp
theorem HdG_eq (sp : SpGW) : HdG sp = sp := by unfold HdG; rfl
theorem HdG.mk {sp : SpGW} {ws : List W} {S : Sto} {Q : List W → Sto → Prop} (h : sp ws S Q) : HdG sp ws S Q := by rw [HdG_eq]; exact h
theorem CalG.hd {k : Nat} {x : Str} {sp : SpGW} (c : CalG P w K mg base k x sp) : CalG P w K mg base k x (HdG sp) := by rw [HdG_eq]; exact c
theorem never_passes {X : Cx} : Passes (L2.CX X.prog X.w) X E0 := fun pins σ H s e s' I c => by
  obtain ⟨a, B, H', cls, d, rfl, fl, _, _, _, _, _, hW⟩ := c
  exact hW.elim
theorem never_stop : NoStop K E0 := fun _ _ _ h => h.elim
/-- list(f(e, ..)), f a generator def -/
theorem k_listG (K : PySem.W.Frag) {X : Cx} {k j : Nat} {x : Str} {sp : SpGW} {p pos pos' : Pos} {e : Expr} {es : List Expr} {t : TA} {nm : Str} {p2 : Pos} (c : CalG X.prog X.w K X.mg X.base k x sp) (hr : Room j X.A) (hk : k + 3 ≤ j) (hg : Gl X x) (hgl : Gl X nm) (hmg : X.mg nm = none) (hv : bootBuiltins nm = some (.type "list")) (ha : PA X (e :: es) t)
    (hdb : (x == ("__debug__" : Str)) = false := by decide) (he : starEach (e :: es) X.env = (false, eval e X.env) :: starEach es X.env := by rfl) (hpl : (backTo pos' (starEach es X.env)).any (·.1) = false := by rfl)
    (hnm : nm ≠ "__name__" := by decide) (hdb2 : (nm == ("__debug__" : Str)) = false := by decide)
    (he2 : starEach [.Call (.Name x p) (e :: es) [] pos'] X.env = (false, eval (.Call (.Name x p) (e :: es) [] pos') X.env) :: starEach [] X.env := by rfl) (hK : X.K = K := by rfl) :
    PE X (.Call (.Name nm p2) [.Call (.Name x p) (e :: es) [] pos'] [] pos) (tListG (tCallG (liftG K sp) [] E0 t)) := by
  subst hK
  obtain ⟨f, fd, ps, F, hm, kp, b⟩ := c.ex
  exact pe_listG (pgen_call (dvs := []) F (hr.mono (by omega)) hg hm kp b .nil ha hdb he hpl) never_passes never_stop (hr.mono hk) hgl hmg hv hnm hdb2 he2
def wListG (sp : SpGW) (t : TAW) : TEW := fun ρ S Q => t ρ S fun ws S1 => sp ws S1 fun outs S2 => ∀ p, S2 p = none → Q (.ref p) (put S2 p (.lst outs))
instance le_listG {sp : SpGW} {t : TA} {tw : TAW} [a : LA K B t tw] : LE K B (tListG (tCallG (liftG K sp) [] E0 t)) (wListG sp tw) := ⟨fun σ H ρ S Q Qw hs hh q po =>
  a.l σ H ρ S _ _ hs hh q fun xs H1 ws S1 t1 hh1 r1 q1 => ⟨ws, S1, _, by rw [List.append_nil]; exact r1, hh1, q1, fun vs H2 ws2 S2 t2 hh2 r2 q2 p hp => (po.tk (t1.trans t2)).nlst hp hh2 r2 q2⟩⟩
@[irreducible] def FgG (Q : List W → Sto → Prop) : List W → Sto → Prop := fun ws S => ∃ S', Sub S' S ∧ Q ws S'
theorem FgG_eq (Q : List W → Sto → Prop) (ws : List W) (S : Sto) : FgG Q ws S = ∃ S', Sub S' S ∧ Q ws S' := by unfold FgG; rfl
theorem fgg_here {Q : List W → Sto → Prop} {v : List W} {S : Sto} (h : Q v S) : FgG Q v S := by rw [FgG_eq]; exact ⟨S, Sub.refl S, h⟩
theorem fgg_sub {Q : List W → Sto → Prop} {v : List W} {S S' : Sto} (h : Sub S' S) (q : Q v S') : FgG Q v S := by rw [FgG_eq]; exact ⟨S', h, q⟩
theorem fgg_off {ps : List Addr} {S T : Sto} {Q : List W → Sto → Prop} {v : List W} (h : KpL ps S T) (q : ∀ S', OffL ps S S' → (∀ a ∈ ps, S' a = T a) → Q v S') : FgG Q v T := by
  refine fgg_sub (S' := fun a => if a ∈ ps then T a else S a) (fun a c e => ?_) (q _ (fun a ha => if_neg ha) (fun a ha => if_pos ha))
  have e : (if a ∈ ps then T a else S a) = some c := e
  by_cases ha : a ∈ ps
  · rw [if_pos ha] at e; exact e
  · rw [if_neg ha] at e; exact h a c ha e
/-- a generator def by its body -/
theorem calG {x : Str} {st : Stmt} {N ps : List Str} {k : Nat} {sp : SpGW} (d : DefAt K mg x st ps) (SC : GScope N ps (defScope st))
    (len : ∀ ws S Q, sp ws S Q → ws.length = ps.length)
    (hbody : ∀ (f : Addr) (cdv : Value) (A : Around) (outer : List Env) (s : Shared) (H : Hp) (E : XK) (pn : List (Addr × Obj)), Room k (A.deeper (envOfC x (defScope st) s.heap.objs.size f cdv)) →
      ∃ t tw, GSs (gcxOf P w K mg base N x (defScope st) f cdv A outer s H E pn) (defBody st) t ∧ LGn K H t tw ∧ ∀ ws S Q, sp ws S Q → tw { nx := fun ys _ S' => FgG Q ys S', rt := fun ys v S' => v = .non ∧ FgG Q ys S' } [] (startW N ws) S) :
    CalG P w K mg base (k + 1) x sp := by
  obtain ⟨f, fd, F, hm, b⟩ := d.ex
  obtain ⟨oc, od, kV, doc, pm, an, cdv, ct, osl, rfl, lk, hcd⟩ := id F.ex
  refine ⟨f, _, ps, gfn_of lk hcd SC (fun vs H Q E ⟨ws, S, cw, h1, _, h3, _⟩ => by rw [h1.length]; exact len _ _ _ h3) (fun A outer s H vs Q E pn hr hsp => ?_), hm, F.kp, b⟩
  obtain ⟨ws, S, cw, h1, h2, h3, h4⟩ := hsp
  obtain ⟨t, tw, ht, hl, hq⟩ := hbody f cdv A outer s H E pn hr
  have fin : ∀ ys ws' H' S', Tk H H' → RepL K H' ws' ys → HRep K H' S' → FgG cw ws' S' → Q ys H' := fun ys ws' H' S' t1 hy hh q => by
    rw [FgG_eq] at q
    obtain ⟨S2, sub, q⟩ := q
    exact h4 ys H' ws' S2 t1 (hh.sub sub) hy q
  refine ⟨t, ht, hl.l [] [] (start N vs) H (startW N ws) S _ _ RepL.nil (SRep.init h1) h2 (hq ws S cw h3) ⟨?_, ?_, ?_, ?_⟩⟩
  · exact fun ys ws' σ' H' ρ' S' t1 hy hs hh q => fin ys ws' H' S' t1 hy hh q
  · exact fun _ _ _ _ _ _ _ _ _ _ q => q.elim
  · exact fun _ _ _ _ _ _ _ _ _ _ q => q.elim
  · rintro ys ws' v H' w S' t1 hy hh r ⟨rfl, q⟩
    exact ⟨r, fin ys ws' H' S' t1 hy hh q⟩

end
end Wl
set_option Elab.async false
set_option linter.all false
set_option maxRecDepth 100000
set_option maxHeartbeats 2000000
/-! Dicts over data: keys that are ints or texts; dicts of the module. -/
namespace Wl
open PySem PySem.Spec PyProof.Rows L2
variable {K : PySem.W.Frag} {B : Hp}
def keyW : Key → W
  | .inl i => .int i
  | .inr x => .str x
def toKey : W → Option Key
  | .int i => some (.inl i)
  | .str x => some (.inr x)
  | _ => none
theorem toKey_rep {H : Hp} {w : W} {v : V} {k : Key} (r : Rep K H w v) (h : toKey w = some k) : v = kV k ∧ w = keyW k := by
  cases w with
  | int i => cases h; exact ⟨r, rfl⟩
  | str i => cases h; exact ⟨r, rfl⟩
  | _ => cases h
section
variable {κ : Type} [DecidableEq κ]
def valW (kvs : List (κ × W)) (k : κ) : Option W := (kvs.find? fun kv => decide (kv.1 = k)).map (·.2)
def putW (kvs : List (κ × W)) (k : κ) (v : W) : List (κ × W) :=
  if (kvs.any fun kv => decide (kv.1 = k)) = true then kvs.map (fun kv => if kv.1 = k then (kv.1, v) else kv) else kvs ++ [(k, v)]
theorem RepKV.length {H : Hp} : ∀ {ps : List (κ × W)} {ys : List (κ × V)}, RepKV K H ps ys → ys.length = ps.length
  | [], _, h => by cases (show _ = [] from h); rfl
  | p :: ps, _, h => by
    obtain ⟨v, r, rfl, _, h2⟩ := h
    rw [List.length_cons, List.length_cons, RepKV.length h2]
theorem RepKV.val {H : Hp} (k : κ) : ∀ {ps : List (κ × W)} {ys : List (κ × V)}, RepKV K H ps ys → match valW ps k, valV ys k with
    | some w, some v => Rep K H w v
    | none, none => True
    | _, _ => False
  | [], _, h => by cases (show _ = [] from h); exact True.intro
  | p :: ps, _, h => by
    obtain ⟨v, r, rfl, h1, h2⟩ := h
    by_cases e : p.1 = k
    · have a : valW (p :: ps) k = some p.2 := by simp [valW, List.find?_cons, e]
      have b : valV ((p.1, v) :: r) k = some v := valV_pos e
      rw [a, b]
      exact h1
    · have a : valW (p :: ps) k = valW ps k := by simp [valW, List.find?_cons, e]
      have b : valV ((p.1, v) :: r) k = valV r k := valV_neg e
      rw [a, b]
      exact RepKV.val k h2
theorem RepKV.of_some {H : Hp} {k : κ} {ps : List (κ × W)} {ys : List (κ × V)} {w : W} (r : RepKV K H ps ys) (h : valW ps k = some w) : ∃ v, valV ys k = some v ∧ Rep K H w v := by
  have q := r.val k
  rw [h] at q
  cases e : valV ys k with
  | none => rw [e] at q; exact q.elim
  | some v => rw [e] at q; exact ⟨v, rfl, q⟩
theorem RepKV.of_none {H : Hp} {k : κ} {ps : List (κ × W)} {ys : List (κ × V)} (r : RepKV K H ps ys) (h : valW ps k = none) : valV ys k = none := by
  have q := r.val k
  rw [h] at q
  cases e : valV ys k with
  | none => rfl
  | some v => rw [e] at q; exact q.elim
theorem RepKV.isSome {H : Hp} {k : κ} {ps : List (κ × W)} {ys : List (κ × V)} (r : RepKV K H ps ys) : (valV ys k).isSome = (valW ps k).isSome := by
  cases e : valW ps k with
  | none => rw [r.of_none e]; rfl
  | some w => obtain ⟨v, e2, _⟩ := r.of_some e; rw [e2]; rfl
theorem RepKV.any {H : Hp} {k : κ} : ∀ {ps : List (κ × W)} {ys : List (κ × V)}, RepKV K H ps ys → (ys.any fun kv => decide (kv.1 = k)) = ps.any fun kv => decide (kv.1 = k)
  | [], _, h => by cases (show _ = [] from h); rfl
  | p :: ps, _, h => by
    obtain ⟨v, r, rfl, h1, h2⟩ := h
    rw [List.any_cons, List.any_cons, RepKV.any h2]
theorem RepKV.append {H : Hp} : ∀ {ps qs : List (κ × W)} {ys zs : List (κ × V)}, RepKV K H ps ys → RepKV K H qs zs → RepKV K H (ps ++ qs) (ys ++ zs)
  | [], _, _, _, h, g => by cases (show _ = [] from h); exact g
  | p :: ps, _, _, _, h, g => by
    obtain ⟨v, r, rfl, h1, h2⟩ := h
    exact ⟨v, _, rfl, h1, RepKV.append h2 g⟩
theorem RepKV.repl {H : Hp} {k : κ} {w : W} {x : V} (q : Rep K H w x) : ∀ {ps : List (κ × W)} {ys : List (κ × V)}, RepKV K H ps ys → RepKV K H (ps.map fun kv => if kv.1 = k then (kv.1, w) else kv) (ys.map fun kv => if kv.1 = k then (kv.1, x) else kv)
  | [], _, h => by cases (show _ = [] from h); rfl
  | p :: ps, _, h => by
    obtain ⟨v, r, rfl, h1, h2⟩ := h
    by_cases e : p.1 = k
    · refine ⟨x, _, ?_, ?_, RepKV.repl q h2⟩
      · simp [e]
      · simp [e]; exact q
    · refine ⟨v, _, ?_, ?_, RepKV.repl q h2⟩
      · simp [e]
      · simp [e]; exact h1
theorem RepKV.put {H : Hp} {k : κ} {w : W} {x : V} {ps : List (κ × W)} {ys : List (κ × V)} (h : RepKV K H ps ys) (q : Rep K H w x) : RepKV K H (putW ps k w) (putK ys k x) := by
  unfold putW putK
  rw [h.any (k := k)]
  split
  · exact h.repl q
  · exact h.append ⟨x, [], rfl, q, rfl⟩
end
/-! ### dicts of the module -/
def lkW (kvs : List (Str × W)) (z : Str) : Option W := valW kvs z
structure DkAt (K : PySem.W.Frag) (w : World) (a : Addr) (kvs : List (Str × W)) : Prop where
  ex : ∃ es n, KDict K w a es n ∧ ∀ z : Str, ∃ r, PySem.W.nsIn K a z = some r ∧ match lkW kvs z, r with
    | some wd, some u => Wr K wd u
    | none, none => True
    | _, _ => False
/-- told by the written table: each key, each value -/
inductive DkEs (K : PySem.W.Frag) : List (Str × W) → List DictEntry → Prop where
  | nil : DkEs K [] []
  | cons {k : Str} {wd : W} {t : Tok} {hh : Int} {u : Value} {kvs : List (Str × W)} {es : List DictEntry} {e : DictEntry} : e.key = .str k t → e.val = u → e.refKey = false → Wr K wd u → DkEs K kvs es → DkEs K ((k, wd) :: kvs) (e :: es)
theorem DkEs.no_ref {kvs : List (Str × W)} {es : List DictEntry} (h : DkEs K kvs es) : es.any (·.refKey) = false := by
  induction h with
  | nil => rfl
  | cons h1 h2 h3 h4 h5 ih => rw [List.any_cons, h3, ih]; rfl
theorem DkEs.look {kvs : List (Str × W)} {es : List DictEntry} (h : DkEs K kvs es) (z : Str) : match lkW kvs z, (es.find? (·.key.isStr z)).map (·.val) with
    | some wd, some u => Wr K wd u
    | none, none => True
    | _, _ => False := by
  induction h with
  | nil => exact True.intro
  | @cons k wd t hh u kvs es e h1 h2 h3 h4 h5 ih =>
    have ek : e.key.isStr z = decide (k = z) := by
      rw [h1]
      show (k == z) = _
      by_cases q : k = z
      · subst q; simp
      · simp [q]
    by_cases q : k = z
    · have a : lkW ((k, wd) :: kvs) z = some wd := by simp [lkW, valW, List.find?_cons, q]
      have b : ((e :: es).find? (·.key.isStr z)).map (·.val) = some u := by
        rw [List.find?_cons, ek, decide_eq_true q]
        show some e.val = _
        rw [h2]
      rw [a, b]
      exact h4
    · have a : lkW ((k, wd) :: kvs) z = lkW kvs z := by simp [lkW, valW, List.find?_cons, q]
      have b : ((e :: es).find? (·.key.isStr z)).map (·.val) = (es.find? (·.key.isStr z)).map (·.val) := by
        rw [List.find?_cons, ek, decide_eq_false q]
      rw [a, b]
      exact ih
theorem dkAt_of {w : World} {a : Addr} {kvs : List (Str × W)} {es : Array DictEntry} {n : Nat} (hl : K.lookup a = some ⟨.type "dict", none, .dict es n, #[]⟩) (hk : PySem.W.KeysLit w.params es.toList) (low : (a == sysModules) = false) (h : DkEs K kvs es.toList) : DkAt K w a kvs := by
  refine ⟨es, n, ⟨hl, hk, low⟩, fun z => ?_⟩
  have q := h.look z
  refine ⟨(es.toList.find? (·.key.isStr z)).map (·.val), ?_, q⟩
  unfold PySem.W.nsIn
  rw [hl]
  dsimp only
  cases e : es.toList.find? (·.key.isStr z) with
  | some x => rfl
  | none => rw [h.no_ref]; rfl
theorem DkAt.of_some {w : World} {a : Addr} {kvs : List (Str × W)} (d : DkAt K w a kvs) {z : Str} {wd : W} (h : lkW kvs z = some wd) : ∃ es n u v, KDict K w a es n ∧ PySem.W.nsIn K a z = some (some u) ∧ RelV v u ∧ ∀ H, Rep K H wd v := by
  obtain ⟨es, n, kd, hz⟩ := d.ex
  obtain ⟨r, e, m⟩ := hz z
  rw [h] at m
  cases r with
  | none => exact m.elim
  | some u => obtain ⟨v, r, hv⟩ := m; exact ⟨es, n, u, v, kd, e, r, hv⟩
theorem DkAt.isSome {w : World} {a : Addr} {kvs : List (Str × W)} (d : DkAt K w a kvs) (z : Str) : ∃ es n r, KDict K w a es n ∧ PySem.W.nsIn K a z = some r ∧ r.isSome = (lkW kvs z).isSome := by
  obtain ⟨es, n, kd, hz⟩ := d.ex
  obtain ⟨r, e, m⟩ := hz z
  refine ⟨es, n, r, kd, e, ?_⟩
  cases hw : lkW kvs z <;> rw [hw] at m <;> cases r <;> first | rfl | exact m.elim
/-! ### in -/
def ngB (neg b : Bool) : Bool := if neg then !b else b
def rInB (K : PySem.W.Frag) (w : World) (neg : Bool) : R2 := fun x y H Q => rInA K neg x y H Q ∨ (∃ a o, y = .ref a ∧ DGet H a x o ∧ Q (.bl (ngB neg o.isSome)) H) ∨
  (∃ d es n z r, KDict K w d es n ∧ x = .str z ∧ y = .ref d ∧ PySem.W.nsIn K d z = some r ∧ Q (.bl (ngB neg r.isSome)) H)
theorem k_inB (K : PySem.W.Frag) (w : World) {X : Cx} (hu : X.A.units + 1 < cLine) (hK : X.K = K := by rfl) (hw : X.w = w := by rfl) : OpR X (compareOp .In) (rInB K w false) := by
  subst hK hw
  intro pins s σ H x y v u Q I rx ry h
  rcases h with h | ⟨a, o, e, g, q⟩ | ⟨d, es, n, z, r, kd, e1, e2, e3, q⟩
  · exact op_inA pins s σ H x y v u Q I rx ry h
  · subst e
    obtain rfl : u = Value.ref a := ry
    exact d_in hu I g rx fun s3 I3 => ⟨.bl o.isSome, H, I3, rfl, q⟩
  · exact op_in_kd kd pins s σ H x y v u Q I rx ry ⟨z, r, e1, e2, e3, q⟩
theorem k_notInB (K : PySem.W.Frag) (w : World) {X : Cx} (hu : X.A.units + 1 < cLine) (hK : X.K = K := by rfl) (hw : X.w = w := by rfl) : OpR X (compareOp .NotIn) (rInB K w true) := by
  subst hK hw
  intro pins s σ H x y v u Q I rx ry h
  rcases h with h | ⟨a, o, e, g, q⟩ | ⟨d, es, n, z, r, kd, e1, e2, e3, q⟩
  · exact op_notInA pins s σ H x y v u Q I rx ry h
  · subst e
    obtain rfl : u = Value.ref a := ry
    exact d_notIn hu I g rx fun s3 I3 => ⟨.bl (!o.isSome), H, I3, rfl, q⟩
  · exact op_notIn_kd kd pins s σ H x y v u Q I rx ry ⟨z, r, e1, e2, e3, q⟩
def wInB (K : PySem.W.Frag) (w : World) (neg : Bool) : RW2 := fun x y S Q => match x, y with
  | .str i, .str j => Q (.bl (ngB neg (!(Builtin.Str.occurrences j i 0 j.length 1).isEmpty))) S
  | x, .tup ws => flatW x = true ∧ ws.all flatW = true ∧ Q (.bl (ngB neg (isInW x ws))) S
  | x, .rl ws => flatW x = true ∧ ws.all flatW = true ∧ Q (.bl (ngB neg (isInW x ws))) S
  | x, .ref a => (flatW x = true ∧ ∃ ws, S a = some (.lst ws) ∧ ws.all flatW = true ∧ Q (.bl (ngB neg (isInW x ws))) S) ∨
      (∃ kvs k, S a = some (.dk kvs) ∧ toKey x = some k ∧ Q (.bl (ngB neg (valW kvs k).isSome)) S) ∨
      ∃ kvs z, DkAt K w a kvs ∧ x = .str z ∧ Q (.bl (ngB neg (lkW kvs z).isSome)) S
  | _, _ => False
instance l2_inB {w : World} {neg : Bool} : L2R K (rInB K w neg) (wInB K w neg) := ⟨fun H S x y wx wy Q Qw hh rx ry q po => by
  have old : wIn neg wx wy S Qw → rInB K w neg x y H Q := fun q => .inl (l2_in.l H S x y wx wy Q Qw hh rx ry q po)
  have ref : ∀ {a : Addr}, Rep K H (.ref a) y → ((flatW wx = true ∧ ∃ ws, S a = some (.lst ws) ∧ ws.all flatW = true ∧ Qw (.bl (ngB neg (isInW wx ws))) S) ∨
      (∃ kvs k, S a = some (.dk kvs) ∧ toKey wx = some k ∧ Qw (.bl (ngB neg (valW kvs k).isSome)) S) ∨
      ∃ kvs z, DkAt K w a kvs ∧ wx = .str z ∧ Qw (.bl (ngB neg (lkW kvs z).isSome)) S) → (wy = .ref a) → rInB K w neg x y H Q := fun {a} r q9 ey => by
    rcases q9 with q9 | ⟨kvs, k, e, ek, q9⟩ | ⟨kvs, z, d, ex, q9⟩
    · refine old ?_
      obtain ⟨f, ws, e, g, q9⟩ := q9
      have q8 : wInK wx (.ref a) S fun b => Qw (.bl (if neg then !b else b)) S := by
        cases wx <;> exact ⟨f, ws, e, g, q9⟩
      rw [ey]
      exact q8
    · obtain ⟨ys, h1, h2⟩ := hh _ _ e
      obtain ⟨ev, _⟩ := toKey_rep rx ek
      refine .inr (.inl ⟨a, valV ys k, r, by rw [ev]; exact DGet.k h1, ?_⟩)
      rw [h2.isSome]
      exact po.bl (Tk.refl H) hh q9
    · obtain ⟨es, n, rr, kd, e, ei⟩ := d.isSome z
      rw [ex] at rx
      refine .inr (.inr ⟨a, es, n, z, rr, kd, rx, r, e, ?_⟩)
      rw [ei]
      exact po.bl (Tk.refl H) hh q9
  cases wy with
  | ref a =>
    cases wx <;> exact ref ry q rfl
  | tup ws => cases wx <;> exact old q
  | rl ws => cases wx <;> exact old q
  | str z => cases wx <;> first | exact old q | exact q.elim
  | _ => cases wx <;> exact q.elim⟩
/-! ### d[k] -/
def rIxB (K : PySem.W.Frag) (w : World) : R2 := fun x y H Q => rIx K x y H Q ∨ (∃ a v, x = .ref a ∧ DGet H a y (some v) ∧ Q v H) ∨ rIxD K w x y H Q
theorem ix_dget {X : Cx} (hu : X.A.units + 1 < cLine) : IxR X (fun x y H Q => ∃ a v, x = .ref a ∧ DGet H a y (some v) ∧ Q v H) := by
  intro value slice pins s σ H x y v u Q I rx ry h hs
  obtain ⟨a, z, rfl, g, q⟩ := h
  obtain rfl : v = Value.ref a := rx
  exact tail_any (dict_typeIs I g) PySem.F.slot_dict_getitem.lookup (d_getItem hu I g ry fun w' s3 I3 rw' => ⟨z, H, I3, rw', q⟩) hs
theorem k_ixB (K : PySem.W.Frag) (w : World) {X : Cx} (hu : X.A.units + 1 < cLine) (hK : X.K = K := by rfl) (hw : X.w = w := by rfl) : IxR X (rIxB K w) := by
  subst hK hw
  exact ix_seq.or ((ix_dget hu).or ix_kdict)
def wIxB (K : PySem.W.Frag) (w : World) : RW2 := fun x y S Q => match x, y with
  | .tup ws, .int i => rdAt (atI ws i) S Q
  | .rl ws, .int i => rdAt (atI ws i) S Q
  | .ref a, .int i => (∃ ws, S a = some (.lst ws) ∧ rdAt (atI ws i) S Q) ∨ ∃ kvs, S a = some (.dk kvs) ∧ rdAt (valW kvs (.inl i)) S Q
  | .ref a, .str z => (∃ kvs, S a = some (.dk kvs) ∧ rdAt (valW kvs (.inr z)) S Q) ∨ ∃ kvs, DkAt K w a kvs ∧ rdAt (lkW kvs z) S Q
  | .str z, .int i => z.length ≤ sizeLine ∧ ∃ c, atI z.cps.toList i = some c ∧ Q (.str ⟨#[c]⟩) S
  | _, _ => False
instance l2_ixB {w : World} : L2R K (rIxB K w) (wIxB K w) := ⟨fun H S x y wx wy Q Qw hh rx ry q po => by
  have old : wIx wx wy S Qw → rIxB K w x y H Q := fun q => .inl (l2_ix.l H S x y wx wy Q Qw hh rx ry q po)
  have dk : ∀ {a : Addr} {k : Key} {kvs : List (Key × W)}, x = .ref a → y = kV k → S a = some (.dk kvs) → rdAt (valW kvs k) S Qw → rIxB K w x y H Q := fun {a k kvs} ex ey e q => by
    obtain ⟨wd, e2, q⟩ := rdAt_of q
    obtain ⟨ys, h1, h2⟩ := hh _ _ e
    obtain ⟨v, e3, r⟩ := h2.of_some e2
    exact .inr (.inl ⟨a, v, ex, by rw [ey, ← e3]; exact DGet.k h1, po v H wd S (Tk.refl H) hh r q⟩)
  cases wx with
  | tup ws => cases wy <;> first | exact old q | exact q.elim
  | rl ws => cases wy <;> first | exact old q | exact q.elim
  | str z => cases wy <;> first | exact old q | exact q.elim
  | ref a =>
    cases wy with
    | int i =>
      rcases q with ⟨ws, e, q⟩ | ⟨kvs, e, q⟩
      · exact old ⟨ws, e, q⟩
      · exact dk (k := .inl i) rx ry e q
    | str z =>
      rcases q with ⟨kvs, e, q⟩ | ⟨kvs, d, q⟩
      · exact dk (k := .inr z) rx ry e q
      · obtain ⟨wd, e2, q⟩ := rdAt_of q
        obtain ⟨es, n, u, v, kd, e3, r, hv⟩ := d.of_some e2
        exact .inr (.inr ⟨a, z, v, rx, ry, ⟨es, n, u, kd.at_, kd.lit, e3, r⟩, po v H wd S (Tk.refl H) hh (hv H) q⟩)
    | _ => exact q.elim
  | _ => cases wy <;> exact q.elim⟩
/-! ### d[k] = v -/
def rSetB : V → V → V → Hp → (Hp → Prop) → Prop := fun o i v H Q => rSetL o i v H Q ∨ ∃ a H', o = .ref a ∧ DPut H a i v H' ∧ Q H'
theorem set_B {X : Cx} (hu : X.A.units + 1 < cLine) : PSet X rSetB := by
  intro pins s σ H o i v ov iv u Q I ro ri rv h
  rcases h with h | ⟨a, H', e, g, q⟩
  · exact set_list pins s σ H o i v ov iv u Q I ro ri rv h
  · subst e
    obtain rfl : ov = Value.ref a := ro
    exact d_setItem hu I g ri rv fun s4 I4 => ⟨H', I4, q⟩
def wGSubB (to ti : TEW) : TGW := fun w ρ S Q => to ρ S fun o S1 => ti ρ S1 fun i S2 => match o, i with
  | .ref p, .int k => (∃ ws j, S2 p = some (.lst ws) ∧ ixN ws.length k = some j ∧ Q ρ (put S2 p (.lst (ws.set j w)))) ∨ ∃ kvs, S2 p = some (.dk kvs) ∧ kvs.length < sizeLine ∧ Q ρ (put S2 p (.dk (putW kvs (.inl k) w)))
  | .ref p, .str z => ∃ kvs, S2 p = some (.dk kvs) ∧ kvs.length < sizeLine ∧ Q ρ (put S2 p (.dk (putW kvs (.inr z) w)))
  | _, _ => False
instance lg_subB {to ti : TE} {wo wi : TEW} [a : LE K B to wo] [b : LE K B ti wi] : LG K B (gSub to ti rSetB) (wGSubB wo wi) := ⟨fun v w σ H ρ S Q Qw r hs hh q po =>
  a.l σ H ρ S _ _ hs hh q fun o H1 wo S1 t1 hh1 r1 q1 => b.l σ H1 ρ S1 _ _ (hs.tk t1) hh1 q1 fun i H2 wi S2 t2 hh2 r2 q2 => by
    have ro := Rep.tk t2 _ _ r1
    have rv := Rep.tk (t1.trans t2) _ _ r
    have lst : ∀ {p : Addr} {k : Int} {ws : List W} {j : Nat}, o = .ref p → i = .int k → S2 p = some (.lst ws) → ixN ws.length k = some j → Qw ρ (put S2 p (.lst (ws.set j w))) → rSetB o i v H2 fun H3 => Q σ H3 := fun {p k ws j} eo ei e hj q => by
      obtain ⟨xs, h1, h2⟩ := hh2 _ _ e
      have t : Tk H2 (upd H2 p (.lst (xs.set j v))) := Tk.mut h1 (fun _ z => (by cases z)) (fun _ _ z => (by cases z))
      obtain ⟨t, hm⟩ := hh2.mut (c' := .lst (ws.set j w)) (o := .lst (xs.set j v)) e ⟨_, upd_same, RepL.set (Rep.tk t _ _ rv) j (RepL.tk t _ _ h2)⟩
      exact .inl ⟨_, xs, _, j, eo, ei, h1, by rw [h2.length]; exact hj, po _ _ _ _ ((t1.trans t2).trans t) (hs.tk ((t1.trans t2).trans t)) hm q⟩
    have dk : ∀ {p : Addr} {k : Key} {kvs : List (Key × W)}, o = .ref p → i = kV k → S2 p = some (.dk kvs) → kvs.length < sizeLine → Qw ρ (put S2 p (.dk (putW kvs k w))) → rSetB o i v H2 fun H3 => Q σ H3 := fun {p k kvs} eo ei e hl q => by
      obtain ⟨ys, h1, h2⟩ := hh2 _ _ e
      have t : Tk H2 (upd H2 p (.dK (putK ys k v))) := Tk.mut h1 (fun _ z => (by cases z)) (fun _ _ z => (by cases z))
      obtain ⟨t, hm⟩ := hh2.mut (c' := .dk (putW kvs k w)) (o := .dK (putK ys k v)) e ⟨_, upd_same, RepKV.put (RepKV.tk t _ _ h2) (Rep.tk t _ _ rv)⟩
      exact .inr ⟨p, _, eo, by rw [ei]; exact DPut.k h1 (by rw [h2.length]; exact hl), po _ _ _ _ ((t1.trans t2).trans t) (hs.tk ((t1.trans t2).trans t)) hm q⟩
    cases wo <;> cases wi <;> try exact q2.elim
    · rcases q2 with ⟨ws, j, e, hj, q⟩ | ⟨kvs, e, hl, q⟩
      · exact lst ro r2 e hj q
      · exact dk (k := .inl _) ro r2 e hl q
    · obtain ⟨kvs, e, hl, q⟩ := q2
      exact dk (k := .inr _) ro r2 e hl q⟩
/-! ### displays -/
def wDNew : TEW := fun _ S Q => ∀ p, S p = none → Q (.ref p) (put S p (.dk []))
instance le_dnew : LE K B tDNewK wDNew := ⟨fun σ H ρ S Q Qw hs hh q po p hp => po.ref (Tk.new hp) (hh.new (c := .dk []) hp ⟨[], upd_same, rfl⟩) (q p (hh.fresh hp))⟩
abbrev TPW := StW → Sto → (List (W × W) → Sto → Prop) → Prop
class LPs (K : PySem.W.Frag) (B : Hp) (t : List (TE × TE)) (tw : outParam TPW) : Prop where
  l : ∀ σ H ρ S Q Qw, SRep K B H σ ρ → HRep K H S → tw ρ S Qw → (∀ ps H' qs S', Tk H H' → HRep K H' S' → RepL K H' (qs.map (·.1)) (ps.map (·.1)) → RepL K H' (qs.map (·.2)) (ps.map (·.2)) → Qw qs S' → Q ps H') → tPairs t σ H Q
def wPs0 : TPW := fun _ S Q => Q [] S
def wPsC (tk tv : TEW) (r : TPW) : TPW := fun ρ S Q => tk ρ S fun x S1 => tv ρ S1 fun y S2 => r ρ S2 fun ps S3 => Q ((x, y) :: ps) S3
instance lps_nil : LPs K B [] wPs0 := ⟨fun σ H ρ S Q Qw hs hh q po => po [] H [] S (Tk.refl H) hh (show RepL K H [] [] from rfl) (show RepL K H [] [] from rfl) q⟩
instance lps_cons {tk tv : TE} {r : List (TE × TE)} {wk wv : TEW} {wr : TPW} [a : LE K B tk wk] [b : LE K B tv wv] [c : LPs K B r wr] : LPs K B ((tk, tv) :: r) (wPsC wk wv wr) := ⟨fun σ H ρ S Q Qw hs hh q po =>
  a.l σ H ρ S _ _ hs hh q fun x H1 wx S1 t1 hh1 r1 q1 => b.l σ H1 ρ S1 _ _ (hs.tk t1) hh1 q1 fun y H2 wy S2 t2 hh2 r2 q2 => c.l σ H2 ρ S2 _ _ (hs.tk (t1.trans t2)) hh2 q2 fun ps H3 qs S3 t3 hh3 r3 r4 q3 =>
    po ((x, y) :: ps) H3 ((wx, wy) :: qs) S3 ((t1.trans t2).trans t3) hh3 (RepL.cons (Rep.tk (t2.trans t3) _ _ r1) r3) (RepL.cons (Rep.tk t3 _ _ r2) r4) q3⟩
def keysW : List (W × W) → Option (List (Key × W))
  | [] => some []
  | (k, v) :: ps => match toKey k, keysW ps with
    | some k, some r => some ((k, v) :: r)
    | _, _ => none
def mergeW (kvs more : List (Key × W)) : List (Key × W) := more.foldl (fun acc kv => putW acc kv.1 kv.2) kvs
theorem RepKV.merge {H : Hp} : ∀ {ps : List (Key × W)} {ys : List (Key × V)} {qs : List (Key × W)} {zs : List (Key × V)}, RepKV K H qs zs → RepKV K H ps ys → RepKV K H (mergeW ps qs) (mergeK ys zs)
  | _, _, [], _, h, g => by cases (show _ = [] from h); exact g
  | ps, ys, p :: qs, _, h, g => by
    obtain ⟨v, r, rfl, h1, h2⟩ := h
    exact RepKV.merge (ps := putW ps p.1 p.2) (ys := putK ys p.1 v) h2 (g.put h1)
theorem keysW_rep {H : Hp} : ∀ {qs : List (W × W)} {ps : List (V × V)} {kvs : List (Key × W)}, RepL K H (qs.map (·.1)) (ps.map (·.1)) → RepL K H (qs.map (·.2)) (ps.map (·.2)) → keysW qs = some kvs →
    ∃ ys : List (Key × V), ps = ys.map (fun kv => (kV kv.1, kv.2)) ∧ RepKV K H kvs ys
  | [], ps, kvs, r1, r2, e => by
    cases e
    have : ps.map (·.1) = [] := r1
    cases ps with
    | nil => exact ⟨[], rfl, rfl⟩
    | cons p ps => cases this
  | (k, v) :: qs, ps, kvs, r1, r2, e => by
    cases ps with
    | nil => obtain ⟨x, r, e, _⟩ := r1; cases e
    | cons p ps =>
      obtain ⟨x, r, e1, h1, h2⟩ := r1
      obtain ⟨y, r', e2, h3, h4⟩ := r2
      cases e1
      cases e2
      unfold keysW at e
      split at e
      · rename_i k' r' ek er
        cases e
        obtain ⟨ys, rfl, h5⟩ := keysW_rep h2 h4 er
        obtain ⟨ev, _⟩ := toKey_rep h1 ek
        refine ⟨(k', p.2) :: ys, ?_, p.2, ys, rfl, h3, h5⟩
        rw [List.map_cons]
        show p :: _ = (kV k', p.2) :: _
        rw [← ev]
      · cases e
def wDisp (t : TPW) : TEW := fun ρ S Q => ∀ p, S p = none → t ρ (put S p (.dk [])) fun ps S2 => S2 p = some (.dk []) ∧ ∃ kvs, keysW ps = some kvs ∧ kvs.length ≤ 15 ∧ Q (.ref p) (put S2 p (.dk (mergeW [] kvs)))
theorem RepKV.len' {H : Hp} {ps : List (Key × W)} {ys : List (Key × V)} (h : RepKV K H ps ys) : ys.length = ps.length := h.length
instance le_disp {t : List (TE × TE)} {tw : TPW} [a : LPs K B t tw] : LE K B (tDisp t) (wDisp tw) := ⟨fun σ H ρ S Q Qw hs hh q po p hp => by
  have t0 : Tk H (upd H p (.dK [])) := Tk.new hp
  have hh0 : HRep K (upd H p (.dK [])) (put S p (.dk [])) := hh.new hp ⟨[], upd_same, rfl⟩
  refine a.l σ _ ρ _ _ _ (hs.tk t0) hh0 (q p (hh.fresh hp)) fun ps H2 qs S2 t2 hh2 r1 r2 q2 => ?_
  obtain ⟨e, kvs, ek, hl, q3⟩ := q2
  obtain ⟨ys, h1, h2⟩ := hh2 _ _ e
  cases (show ys = [] from h2)
  obtain ⟨zs, rfl, h3⟩ := keysW_rep r1 r2 ek
  have t : Tk H2 (upd H2 p (.dK (mergeK [] zs))) := Tk.mut h1 (fun _ z => (by cases z)) (fun _ _ z => (by cases z))
  obtain ⟨t, hm⟩ := hh2.mut (c' := .dk (mergeW [] kvs)) (o := .dK (mergeK [] zs)) e ⟨_, upd_same, RepKV.merge (RepKV.tk t _ _ h3) (show RepKV K _ [] [] from rfl)⟩
  exact ⟨h1, zs, rfl, by rw [h3.len']; exact hl, po.ref ((t0.trans t2).trans t) hm q3⟩⟩
/-! ### d.get -/
def wGet1 (td ty : TEW) : TEW := fun ρ S Q => td ρ S fun x S1 => match x with
  | .ref a => (∃ kvs, S1 a = some (.dk kvs)) ∧ ty ρ S1 fun y S2 => ∃ kvs k, S2 a = some (.dk kvs) ∧ toKey y = some k ∧ Q ((valW kvs k).getD .non) S2
  | _ => False
def wGet2 (td ty tx : TEW) : TEW := fun ρ S Q => td ρ S fun x S1 => match x with
  | .ref a => (∃ kvs, S1 a = some (.dk kvs)) ∧ ty ρ S1 fun y S2 => tx ρ S2 fun z S3 => ∃ kvs k, S3 a = some (.dk kvs) ∧ toKey y = some k ∧ Q ((valW kvs k).getD z) S3
  | _ => False
theorem getD_rep {H : Hp} {k : Key} {ps : List (Key × W)} {ys : List (Key × V)} {w : W} {v : V} (r : RepKV K H ps ys) (q : Rep K H w v) : Rep K H ((valW ps k).getD w) ((valV ys k).getD v) := by
  cases e : valW ps k with
  | none => rw [r.of_none e]; exact q
  | some w => obtain ⟨v, e2, r⟩ := r.of_some e; rw [e2]; exact r
instance le_get1 {td ty : TE} {wd wy : TEW} [a : LE K B td wd] [b : LE K B ty wy] : LE K B (tDGet1 td ty) (wGet1 wd wy) := ⟨fun σ H ρ S Q Qw hs hh q po =>
  a.l σ H ρ S _ _ hs hh q fun x H1 wx S1 t1 hh1 r1 q1 => by
    cases wx <;> try exact q1.elim
    rename_i a
    obtain ⟨⟨kvs, e⟩, q1⟩ := q1
    obtain ⟨ys, h1, h2⟩ := hh1 _ _ e
    refine ⟨a, r1, .inl ⟨ys, .inl h1⟩, b.l σ H1 ρ S1 _ _ (hs.tk t1) hh1 q1 fun y H2 wy S2 t2 hh2 r2 q2 => ?_⟩
    obtain ⟨kvs, k, e, ek, q⟩ := q2
    obtain ⟨ys, h1, h2⟩ := hh2 _ _ e
    obtain ⟨ev, _⟩ := toKey_rep r2 ek
    exact ⟨valV ys k, by rw [ev]; exact DGet.k h1, po _ H2 _ S2 (t1.trans t2) hh2 (getD_rep h2 (show Rep K H2 .non .non from rfl)) q⟩⟩
instance le_get2 {td ty tx : TE} {wd wy wx : TEW} [a : LE K B td wd] [b : LE K B ty wy] [c : LE K B tx wx] : LE K B (tDGet2 td ty tx) (wGet2 wd wy wx) := ⟨fun σ H ρ S Q Qw hs hh q po =>
  a.l σ H ρ S _ _ hs hh q fun x H1 wx S1 t1 hh1 r1 q1 => by
    cases wx <;> try exact q1.elim
    rename_i a
    obtain ⟨⟨kvs, e⟩, q1⟩ := q1
    obtain ⟨ys, h1, h2⟩ := hh1 _ _ e
    refine ⟨a, r1, .inl ⟨ys, .inl h1⟩, b.l σ H1 ρ S1 _ _ (hs.tk t1) hh1 q1 fun y H2 wy S2 t2 hh2 r2 q2 => c.l σ H2 ρ S2 _ _ (hs.tk (t1.trans t2)) hh2 q2 fun z H3 wz S3 t3 hh3 r3 q3 => ?_⟩
    obtain ⟨kvs, k, e, ek, q⟩ := q3
    obtain ⟨ys, h1, h2⟩ := hh3 _ _ e
    obtain ⟨ev, _⟩ := toKey_rep (Rep.tk t3 _ _ r2) ek
    exact ⟨valV ys k, by rw [ev]; exact DGet.k h1, po _ H3 _ S3 ((t1.trans t2).trans t3) hh3 (getD_rep h2 r3) q⟩⟩
/-! ### list(range(..)), tuple(range(..)) -/
abbrev TRgW := StW → Sto → (Int → Int → Sto → Prop) → Prop
class LRg (K : PySem.W.Frag) (B : Hp) (t : L2.St → Hp → (Int → Int → Hp → Prop) → Prop) (tw : outParam TRgW) : Prop where
  l : ∀ σ H ρ S Q Qw, SRep K B H σ ρ → HRep K H S → tw ρ S Qw → (∀ a b H' S', Tk H H' → HRep K H' S' → Qw a b S' → Q a b H') → t σ H Q
def wRg1 (ta : TEW) : TRgW := fun ρ S Q => ta ρ S fun x S1 => match x with
  | .int n => Q 0 n S1
  | _ => False
def wRg2 (ta tb : TEW) : TRgW := fun ρ S Q => ta ρ S fun x S1 => tb ρ S1 fun y S2 => match x, y with
  | .int n, .int m => Q n m S2
  | _, _ => False
instance lrg_1 {t : TE} {tw : TEW} [a : LE K B t tw] : LRg K B (tRg1 t) (wRg1 tw) := ⟨fun σ H ρ S Q Qw hs hh q po => a.l σ H ρ S _ _ hs hh q fun x H1 wx S1 t1 hh1 r1 q1 => by
  cases wx <;> try exact q1.elim
  cases (show x = _ from r1)
  exact ⟨_, rfl, po _ _ H1 S1 t1 hh1 q1⟩⟩
instance lrg_2 {t u : TE} {tw uw : TEW} [a : LE K B t tw] [b : LE K B u uw] : LRg K B (tRg2 t u) (wRg2 tw uw) := ⟨fun σ H ρ S Q Qw hs hh q po => a.l σ H ρ S _ _ hs hh q fun x H1 wx S1 t1 hh1 r1 q1 =>
  b.l σ H1 ρ S1 _ _ (hs.tk t1) hh1 q1 fun y H2 wy S2 t2 hh2 r2 q2 => by
    cases wx <;> cases wy <;> try exact q2.elim
    cases (show x = _ from r1)
    cases (show y = _ from r2)
    exact ⟨_, _, rfl, rfl, po _ _ H2 S2 (t1.trans t2) hh2 q2⟩⟩
theorem rgV_rep {H : Hp} (a b : Int) : RepL K H (intsW a (b - a).toNat) (rgV a b) := by
  have e1 : intsW a (b - a).toNat = ((List.range (b - a).toNat).map fun i => a + ((i : Nat) : Int)).map W.int := by unfold intsW; rw [List.map_map]; rfl
  have e2 : rgV a b = ((List.range (b - a).toNat).map fun i => a + ((i : Nat) : Int)).map V.int := by unfold rgV; rw [List.map_map]; rfl
  rw [e1, e2]
  exact RepL.ofInts
def wLstRg (t : TRgW) : TEW := fun ρ S Q => t ρ S fun a b S1 => RgOk a b ∧ ∀ p, S1 p = none → Q (.ref p) (put S1 p (.lst (intsW a (b - a).toNat)))
def wTupRg (t : TRgW) : TEW := fun ρ S Q => t ρ S fun a b S1 => RgOk a b ∧ Q (.tup (intsW a (b - a).toNat)) S1
instance le_lstRg {t : L2.St → Hp → (Int → Int → Hp → Prop) → Prop} {tw : TRgW} [a : LRg K B t tw] : LE K B (tLstRg t) (wLstRg tw) := ⟨fun σ H ρ S Q Qw hs hh q po =>
  a.l σ H ρ S _ _ hs hh q fun x y H1 S1 t1 hh1 q1 => ⟨q1.1, fun p hp => (po.tk t1).nlst hp hh1 (rgV_rep x y) q1.2⟩⟩
instance le_tupRg {t : L2.St → Hp → (Int → Int → Hp → Prop) → Prop} {tw : TRgW} [a : LRg K B t tw] : LE K B (tTupRg t) (wTupRg tw) := ⟨fun σ H ρ S Q Qw hs hh q po =>
  a.l σ H ρ S _ _ hs hh q fun x y H1 S1 t1 hh1 q1 => ⟨q1.1, fun p hp => (po.tk t1).ntup hp hh1 (rgV_rep x y) q1.2⟩⟩
end Wl
set_option Elab.async false
set_option linter.all false
set_option maxRecDepth 100000
set_option maxHeartbeats 2000000
/-! Methods of texts; reversed; comprehensions with a tuple target. -/
namespace Wl
open PySem PySem.Spec PyProof.Rows L2
variable {K : PySem.W.Frag} {B : Hp}
def wS0 (C : Str → Prop) (f : Str → W) : W → List W → Sto → WK → Prop := fun x ws S Q => match x, ws with
  | .str a, [] => C a ∧ Q (f a) S
  | _, _ => False
def wS1 (C : Str → Str → Prop) (f : Str → Str → W) : W → List W → Sto → WK → Prop := fun x ws S Q => match x, ws with
  | .str a, [.str b] => C a b ∧ Q (f a b) S
  | _, _ => False
instance lm_s0s {C : Str → Prop} {f : Str → Str} : LMR K (fun x xs H Q => ∃ a, x = .str a ∧ xs = [] ∧ C a ∧ Q (.str (f a)) H) (wS0 C fun a => .str (f a)) := ⟨fun H S x wx xs ws Q Qw hh rx r q po => by
  unfold wS0 at q
  split at q
  · cases (show x = _ from rx)
    cases (show xs = [] from r)
    exact ⟨_, rfl, rfl, q.1, po.str (Tk.refl H) hh q.2⟩
  · exact q.elim⟩
instance lm_s0b {C : Str → Prop} {f : Str → Bool} : LMR K (fun x xs H Q => ∃ a, x = .str a ∧ xs = [] ∧ C a ∧ Q (.bl (f a)) H) (wS0 C fun a => .bl (f a)) := ⟨fun H S x wx xs ws Q Qw hh rx r q po => by
  unfold wS0 at q
  split at q
  · cases (show x = _ from rx)
    cases (show xs = [] from r)
    exact ⟨_, rfl, rfl, q.1, po.bl (Tk.refl H) hh q.2⟩
  · exact q.elim⟩
def wS1p (f : Str → Str → W) : W → List W → Sto → WK → Prop := fun x ws S Q => match x, ws with
  | .str a, [.str b] => Q (f a b) S
  | _, _ => False
instance lm_s1b {f : Str → Str → Bool} : LMR K (fun x xs H Q => ∃ a b, x = .str a ∧ xs = [.str b] ∧ Q (.bl (f a b)) H) (wS1p fun a b => .bl (f a b)) := ⟨fun H S x wx xs ws Q Qw hh rx r q po => by
  unfold wS1p at q
  split at q
  · cases (show x = _ from rx)
    obtain ⟨y, rfl, ry⟩ := rep1 r
    cases (show y = _ from ry)
    exact ⟨_, _, rfl, rfl, po.bl (Tk.refl H) hh q⟩
  · exact q.elim⟩
instance lm_s1i {f : Str → Str → Int} : LMR K (fun x xs H Q => ∃ a b, x = .str a ∧ xs = [.str b] ∧ Q (.int (f a b)) H) (wS1p fun a b => .int (f a b)) := ⟨fun H S x wx xs ws Q Qw hh rx r q po => by
  unfold wS1p at q
  split at q
  · cases (show x = _ from rx)
    obtain ⟨y, rfl, ry⟩ := rep1 r
    cases (show y = _ from ry)
    exact ⟨_, _, rfl, rfl, po.int (Tk.refl H) hh q⟩
  · exact q.elim⟩
instance lm_s1s {C : Str → Str → Prop} {f : Str → Str → Str} : LMR K (fun x xs H Q => ∃ a b, x = .str a ∧ xs = [.str b] ∧ C a b ∧ Q (.str (f a b)) H) (wS1 C fun a b => .str (f a b)) := ⟨fun H S x wx xs ws Q Qw hh rx r q po => by
  unfold wS1 at q
  split at q
  · cases (show x = _ from rx)
    obtain ⟨y, rfl, ry⟩ := rep1 r
    cases (show y = _ from ry)
    exact ⟨_, _, rfl, rfl, q.1, po.str (Tk.refl H) hh q.2⟩
  · exact q.elim⟩
/-- s.split(t) -/
def wSplit : W → List W → Sto → WK → Prop := fun x ws S Q => match x, ws with
  | .str a, [.str b] => (b.length == 0) = false ∧ a.length + 2 ≤ sizeLine ∧ ∀ p, S p = none → Q (.ref p) (put S p (.lst ((Txt.split a b).map W.str)))
  | _, _ => False
def rSplit1 : V → List V → Hp → VK → Prop := fun x xs H Q => ∃ a b, x = .str a ∧ xs = [.str b] ∧ (b.length == 0) = false ∧ a.length + 2 ≤ sizeLine ∧ ∀ p, H p = none → Q (.ref p) (upd H p (.lst ((Txt.split a b).map V.str)))
theorem mt_split1 {X : Cx} : MtR X "str.split" rSplit1 := fun pins s σ H x xs v us Q I rx rs ⟨a, b, h1, h2, h3, h4, h5⟩ => mt_split pins s σ H x xs v us Q I rx rs ⟨a, b, h1, h2, h3, h4, h5⟩
instance lm_split : LMR K rSplit1 wSplit := ⟨fun H S x wx xs ws Q Qw hh rx r q po => by
  unfold wSplit at q
  split at q
  · cases (show x = _ from rx)
    obtain ⟨y, rfl, ry⟩ := rep1 r
    cases (show y = _ from ry)
    exact ⟨_, _, rfl, rfl, q.1, q.2.1, fun p hp => po.nlst hp hh RepL.ofStrs q.2.2⟩
  · exact q.elim⟩
/-- s.partition(t) -/
def partW (a b : Str) : W := .tup [.str (Txt.partition a b).1, .str (Txt.partition a b).2.1, .str (Txt.partition a b).2.2]
def wPartition : W → List W → Sto → WK → Prop := fun x ws S Q => match x, ws with
  | .str a, [.str b] => (b.length == 0) = false ∧ a.length ≤ sizeLine ∧ Q (partW a b) S
  | _, _ => False
def rPart1 : V → List V → Hp → VK → Prop := fun x xs H Q => ∃ a b, x = .str a ∧ xs = [.str b] ∧ (b.length == 0) = false ∧ a.length ≤ sizeLine ∧ ∀ p, H p = none → Q (.ref p) (upd H p (.tup [.str (Txt.partition a b).1, .str (Txt.partition a b).2.1, .str (Txt.partition a b).2.2]))
theorem mt_part1 {X : Cx} : MtR X "str.partition" rPart1 := fun pins s σ H x xs v us Q I rx rs ⟨a, b, h1, h2, h3, h4, h5⟩ => mt_partition pins s σ H x xs v us Q I rx rs ⟨a, b, h1, h2, h3, h4, h5⟩
instance lm_part : LMR K rPart1 wPartition := ⟨fun H S x wx xs ws Q Qw hh rx r q po => by
  unfold wPartition at q
  split at q
  · cases (show x = _ from rx)
    obtain ⟨y, rfl, ry⟩ := rep1 r
    cases (show y = _ from ry)
    exact ⟨_, _, rfl, rfl, q.1, q.2.1, fun p hp => po.ntup (ws := [.str _, .str _, .str _]) hp hh (.cons rfl (.cons rfl (.one rfl))) q.2.2⟩
  · exact q.elim⟩
/-! ### reversed -/
theorem k_rev (K : PySem.W.Frag) {X : Cx} {tg e : Expr} {ta : TA} {p pos : Pos} (hg : Gl X "reversed") (hm : X.mg "reversed" = none) (ha : PA X [e] ta) (hs : starEach [e] X.env = [(false, eval e X.env)] := by rfl) (hK : X.K = K := by rfl) : PI X tg (.Call (.Name "reversed" p) [e] [] pos) (iRev K ta) := by
  subst hK; exact pi_reversed hg hm ha hs
def keepR (a : Addr) (ws : List W) : Sto → Prop := fun S => S a = some (.lst ws)
theorem src_rev {H1 : Hp} {a : Addr} {n : Nat} {ws : List W} (hn : n = ws.length) : IsSrc K H1 (Itv K a n) ws.reverse (keepR a ws) where
  go := fun i H S t hh ok hi => by
    obtain ⟨xs, h1, h2⟩ := hh _ _ ok
    rw [List.length_reverse] at hi
    refine ⟨by omega, xs, xs[n - 1 - i]'(by rw [h2.length]; omega), SqL.of h1, ?_⟩
    exact List.getElem?_eq_getElem (by rw [h2.length]; omega)
  yld := fun i H S x H' t hh ok hi y => by
    obtain ⟨e, y⟩ := y
    subst e
    obtain ⟨xs, h1, h2⟩ := hh _ _ ok
    rw [List.length_reverse] at hi
    obtain ⟨w, e, r⟩ := h2.get' (y xs (SqL.of h1))
    refine ⟨Tk.refl _, hh, w, ?_, r⟩
    rw [List.getElem?_reverse hi, ← hn]
    exact e
  stop := fun i H S t hh ok hi => by rw [List.length_reverse] at hi; show n ≤ i; omega
def wiRev (ta : TAW) : TIW := fun ρ S R => ta ρ S fun ws S1 => match ws with
  | [.ref a] => ∃ ws, S1 a = some (.lst ws) ∧ R ws.reverse (keepR a ws) S1
  | _ => False
instance li_rev {t : TA} {tw : TAW} [a : LA K B t tw] : LI K B (iRev K t) (wiRev tw) := ⟨fun σ H ρ S R Rw hs hh q po => a.l σ H ρ S _ _ hs hh q fun xs H1 ws S1 t1 hh1 r1 q1 => by
  split at q1
  · obtain ⟨x, rfl, h1⟩ := rep1 r1
    cases (show x = _ from h1)
    obtain ⟨ws, e, q⟩ := q1
    obtain ⟨ys, h2, h3⟩ := hh1 _ _ e
    exact ⟨_, ys, rfl, SqL.of h2, po _ H1 S1 _ _ t1 hh1 (src_rev h3.length) q⟩
  · exact q1.elim⟩
/-! ### comprehensions: any target that only stores -/
section
variable {g : TGW} {tt : TTW} {te : TEW} {vs : List Nat} {ρ : StW} {Q : WK} {ws : List W} {ok : Sto → Prop} {S1 : Sto}
theorem lc_filG (r : W → StW) (p : W → Bool) (f : W → W) (hl : ws.length ≤ 100000) (hok : ∀ (D : Addr) (acc : List W), S1 D = none → ok (put S1 D (.lst acc)))
    (hg : ∀ (i : Nat) (w : W) (S : Sto) (R : StW → Sto → Prop), ws[i]? = some w → R (r w) S → g w (wipeW ρ vs) S R)
    (ht : ∀ (i : Nat) (w : W) (D : Addr) (acc : List W), ws[i]? = some w → S1 D = none → EvW tt (r w) (put S1 D (.lst acc)) (p w))
    (he : ∀ (i : Nat) (w : W) (D : Addr) (acc : List W), ws[i]? = some w → p w = true → S1 D = none → ∀ Q' : WK, Q' (f w) (put S1 D (.lst acc)) → te (r w) (put S1 D (.lst acc)) Q')
    (hd : ∀ (D : Addr), S1 D = none → Q (.ref D) (put S1 D (.lst ((ws.filter p).map f)))) : LcQ g tt te vs ρ Q ws ok S1 := by
  refine lc_q fun D hD => ⟨fun i acc S' => i ≤ ws.length ∧ acc = ((ws.take i).filter p).map f ∧ S' = put S1 D (.lst acc), ⟨Nat.zero_le _, rfl, rfl⟩, ?_, ?_, ?_⟩
  · rintro i acc S' ⟨_, _, rfl⟩
    exact hok D acc hD
  · rintro i w acc S' e ⟨_, ha, rfl⟩
    have hi : i < ws.length := (List.getElem?_eq_some_iff.mp e).1
    have tk : ws.take (i + 1) = ws.take i ++ [w] := by rw [List.take_add_one, e]; rfl
    refine hg i w _ _ e ?_
    refine ht i w D acc e hD _ ⟨fun hb => he i w D acc e hb hD _ ⟨put_same, ?_, ?_⟩, fun hb => ⟨hi, ?_, rfl⟩⟩
    · rw [ha, List.length_map]
      refine Nat.lt_of_le_of_lt (Nat.le_trans (List.length_filter_le _ _) (by rw [List.length_take]; exact Nat.min_le_left _ _)) (Nat.lt_of_lt_of_le (show i < 200000 by omega) (by decide))
    · refine ⟨hi, ?_, put_put⟩
      rw [tk, List.filter_append, List.map_append, ha]
      simp [hb]
    · rw [tk, List.filter_append, List.map_append, ha]
      simp [hb]
  · rintro acc S' ⟨_, ha, rfl⟩
    rw [List.take_of_length_le (Nat.le_refl _)] at ha
    rw [ha]
    exact hd D hD
end
theorem isTy_nd : isTy "NoneType" "dict" = some false := by decide +kernel
theorem isTy_ld : isTy "list" "dict" = some false := by decide +kernel
theorem isTy_sd : isTy "str" "dict" = some false := by decide +kernel
theorem isTy_id : isTy "int" "dict" = some false := by decide +kernel
theorem isTy_bd : isTy "bool" "dict" = some false := by decide +kernel
theorem isTy_db : isTy "dict" "bool" = some false := by decide +kernel
theorem isTy_di : isTy "dict" "int" = some false := by decide +kernel
theorem isTy_ds : isTy "dict" "str" = some false := by decide +kernel
theorem isTy_dt : isTy "dict" "tuple" = some false := by decide +kernel
theorem isTy_dl : isTy "dict" "list" = some false := by decide +kernel
theorem put_none {S : Sto} {a b : Addr} {c : Cell} (h : put S a c b = none) : b ≠ a ∧ S b = none := by
  by_cases e : b = a
  · rw [e, put_same] at h; cases h
  · rw [put_ne e] at h; exact ⟨e, h⟩
theorem evYes {ρ : StW} {S : Sto} : EvW wYes ρ S true := fun Q q => q
end Wl
set_option Elab.async false
set_option linter.all false
set_option maxRecDepth 100000
set_option maxHeartbeats 2000000
/-! Own classes over data: made, their fields, their methods, + and the like, isinstance. -/
namespace Wl
open PySem PySem.Spec PyProof.Rows L2
variable {K : PySem.W.Frag} {B : Hp}
/-! ### fields -/
def putFW (f : Str) (v : W) : List (Str × W) → List (Str × W)
  | [] => [(f, v)]
  | (g, x) :: r => if g = f then (g, v) :: r else (g, x) :: putFW f v r
theorem RepKV.putF {H : Hp} {f : Str} {w : W} {x : V} (q : Rep K H w x) : ∀ {ps : List (Str × W)} {ys : List (Str × V)}, RepKV K H ps ys → RepKV K H (putFW f w ps) (L2.putF f x ys)
  | [], _, h => by
    cases (show _ = [] from h)
    exact ⟨x, [], rfl, q, rfl⟩
  | (g, z) :: ps, _, h => by
    obtain ⟨v, r, rfl, h1, h2⟩ := h
    unfold putFW L2.putF
    by_cases e : g = f
    · rw [if_pos e, if_pos e]
      exact ⟨x, r, rfl, q, h2⟩
    · rw [if_neg e, if_neg e]
      exact ⟨v, _, rfl, h1, RepKV.putF q h2⟩
theorem RepKV.look {H : Hp} {f : Str} : ∀ {ps : List (Str × W)} {ys : List (Str × V)} {w : W}, RepKV K H ps ys → ps.lookup f = some w → ∃ v, ys.lookup f = some v ∧ Rep K H w v
  | [], _, _, h, e => by cases e
  | (g, z) :: ps, _, w, h, e => by
    obtain ⟨v, r, rfl, h1, h2⟩ := h
    unfold List.lookup at e ⊢
    cases q : f == g with
    | true => rw [q] at e; cases e; exact ⟨v, rfl, h1⟩
    | false => rw [q] at e; exact RepKV.look h2 e
theorem RepKV.lookN {H : Hp} {f : Str} : ∀ {ps : List (Str × W)} {ys : List (Str × V)}, RepKV K H ps ys → ps.lookup f = none → ys.lookup f = none
  | [], _, h, e => by cases (show _ = [] from h); rfl
  | (g, z) :: ps, _, h, e => by
    obtain ⟨v, r, rfl, h1, h2⟩ := h
    unfold List.lookup at e ⊢
    cases q : f == g with
    | true => rw [q] at e; cases e
    | false => rw [q] at e; exact RepKV.lookN h2 e
structure FldOk (K : PySem.W.Frag) (C : Addr) (f : Str) : Prop where
  cl : Cls K C
  no : NoAttr K C f
theorem k_fld (K : PySem.W.Frag) {X : Cx} {e : Expr} {f : Str} {pos : Pos} {ta : TE} (he : PE X e ta) (hb : attributeBase e f X.env (eval e X.env) = eval e X.env := by rfl) (hK : X.K = K := by rfl) : PE X (.Attribute e f pos) (tFld K ta f) := by
  subst hK; exact pe_fld he hb
def wFld (K : PySem.W.Frag) (t : TEW) (f : Str) : TEW := fun ρ S Q => t ρ S fun x S1 => match x with
  | .ref a => ∃ C fs v, S1 a = some (.ins C fs) ∧ FldOk K C f ∧ fs.lookup f = some v ∧ Q v S1
  | _ => False
instance le_fld {t : TE} {tw : TEW} {f : Str} [a : LE K B t tw] : LE K B (tFld K t f) (wFld K tw f) := ⟨fun σ H ρ S Q Qw hs hh q po => a.l σ H ρ S _ _ hs hh q fun x H1 wx S1 t1 hh1 r1 q1 => by
  cases wx <;> try exact q1.elim
  cases (show x = _ from r1)
  obtain ⟨C, fs, v, e, ok, l, q⟩ := q1
  obtain ⟨dx, gs, h1, h2⟩ := hh1 _ _ e
  obtain ⟨y, l2, r⟩ := h2.look l
  exact ⟨_, C, dx, gs, y, rfl, h1, ok.cl, ok.no, l2, po y H1 v S1 t1 hh1 r q⟩⟩
def wSFld (K : PySem.W.Frag) (to tv : TEW) (f : Str) : TSW := fun D ρ S => tv ρ S fun y S1 => to ρ S1 fun x S2 => match x with
  | .ref a => ∃ C fs, S2 a = some (.ins C fs) ∧ FldOk K C f ∧ fs.length < 1000 ∧ D.nx ρ (put S2 a (.ins C (putFW f y fs)))
  | _ => False
instance ls_sfld {to tv : TE} {wo wv : TEW} {f : Str} [a : LE K B to wo] [b : LE K B tv wv] : LS K B (sFld K to tv f) (wSFld K wo wv f) := ⟨fun σ H ρ S D Dw hs hh q po =>
  b.l σ H ρ S _ _ hs hh q fun y H1 wy S1 t1 hh1 r1 q1 => a.l σ H1 ρ S1 _ _ (hs.tk t1) hh1 q1 fun x H2 wx S2 t2 hh2 r2 q2 => by
    cases wx <;> try exact q2.elim
    cases (show x = _ from r2)
    rename_i a
    obtain ⟨C, fs, e, ok, hl, q⟩ := q2
    obtain ⟨dx, gs, h1, h2⟩ := hh2 _ _ e
    have t : Tk H2 (upd H2 a (.ins C dx (L2.putF f y gs))) := Tk.mut h1 (fun _ z => (by cases z)) (fun _ _ z => (by cases z))
    obtain ⟨t, hm⟩ := hh2.mut (c' := .ins C (putFW f wy fs)) (o := .ins C dx (L2.putF f y gs)) e ⟨dx, _, upd_same, RepKV.putF (Rep.tk t _ _ (Rep.tk t2 _ _ r1)) (RepKV.tk t _ _ h2)⟩
    exact ⟨a, C, dx, gs, rfl, h1, ok.cl, ok.no, by rw [h2.length]; exact hl, po.nx σ _ ρ _ ((t1.trans t2).trans t) (hs.tk ((t1.trans t2).trans t)) hm q⟩⟩
theorem k_sfld (K : PySem.W.Frag) {X : Cx} {o value : Expr} {f : Str} {tpos pos : Pos} {ta tv : TE} (ho : PE X o ta) (hv : PE X value tv) (hsw : swapsWith value (some (.Attribute o f tpos)) pos.line X.env = pure false := by rfl) (hK : X.K = K := by rfl) : PS X (.Assign [.Attribute o f tpos] value pos) (sFld K ta tv f) := by
  subst hK; exact ps_fld ho hv hsw
/-! ### instances made -/
section
variable {P : Program} {w : World} {mg : Str → Option Value} {base : Heap}
structure CalI (P : Program) (w : World) (K : PySem.W.Frag) (mg : Str → Option Value) (base : Heap) (k : Nat) (C : Addr) (sp : SpW) : Prop where
  ex : ∃ (f : Addr) (fd : FuncData) (ps : List Str), FnOk P w K mg base CX0 k f fd ps (liftSp K sp) ∧ Mk K C f ∧ Binds K fd ps []
structure CalM (P : Program) (w : World) (K : PySem.W.Frag) (mg : Str → Option Value) (base : Heap) (k : Nat) (C : Addr) (m : Str) (sp : SpW) : Prop where
  ex : ∃ (f : Addr) (fd : FuncData) (ps : List Str), FnOk P w K mg base CX0 k f fd ps (liftSp K sp) ∧ Meth K C m f ∧ Binds K fd ps []
theorem CalI.hd {k : Nat} {C : Addr} {sp : SpW} (c : CalI P w K mg base k C sp) : CalI P w K mg base k C (Hd sp) := by rw [Hd_eq]; exact c
theorem CalM.hd {k : Nat} {C : Addr} {m : Str} {sp : SpW} (c : CalM P w K mg base k C m sp) : CalM P w K mg base k C m (Hd sp) := by rw [Hd_eq]; exact c
theorem CalI.mono {j k : Nat} {C : Addr} {sp : SpW} (c : CalI P w K mg base j C sp) (h : j ≤ k) : CalI P w K mg base k C sp := by
  obtain ⟨f, fd, ps, F, r⟩ := c.ex
  exact ⟨f, fd, ps, F.mono h, r⟩
theorem CalM.mono {j k : Nat} {C : Addr} {m : Str} {sp : SpW} (c : CalM P w K mg base j C m sp) (h : j ≤ k) : CalM P w K mg base k C m sp := by
  obtain ⟨f, fd, ps, F, r⟩ := c.ex
  exact ⟨f, fd, ps, F.mono h, r⟩
/-- a method of the text at its class -/
structure MethAt (K : PySem.W.Frag) (C : Addr) (x qual : Str) (st : Stmt) (ps : List Str) : Prop where
  ex : ∃ (f : Addr) (fd : FuncData), Fun K x qual st f fd ∧ Meth K C x f ∧ Binds K fd ps []
theorem fnM {x qual : Str} {st : Stmt} {N ps : List Str} {k : Nat} {sp : SpW} {f : Addr} {fd : FuncData} (F : Fun K x qual st f fd) (SC : FnScope N ps (defScope st))
    (len : ∀ ws S Q, sp ws S Q → ws.length = ps.length)
    (hbody : ∀ (f : Addr) (cdv : Value) (A : Around) (outer : List Env) (s : Shared) (H : Hp) (E : XK), Room k (A.deeper (envOfC qual (defScope st) s.heap.objs.size f cdv)) →
      ∃ t tw, PSs (cxOf CX0 P w K mg base N qual (defScope st) f cdv A outer s H E).nox (defBody st) t ∧ LS K H t tw ∧ ∀ ws S Q, sp ws S Q → tw { nx := fun _ S' => FgI Q .non S', rt := FgI Q } (startW N ws) S) :
    FnOk P w K mg base CX0 (k + 1) f fd ps (liftSp K sp) :=
  F.ok SC (fun vs H Q E ⟨ws, S, Qw, h1, _, h3, _⟩ => by rw [h1.length]; exact len _ _ _ h3) (fun cdv A outer s H vs Q E hr ⟨ws, S, Qw, h1, h2, h3, h4⟩ => by
    obtain ⟨t, tw, ht, hl, hq⟩ := hbody f cdv A outer s H E hr
    refine ⟨t, ht, hl.l _ H (startW N ws) S _ _ (SRep.init h1) h2 (hq ws S Qw h3) ⟨?_, fun _ _ _ _ _ _ _ z => z.elim, fun _ _ _ _ _ _ _ z => z.elim, ?_⟩⟩
    · intro σ' H' ρ' S' t1 _ hh q
      have q : FgI Qw .non S' := q
      rw [FgI_eq] at q
      obtain ⟨S2, sub, q⟩ := q
      exact h4.non t1 (hh.sub sub) q
    · intro v H' w S' t1 hh r q
      have q : FgI Qw w S' := q
      rw [FgI_eq] at q
      obtain ⟨S2, sub, q⟩ := q
      exact h4 v H' w S2 t1 (hh.sub sub) r q)
theorem calM {C : Addr} {x qual : Str} {st : Stmt} {N ps : List Str} {k : Nat} {sp : SpW} (d : MethAt K C x qual st ps) (SC : FnScope N ps (defScope st))
    (len : ∀ ws S Q, sp ws S Q → ws.length = ps.length)
    (hbody : ∀ (f : Addr) (cdv : Value) (A : Around) (outer : List Env) (s : Shared) (H : Hp) (E : XK), Room k (A.deeper (envOfC qual (defScope st) s.heap.objs.size f cdv)) →
      ∃ t tw, PSs (cxOf CX0 P w K mg base N qual (defScope st) f cdv A outer s H E).nox (defBody st) t ∧ LS K H t tw ∧ ∀ ws S Q, sp ws S Q → tw { nx := fun _ S' => FgI Q .non S', rt := FgI Q } (startW N ws) S) :
    CalM P w K mg base (k + 1) C x sp := by
  obtain ⟨f, fd, F, hm, b⟩ := d.ex
  exact ⟨f, fd, ps, fnM F SC len hbody, hm, b⟩
structure InitAt (K : PySem.W.Frag) (C : Addr) (qual : Str) (st : Stmt) (ps : List Str) : Prop where
  ex : ∃ (f : Addr) (fd : FuncData), Fun K "__init__" qual st f fd ∧ Mk K C f ∧ Binds K fd ps []
theorem calI {C : Addr} {qual : Str} {st : Stmt} {N ps : List Str} {k : Nat} {sp : SpW} (d : InitAt K C qual st ps) (SC : FnScope N ps (defScope st))
    (len : ∀ ws S Q, sp ws S Q → ws.length = ps.length)
    (hbody : ∀ (f : Addr) (cdv : Value) (A : Around) (outer : List Env) (s : Shared) (H : Hp) (E : XK), Room k (A.deeper (envOfC qual (defScope st) s.heap.objs.size f cdv)) →
      ∃ t tw, PSs (cxOf CX0 P w K mg base N qual (defScope st) f cdv A outer s H E).nox (defBody st) t ∧ LS K H t tw ∧ ∀ ws S Q, sp ws S Q → tw { nx := fun _ S' => FgI Q .non S', rt := FgI Q } (startW N ws) S) :
    CalI P w K mg base (k + 1) C sp := by
  obtain ⟨f, fd, F, hm, b⟩ := d.ex
  exact ⟨f, fd, ps, fnM F SC len hbody, hm, b⟩
theorem k_make (K : PySem.W.Frag) {X : Cx} {C : Addr} {k j : Nat} {x : Str} {sp : SpW} {p pos : Pos} {e : Expr} {es : List Expr} {t : TA} (c : CalI X.prog X.w K X.mg X.base k C sp) (hm : X.mg x = some (.ref C)) (hr : Room j X.A) (hk : k + 1 ≤ j) (hg : Gl X x) (ha : PA X (e :: es) t)
    (hdb : (x == ("__debug__" : Str)) = false := by decide) (he : starEach (e :: es) X.env = (false, eval e X.env) :: starEach es X.env := by rfl) (hpl : (backTo pos (starEach es X.env)).any (·.1) = false := by rfl) (hK : X.K = K := by rfl) :
    PE X (.Call (.Name x p) (e :: es) [] pos) (tMake C (liftSp K sp) [] E0 t) := by
  subst hK
  obtain ⟨f, fd, ps, F, M, b⟩ := c.ex
  exact pe_make M F (hr.mono hk) hg hm b .nil pass0 ha hdb he hpl
def wMake (C : Addr) (sp : SpW) (t : TAW) : TEW := fun ρ S Q => t ρ S fun ws S1 => ∀ x, S1 x = none → sp (.ref x :: ws) (put S1 x (.ins C [])) fun v S2 => v = .non ∧ Q (.ref x) S2
instance le_make {C : Addr} {sp : SpW} {E : XK} {t : TA} {tw : TAW} [a : LA K B t tw] : LE K B (tMake C (liftSp K sp) [] E t) (wMake C sp tw) := ⟨fun σ H ρ S Q Qw hs hh q po =>
  a.l σ H ρ S _ _ hs hh q fun xs H1 ws S1 t1 hh1 r1 q1 => fun x dx hx hdx ne => by
    have tD : Tk H1 (upd H1 dx (.own x)) := Tk.new hdx
    have hx2 : upd H1 dx (.own x) x = none := by rw [upd_ne (Ne.symm ne)]; exact hx
    have tX : Tk (upd H1 dx (.own x)) (upd (upd H1 dx (.own x)) x (.ins C dx [])) := Tk.new hx2
    have hh2 : HRep K (upd H1 dx (.own x)) S1 := hh1.laid hdx
    have hh3 : HRep K (upd (upd H1 dx (.own x)) x (.ins C dx [])) (put S1 x (.ins C [])) := hh2.new hx2 ⟨dx, [], upd_same, rfl⟩
    refine ⟨.ref x :: ws, put S1 x (.ins C []), _, ?_, hh3, q1 x (hh1.fresh hx), ?_⟩
    · rw [List.append_nil]
      exact .cons rfl (RepL.tk (tD.trans tX) _ _ r1)
    · rintro v H4 wv S4 t4 hh4 r4 ⟨e, q4⟩
      subst e
      exact ⟨r4, po.ref (((t1.trans tD).trans tX).trans t4) hh4 q4⟩⟩
/-! ### methods -/
theorem k_meth (K : PySem.W.Frag) {X : Cx} {C : Addr} {k j : Nat} {m : Str} {sp : SpW} {apos pos : Pos} {o e : Expr} {es : List Expr} {ta : TE} {t : TA} {pl : Sem Bool} (cl : Cls K C) (c : CalM X.prog X.w K X.mg X.base k C m sp) (hr : Room j X.A) (hk : k ≤ j) (ho : PE X o ta) (ha : PA X (e :: es) t)
    (hst : starEach (e :: es) X.env = (false, eval e X.env) :: starEach es X.env := by rfl) (hpl : (backTo pos (starEach es X.env)).any (·.1) = false := by rfl)
    (ht : eval (.Call (.Attribute o m apos) (e :: es) [] pos) X.env = (do
      let ov ← eval o X.env
      standAt apos.atName
      let (f, first) ← holding [ov] (getMethod ov m pl)
      callWith pos f first (backTo pos (starEach (e :: es) X.env)) (backToKw pos (keywordEach [] X.env))) := by rfl) (hK : X.K = K := by rfl) :
    PE X (.Call (.Attribute o m apos) (e :: es) [] pos) (tMeth C m (liftSp K sp) [] E0 ta t) := by
  subst hK
  obtain ⟨f, fd, ps, F, M, b⟩ := c.ex
  exact pe_meth (pl := pl) ho cl M F (hr.mono hk) b .nil pass0 ha hst hpl ht
theorem k_meth0 (K : PySem.W.Frag) {X : Cx} {C : Addr} {k j : Nat} {m : Str} {sp : SpW} {apos pos : Pos} {o : Expr} {ta : TE} {pl : Sem Bool} (cl : Cls K C) (c : CalM X.prog X.w K X.mg X.base k C m sp) (hr : Room j X.A) (hk : k ≤ j) (ho : PE X o ta)
    (ht : eval (.Call (.Attribute o m apos) [] [] pos) X.env = (do
      let ov ← eval o X.env
      standAt apos.atName
      let (f, first) ← holding [ov] (getMethod ov m pl)
      callWith pos f first (backTo pos (starEach [] X.env)) (backToKw pos (keywordEach [] X.env))) := by rfl) (hK : X.K = K := by rfl) :
    PE X (.Call (.Attribute o m apos) [] [] pos) (tMeth C m (liftSp K sp) [] E0 ta tNil) := by
  subst hK
  obtain ⟨f, fd, ps, F, M, b⟩ := c.ex
  exact pe_meth0 (pl := pl) ho cl M F (hr.mono hk) b .nil pass0 ht
def wMeth (C : Addr) (m : Str) (sp : SpW) (to : TEW) (t : TAW) : TEW := fun ρ S Q => to ρ S fun x S1 => match x with
  | .ref a => (∃ fs, S1 a = some (.ins C fs) ∧ fs.lookup m = none) ∧ t ρ S1 fun ws S2 => sp (.ref a :: ws) S2 Q
  | _ => False
instance le_meth {C : Addr} {m : Str} {sp : SpW} {E : XK} {to : TE} {t : TA} {wo : TEW} {tw : TAW} [a : LE K B to wo] [b : LA K B t tw] : LE K B (tMeth C m (liftSp K sp) [] E to t) (wMeth C m sp wo tw) := ⟨fun σ H ρ S Q Qw hs hh q po =>
  a.l σ H ρ S _ _ hs hh q fun x H1 wx S1 t1 hh1 r1 q1 => by
    cases wx <;> try exact q1.elim
    cases (show x = _ from r1)
    rename_i a
    obtain ⟨⟨fs, e, l⟩, q1⟩ := q1
    obtain ⟨dx, gs, h1, h2⟩ := hh1 _ _ e
    exact ⟨a, dx, gs, rfl, h1, h2.lookN l, b.l σ H1 ρ S1 _ _ (hs.tk t1) hh1 q1 fun vs H2 ws S2 t2 hh2 r2 q2 => ⟨.ref a :: ws, S2, Qw, by rw [List.append_nil]; exact .cons rfl r2, hh2, q2, po.tk (t1.trans t2)⟩⟩⟩
/-! ### a + b and the like, by the class's own def -/
structure OwnOp (K : PySem.W.Frag) (C : Addr) : Prop where
  sf : PySem.W.selfFirst K C = true
def rOwnB (C : Addr) (sp : Sp) : R2 := fun x y H Q => ∃ a dx fs b dy gs, x = .ref a ∧ y = .ref b ∧ H a = some (.ins C dx fs) ∧ H b = some (.ins C dy gs) ∧ sp [x, y] H Q E0
theorem op_ownB {X : Cx} {C f : Addr} {fd : FuncData} {ps : List Str} {sp : Sp} {op : Operator} {k : Nat} (F : FnOk X.prog X.w X.K X.mg X.base CX0 k f fd ps sp) (hs : PySem.W.findIn X.K (.ref C) (PySem.dunder op.info.2) = some (some (.ref f))) (hf : PySem.W.isFn X.K (.ref f) = true) (hc : PySem.W.selfFirst X.K C = true)
    (hr : Room k X.A) (hb : Binds X.K fd ps []) : OpR X (binaryOp op) (rOwnB C sp) := by
  intro pins s σ H x y v u Q I rx ry h
  obtain ⟨a, dx, fs, b, dy, gs, rfl, rfl, ha, hb', q⟩ := h
  cases (show v = Value.ref a from rx)
  cases (show u = Value.ref b from ry)
  obtain ⟨mA, J, _⟩ := ins_get I.hok ha
  obtain ⟨mB, J', _⟩ := ins_get I.hok hb'
  obtain ⟨od, J, _⟩ := J.look
  obtain ⟨od', J', _⟩ := J'.look
  obtain ⟨m, hF⟩ := I.fr
  refine PySem.W.binop_K hF I.ok.mod.kin J J'.type hc hs hf ?_
  refine wpAny_mono (run_fn (us := [.ref a, .ref b]) (vs := [.ref a, .ref b]) F hr hb .nil pass0 I (.cons rfl (.cons rfl .nil)) q) (fun w s' z => ?_) fun _ _ x => x
  obtain ⟨z', H', I', rz, qz⟩ := z
  exact SlX.cmpback rz ⟨z', H', I', rz, qz⟩
def rAddO (K : PySem.W.Frag) (C : Addr) (sp : SpW) : R2 := fun x y H Q => rAddB K x y H Q ∨ rOwnB C (liftSp K sp) x y H Q
theorem k_addO (K : PySem.W.Frag) {X : Cx} {C : Addr} {k j : Nat} {sp : SpW} (ow : OwnOp K C) (c : CalM X.prog X.w K X.mg X.base k C "__add__" sp) (hr : Room j X.A) (hk : k ≤ j) (hK : X.K = K := by rfl) : OpR X (binaryOp .Add) (rAddO K C sp) := by
  subst hK
  obtain ⟨f, fd, ps, F, M, b⟩ := c.ex
  exact (k_addB X.K).or (op_ownB F M.at_ M.fn ow.sf (hr.mono hk) b)
def wAddO (C : Addr) (sp : SpW) : RW2 := fun x y S Q => match x, y with
  | .ref a, .ref b => wAddB (.ref a) (.ref b) S Q ∨ ((∃ fs, S a = some (.ins C fs)) ∧ (∃ gs, S b = some (.ins C gs)) ∧ sp [.ref a, .ref b] S Q)
  | x, y => wAddB x y S Q
theorem ownB_rep {H : Hp} {S : Sto} {C : Addr} {sp : SpW} {x y : V} {a b : Addr} {Q : VK} {Qw : WK} (hh : HRep K H S) (rx : Rep K H (.ref a) x) (ry : Rep K H (.ref b) y) (q : (∃ fs, S a = some (.ins C fs)) ∧ (∃ gs, S b = some (.ins C gs)) ∧ sp [.ref a, .ref b] S Qw) (po : PoE K H Q Qw) : rOwnB C (liftSp K sp) x y H Q := by
  obtain ⟨⟨fs, e1⟩, ⟨gs, e2⟩, q⟩ := q
  obtain ⟨dx, xs, h1, _⟩ := hh _ _ e1
  obtain ⟨dy, ys, h2, _⟩ := hh _ _ e2
  exact ⟨a, dx, xs, b, dy, ys, rx, ry, h1, h2, [.ref a, .ref b], S, Qw, .cons rx (.one ry), hh, q, po⟩
instance l2_addO {C : Addr} {sp : SpW} : L2R K (rAddO K C sp) (wAddO C sp) := ⟨fun H S x y wx wy Q Qw hh rx ry q po => by
  have old : wAddB wx wy S Qw → rAddO K C sp x y H Q := fun q => .inl (l2_addB.l H S x y wx wy Q Qw hh rx ry q po)
  cases wx with
  | ref a =>
    cases wy with
    | ref b =>
      rcases q with q | q
      · exact old q
      · exact .inr (ownB_rep hh rx ry q po)
    | _ => exact old q
  | _ => cases wy <;> exact old q⟩
/-! ### isinstance, own classes too -/
structure IsiO (K : PySem.W.Frag) (C : Addr) : Prop where
  cl : Cls K C
  ha : PySem.W.findIn K (.ref C) "__class__" = some (some (.builtin "object.__class__"))
  hn : PySem.W.specialIn K (.builtin "object.__class__") "__get__" = some (some (.builtin "getset_descriptor.__get__"))
  ht : PySem.W.takesIn K (.builtin "object.__class__") = some true
  hm : PySem.W.mroIn K C (.type "object") = some true
def rIsiO (K : PySem.W.Frag) : List V → Hp → VK → Prop := rIsi K
theorem k_isiO (K : PySem.W.Frag) {X : Cx} (hK : X.K = K := by rfl) : CallR X (.builtin "isinstance") (rIsiO K) := by subst hK; exact call_isi
def wIsiO (K : PySem.W.Frag) : RWC := fun ws S Q => match ws with
  | [x, .ty n] => ∃ t b, tyName x S = some t ∧ isTy t n = some b ∧ Q (.bl b) S
  | [.ref a, .ref C] => ∃ D fs b, S a = some (.ins D fs) ∧ IsiO K D ∧ PySem.W.kitOne K (.ref D) (.ref C) = some b ∧ Q (.bl b) S
  | _ => False
instance lc_isiO : LCR K (rIsiO K) (wIsiO K) := ⟨fun H S xs ws Q Qw hh r q po => by
  unfold wIsiO at q
  split at q
  · exact lc_isi.l H S xs _ Q Qw hh r q po
  · obtain ⟨x, y, rfl, h1, h2⟩ := rep2 r
    cases (show x = _ from h1)
    cases (show y = _ from h2)
    obtain ⟨D, fs, b, e, io, k, q⟩ := q
    obtain ⟨dx, gs, h1, _⟩ := hh _ _ e
    exact ⟨_, _, _, _, b, rfl, .own _, .base (.ins h1 io.cl io.ha io.hn io.ht io.hm), k, po.bl (Tk.refl H) hh q⟩
  · exact q.elim⟩
end
end Wl
set_option Elab.async false
set_option linter.all false
set_option maxRecDepth 100000
set_option maxHeartbeats 2000000
/-! sum of lists and tuples. -/
namespace Wl
open PySem PySem.Spec PyProof.Rows L2
variable {K : PySem.W.Frag} {B : Hp}
def rSumT (K : PySem.W.Frag) : List V → Hp → VK → Prop := fun vs H Q => ∃ (a : Addr) (ns : List Int), vs = [V.ref a] ∧ SqT K H a (ns.map V.int) ∧ Q (.int ns.sum) H
theorem cr_sumT {X : Cx} (hc : X.calm = true) : CallR X (.builtin "sum") (rSumT X.K) := by
  intro pins s σ H vs us Q I r h
  obtain ⟨a, ns, rfl, hs, q⟩ := h
  obtain ⟨its, rv, hl, _⟩ := I.tuple hs
  rw [Vals.ref1 r]
  have hi := rv.ints
  obtain ⟨xs, hx⟩ := hi.allInts.items
  have hn : numsOf its.toArray.toList = ns := by rw [show its.toArray.toList = its from rfl, hi.numsOf]
  have hl : s.heap.IsTuple a its.toArray := hl
  rw [hx] at hl hn
  rw [PySem.nums_intItems] at hn
  refine PySem.W.ktm_sumG (I.ok.hd hc) hl fun h' tk t' hk => ⟨.int _, H, I.kept hk, ⟨_, rfl⟩, ?_⟩
  rw [PySem.preSum_eq, List.take_of_length_le (by simp), hn]
  exact q
def rSumA (K : PySem.W.Frag) : List V → Hp → VK → Prop := fun vs H Q => rSum K vs H Q ∨ rSumT K vs H Q
theorem k_sumA (K : PySem.W.Frag) {X : Cx} (hc : X.calm = true) (hK : X.K = K := by rfl) : CallR X (.builtin "sum") (rSumA K) := by
  subst hK
  intro pins s σ H vs us Q I r h
  rcases h with h | h
  · exact cr_sum hc pins s σ H vs us Q I r h
  · exact cr_sumT hc pins s σ H vs us Q I r h
def sumAt (ws : List W) (S : Sto) (Q : WK) : Prop := ∃ ns : List Int, ws = List.map W.int ns ∧ Q (.int ns.sum) S
def wSumA : RWC := fun ws S Q => match ws with
  | [.tup ws] => sumAt ws S Q
  | [.rl ws] => sumAt ws S Q
  | [.ref a] => ∃ ws, S a = some (.lst ws) ∧ sumAt ws S Q
  | _ => False
instance lc_sumA : LCR K (rSumA K) wSumA := ⟨fun H S xs ws Q Qw hh r q po => by
  unfold wSumA at q
  split at q
  · obtain ⟨x, rfl, a, xs, rfl, h1, h2⟩ := rep1 r
    obtain ⟨ns, rfl, q⟩ := q
    rw [h2.ints] at h1
    exact .inr ⟨a, ns, rfl, h1, po.int (Tk.refl H) hh q⟩
  · obtain ⟨x, rfl, a, xs, rfl, h1, h2⟩ := rep1 r
    obtain ⟨ns, rfl, q⟩ := q
    rw [h2.ints] at h1
    exact .inl ⟨a, ns, rfl, h1.sq, po.int (Tk.refl H) hh q⟩
  · obtain ⟨x, rfl, h1⟩ := rep1 r
    cases (show x = _ from h1)
    obtain ⟨ws, e, ns, rfl, q⟩ := q
    obtain ⟨ys, h1, h2⟩ := hh _ _ e
    rw [h2.ints] at h1
    exact .inl ⟨_, ns, rfl, SqL.of h1, po.int (Tk.refl H) hh q⟩
  · exact q.elim⟩
end Wl
set_option Elab.async false
set_option linter.all false
set_option maxRecDepth 100000
set_option maxHeartbeats 2000000
/-! keyword-only parameters, static methods. -/
namespace Wl
open PySem PySem.Spec PyProof.Rows L2
variable {K : PySem.W.Frag} {B : Hp}
/-- a default -/
inductive KC where
  | i (n : Int) | s (x : Str)
def KC.v : KC → V
  | .i n => .int n
  | .s x => .str x
def KC.w : KC → W
  | .i n => .int n
  | .s x => .str x
theorem KC.rep {H : Hp} : ∀ c : KC, Rep K H c.w c.v
  | .i _ => rfl
  | .s _ => rfl
theorem KC.reps {H : Hp} : ∀ cs : List KC, RepL K H (cs.map KC.w) (cs.map KC.v)
  | [] => .nil
  | c :: cs => .cons c.rep (KC.reps cs)
inductive KwAll (K : PySem.W.Frag) (D : Addr) : List (Str × KC) → Prop where
  | nil : KwAll K D []
  | cons {x : Str} {c : KC} {u : Value} {l : List (Str × KC)} : PySem.W.nsIn K D x = some (some u) → RelV c.v u → KwAll K D l → KwAll K D ((x, c) :: l)
theorem kwAll_mem {D : Addr} {l : List (Str × KC)} (h : KwAll K D l) : ∀ q ∈ l.map (fun q => (q.1, q.2.v)), ∃ u, PySem.W.nsIn K D q.1 = some (some u) ∧ RelV q.2 u := by
  induction h with
  | nil => exact fun q hq => by cases hq
  | cons e r _ ih =>
    intro q hq
    rcases List.mem_cons.mp hq with hq | hq
    · rw [hq]; exact ⟨_, e, r⟩
    · exact ih q hq
section
variable {P : Program} {w : World} {mg : Str → Option Value} {base : Heap}
structure InitK (K : PySem.W.Frag) (C : Addr) (qual : Str) (st : Stmt) (kws : List (Str × KC)) : Prop where
  ex : ∃ (f : Addr) (fd : FuncData), FunD K "__init__" qual (defArgs st) (defBody st) (defScope st) [] (kws.map fun q => (q.1, q.2.v)) f fd ∧ Mk K C f
/-- C(n values, k = v for the names ks), ms the defaults that are taken -/
structure CalK (P : Program) (w : World) (K : PySem.W.Frag) (mg : Str → Option Value) (base : Heap) (k : Nat) (C : Addr) (n : Nat) (ks : List Str) (ms : List KC) (sp : SpW) : Prop where
  ex : ∃ (f : Addr) (fd : FuncData) (ps : List Str) (g : List Value → List Value → List Value), FnOk P w K mg base CX0 k f fd ps (liftSp K sp) ∧ Mk K C f ∧ KBn K fd ps (n + 1) ks g (fun vs zs => vs ++ ms.map KC.v ++ zs)
theorem CalK.hd {k : Nat} {C : Addr} {n : Nat} {ks : List Str} {ms : List KC} {sp : SpW} (c : CalK P w K mg base k C n ks ms sp) : CalK P w K mg base k C n ks ms (Hd sp) := by rw [Hd_eq]; exact c
theorem CalK.mono {j k : Nat} {C : Addr} {n : Nat} {ks : List Str} {ms : List KC} {sp : SpW} (c : CalK P w K mg base j C n ks ms sp) (h : j ≤ k) : CalK P w K mg base k C n ks ms sp := by
  obtain ⟨f, fd, ps, g, F, r⟩ := c.ex
  exact ⟨f, fd, ps, g, F.mono h, r⟩
theorem fun_of' {x qual : Str} {st : Stmt} {f : Addr} {fd : FuncData} {kws : List (Str × V)} (F : FunD K x qual (defArgs st) (defBody st) (defScope st) [] kws f fd) : Fun K x qual st f fd := by
  obtain ⟨oc, od, dV, kV, doc, pm, an, cdv, ct, osl, e, l, c, hd, _⟩ := F.ex
  rcases hd with ⟨_, e2⟩ | ⟨e2, _⟩
  · subst e2
    exact ⟨⟨oc, od, kV, doc, pm, an, cdv, ct, osl, e, l, c⟩, F.kp⟩
  · exact absurd rfl e2
def wMakeK (C : Addr) (n m : Nat) (sp : SpW) (ms : List KC) (t tk : TAW) : TEW := fun ρ S Q => t ρ S fun ws S1 => tk ρ S1 fun xs S2 => ws.length = n ∧ xs.length = m ∧ ∀ x, S2 x = none →
  sp (.ref x :: ws ++ ms.map KC.w ++ xs) (put S2 x (.ins C [])) fun v S3 => v = .non ∧ Q (.ref x) S3
def tMakeKK (C : Addr) (n m : Nat) (sp : Sp) (ms : List KC) (E : XK) (t tk : TA) : TE := tMakeK C n m sp (fun vs zs => vs ++ ms.map KC.v ++ zs) E t tk
theorem k_makeK (K : PySem.W.Frag) {X : Cx} {C : Addr} {k j n : Nat} {ks : List Str} {ms : List KC} {x : Str} {sp : SpW} {p pos : Pos} {e : Expr} {es : List Expr} {kws : List Keyword} {t tk : TA} (c : CalK X.prog X.w K X.mg X.base k C n ks ms sp) (hm : X.mg x = some (.ref C)) (hr : Room j X.A) (hk : k + 1 ≤ j) (hg : Gl X x) (ha : PA X (e :: es) t) (hkw : PK X kws tk)
    (hall : (backToKw pos (keywordEach kws X.env)).all (·.1.isSome) = true := by rfl) (hks : (backToKw pos (keywordEach kws X.env)).filterMap (·.1) = ks := by rfl) (hdb : (x == ("__debug__" : Str)) = false := by decide)
    (he : starEach (e :: es) X.env = (false, eval e X.env) :: starEach es X.env := by rfl) (hpl : ((backTo pos (starEach (e :: es) X.env)).any (·.1) || (backToKw pos (keywordEach kws X.env)).any (·.1.isNone)) = false := by rfl) (hK : X.K = K := by rfl) :
    PE X (.Call (.Name x p) (e :: es) kws pos) (tMakeKK C n ks.length (liftSp K sp) ms E0 t tk) := by
  subst hK
  obtain ⟨f, fd, ps, g, F, M, b⟩ := c.ex
  exact pe_makeK M F (hr.mono hk) hg hm b pass0 ha hkw hall hks hdb he hpl
instance le_makeK {C : Addr} {n m : Nat} {ms : List KC} {sp : SpW} {E : XK} {t tk : TA} {tw tkw : TAW} [a : LA K B t tw] [b : LA K B tk tkw] : LE K B (tMakeKK C n m (liftSp K sp) ms E t tk) (wMakeK C n m sp ms tw tkw) := ⟨fun σ H ρ S Q Qw hs hh q po =>
  a.l σ H ρ S _ _ hs hh q fun xs H1 ws S1 t1 hh1 r1 q1 => b.l σ H1 ρ S1 _ _ (hs.tk t1) hh1 q1 fun zs H2 us S2 t2 hh2 r2 ⟨l1, l2, q2⟩ => ⟨by rw [r1.length]; exact l1, by rw [r2.length]; exact l2, fun x dx hx hdx ne => by
    have tD : Tk H2 (upd H2 dx (.own x)) := Tk.new hdx
    have hx2 : upd H2 dx (.own x) x = none := by rw [upd_ne (Ne.symm ne)]; exact hx
    have tX : Tk (upd H2 dx (.own x)) (upd (upd H2 dx (.own x)) x (.ins C dx [])) := Tk.new hx2
    have hh3 : HRep K (upd H2 dx (.own x)) S2 := hh2.laid hdx
    have hh4 : HRep K (upd (upd H2 dx (.own x)) x (.ins C dx [])) (put S2 x (.ins C [])) := hh3.new hx2 ⟨dx, [], upd_same, rfl⟩
    refine ⟨.ref x :: ws ++ ms.map KC.w ++ us, put S2 x (.ins C []), _, ?_, hh4, q2 x (hh2.fresh hx), ?_⟩
    · exact RepL.append (RepL.append (.cons rfl (RepL.tk ((t2.trans tD).trans tX) _ _ r1)) (KC.reps ms)) (RepL.tk (tD.trans tX) _ _ r2)
    · rintro v H4 wv S4 t4 hh4 r4 ⟨e, q4⟩
      subst e
      exact ⟨r4, po.ref ((((t1.trans t2).trans tD).trans tX).trans t4) hh4 q4⟩⟩⟩
/-! ### static methods -/
structure CStat (K : PySem.W.Frag) (C : Addr) (m : Str) (g : Addr) : Prop where
  rd : PySem.W.readsIn K C (.type "type") = true
  ga : PySem.W.specialIn K (.ref C) "__getattribute__" = some (some (.builtin "type.__getattribute__"))
  sm : ∃ (p : Addr) (rest : List Value), PySem.W.findCls K (.ref C) (.type "type") m = some (.get (.builtin "staticmethod.__get__") (.ref p) .none (.ref C)) ∧ PySem.W.recIn K p "staticmethod" = some (.ref g :: rest)
  kp : PySem.W.keepIn K (.ref g) = true
structure StatAt (K : PySem.W.Frag) (C : Addr) (x qual : Str) (st : Stmt) (ps : List Str) : Prop where
  ex : ∃ (f : Addr) (fd : FuncData), Fun K x qual st f fd ∧ CStat K C x f ∧ Binds K fd ps []
structure CalS (P : Program) (w : World) (K : PySem.W.Frag) (mg : Str → Option Value) (base : Heap) (k : Nat) (C : Addr) (m : Str) (sp : SpW) : Prop where
  ex : ∃ (f : Addr) (fd : FuncData) (ps : List Str), FnOk P w K mg base CX0 k f fd ps (liftSp K sp) ∧ CStat K C m f ∧ Binds K fd ps []
theorem CalS.hd {k : Nat} {C : Addr} {m : Str} {sp : SpW} (c : CalS P w K mg base k C m sp) : CalS P w K mg base k C m (Hd sp) := by rw [Hd_eq]; exact c
theorem CalS.mono {j k : Nat} {C : Addr} {m : Str} {sp : SpW} (c : CalS P w K mg base j C m sp) (h : j ≤ k) : CalS P w K mg base k C m sp := by
  obtain ⟨f, fd, ps, F, r⟩ := c.ex
  exact ⟨f, fd, ps, F.mono h, r⟩
theorem getsm_ok {X : Cx} {pins : List (Addr × Obj)} {σ : L2.St} {H : Hp} {s : Shared} {C g : Addr} {m : Str} {A : Around} {E : Value → Shared → Prop} {pl : Sem Bool} {Q : Value × List Value → Shared → Prop} (I : Inv X pins σ H s) (c : CStat X.K C m g)
    (h : ∀ s', Inv X pins σ H s' → Q (.ref g, []) s') : wpAny (model X.prog X.w) A (getMethod (.ref C) m pl) Q E s := by
  obtain ⟨p, rest, e1, e2⟩ := c.sm
  refine PySem.W.method_cls I.kIn c.ga ?_
  refine PySem.W.cls_bind I.kIn c.rd e1 ?_
  refine wpAny_call (PySem.W.sm_get (s := { s with toks := s.toks + 1 }) I.kIn e2 (PySem.W.handed_on rfl ?_))
  exact h _ (I.tok _)
def tStat (C : Addr) (sp : Sp) (E : XK) (ta : TE) (t : TA) : TE := fun σ H Q => ta σ H fun x H1 => x = .ref C ∧ t σ H1 fun vs H2 => sp vs H2 Q E
theorem k_stat (K : PySem.W.Frag) {X : Cx} {C : Addr} {k j : Nat} {m : Str} {sp : SpW} {apos pos : Pos} {o e : Expr} {es : List Expr} {ta : TE} {t : TA} {pl : Sem Bool} (c : CalS X.prog X.w K X.mg X.base k C m sp) (hr : Room j X.A) (hk : k ≤ j) (ho : PE X o ta) (ha : PA X (e :: es) t)
    (hst : starEach (e :: es) X.env = (false, eval e X.env) :: starEach es X.env := by rfl) (hpl : (backTo pos (starEach es X.env)).any (·.1) = false := by rfl)
    (ht : eval (.Call (.Attribute o m apos) (e :: es) [] pos) X.env = (do
      let ov ← eval o X.env
      standAt apos.atName
      let (f, first) ← holding [ov] (getMethod ov m pl)
      callWith pos f first (backTo pos (starEach (e :: es) X.env)) (backToKw pos (keywordEach [] X.env))) := by rfl) (hK : X.K = K := by rfl) :
    PE X (.Call (.Attribute o m apos) (e :: es) [] pos) (tStat C (liftSp K sp) E0 ta t) := by
  subst hK
  obtain ⟨f, fd, ps, F, c, b⟩ := c.ex
  refine ⟨fun pins s σ H Q I h => ?_⟩
  refine PySem.W.methodCall_KW (pl := pl) (thn (ho.run pins s σ H _ I h) fun u s1 ⟨x, H1, I1, rx, ex, q⟩ => ?_) ht
  subst ex
  obtain rfl : u = Value.ref C := rx
  refine getsm_ok I1 c fun s2 I2 => ?_
  refine PySem.W.callWith_K (first := []) (h₀ := X.base) I.ok.mod.kin c.kp (thn (ha.run pos pins s2 σ H1 _ I2 q) fun us s3 ⟨vs, H2, I3, r, q2⟩ => ⟨I3.kIn, ?_⟩) hst hpl
  exact run_fn (us := us) (vs := vs) F (hr.mono hk) b .nil pass0 I3 r (by rw [List.append_nil]; exact q2)
def wStat (C : Addr) (sp : SpW) (to : TEW) (t : TAW) : TEW := fun ρ S Q => to ρ S fun x S1 => x = .ref C ∧ t ρ S1 fun ws S2 => sp ws S2 Q
instance le_stat {C : Addr} {sp : SpW} {E : XK} {to : TE} {t : TA} {wo : TEW} {tw : TAW} [a : LE K B to wo] [b : LA K B t tw] : LE K B (tStat C (liftSp K sp) E to t) (wStat C sp wo tw) := ⟨fun σ H ρ S Q Qw hs hh q po =>
  a.l σ H ρ S _ _ hs hh q fun x H1 wx S1 t1 hh1 r1 ⟨e, q1⟩ => by
    subst e
    exact ⟨r1, b.l σ H1 ρ S1 _ _ (hs.tk t1) hh1 q1 fun vs H2 ws S2 t2 hh2 r2 q2 => ⟨ws, S2, Qw, r2, hh2, q2, po.tk (t1.trans t2)⟩⟩⟩
theorem calS {C : Addr} {x qual : Str} {st : Stmt} {N ps : List Str} {k : Nat} {sp : SpW} (d : StatAt K C x qual st ps) (SC : FnScope N ps (defScope st))
    (len : ∀ ws S Q, sp ws S Q → ws.length = ps.length)
    (hbody : ∀ (f : Addr) (cdv : Value) (A : Around) (outer : List Env) (s : Shared) (H : Hp) (E : XK), Room k (A.deeper (envOfC qual (defScope st) s.heap.objs.size f cdv)) →
      ∃ t tw, PSs (cxOf CX0 P w K mg base N qual (defScope st) f cdv A outer s H E).nox (defBody st) t ∧ LS K H t tw ∧ ∀ ws S Q, sp ws S Q → tw { nx := fun _ S' => FgI Q .non S', rt := FgI Q } (startW N ws) S) :
    CalS P w K mg base (k + 1) C x sp := by
  obtain ⟨f, fd, F, hm, b⟩ := d.ex
  exact ⟨f, fd, ps, fnM F SC len hbody, hm, b⟩
/-- ms: the keyword-only names that lack, ks: those that are told, in their order -/
theorem calK {C : Addr} {qual : Str} {st : Stmt} {N ps : List Str} {k : Nat} {sp : SpW} {kws : List (Str × KC)} (d : InitK K C qual st kws) (SC : FnScope N ps (defScope st))
    (len : ∀ ws S Q, sp ws S Q → ws.length = ps.length)
    (hbody : ∀ (f : Addr) (cdv : Value) (A : Around) (outer : List Env) (s : Shared) (H : Hp) (E : XK), Room k (A.deeper (envOfC qual (defScope st) s.heap.objs.size f cdv)) →
      ∃ t tw, PSs (cxOf CX0 P w K mg base N qual (defScope st) f cdv A outer s H E).nox (defBody st) t ∧ LS K H t tw ∧ ∀ ws S Q, sp ws S Q → tw { nx := fun _ S' => FgI Q .non S', rt := FgI Q } (startW N ws) S)
    (n : Nat) (ks : List Str) (ms : List (Str × KC)) (hk : kws ≠ []) (hms : ∀ q ∈ ms, q ∈ kws)
    (h : ∀ (D : Addr) (doc pm : Value) (an : Option Addr) (cdv ct : Value) (us mv ws : List Value), us.length = n + 1 → mv.length = ms.length → ws.length = ks.length →
      KwChain D ((ms.map (·.1)).zip mv) (bindArgs (PySem.W.fnOf "__init__" qual (defArgs st) (defBody st) (defScope st) .none (.ref D) doc pm an cdv ct) ⟨us, ks.zip ws⟩) (ps.zip (us ++ mv ++ ws))) :
    CalK P w K mg base (k + 1) C n ks (ms.map (·.2)) sp := by
  obtain ⟨f, fd, F, hm⟩ := d.ex
  obtain ⟨mv, b⟩ := F.kbinds0 (ps := ps) (n + 1) ks (ms.map fun q => (q.1, q.2.v)) (fun us mv ws => us ++ mv ++ ws) (fun e => hk (List.map_eq_nil_iff.mp e))
    (fun q hq => by
      obtain ⟨r, hr, rfl⟩ := List.mem_map.mp hq
      exact List.mem_map.mpr ⟨r, hms r hr, rfl⟩) (fun r1 r2 r3 => Vals.append (Vals.append r1 r2) r3)
    (fun D doc pm an cdv ct us mv ws l1 l2 l3 => by
      have := h D doc pm an cdv ct us mv ws l1 (by rw [l2, List.length_map]) l3
      rw [List.map_map]
      exact this)
  refine ⟨f, fd, ps, (fun us ws => us ++ mv ++ ws), fnM (fun_of' F) SC len hbody, hm, ?_⟩
  rw [List.map_map] at b
  rw [List.map_map]
  exact b
end
end Wl
set_option Elab.async false
set_option linter.all false
set_option maxRecDepth 100000
set_option maxHeartbeats 2000000
/-! keyword arguments in any order. -/
namespace Wl
open PySem PySem.Spec PyProof.Rows L2
variable {K : PySem.W.Frag} {B : Hp}
def pickL {α : Type} (ix : List Nat) (l : List α) : List α := ix.filterMap fun i => l[i]?
theorem pickL_rep {H : Hp} : ∀ (ix : List Nat) {ws : List W} {xs : List V}, RepL K H ws xs → RepL K H (pickL ix ws) (pickL ix xs)
  | [], _, _, _ => .nil
  | i :: ix, ws, xs, h => by
    unfold pickL
    rw [List.filterMap_cons, List.filterMap_cons]
    cases e : ws[i]? with
    | none =>
      have e2 : xs[i]? = none := by rw [List.getElem?_eq_none_iff, h.length]; exact List.getElem?_eq_none_iff.mp e
      rw [e2]
      exact pickL_rep ix h
    | some w =>
      obtain ⟨x, e2, r⟩ := h.get e
      rw [e2]
      exact .cons r (pickL_rep ix h)
theorem Vals.get' : ∀ {vs : List V} {us : List Value} {i : Nat}, Vals vs us → (∀ v, vs[i]? = some v → ∃ u, us[i]? = some u ∧ RelV v u) ∧ (vs[i]? = none → us[i]? = none)
  | [], _, _, .nil => ⟨(fun v e => by cases e), fun _ => rfl⟩
  | _ :: _, _, 0, .cons r t => ⟨(fun v e => by cases e; exact ⟨_, rfl, r⟩), (fun e => by cases e)⟩
  | _ :: _, _, i + 1, .cons r t => Vals.get' (i := i) t
theorem pickL_vals : ∀ (ix : List Nat) {vs : List V} {us : List Value}, Vals vs us → Vals (pickL ix vs) (pickL ix us)
  | [], _, _, _ => .nil
  | i :: ix, vs, us, h => by
    unfold pickL
    rw [List.filterMap_cons, List.filterMap_cons]
    cases e : vs[i]? with
    | none =>
      rw [(Vals.get' h).2 e]
      exact pickL_vals ix h
    | some v =>
      obtain ⟨u, e2, r⟩ := (Vals.get' h).1 v e
      rw [e2]
      exact .cons r (pickL_vals ix h)
section
variable {P : Program} {w : World} {mg : Str → Option Value} {base : Heap}
/-- C(n values, k = v for the names ks), ms the defaults that are taken, ix: where each parameter stands in values, defaults, told ones -/
structure CalJ (P : Program) (w : World) (K : PySem.W.Frag) (mg : Str → Option Value) (base : Heap) (k : Nat) (C : Addr) (n : Nat) (ks : List Str) (ms : List KC) (ix : List Nat) (sp : SpW) : Prop where
  ex : ∃ (f : Addr) (fd : FuncData) (ps : List Str) (g : List Value → List Value → List Value), FnOk P w K mg base CX0 k f fd ps (liftSp K sp) ∧ Mk K C f ∧ KBn K fd ps (n + 1) ks g (fun vs zs => pickL ix (vs ++ ms.map KC.v ++ zs))
theorem CalJ.hd {k : Nat} {C : Addr} {n : Nat} {ks : List Str} {ms : List KC} {ix : List Nat} {sp : SpW} (c : CalJ P w K mg base k C n ks ms ix sp) : CalJ P w K mg base k C n ks ms ix (Hd sp) := by rw [Hd_eq]; exact c
theorem CalJ.mono {j k : Nat} {C : Addr} {n : Nat} {ks : List Str} {ms : List KC} {ix : List Nat} {sp : SpW} (c : CalJ P w K mg base j C n ks ms ix sp) (h : j ≤ k) : CalJ P w K mg base k C n ks ms ix sp := by
  obtain ⟨f, fd, ps, g, F, r⟩ := c.ex
  exact ⟨f, fd, ps, g, F.mono h, r⟩
def wMakeJ (C : Addr) (n m : Nat) (sp : SpW) (ms : List KC) (ix : List Nat) (t tk : TAW) : TEW := fun ρ S Q => t ρ S fun ws S1 => tk ρ S1 fun xs S2 => ws.length = n ∧ xs.length = m ∧ ∀ x, S2 x = none →
  sp (pickL ix (.ref x :: ws ++ ms.map KC.w ++ xs)) (put S2 x (.ins C [])) fun v S3 => v = .non ∧ Q (.ref x) S3
def tMakeJ (C : Addr) (n m : Nat) (sp : Sp) (ms : List KC) (ix : List Nat) (E : XK) (t tk : TA) : TE := tMakeK C n m sp (fun vs zs => pickL ix (vs ++ ms.map KC.v ++ zs)) E t tk
theorem k_makeJ (K : PySem.W.Frag) {X : Cx} {C : Addr} {k j n : Nat} {ks : List Str} {ms : List KC} {ix : List Nat} {x : Str} {sp : SpW} {p pos : Pos} {e : Expr} {es : List Expr} {kws : List Keyword} {t tk : TA} (c : CalJ X.prog X.w K X.mg X.base k C n ks ms ix sp) (hm : X.mg x = some (.ref C)) (hr : Room j X.A) (hk : k + 1 ≤ j) (hg : Gl X x) (ha : PA X (e :: es) t) (hkw : PK X kws tk)
    (hall : (backToKw pos (keywordEach kws X.env)).all (·.1.isSome) = true := by rfl) (hks : (backToKw pos (keywordEach kws X.env)).filterMap (·.1) = ks := by rfl) (hdb : (x == ("__debug__" : Str)) = false := by decide)
    (he : starEach (e :: es) X.env = (false, eval e X.env) :: starEach es X.env := by rfl) (hpl : ((backTo pos (starEach (e :: es) X.env)).any (·.1) || (backToKw pos (keywordEach kws X.env)).any (·.1.isNone)) = false := by rfl) (hK : X.K = K := by rfl) :
    PE X (.Call (.Name x p) (e :: es) kws pos) (tMakeJ C n ks.length (liftSp K sp) ms ix E0 t tk) := by
  subst hK
  obtain ⟨f, fd, ps, g, F, M, b⟩ := c.ex
  exact pe_makeK M F (hr.mono hk) hg hm b pass0 ha hkw hall hks hdb he hpl
instance le_makeJ {C : Addr} {n m : Nat} {ms : List KC} {ix : List Nat} {sp : SpW} {E : XK} {t tk : TA} {tw tkw : TAW} [a : LA K B t tw] [b : LA K B tk tkw] : LE K B (tMakeJ C n m (liftSp K sp) ms ix E t tk) (wMakeJ C n m sp ms ix tw tkw) := ⟨fun σ H ρ S Q Qw hs hh q po =>
  a.l σ H ρ S _ _ hs hh q fun xs H1 ws S1 t1 hh1 r1 q1 => b.l σ H1 ρ S1 _ _ (hs.tk t1) hh1 q1 fun zs H2 us S2 t2 hh2 r2 ⟨l1, l2, q2⟩ => ⟨by rw [r1.length]; exact l1, by rw [r2.length]; exact l2, fun x dx hx hdx ne => by
    have tD : Tk H2 (upd H2 dx (.own x)) := Tk.new hdx
    have hx2 : upd H2 dx (.own x) x = none := by rw [upd_ne (Ne.symm ne)]; exact hx
    have tX : Tk (upd H2 dx (.own x)) (upd (upd H2 dx (.own x)) x (.ins C dx [])) := Tk.new hx2
    have hh3 : HRep K (upd H2 dx (.own x)) S2 := hh2.laid hdx
    have hh4 : HRep K (upd (upd H2 dx (.own x)) x (.ins C dx [])) (put S2 x (.ins C [])) := hh3.new hx2 ⟨dx, [], upd_same, rfl⟩
    refine ⟨pickL ix (.ref x :: ws ++ ms.map KC.w ++ us), put S2 x (.ins C []), _, ?_, hh4, q2 x (hh2.fresh hx), ?_⟩
    · exact pickL_rep ix (RepL.append (RepL.append (.cons rfl (RepL.tk ((t2.trans tD).trans tX) _ _ r1)) (KC.reps ms)) (RepL.tk (tD.trans tX) _ _ r2))
    · rintro v H4 wv S4 t4 hh4 r4 ⟨e, q4⟩
      subst e
      exact ⟨r4, po.ref ((((t1.trans t2).trans tD).trans tX).trans t4) hh4 q4⟩⟩⟩
theorem calJ {C : Addr} {qual : Str} {st : Stmt} {N ps : List Str} {k : Nat} {sp : SpW} {kws : List (Str × KC)} (d : InitK K C qual st kws) (SC : FnScope N ps (defScope st))
    (len : ∀ ws S Q, sp ws S Q → ws.length = ps.length)
    (hbody : ∀ (f : Addr) (cdv : Value) (A : Around) (outer : List Env) (s : Shared) (H : Hp) (E : XK), Room k (A.deeper (envOfC qual (defScope st) s.heap.objs.size f cdv)) →
      ∃ t tw, PSs (cxOf CX0 P w K mg base N qual (defScope st) f cdv A outer s H E).nox (defBody st) t ∧ LS K H t tw ∧ ∀ ws S Q, sp ws S Q → tw { nx := fun _ S' => FgI Q .non S', rt := FgI Q } (startW N ws) S)
    (n : Nat) (ks : List Str) (ms : List (Str × KC)) (ix : List Nat) (hk : kws ≠ []) (hms : ∀ q ∈ ms, q ∈ kws)
    (h : ∀ (D : Addr) (doc pm : Value) (an : Option Addr) (cdv ct : Value) (us mv ws : List Value), us.length = n + 1 → mv.length = ms.length → ws.length = ks.length →
      KwChain D ((ms.map (·.1)).zip mv) (bindArgs (PySem.W.fnOf "__init__" qual (defArgs st) (defBody st) (defScope st) .none (.ref D) doc pm an cdv ct) ⟨us, ks.zip ws⟩) (ps.zip (pickL ix (us ++ mv ++ ws)))) :
    CalJ P w K mg base (k + 1) C n ks (ms.map (·.2)) ix sp := by
  obtain ⟨f, fd, F, hm⟩ := d.ex
  obtain ⟨mv, b⟩ := F.kbinds0 (ps := ps) (n + 1) ks (ms.map fun q => (q.1, q.2.v)) (fun us mv ws => pickL ix (us ++ mv ++ ws)) (fun e => hk (List.map_eq_nil_iff.mp e))
    (fun q hq => by
      obtain ⟨r, hr, rfl⟩ := List.mem_map.mp hq
      exact List.mem_map.mpr ⟨r, hms r hr, rfl⟩) (fun r1 r2 r3 => pickL_vals ix (Vals.append (Vals.append r1 r2) r3))
    (fun D doc pm an cdv ct us mv ws l1 l2 l3 => by
      have := h D doc pm an cdv ct us mv ws l1 (by rw [l2, List.length_map]) l3
      rw [List.map_map]
      exact this)
  refine ⟨f, fd, ps, (fun us ws => pickL ix (us ++ mv ++ ws)), fnM (fun_of' F) SC len hbody, hm, ?_⟩
  rw [List.map_map] at b
  rw [List.map_map]
  exact b
end
end Wl
set_option Elab.async false
set_option linter.all false
set_option maxRecDepth 100000
set_option maxHeartbeats 2000000
/-! list.clear over data. -/
namespace Wl
open PySem PySem.Spec PyProof.Rows L2
variable {K : PySem.W.Frag} {B : Hp}
def wClear : W → List W → Sto → WK → Prop := fun x ws S Q => match x, ws with
  | .ref l, [] => ∃ xs, S l = some (.lst xs) ∧ Q .non (put S l (.lst []))
  | _, _ => False
instance lm_clear : LMR K rClear wClear := ⟨fun H S x wx xs ws Q Qw hh rx r q po => by
  unfold wClear at q
  split at q
  · cases (show x = _ from rx)
    cases (show xs = [] from r)
    obtain ⟨zs, e, q⟩ := q
    obtain ⟨vs, h1, h2⟩ := hh _ _ e
    have t : Tk H (upd H _ (.lst [])) := Tk.mut h1 (fun _ z => (by cases z)) (fun _ _ z => (by cases z))
    obtain ⟨t, hm⟩ := hh.mut (c' := .lst []) (o := .lst []) e ⟨[], upd_same, .nil⟩
    exact ⟨_, vs, rfl, rfl, h1, po.non t hm q⟩
  · exact q.elim⟩
end Wl
set_option Elab.async false
set_option linter.all false
set_option maxRecDepth 100000
set_option maxHeartbeats 2000000
/-! enumerate(t), t a tuple, over data. -/
namespace Wl
open PySem PySem.Spec PyProof.Rows L2
variable {K : PySem.W.Frag} {B : Hp}
set_option maxHeartbeats 4000000 in
/-- enumerate(v), whatever v's iterator is -/
theorem en_new {v : Value} {ob : Obj} {Hh : Heap → Prop} (G : Begins v ob Hh) :
    Meets (Builtin.«enumerate.__new__» ⟨[.type "enumerate", v], []⟩) (fun _ R st => Hh st.heap ∧
      R (.ok (.ret (.ref (st.heap.push ob).objs.size))) { st with heap := (st.heap.push ob).push { cls := .type "enumerate", data := .fields #[.none, .bool false, .ref st.heap.objs.size, rawInt 0, .none, .none] } }) :=
  .of_wp fun P w A R st hst => by
    obtain ⟨hp, gl, dp, tk, os⟩ := st
    obtain ⟨hh, hr⟩ := hst
    have known := sub_enumerate
    have begun : ∀ {A' : Around} {E : Value → Shared → Prop} {Q : Value → Shared → Prop}, Q (.ref hp.objs.size) ⟨hp.push ob, gl, dp, tk, os⟩ → wpAny (model P w) A' (pyIter v) Q E ⟨hp, gl, dp, tk, os⟩ :=
      fun q => G.iter P w _ _ ⟨hp, gl, dp, tk, os⟩ _ hh q
    wp_walk using begun
    refine wpAny_stack_any (fun fr => wpAny_pure ?_)
    split
    · rename_i c _ _ _ _ _
      cases (c == Value.type "enumerate") <;> (wp_walk using begun; exact ⟨_, rfl, hr⟩)
    · (wp_walk using begun; exact ⟨_, rfl, hr⟩)
section
variable {P : Program} {w : World} {A : Around} {E : Value → Shared → Prop} {s : Shared}
theorem en_call {v : Value} {ob : Obj} {Hh : Heap → Prop} {Q : Value → Shared → Prop} (G : Begins v ob Hh) (hh : Hh s.heap)
    (fin : ∀ g, IsEnum g (s.heap.objs.size + 1) s.heap.objs.size 0 .none → g.get? s.heap.objs.size = some ob → g.objs.size = s.heap.objs.size + 2 → (∀ b o, s.heap.get? b = some o → g.get? b = some o) → Q (.ref (s.heap.objs.size + 1)) { s with heap := g }) :
    wpAny (model P w) A (call (.type "enumerate") [v]) Q E s := by
  refine callType_new F.called_enumerate (by decide) (F.typeCall_enumerate_1 _) (F.newCall_enumerate_1 _) (fun x => F.args_object_init_2 x _) F.entry_enumerate_new (en_new G) ⟨hh, ?_⟩
  have z1 : (s.heap.push ob).objs.size = s.heap.objs.size + 1 := Heap.size_push ..
  have z2 := Heap.get?_push_size (s.heap.push ob) (o := { cls := .type "enumerate", data := .fields #[.none, .bool false, .ref s.heap.objs.size, rawInt 0, .none, .none] }) rfl
  show _ ∧ _
  rw [z1] at z2 ⊢
  exact ⟨⟨_, z2, rfl⟩, fin _ z2 (Heap.get?_push_of_some _ (Heap.get?_push_size _ G.free)) (by rw [Heap.size_push, z1]) fun b o x => Heap.get?_push_of_some _ (Heap.get?_push_of_some _ x)⟩
end
/-- the tuple at a, each item in a new pair -/
def ItEn (K : PySem.W.Frag) (a : Addr) : It where
  go := fun i H => ∃ (xs : List V) (x : V), SqT K H a xs ∧ xs[i]? = some x
  yld := fun i H v H' => ∃ T x, v = .ref T ∧ H T = none ∧ H' = upd H T (.tup [.int (i : Nat), x]) ∧ ∀ xs, SqT K H a xs → xs[i]? = some x
  stop := fun i H => ∃ xs : List V, SqT K H a xs ∧ xs.length ≤ i
theorem turn_en {P : Program} {w : World} {K : PySem.W.Frag} {elts : List Expr} {kk : Nat} {tpos : Pos} (a e it : Addr) : Turn P w K (.Tuple elts kk tpos) (ItEn K a) [e, it] e (fun i h => (∃ old, IsEnum h e it (i : Nat) old) ∧ h.IsTupleIter it a i ∧ e ≠ it) where
  mem := by simp
  obj := by
    rintro i h ⟨⟨old, en⟩, ⟨o, ho, _, hd⟩, _⟩ b hb
    rcases (by simpa using hb : b = e ∨ b = it) with z | z <;> rw [z]
    · exact ⟨_, en, fun v q => nomatch q⟩
    · exact ⟨o, ho, fun v q => by rw [hd] at q; cases q⟩
  keep := by
    rintro i h h' ⟨⟨old, en⟩, ti, ne⟩ k
    exact ⟨⟨old, k e (by simp) _ en⟩, ti.at fun o q => k it (by simp) o q, ne⟩
  item := by
    intro X hP hw hK hc i pins s σ H E I hf st hg
    subst hP hw hK
    obtain ⟨⟨old, en⟩, ti, ne⟩ := st
    obtain ⟨xs, x, hq, hx⟩ := hg
    obtain ⟨its, rv, tp, _⟩ := I.tuple hq
    have tp : s.heap.IsTuple a its.toArray := tp
    obtain ⟨u, hu, ru⟩ := rv.get hx
    obtain ⟨o1, ho1, hc1, _⟩ := id tp
    obtain ⟨o2, ho2, hc2, _⟩ := id ti
    have cls_ne : ∀ {b : Addr} {o : Obj} {n : String}, s.heap.get? b = some o → o.cls = .type n → ("tuple" == n) = false → a ≠ b := fun {b o n} hb hn ht z => by
      rw [z, hb] at ho1
      rw [← Option.some.inj ho1, hn] at hc1
      rw [Value.type.inj hc1] at ht
      simp at ht
    have ae : a ≠ e := cls_ne en rfl (by decide)
    have ai : a ≠ it := cls_ne ho2 hc2 (by decide)
    have le : e < s.heap.objs.size := Heap.lt_size en
    have li : it < s.heap.objs.size := Heap.lt_size ho2
    have hlt : i < its.toArray.size := by
      have := (List.getElem?_eq_some_iff.mp hu).1
      simpa using this
    refine wpAny_pyNext_enum_itemD (Draws.tuple (show X.A.in1.handled = none from I.ok.hd hc) it a ai its.toArray) en ⟨ti, tp⟩ hlt ne (by simp [ne, Ne.symm ae]) fun y g tk hy ho ti2 hT hz hk => ?_
    have ey : y = u := by
      have hy : its.toArray[i]? = some y := hy
      rw [List.getElem?_toArray, hu] at hy
      exact (Option.some.inj hy).symm
    subst ey
    refine ⟨_, rfl, wpAny_letOwnedTupleGo_enum (s := { s with heap := g, toks := tk + 1 }) ho fun g2 en2 sb => ?_⟩
    have hT2 : g2.get? s.heap.objs.size = some { cls := .type "tuple", data := .seq #[.int i tk, y] } := (sb.2 _ (Nat.ne_of_gt le)).trans hT
    have made : ObjOk X.prog X.w (upd H s.heap.objs.size (.tup [.int (i : Nat), x])) g2 s.heap.objs.size (.tup [.int (i : Nat), x]) := ⟨by show 2 ≤ sizeLine; decide, [.int i tk, y], .cons ⟨_, rfl⟩ (.cons ru .nil), _, hT2, rfl, _, rfl⟩
    have I1 : Inv X pins σ (upd H s.heap.objs.size (.tup [.int (i : Nat), x])) { s with heap := g2, toks := tk + 1 } :=
      I.turnedNew (ch := [e, it]) (fun b ob hb q => (sb.2 b (fun z => hb (by simp [z]))).trans (hk b ob (fun z => hb (by simp [z])) (fun z => hb (by simp [z])) q)) hf (Nat.le_refl _) made
    refine ⟨.ref s.heap.objs.size, _, I1, rfl, ⟨_, x, rfl, I.hok.fresh (Nat.le_refl _), rfl, fun ys hy => by rw [I.tuple_inj hy hq]; exact hx⟩, ⟨⟨y, by rw [show ((i + 1 : Nat) : Int) = (i : Int) + 1 by omega]; exact en2⟩, ti2.1.at fun o q => (sb.2 it (Ne.symm ne)).trans q, ne⟩, fun b hb => ?_⟩
    have lb : b < s.heap.objs.size := by rcases (by simpa using hb : b = e ∨ b = it) with z | z <;> rw [z] <;> assumption
    rw [upd_ne (Nat.ne_of_lt lb)]
    exact (hf b hb).1
  done := by
    intro X hP hw hK hc i pins s σ H E I hf st hg
    subst hP hw hK
    obtain ⟨⟨old, en⟩, ti, ne⟩ := st
    obtain ⟨xs, hq, hx⟩ := hg
    obtain ⟨its, rv, tp, _⟩ := I.tuple hq
    have tp : s.heap.IsTuple a its.toArray := tp
    have none : its.toArray[i]? = none := by
      rw [List.getElem?_toArray]
      exact List.getElem?_eq_none (by rw [← rv.length]; exact hx)
    have D : Draws X.prog X.w X.A.in1 it [it, a] 0 (fun _ _ => False) (fun j h => h.IsTupleIter it a (i + j) ∧ h.IsTuple a its.toArray) := by
      refine ⟨fun j h q => ?_, fun j h h' q k => ⟨q.1.at fun o z => k it (by simp) o z, q.2.at fun o z => k a (by simp) o z⟩, fun j _ _ _ z => absurd z (Nat.not_lt_zero _), fun st Q' E' q hE => ?_⟩
      · obtain ⟨o, ho, _⟩ := q.1
        exact ⟨o, ho⟩
      · exact wpAny_nextOf_tuple_end (show X.A.in1.handled = _ from I.ok.hd hc) q.1 q.2 none hE
    obtain ⟨f0, f1, f2, f3, f4, f5⟩ := hf it (by simp)
    exact wpAny_pyNext_enum_endD D en ⟨ti, tp⟩ fun g eb => ⟨rfl, I.turned (t' := s.toks) (fun b o hb q => eb b o hb q) f0 f1 f3 f4 f5⟩
  self := fun A i s Q E ⟨⟨_, en⟩, _⟩ h => wpAny_pyIter_enum en h
def iEn (K : PySem.W.Frag) (ta : TA) : TI := fun σ H R => ta σ H fun vs H1 => ∃ a xs, vs = [.ref a] ∧ SqT K H1 a xs ∧ R (ItEn K a) H1
theorem k_enum (K : PySem.W.Frag) {X : Cx} {e : Expr} {ta : TA} {p pos tpos : Pos} {elts : List Expr} {kk : Nat} (hg : Gl X "enumerate") (hm : X.mg "enumerate" = none) (ha : PA X [e] ta) (hs : starEach [e] X.env = [(false, eval e X.env)] := by rfl) (hK : X.K = K := by rfl) :
    PI X (.Tuple elts kk tpos) (.Call (.Name "enumerate" p) [e] [] pos) (iEn K ta) := by
  subst hK
  refine ⟨fun pins s σ H R I h => Call_ (ld_blt I hg hm boot_enumerate (PyProof.Rows.callWith_type1 (thn (ha.run pos pins s σ H _ I h) fun us s1 ⟨vs, H1, I1, r1, a, xs, ex, hq, q⟩ => ?_) hs rfl))⟩
  subst ex
  cases r1 with
  | cons r rr =>
    cases rr
    cases r
    obtain ⟨its, rv, tp, _⟩ := I1.tuple hq
    have tp : s1.heap.IsTuple a its.toArray := tp
    refine en_call (begins_tuple a its.toArray) tp fun g en hi hz hk => wpAny_pyIter_enum en ?_
    have I2 : Inv X pins σ H1 { s1 with heap := g } := I1.kept (t' := s1.toks) hk
    refine ⟨s1.heap.objs.size + 1, [s1.heap.objs.size + 1, s1.heap.objs.size], _, _, H1, rfl, I2, turn_en a (s1.heap.objs.size + 1) s1.heap.objs.size, ⟨⟨.none, en⟩, ⟨_, hi, rfl, rfl⟩, Nat.succ_ne_self _⟩, fun b hb => ?_, q⟩
    have le : s1.heap.objs.size ≤ b := (by simpa using hb : b = s1.heap.objs.size + 1 ∨ b = s1.heap.objs.size).elim (fun z => z ▸ Nat.le_succ _) fun z => z ▸ Nat.le_refl _
    exact I1.fpOk le (I1.hok.fresh le)
/-- the items with their numbers -/
def enW (ws : List W) : List W := (List.range ws.length).map fun i => .tup [.int (i : Nat), (ws[i]?).getD .non]
theorem enW_at {ws : List W} {i : Nat} {w : W} (h : (enW ws)[i]? = some w) : ∃ x, ws[i]? = some x ∧ w = .tup [.int (i : Nat), x] := by
  unfold enW at h
  rw [List.getElem?_map] at h
  by_cases hi : i < ws.length
  · rw [List.getElem?_range hi] at h
    refine ⟨ws[i], List.getElem?_eq_getElem hi, ?_⟩
    have h : W.tup [.int (i : Nat), (ws[i]?).getD .non] = w := Option.some.inj h
    rw [List.getElem?_eq_getElem hi] at h
    exact h.symm
  · rw [List.getElem?_eq_none (by rw [List.length_range]; omega)] at h
    cases h
theorem enW_len (ws : List W) : (enW ws).length = ws.length := by unfold enW; rw [List.length_map, List.length_range]
theorem src_en {H1 : Hp} {a : Addr} {xs : List V} {ws : List W} (h : SqT K H1 a xs) (r : RepL K H1 ws xs) : IsSrc K H1 (ItEn K a) (enW ws) anyS where
  go := fun i H S t hh ok hi => by
    rw [enW_len] at hi
    exact ⟨xs, xs[i]'(by rw [r.length]; exact hi), t.sqt h, by simp [r.length, hi]⟩
  yld := fun i H S x H' t hh ok hi y => by
    rw [enW_len] at hi
    obtain ⟨T, z, rfl, hT, rfl, hz⟩ := y
    obtain ⟨w, ew, rw'⟩ := (RepL.tk t _ _ r).get' (hz xs (t.sqt h))
    have tn : Tk H (upd H T (.tup [.int (i : Nat), z])) := Tk.new hT
    refine ⟨tn, hh.laid hT, .tup [.int (i : Nat), w], ?_, ⟨T, _, rfl, SqT.of upd_same, RepL.tk tn _ _ (.cons rfl (.one rw'))⟩⟩
    unfold enW
    rw [List.getElem?_map, List.getElem?_range hi]
    show some (W.tup [.int (i : Nat), (ws[i]?).getD .non]) = _
    rw [ew]
    rfl
  stop := fun i H S t hh ok hi => by
    rw [enW_len] at hi
    exact ⟨xs, t.sqt h, by rw [r.length]; exact hi⟩
def wiEn (ta : TAW) : TIW := fun ρ S R => ta ρ S fun ws S1 => match ws with
  | [.tup ws] => R (enW ws) anyS S1
  | _ => False
instance li_en {t : TA} {tw : TAW} [a : LA K B t tw] : LI K B (iEn K t) (wiEn tw) := ⟨fun σ H ρ S R Rw hs hh q po => a.l σ H ρ S _ _ hs hh q fun xs H1 ws S1 t1 hh1 r1 q1 => by
  split at q1
  · obtain ⟨x, rfl, h1⟩ := rep1 r1
    obtain ⟨p, ys, rfl, h2, h3⟩ := h1
    exact ⟨_, ys, rfl, h2, po _ H1 S1 _ _ t1 hh1 (src_en h2 h3) q1⟩
  · exact q1.elim⟩
end Wl
set_option Elab.async false
set_option linter.all false
set_option maxRecDepth 100000
set_option maxHeartbeats 2000000
/-! yield from a list; comprehensions with two for; tuples of ints compared. -/
namespace Wl
open PySem PySem.Spec PyProof.Rows L2 GenW
variable {K : PySem.W.Frag} {B : Hp}
section
variable {P : Program} {w : World} {A : Around} {E : Value → Shared → Prop} {s : Shared} {it l : Addr} {i : Nat} {items : Array Value}
/-- the special method of a list's iterator, an item is left -/
theorem ln_item {x : Value} {Q : Option Value → Shared → Prop} (ho : s.heap.get? it = some (GNX.itObj l i)) (hl : s.heap.IsList l items) (hx : items[i]? = some x) (hQ : ∀ g, g.get? it = some (GNX.itObj l (i + 1)) → Heap.SameBut it s.heap g → Q (some x) { s with heap := g }) :
    wpAny (model P w) A (callSpecial? (.ref it) "__next__") Q E s := by
  have ty : s.heap.IsListIter it l i := ⟨_, ho, rfl, rfl⟩
  exact wpAny_callSpecial?_slot (name := Str.ofString "__next__") ty.typeIs slot_listiter_next (wpAny_call_entry slot_listiter_next ty.typeIs entry_listiter_next (GNX.next_item ho hl hx fun g e sb => hQ g e sb) (args_listiter_next _))
/-- nothing is left: the exception carries no value -/
theorem ln_end {Q : Option Value → Shared → Prop} (hh : A.handled = none) (ho : s.heap.get? it = some (GNX.itObj l i)) (hl : s.heap.IsList l items) (hx : items[i]? = none) (hE : ∀ e g, StopX e g → Heap.ExtBut it s.heap g → E e { s with heap := g }) :
    wpAny (model P w) A (callSpecial? (.ref it) "__next__") Q E s := by
  have ty : s.heap.IsListIter it l i := ⟨_, ho, rfl, rfl⟩
  refine wpAny_callSpecial?_slot (name := Str.ofString "__next__") ty.typeIs slot_listiter_next (wpAny_call_entry slot_listiter_next ty.typeIs entry_listiter_next ?_ (args_listiter_next _))
  obtain ⟨ol, hol, _, nl, dl⟩ := hl
  refine (show wpAny _ _ (field (.ref it) 0 >>= _) _ _ s from wpAny_bind (wpAny_field ho rfl (x := .ref l) rfl ?_))
  refine (show wpAny _ _ (if (Value.ref l == Value.none) = true then _ else _) _ _ s from ?_)
  rw [if_neg (show (Value.ref l == Value.none) ≠ true from fun z => nomatch z)]
  refine (show wpAny _ _ (field (.ref it) 1 >>= _) _ _ s from wpAny_bind (wpAny_field ho rfl (x := .int i 0) rfl ?_))
  refine (show wpAny _ _ (seqItems? (.ref l) >>= _) _ _ s from wpAny_bind (wpAny_seqItems hol dl ?_))
  simp only [hx, Int.toNat_natCast]
  refine wpAny_bind (wpAny_rule (wpAny_bind (wpAny_setField ho rfl (by simp [GNX.itObj]) ?_)))
  refine (show wpAny _ _ (newExc (.type "StopIteration") [] >>= _) _ _ _ from wpAny_bind ?_)
  simp only [newTuple, newExc]
  refine wpAny_bind (wpAny_newObj_type (wpAny_bind (m := firstArgMember _ _) (wpAny_of_eq (a := Value.none) (by first | rfl | (simp only [firstArgMember]; rfl)) (wpAny_newObj_type ?_ (by size_fits)))) (by size_fits))
  simp only [raiseNew]
  refine wpAny_bind (wpAny_handled ?_)
  have h1 : A.in1.handled = none := hh
  rw [h1]
  refine (show wpAny _ _ (throw _) _ _ _ from wpAny_throw (hE _ _ ⟨_, _, _, rfl, Heap.get?_push_size _ rfl, rfl, rfl, ?_⟩ (((Heap.SameBut.update ..).extBut.push _).push _)))
  first
    | rfl
    | (rw [Array.getElem?_append_left (by decide)]; rfl)
end
/-! ### yield from a list -/
def tYl (te : TE) : TYf := fun σ H Q => te σ H fun x H1 => ∃ a xs, x = .ref a ∧ H1 a = some (.lst xs) ∧ Q xs H1
theorem yf_l {X : Cx} {e : Expr} {te : TE} (he : PE X e te) : YfE X e (tYl te) := ⟨fun pins s σ H Q I h => thn (he.run pins s σ H _ I h) fun v s1 ⟨x, H1, I1, r1, a, xs, ex, ha, hq⟩ => by
  subst ex
  cases (show v = Value.ref a from r1)
  obtain ⟨its, rits, pl, _⟩ := I1.list (SqL.of ha)
  have hl : s1.heap.IsList a its.toArray := pl.isList
  have grow : ∀ b o, s1.heap.get? b = some o → (s1.heap.push (GNX.itObj a 0)).get? b = some o := fun b o z => Heap.get?_push_of_some _ z
  have lt : ∀ b o, s1.heap.get? b = some o → b ≠ s1.heap.objs.size := fun b o z => Nat.ne_of_lt (Heap.lt_size z)
  have ne : a ≠ s1.heap.objs.size := by
    obtain ⟨o, ho, _⟩ := id hl
    exact lt a o ho
  refine ⟨"list", hl.typeIs, by decide, wpAny_pyIter_list hl ⟨s1.heap.objs.size, H1, xs, fun j h => h.get? s1.heap.objs.size = some (GNX.itObj a j) ∧ h.IsList a its.toArray, rfl, I1.kept (t' := s1.toks) grow, .inr I1.sz, Nat.ne_of_gt I1.lt, ?_, I1.hok.fresh (Nat.le_refl _), fun p hp => lt p.1 _ (I1.pin p hp).1,
    ⟨Heap.get?_push_size _ rfl, hl.push _⟩, ⟨⟨"list_iterator", fun j h q => ⟨_, q.1, rfl⟩, by rw [typeLookup_type, builtinLookup_eq_fast]; kernel_rfl, by decide⟩, fun j h h' q hk => ?_, fun A' j x s2 Q' E' hA hx q hQ => ?_, fun A' s2 Q' E' hA q hE => ?_⟩, hq⟩⟩
  · intro y c hy
    obtain ⟨v, o, ho, _⟩ := I1.cell y c hy
    exact lt c o ho
  · obtain ⟨q1, o2, ho2, r2⟩ := q
    exact ⟨hk _ _ (.inl rfl) q1, o2, hk _ o2 (.inr (by rw [ha]; exact fun z => by cases z)) ho2, r2⟩
  · obtain ⟨u, hu, ru⟩ := rits.get hx
    exact ln_item q.1 q.2 (x := u) (by simpa using hu) fun g q1 hs => hQ u g s2.toks ru ⟨q1, q.2.extBut hs.extBut ne⟩ fun b o hb eb => hs.extBut b o hb eb
  · refine ln_end hA q.1 q.2 ?_ fun e g hS hk => hE e g s2.toks hS fun b o hb eb => hk b o hb eb
    rw [List.getElem?_toArray]
    exact List.getElem?_eq_none (Nat.le_of_eq rits.length.symm)⟩
def wGFrom (te : TEW) : TGnW := fun D ys ρ S => te ρ S fun x S1 => match x with
  | .ref a => ∃ ws, S1 a = some (.lst ws) ∧ ys.length + ws.length ≤ sizeLine ∧ D.nx (ys ++ ws) ρ S1
  | _ => False
instance lgn_from {te : TE} {we : TEW} [a : LE K B te we] : LGn K B (tGFrom (tYl te)) (wGFrom we) := ⟨fun ys ws σ H ρ S D Dw hy hs hh q po =>
  a.l σ H ρ S _ _ hs hh q fun x H1 wx S1 t1 hh1 r1 q1 => by
    split at q1
    · cases (show x = _ from r1)
      obtain ⟨ws', e, hz, q⟩ := q1
      obtain ⟨xs, h1, h2⟩ := hh1 _ _ e
      exact ⟨_, xs, rfl, h1, by rw [hy.length, h2.length]; exact hz, po.nx _ _ σ H1 ρ S1 t1 ((RepL.tk t1 _ _ hy).append h2) (hs.tk t1) hh1 q⟩
    · exact q1.elim⟩
/-! ### tuples of ints compared -/
def wLtT : RW2 := fun x y S Q => match x, y with
  | .tup xs, .tup ys => ∃ ns ms : List Int, xs = ns.map W.int ∧ ys = ms.map W.int ∧ Q (.bl (HT.lexLt ns ms)) S
  | _, _ => False
theorem k_ltT (K : PySem.W.Frag) {X : Cx} (hu : X.A.units + 64 < cLine) (hK : X.K = K := by rfl) : OpR X (compareOp .Lt) (rLtT K) := by subst hK; exact op_ltT (by omega)
instance l2_ltT : L2R K (rLtT K) wLtT := ⟨fun H S x y wx wy Q Qw hh rx ry q po => by
  unfold wLtT at q
  split at q
  · obtain ⟨a, xs, rfl, h1, h2⟩ := rx
    obtain ⟨b, ys, rfl, h3, h4⟩ := ry
    obtain ⟨ns, ms, rfl, rfl, q⟩ := q
    rw [h2.ints] at h1
    rw [h4.ints] at h3
    exact ⟨a, b, ns, ms, rfl, rfl, h1, h3, po.bl (Tk.refl H) hh q⟩
  · exact q.elim⟩
/-! ### comprehensions with two for -/
@[irreducible] def Lc2Q (g : TGW) (tt : TTW) (wi1 : TIW) (g1 : TGW) (tt1 : TTW) (te : TEW) (vs vs1 : List Nat) (ρ : StW) (Q : WK) (ws : List W) (ok : Sto → Prop) (S1 : Sto) : Prop := ∀ D, S1 D = none → ∃ P : Nat → List W → Sto → Prop, P 0 [] (put S1 D (.lst [])) ∧
  (∀ i acc S', P i acc S' → ok S') ∧
  (∀ i w acc S', ws[i]? = some w → P i acc S' → g w (wipeW ρ vs) S' fun ρ2 S2 => tt ρ2 S2 fun b S3 => (b = true → wi1 ρ2 S3 fun ws1 ok1 S4 => ∃ P1 : Nat → List W → Sto → Prop, P1 0 acc S4 ∧
    (∀ j acc1 S', P1 j acc1 S' → ok1 S') ∧
    (∀ j w1 acc1 S', ws1[j]? = some w1 → P1 j acc1 S' → g1 w1 (wipeW ρ2 vs1) S' fun ρ3 S5 => tt1 ρ3 S5 fun b1 S6 =>
      (b1 = true → te ρ3 S6 fun y S7 => S7 D = some (.lst acc1) ∧ acc1.length < sizeLine ∧ P1 (j + 1) (acc1 ++ [y]) (put S7 D (.lst (acc1 ++ [y])))) ∧ (b1 = false → P1 (j + 1) acc1 S6)) ∧
    ∀ acc1 S', P1 ws1.length acc1 S' → P (i + 1) acc1 S') ∧ (b = false → P (i + 1) acc S3)) ∧
  ∀ acc S', P ws.length acc S' → Q (.ref D) S'
def wLc2 (wi : TIW) (g : TGW) (tt : TTW) (wi1 : TIW) (g1 : TGW) (tt1 : TTW) (te : TEW) (vs vs1 : List Nat) : TEW := fun ρ S Q => wi ρ S fun ws ok S1 => Lc2Q g tt wi1 g1 tt1 te vs vs1 ρ Q ws ok S1
instance le_lc2 {wi wi1 : TI} {g g1 : TG} {tt tt1 : TT} {te : TE} {vs vs1 : List Nat} {ww ww1 : TIW} {gw gw1 : TGW} {tw tw1 : TTW} {ew : TEW} [h : LI K B wi ww] [b : LG K B g gw] [gg : GW g vs] [c : LT K B tt tw] [h1 : LI K B wi1 ww1] [b1 : LG K B g1 gw1] [gg1 : GW g1 vs1] [c1 : LT K B tt1 tw1] [a : LE K B te ew] :
    LE K B (tLc2 wi g tt wi1 g1 tt1 te vs vs1) (wLc2 ww gw tw ww1 gw1 tw1 ew vs vs1) := ⟨fun σ H ρ S Q Qw hs hh q po => by
  refine h.l σ H ρ S _ _ hs hh q fun J H1 S1 ws ok t1 hh1 src hD => fun D hDn => ?_
  unfold Lc2Q at hD
  obtain ⟨P, p0, pok, pst, pend⟩ := hD D (hh1.fresh hDn)
  have tD : Tk H1 (upd H1 D (.lst [])) := Tk.new hDn
  have hhD : HRep K (upd H1 D (.lst [])) (put S1 D (.lst [])) := hh1.new hDn ⟨[], upd_same, rfl⟩
  refine ⟨fun i m H' => m = ws.length - i ∧ i ≤ ws.length ∧ ∃ acc S', Tk H1 H' ∧ HRep K H' S' ∧ P i acc S', ⟨ws.length, by simp, Nat.zero_le _, [], _, tD, hhD, p0⟩, ?_⟩
  rintro i m H2 ⟨rfl, hi, acc, S2, t2, hh2, p2⟩
  by_cases hlt : i < ws.length
  · refine .inr ⟨src.go i H2 S2 t2 hh2 (pok _ _ _ p2) hlt, fun H' => ∃ acc S', Tk H1 H' ∧ HRep K H' S' ∧ P (i + 1) acc S', fun H' z => ⟨ws.length - (i + 1), by omega, rfl, hlt, z⟩, fun x H3 y => ?_⟩
    obtain ⟨t3, hh3, w, e, r⟩ := src.yld i H2 S2 x H3 t2 hh2 (pok _ _ _ p2) hlt y
    refine gg.l x σ H3 _ ?_
    have hs3 : SRep K B H3 (wipe σ vs) (wipeW ρ vs) := srep_wipe (hs.tk ((t1.trans t2).trans t3)) vs
    refine b.l x w (wipe σ vs) H3 (wipeW ρ vs) S2 _ _ r hs3 hh3 (pst i w acc S2 e p2) fun σ4 H4 ρ4 S4 t4 hs4 hh4 q4 => ?_
    refine c.l σ4 H4 ρ4 S4 _ _ hs4 hh4 q4 fun bb H5 S5 t5 hh5 q5 => ?_
    have t15 := ((t2.trans t3).trans t4).trans t5
    cases bb with
    | false =>
      rw [if_neg Bool.false_ne_true]
      exact ⟨acc, S5, t15, hh5, q5.2 rfl⟩
    | true =>
      rw [if_pos rfl]
      refine h1.l σ4 H5 ρ4 S5 _ _ (hs4.tk t5) hh5 (q5.1 rfl) fun J1 H6 S6 ws1 ok1 t6 hh6 src1 hP => ?_
      obtain ⟨P1, p10, p1ok, p1st, p1end⟩ := hP
      refine ⟨fun j k H' => k = ws1.length - j ∧ j ≤ ws1.length ∧ ∃ acc1 S', Tk H6 H' ∧ HRep K H' S' ∧ P1 j acc1 S', ⟨ws1.length, by simp, Nat.zero_le _, acc, S6, Tk.refl _, hh6, p10⟩, ?_⟩
      rintro j k H7 ⟨rfl, hj, acc1, S7, t7, hh7, p7⟩
      by_cases hjt : j < ws1.length
      · refine .inr ⟨src1.go j H7 S7 t7 hh7 (p1ok _ _ _ p7) hjt, fun H' => ∃ acc1 S', Tk H6 H' ∧ HRep K H' S' ∧ P1 (j + 1) acc1 S', fun H' z => ⟨ws1.length - (j + 1), by omega, rfl, hjt, z⟩, fun x1 H8 y1 => ?_⟩
        obtain ⟨t8, hh8, w1, e1, r1⟩ := src1.yld j H7 S7 x1 H8 t7 hh7 (p1ok _ _ _ p7) hjt y1
        refine gg1.l x1 σ4 H8 _ ?_
        have hs8 : SRep K B H8 (wipe σ4 vs1) (wipeW ρ4 vs1) := srep_wipe (hs4.tk (((t5.trans t6).trans t7).trans t8)) vs1
        refine b1.l x1 w1 (wipe σ4 vs1) H8 (wipeW ρ4 vs1) S7 _ _ r1 hs8 hh8 (p1st j w1 acc1 S7 e1 p7) fun σ9 H9 ρ9 S9 t9 hs9 hh9 q9 => ?_
        refine c1.l σ9 H9 ρ9 S9 _ _ hs9 hh9 q9 fun b2 H10 S10 t10 hh10 q10 => ?_
        have t710 := ((t7.trans t8).trans t9).trans t10
        cases b2 with
        | false =>
          rw [if_neg Bool.false_ne_true]
          exact ⟨acc1, S10, t710, hh10, q10.2 rfl⟩
        | true =>
          rw [if_pos rfl]
          refine a.l σ9 H10 ρ9 S10 _ _ (hs9.tk t10) hh10 (q10.1 rfl) fun z H11 wz S11 t11 hh11 r11 ⟨eD, hl, q11⟩ => ?_
          obtain ⟨vs', k1, k2⟩ := hh11 _ _ eD
          have t : Tk H11 (upd H11 D (.lst (vs' ++ [z]))) := Tk.mut k1 (fun _ z => (by cases z)) (fun _ _ z => (by cases z))
          obtain ⟨t, hm⟩ := hh11.mut (c' := .lst (acc1 ++ [wz])) (o := .lst (vs' ++ [z])) eD ⟨_, upd_same, (RepL.tk t _ _ k2).append (.one (Rep.tk t _ _ r11))⟩
          exact ⟨vs', k1, by rw [k2.length]; exact hl, _, _, (t710.trans t11).trans t, hm, q11⟩
      · have e : j = ws1.length := by omega
        subst e
        exact .inl ⟨src1.stop _ H7 S7 t7 hh7 (p1ok _ _ _ p7) (Nat.le_refl _), acc1, S7, (t15.trans t6).trans t7, hh7, p1end _ _ p7⟩
  · have e : i = ws.length := by omega
    subst e
    exact .inl ⟨src.stop _ H2 S2 t2 hh2 (pok _ _ _ p2) (Nat.le_refl _), po.ref (t1.trans t2) hh2 (pend _ _ p2)⟩⟩
theorem lc2_q {g : TGW} {tt : TTW} {wi1 : TIW} {g1 : TGW} {tt1 : TTW} {te : TEW} {vs vs1 : List Nat} {ρ : StW} {Q : WK} {ws : List W} {ok : Sto → Prop} {S1 : Sto} (h : ∀ D, S1 D = none → ∃ P : Nat → List W → Sto → Prop, P 0 [] (put S1 D (.lst [])) ∧
  (∀ i acc S', P i acc S' → ok S') ∧
  (∀ i w acc S', ws[i]? = some w → P i acc S' → g w (wipeW ρ vs) S' fun ρ2 S2 => tt ρ2 S2 fun b S3 => (b = true → wi1 ρ2 S3 fun ws1 ok1 S4 => ∃ P1 : Nat → List W → Sto → Prop, P1 0 acc S4 ∧
    (∀ j acc1 S', P1 j acc1 S' → ok1 S') ∧
    (∀ j w1 acc1 S', ws1[j]? = some w1 → P1 j acc1 S' → g1 w1 (wipeW ρ2 vs1) S' fun ρ3 S5 => tt1 ρ3 S5 fun b1 S6 =>
      (b1 = true → te ρ3 S6 fun y S7 => S7 D = some (.lst acc1) ∧ acc1.length < sizeLine ∧ P1 (j + 1) (acc1 ++ [y]) (put S7 D (.lst (acc1 ++ [y])))) ∧ (b1 = false → P1 (j + 1) acc1 S6)) ∧
    ∀ acc1 S', P1 ws1.length acc1 S' → P (i + 1) acc1 S') ∧ (b = false → P (i + 1) acc S3)) ∧
  ∀ acc S', P ws.length acc S' → Q (.ref D) S') : Lc2Q g tt wi1 g1 tt1 te vs vs1 ρ Q ws ok S1 := by unfold Lc2Q; exact h
end Wl
set_option Elab.async false
set_option linter.all false
set_option maxRecDepth 100000
set_option maxHeartbeats 2000000
/-! dict(d), list(d) over data. -/
namespace Wl
open PySem PySem.Spec PyProof.Rows L2
variable {K : PySem.W.Frag} {B : Hp} {w : World}
/-- a written dict of the module, in its order -/
structure DcAt (K : PySem.W.Frag) (w : World) (a : Addr) (kvs : List (Str × W)) : Prop where
  ex : ∃ es n, KDict K w a es n ∧ DkEs K kvs es.toList
  nd : (kvs.map (·.1)).Nodup
  sz : kvs.length ≤ sizeLine
theorem dcAt_of {a : Addr} {kvs : List (Str × W)} {es : Array DictEntry} {n : Nat} (hl : K.lookup a = some ⟨.type "dict", none, .dict es n, #[]⟩) (hk : PySem.W.KeysLit w.params es.toList) (low : (a == sysModules) = false) (h : DkEs K kvs es.toList) (nd : (kvs.map (·.1)).Nodup) (sz : kvs.length ≤ sizeLine) : DcAt K w a kvs :=
  ⟨⟨es, n, ⟨hl, hk, low⟩, h⟩, nd, sz⟩
def skW (kvs : List (Str × W)) : List (Key × W) := kvs.map fun kv => (.inr kv.1, kv.2)
/-- a dict of the module whose entries are told by xs -/
structure CpAt (K : PySem.W.Frag) (w : World) (a : Addr) (xs : List (Key × V)) : Prop where
  low : (a == sysModules) = false
  sz : xs.length ≤ sizeLine
  at_ : ∀ (P : Program) (h : Heap), K.In h → ∃ vs, KV xs vs ∧ h.DictOf (mixKind P w) a vs
theorem DkEs.told {kvs : List (Str × W)} {es : List DictEntry} (h : DkEs K kvs es) : ∃ (xs : List (Key × V)) (vs : List (Key × Value)), KV xs vs ∧ (∀ P : Program, Pairs (mixKind P w) es vs) ∧ xs.length = kvs.length ∧ vs.map (·.1) = kvs.map (fun kv => (Sum.inr kv.1 : Key)) ∧ ∀ H, RepKV K H (skW kvs) xs := by
  induction h with
  | nil => exact ⟨[], [], .nil, fun _ => .nil, rfl, rfl, fun _ => rfl⟩
  | @cons k wd t hh u kvs es e h1 h2 h3 h4 h5 ih =>
    obtain ⟨xs, vs, r1, r2, r3, r4, r5⟩ := ih
    obtain ⟨v, hv, rv⟩ := h4
    refine ⟨(.inr k, v) :: xs, (.inr k, u) :: vs, .cons ⟨rfl, hv⟩ r1, fun P => .cons ?_ h2 (r2 P), by rw [List.length_cons, r3, List.length_cons], by rw [List.map_cons, r4]; rfl, fun H => ⟨v, xs, rfl, rv H, r5 H⟩⟩
    rw [h1]
    show Value.isStrOf k (.str k t) = true
    exact decide_eq_true rfl
theorem DcAt.cp {a : Addr} {kvs : List (Str × W)} (d : DcAt K w a kvs) : ∃ xs : List (Key × V), CpAt K w a xs ∧ ∀ H, RepKV K H (skW kvs) xs := by
  obtain ⟨es, n, D, E⟩ := d.ex
  obtain ⟨xs, vs, r1, r2, r3, r4, r5⟩ := E.told (w := w)
  refine ⟨xs, ⟨D.low, by rw [r3]; exact d.sz, fun P h hK => ⟨vs, r1, _, es, n, hK _ _ D.at_, ⟨rfl, rfl, rfl⟩, rfl, fun e he => ?_, r2 P, ?_⟩⟩, r5⟩
  · obtain ⟨x, t, e1, e2⟩ := D.lit.all e (Array.mem_toList_iff.mpr he)
    refine ⟨.inr x, ?_, e2⟩
    rw [e1]
    show Value.isStrOf x (.str x t) = true
    exact decide_eq_true rfl
  · rw [r4]
    have e : kvs.map (fun kv => (Sum.inr kv.1 : Key)) = (kvs.map (·.1)).map Sum.inr := by rw [List.map_map]; rfl
    rw [e]
    exact d.nd.map _ fun a b h q => h (Sum.inr.inj q)
def rDictA (K : PySem.W.Frag) (w : World) : List V → Hp → VK → Prop := fun xs H Q => ∃ (a : Addr) (kvs : List (Key × V)), xs = [.ref a] ∧ (Rd H a (.dK kvs) ∨ CpAt K w a kvs) ∧ ∀ p, H p = none → Q (.ref p) (upd H p (.dK kvs))
theorem k_dictA (K : PySem.W.Frag) (w : World) {X : Cx} (hK : X.K = K := by rfl) (hw : X.w = w := by rfl) : CallR X (.type "dict") (rDictA K w) := by
  subst hK hw
  intro pins s σ H vs us Q I r h
  obtain ⟨a, kvs, rfl, hd, q⟩ := h
  rw [Vals.ref1 r]
  rcases hd with hd | hd
  · exact d_copyOf I hd fun p s' hp I' => ⟨.ref p, _, I', rfl, q p hp⟩
  · obtain ⟨vs, rel, dd⟩ := hd.at_ X.prog s.heap I.kIn
    refine kt_call_dict hd.low dd (by rw [← rel.length]; exact hd.sz) fun g dd' hs => ⟨.ref s.heap.objs.size, _, I.laid (a := s.heap.objs.size) (o := .dK kvs) (t' := s.toks) (fun b z hz => (hs.2 b (Nat.ne_of_lt (Heap.lt_size hz))).trans (Heap.get?_push_of_some _ hz)) (Nat.le_refl _) (dk_new hd.sz (beq_eq_false_iff_ne.mpr (Ne.symm (Nat.ne_of_lt I.big))) rel dd'), rfl, q _ (I.hok.fresh (Nat.le_refl _))⟩
def wDictA (K : PySem.W.Frag) (w : World) : RWC := fun ws S Q => match ws with
  | [.ref a] => (∃ kvs, S a = some (.dk kvs) ∧ ∀ p, S p = none → Q (.ref p) (put S p (.dk kvs))) ∨ ∃ ks, DcAt K w a ks ∧ ∀ p, S p = none → Q (.ref p) (put S p (.dk (skW ks)))
  | _ => False
instance lc_dictA : LCR K (rDictA K w) (wDictA K w) := ⟨fun H S xs ws Q Qw hh r q po => by
  unfold wDictA at q
  split at q
  · obtain ⟨x, rfl, rx⟩ := rep1 r
    cases (show x = _ from rx)
    rcases q with ⟨kvs, e, q⟩ | ⟨ks, d, q⟩
    · obtain ⟨ys, h1, h2⟩ := hh _ _ e
      exact ⟨_, ys, rfl, .inl (Rd.of h1), fun p hp => po.ref (Tk.new hp) (hh.new (c := .dk kvs) hp ⟨ys, upd_same, RepKV.tk (Tk.new hp) _ _ h2⟩) (q p (hh.fresh hp))⟩
    · obtain ⟨ys, c, h2⟩ := d.cp
      exact ⟨_, ys, rfl, .inr c, fun p hp => po.ref (Tk.new hp) (hh.new (c := .dk (skW ks)) hp ⟨ys, upd_same, h2 _⟩) (q p (hh.fresh hp))⟩
  · exact q.elim⟩
/-! ### list(d) -/
def rListB (K : PySem.W.Frag) : List V → Hp → VK → Prop := fun xs H Q => rListA K xs H Q ∨ ∃ p kvs, xs = [.ref p] ∧ H p = some (.dK kvs) ∧ ∀ q, H q = none → Q (.ref q) (upd H q (.lst (kvs.map fun kv => kV kv.1)))
theorem k_listB (K : PySem.W.Frag) {X : Cx} (hc : X.calm = true) (hK : X.K = K := by rfl) : CallR X (.type "list") (rListB K) := by
  subst hK
  intro pins s σ H vs us Q I r h
  rcases h with h | h
  · exact call_list_of pins s σ H vs us Q I r h
  · exact call_list_dK hc pins s σ H vs us Q I r h
def wListB : RWC := fun ws S Q => match ws with
  | [.ref a] => (∃ ws, S a = some (.lst ws) ∧ ∀ p, S p = none → Q (.ref p) (put S p (.lst ws))) ∨ ∃ kvs, S a = some (.dk kvs) ∧ ∀ p, S p = none → Q (.ref p) (put S p (.lst (kvs.map fun kv => keyW kv.1)))
  | ws => wList ws S Q
theorem keys_rep {H : Hp} : ∀ {kvs : List (Key × W)} {ys : List (Key × V)}, RepKV K H kvs ys → RepL K H (kvs.map fun kv => keyW kv.1) (ys.map fun kv => kV kv.1)
  | [], _, rfl => .nil
  | (.inl k, x) :: kvs, _, ⟨v, r, rfl, _, h⟩ => .cons rfl (keys_rep h)
  | (.inr k, x) :: kvs, _, ⟨v, r, rfl, _, h⟩ => .cons rfl (keys_rep h)
instance lc_listB : LCR K (rListB K) wListB := ⟨fun H S xs ws Q Qw hh r q po => by
  unfold wListB at q
  split at q
  · rcases q with q | ⟨kvs, e, q⟩
    · exact .inl (lc_list.l H S xs _ Q Qw hh r (by unfold wList; exact q) po)
    · obtain ⟨x, rfl, rx⟩ := rep1 r
      cases (show x = _ from rx)
      obtain ⟨ys, h1, h2⟩ := hh _ _ e
      exact .inr ⟨_, ys, rfl, h1, fun p hp => po.nlst hp hh (keys_rep h2) q⟩
  · exact .inl (lc_list.l H S xs _ Q Qw hh r q po)⟩
end Wl
set_option Elab.async false
set_option linter.all false
set_option maxRecDepth 100000
set_option maxHeartbeats 4000000
set_option synthInstance.maxHeartbeats 4000000
set_option synthInstance.maxSize 100000
namespace K13
open PySem PySem.Spec PyProof.Rows L2 Wl
/-! ### the text -/
def topS (i : Nat) : Stmt := PySem.Challenge.pw_stylepages_k13_computed_values.main.body.getD i (.Pass ⟨0, 0, 0, 0⟩)
abbrev s_initial_values : Stmt := topS 5
theorem sc_initial_values : FnScope [] [] (defScope s_initial_values) := ⟨rfl, rfl, rfl, by decide +kernel, rfl, by decide +kernel, by decide +kernel⟩
abbrev s_value_of : Stmt := topS 6
theorem sc_value_of : FnScope ["name", "declared", "parent", "size", "low", "high"] ["name", "declared", "parent", "size"] (defScope s_value_of) := ⟨rfl, rfl, rfl, by decide +kernel, rfl, by decide +kernel, by decide +kernel⟩
abbrev s_computed : Stmt := topS 7
theorem sc_computed : FnScope ["parent", "declared", "values", "name", "size"] ["parent", "declared"] (defScope s_computed) := ⟨rfl, rfl, rfl, by decide +kernel, rfl, by decide +kernel, by decide +kernel⟩
abbrev s__law_pool : Stmt := topS 9
theorem sc__law_pool : FnScope ["_law_script", "_law_at", "_law_cell"] ["_law_script", "_law_at"] (defScope s__law_pool) := ⟨rfl, rfl, rfl, by decide +kernel, rfl, by decide +kernel, by decide +kernel⟩
abbrev s__law_take : Stmt := topS 10
theorem sc__law_take : FnScope ["_law_pool_here", "_law_many", "_law_got", "_law_one", "_law_two"] ["_law_pool_here", "_law_many"] (defScope s__law_take) := ⟨rfl, rfl, rfl, by decide +kernel, rfl, by decide +kernel, by decide +kernel⟩
abbrev s__law_same : Stmt := topS 11
theorem sc__law_same : FnScope ["_law_one", "_law_two", "_law_both", "_law_k"] ["_law_one", "_law_two"] (defScope s__law_same) := ⟨rfl, rfl, rfl, by decide +kernel, rfl, by decide +kernel, by decide +kernel⟩
abbrev s__law_properties : Stmt := topS 12
theorem sc__law_properties : FnScope [] [] (defScope s__law_properties) := ⟨rfl, rfl, rfl, by decide +kernel, rfl, by decide +kernel, by decide +kernel⟩
abbrev s__law_initial : Stmt := topS 13
theorem sc__law_initial : FnScope [] [] (defScope s__law_initial) := ⟨rfl, rfl, rfl, by decide +kernel, rfl, by decide +kernel, by decide +kernel⟩
abbrev s__law_value : Stmt := topS 14
theorem sc__law_value : FnScope ["_law_pool_here", "_law_name", "_law_words", "_law_sort", "_law_row", "_law_one"] ["_law_pool_here", "_law_name"] (defScope s__law_value) := ⟨rfl, rfl, rfl, by decide +kernel, rfl, by decide +kernel, by decide +kernel⟩
abbrev s__law_parent : Stmt := topS 15
theorem sc__law_parent : FnScope ["_law_pool_here", "_law_values", "_law_name"] ["_law_pool_here"] (defScope s__law_parent) := ⟨rfl, rfl, rfl, by decide +kernel, rfl, by decide +kernel, by decide +kernel⟩
abbrev s__law_declared_values : Stmt := topS 16
theorem sc__law_declared_values : FnScope ["_law_pool_here", "_law_rows", "_law_name", "_law_declared", "_law_k", "_law_value_here"] ["_law_pool_here"] (defScope s__law_declared_values) := ⟨rfl, rfl, rfl, by decide +kernel, rfl, by decide +kernel, by decide +kernel⟩
abbrev s__law_share : Stmt := topS 17
theorem sc__law_share : FnScope ["_law_value_here", "_law_base", "_law_ratio", "_law_lowest", "_law_highest", "_law_not_above", "_law_not_below"] ["_law_value_here", "_law_base", "_law_ratio", "_law_lowest", "_law_highest"] (defScope s__law_share) := ⟨rfl, rfl, rfl, by decide +kernel, rfl, by decide +kernel, by decide +kernel⟩
abbrev s__law_value_right : Stmt := topS 18
theorem sc__law_value_right : FnScope ["_law_name", "_law_value_here", "_law_parent_here", "_law_declared", "_law_own", "_law_told"] ["_law_name", "_law_value_here", "_law_parent_here", "_law_declared", "_law_own"] (defScope s__law_value_right) := ⟨rfl, rfl, rfl, by decide +kernel, rfl, by decide +kernel, by decide +kernel⟩
abbrev s__law_right : Stmt := topS 19
theorem sc__law_right : FnScope ["_law_got", "_law_parent_here", "_law_declared", "_law_name"] ["_law_got", "_law_parent_here", "_law_declared"] (defScope s__law_right) := ⟨rfl, rfl, rfl, by decide +kernel, rfl, by decide +kernel, by decide +kernel⟩
abbrev s_law : Stmt := topS 20
theorem sc_law : FnScope ["_law_script", "_law_parent_here", "_law_declared", "_law_begin", "_law_passed", "_law_passed_declared", "_law_got", "_law_again"] ["_law_script"] (defScope s_law) := ⟨rfl, rfl, rfl, by decide +kernel, rfl, by decide +kernel, by decide +kernel⟩
structure Cls where
  D_INITIAL : Addr
  D_RANGES : Addr
structure Txt (K : PySem.W.Frag) (mg : Str → Option Value) (ec : Cls) (w : World) : Prop where
  b_abs : mg "abs" = none
  b_bool : mg "bool" = none
  b_dict : mg "dict" = none
  b_int : mg "int" = none
  b_isinstance : mg "isinstance" = none
  b_len : mg "len" = none
  b_list : mg "list" = none
  b_max : mg "max" = none
  b_min : mg "min" = none
  b_range : mg "range" = none
  b_str : mg "str" = none
  b_tuple : mg "tuple" = none
  m_INHERITED : ConstAt K mg "INHERITED" (.tup [(.str "size"), (.str "lead"), (.str "face"), (.str "align"), (.str "least")])
  m_INITIAL : ConstAt K mg "INITIAL" (.ref ec.D_INITIAL)
  dk_INITIAL : DkAt K w ec.D_INITIAL [("size", (.int (2))), ("lead", (.int (12))), ("face", (.str "plain")), ("align", (.str "both")), ("least", (.int (1))), ("place", (.str "line")), ("keep", (.str "no")), ("indent", (.int (0))), ("above", (.int (0))), ("below", (.int (0)))]
  dc_INITIAL : DcAt K w ec.D_INITIAL [("size", (.int (2))), ("lead", (.int (12))), ("face", (.str "plain")), ("align", (.str "both")), ("least", (.int (1))), ("place", (.str "line")), ("keep", (.str "no")), ("indent", (.int (0))), ("above", (.int (0))), ("below", (.int (0)))]
  m_PROPERTIES : ConstAt K mg "PROPERTIES" (.tup [(.str "size"), (.str "lead"), (.str "face"), (.str "align"), (.str "least"), (.str "place"), (.str "keep"), (.str "indent"), (.str "above"), (.str "below")])
  m_RANGES : ConstAt K mg "RANGES" (.ref ec.D_RANGES)
  dk_RANGES : DkAt K w ec.D_RANGES [("size", (.tup [(.int (1)), (.int (12))])), ("lead", (.tup [(.int (1)), (.int (99))])), ("least", (.tup [(.int (1)), (.int (4))])), ("indent", (.tup [(.int (0)), (.int (99))])), ("above", (.tup [(.int (0)), (.int (99))])), ("below", (.tup [(.int (0)), (.int (99))]))]
local macro_rules | `(tactic| walk_at "w") => `(tactic| (conv => whnf))
/-! what a store holds -/
local macro_rules | `(tactic| walk_at "ne") => `(tactic| first | assumption | (apply Ne.symm; assumption) | exact ne_free (by assumption) (by assumption) | exact (ne_free (by assumption) (by assumption)).symm | exact Pl.ne (by assumption) (by assumption) | exact (Pl.ne (by assumption) (by assumption)).symm)
local macro_rules | `(tactic| walk_at "s") => `(tactic| first
  | exact put_same
  | assumption
  | (refine (put_ne ?_).trans ?_; (· walk_at "ne"); (· walk_at "s")))
/-! a side condition -/
local macro_rules | `(tactic| walk_at "c") => `(tactic| first
  | exact Or.inl (Or.inl ⟨by omega, by omega⟩)
  | exact Or.inl (Or.inr ⟨by omega, by omega⟩)
  | exact Or.inl ⟨by omega, by omega⟩
  | exact Or.inl ⟨rfl, _, by walk_at "s"⟩
  | rfl
  | omega
  | decide
  | exact Nat.le_trans (by omega) sizeLine_ge)
/-! one question is answered, if the answer is plain -/
local macro_rules | `(tactic| walk_at "g1") => `(tactic| first
  | refine ⟨fun _ => ?_, fun h => absurd (show true = false from h) (by decide)⟩
  | refine ⟨fun h => absurd (show false = true from h) Bool.false_ne_true, fun _ => ?_⟩
  | refine ⟨_, by walk_at "s", ?_⟩
  | refine ⟨_, _, by walk_at "s", by walk_at "s", ?_⟩
  | refine ⟨_, by walk_at "s", by simpa using (by omega), ?_⟩
  | refine ⟨_, rfl, ?_⟩
  | refine ⟨_, _, rfl, (by first | exact isTy_tt | exact isTy_ii | exact isTy_ll | exact isTy_ss | exact isTy_ib | exact isTy_tb | exact isTy_ti | exact isTy_ts | exact isTy_tl | exact isTy_lb | exact isTy_li | exact isTy_ls | exact isTy_lt | exact isTy_sb | exact isTy_si | exact isTy_st | exact isTy_sl | exact isTy_is | exact isTy_it | exact isTy_il | exact isTy_bi | exact isTy_bs | exact isTy_bb | exact isTy_nb | exact isTy_ni | exact isTy_ns | exact isTy_nt | exact isTy_nl | exact isTy_bt | exact isTy_bl | exact isTy_nd | exact isTy_td | exact isTy_ld | exact isTy_sd | exact isTy_id | exact isTy_bd | exact isTy_dd | exact isTy_db | exact isTy_di | exact isTy_ds | exact isTy_dt | exact isTy_dl), ?_⟩
  | refine ⟨_, _, tyName_lst (by walk_at "s"), (by first | exact isTy_ll | exact isTy_lb | exact isTy_li | exact isTy_ls | exact isTy_lt), ?_⟩
  | refine if_q ?_
  | refine ⟨by walk_at "c", ?_⟩)
local macro_rules | `(tactic| walk_at "go") => `(tactic| (walk_at "w"; repeat (walk_at "g1"; walk_at "w")))
/-! a branch that cannot be -/
local macro_rules | `(tactic| walk_at "two") => `(tactic| refine ⟨fun h => ?_, fun h => ?_⟩)
section
variable {P : Program} {w : World} {K : PySem.W.Frag} {mg : Str → Option Value} {base : Heap} {ec : Cls}
theorem ok__law_take (T : Txt K mg ec w) (d : DefAt K mg "_law_take" s__law_take ["_law_pool_here", "_law_many"]) : CalW P w K mg base 1 "_law_take" spTk :=
  calDI d sc__law_take (fun ws S Q ⟨p, N, many, e, _⟩ => by rw [e]; rfl) fun f cdv A outer s H E hr => ⟨_, _,
    (pss_cons (ps_asg (pe_op (k_addB K) (pe_ix (k_ix K) (pv 0) pe_int (fun _ _ => rfl)) pe_int) (pg_sub (pv 0) pe_int set_list))
      (pss_cons (ps_if (PW.pt (pw_and (pt_cmpR (k_eq K hr.units) (pe_ix (k_ix K) (pv 0) pe_int (fun _ _ => rfl)) pe_int (nomark _)) (pw_and1 (pt_cmpR op_gtA (pe_ix (k_ix K) (pv 0) pe_int (fun _ _ => rfl)) pe_int (nomark _)))))
       (pss_cons (ps_set (i := 2) sc__law_take.nd rfl (Or.inl rfl) (pe_op op_mod (pe_callTy call_int1 (by rfl) T.b_int (by decide +kernel) (pa_cons (pe_ix (k_ix K) (pv 0) pe_int (fun _ _ => rfl)) pa_nil)) (pv 1)))
       (pss_cons (ps_asg (pe_op op_fdivA (pe_ix (k_ix K) (pv 0) pe_int (fun _ _ => rfl)) (pv 1)) (pg_sub (pv 0) pe_int set_list))
       (pss_one (ps_ret (pv 2)))))
       pss_nil)
      (pss_cons (ps_set (i := 3) sc__law_take.nd rfl (Or.inl rfl) (pe_op op_mod (pe_callTy call_int1 (by rfl) T.b_int (by decide +kernel) (pa_cons (pe_op (k_addB K) (pe_op (k_addB K) (pe_op op_mulA (pe_ix (k_ix K) (pv 0) pe_int (fun _ _ => rfl)) pe_int) (pe_op op_mulA (pe_ix (k_ix K) (pv 0) pe_int (fun _ _ => rfl)) pe_int)) pe_int) pa_nil)) pe_int))
      (pss_cons (ps_set (i := 4) sc__law_take.nd rfl (Or.inl rfl) (pe_op op_mod (pe_callTy call_int1 (by rfl) T.b_int (by decide +kernel) (pa_cons (pe_op (k_addB K) (pe_op (k_addB K) (pe_op op_mulA (pv 3) pe_int) (pe_op op_fdivA (pv 3) pe_int)) (pe_op op_mulA (pe_op op_mulA (pe_ix (k_ix K) (pv 0) pe_int (fun _ _ => rfl)) (pe_ix (k_ix K) (pv 0) pe_int (fun _ _ => rfl))) pe_int)) pa_nil)) pe_int))
      (pss_one (ps_ret (pe_op op_mod (pe_callTy call_int1 (by rfl) T.b_int (by decide +kernel) (pa_cons (pe_op op_fdivA (pv 4) (pe_op (k_addB K) (pe_ix (k_ix K) (pv 0) pe_int (fun _ _ => rfl)) pe_int)) pa_nil)) (pv 1)))))))), inferInstance, by
    rintro ws S Q ⟨p, N, many, rfl, ⟨c, n, b, sd, hp, c0, n0, n1, s0, s1⟩, hN, hm, hm2, q⟩
    have ok' : ∀ c' b', 0 ≤ c' → Pl (put S p (.lst (poolL c' (n + 1) b' sd))) p (N + 1) := fun c' b' h => ⟨c', n + 1, b', sd, put_same, h, by omega, by omega, s0, s1⟩
    have off : ∀ c', OffL [p] S (put S p c') := fun c' a ha => put_ne (fun e => ha (by rw [e]; exact List.mem_singleton.mpr rfl))
    have dv : CDivA c many := .inr (wide_div hm (b := 64) (by omega) (by decide) (by decide))
    walk_at "w"
    refine ⟨_, hp, ?_⟩
    walk_at "w"
    refine ⟨_, 1, hp, rfl, ?_⟩
    walk_at "w"
    refine if_q ?_
    walk_at "w"
    refine ⟨_, put_same, ?_⟩
    walk_at "w"
    refine ⟨fun h => ?_, fun h => ?_⟩
    · walk_at "w"
      refine ⟨_, put_same, ?_⟩
      walk_at "w"
      refine ⟨fun h => ?_, fun h => ?_⟩
      · walk_at "w"
        refine ⟨_, put_same, ?_⟩
        walk_at "w"
        refine ⟨hm, ?_⟩
        walk_at "w"
        refine ⟨_, put_same, ?_⟩
        walk_at "w"
        refine ⟨dv, ?_⟩
        walk_at "w"
        refine ⟨_, 0, put_same, rfl, ?_⟩
        rw [put_put]
        exact fg_here (q _ _ (Int.emod_nonneg _ (by omega)) (Int.emod_lt_of_pos _ hm) (ok' _ b (Int.ediv_nonneg c0 (by omega))) (off _))
      · walk_at "w"
        refine ⟨_, put_same, ?_⟩
        walk_at "w"
        refine ⟨.inl (.inl ⟨by omega, by omega⟩), ?_⟩
        walk_at "w"
        refine ⟨_, put_same, ?_⟩
        walk_at "w"
        refine ⟨.inl (.inl ⟨by omega, by omega⟩), ?_⟩
        walk_at "w"
        refine ⟨(by show (0 : Int) < 2147483647; decide), ?_⟩
        generalize ho : (sd * 48271 + (n + 1) * 69621 + 11) % 2147483647 = one
        have o0 : 0 ≤ one := by rw [← ho]; exact Int.emod_nonneg _ (by decide)
        have o1 : one < 2147483647 := by rw [← ho]; exact Int.emod_lt_of_pos _ (by decide)
        walk_at "w"
        refine ⟨.inl (.inl ⟨by omega, by omega⟩), ?_⟩
        walk_at "w"
        refine ⟨.inl ⟨by decide, by decide⟩, ?_⟩
        walk_at "w"
        refine ⟨_, put_same, ?_⟩
        walk_at "w"
        refine ⟨_, put_same, ?_⟩
        walk_at "w"
        refine ⟨.inl (.inl ⟨by omega, by omega⟩), ?_⟩
        walk_at "w"
        refine ⟨.inl (.inr ⟨by decide, by decide⟩), ?_⟩
        walk_at "w"
        refine ⟨(by show (0 : Int) < 2147483399; decide), ?_⟩
        generalize ht : (one * 16807 + one / 65536 + (n + 1) * (n + 1) * 40692) % 2147483399 = two
        walk_at "w"
        refine ⟨_, put_same, ?_⟩
        walk_at "w"
        refine ⟨.inr (wide_div (by omega) (b := 64) (by omega) (by decide) (by decide)), ?_⟩
        walk_at "w"
        refine ⟨hm, ?_⟩
        exact fg_here (q _ _ (Int.emod_nonneg _ (by omega)) (Int.emod_lt_of_pos _ hm) (ok' c b c0) (off _))
    · refine ⟨fun h => absurd (show false = true from h) Bool.false_ne_true, fun _ => ?_⟩
      walk_at "w"
      refine ⟨_, put_same, ?_⟩
      walk_at "w"
      refine ⟨.inl (.inl ⟨by omega, by omega⟩), ?_⟩
      walk_at "w"
      refine ⟨_, put_same, ?_⟩
      walk_at "w"
      refine ⟨.inl (.inl ⟨by omega, by omega⟩), ?_⟩
      walk_at "w"
      refine ⟨(by show (0 : Int) < 2147483647; decide), ?_⟩
      generalize ho : (sd * 48271 + (n + 1) * 69621 + 11) % 2147483647 = one
      have o0 : 0 ≤ one := by rw [← ho]; exact Int.emod_nonneg _ (by decide)
      have o1 : one < 2147483647 := by rw [← ho]; exact Int.emod_lt_of_pos _ (by decide)
      walk_at "w"
      refine ⟨.inl (.inl ⟨by omega, by omega⟩), ?_⟩
      walk_at "w"
      refine ⟨.inl ⟨by decide, by decide⟩, ?_⟩
      walk_at "w"
      refine ⟨_, put_same, ?_⟩
      walk_at "w"
      refine ⟨_, put_same, ?_⟩
      walk_at "w"
      refine ⟨.inl (.inl ⟨by omega, by omega⟩), ?_⟩
      walk_at "w"
      refine ⟨.inl (.inr ⟨by decide, by decide⟩), ?_⟩
      walk_at "w"
      refine ⟨(by show (0 : Int) < 2147483399; decide), ?_⟩
      generalize ht : (one * 16807 + one / 65536 + (n + 1) * (n + 1) * 40692) % 2147483399 = two
      walk_at "w"
      refine ⟨_, put_same, ?_⟩
      walk_at "w"
      refine ⟨.inr (wide_div (by omega) (b := 64) (by omega) (by decide) (by decide)), ?_⟩
      walk_at "w"
      refine ⟨hm, ?_⟩
      exact fg_here (q _ _ (Int.emod_nonneg _ (by omega)) (Int.emod_lt_of_pos _ hm) (ok' c b c0) (off _))⟩
theorem ok__law_pool (T : Txt K mg ec w) (d : DefAt K mg "_law_pool" s__law_pool ["_law_script", "_law_at"]) : CalW P w K mg base 1 "_law_pool" spPl :=
  calDI d sc__law_pool (fun ws S Q ⟨n, k, e, _⟩ => by rw [e]; rfl) fun f cdv A outer s H E hr => ⟨_, _,
    (pss_cons (ps_set (i := 2) sc__law_pool.nd rfl (Or.inl rfl) pe_int)
      (pss_mid (ps_if (pt_cmpR op_ltA (pv 1) (pe_callB (k_len K) (by rfl) T.b_len (by decide +kernel) (pa_cons (pv 0) pa_nil)) (nomark _))
       (pss_one (ps_set (i := 2) sc__law_pool.nd rfl (Or.inl rfl) (pe_callB call_abs (by rfl) T.b_abs (by decide +kernel) (pa_cons (pe_callTy call_int1 (by rfl) T.b_int (by decide +kernel) (pa_cons (pe_ix (k_ix K) (pv 0) (pv 1) (fun _ _ => rfl)) pa_nil)) pa_nil))))
       pss_nil)
      (pss_one (ps_ret (pe_lst (pa_cons (pv 2) (pa_cons pe_int (pa_cons (pe_callTy call_int1 (by rfl) T.b_int (by decide +kernel) (pa_cons (pe_cmpR op_geA (pv 2) (pe_op op_pow pe_int pe_int) (nomark _)) pa_nil)) (pa_cons (pe_op op_mod (pe_callTy call_int1 (by rfl) T.b_int (by decide +kernel) (pa_cons (pe_op (k_addB K) (pv 2) (pe_op op_mulA (pv 1) pe_int)) pa_nil)) pe_int) (pa_cons pe_int pa_nil)))))))))), inferInstance, by
    rintro ws S Q ⟨ns, k, rfl, h0, h1, hl, q⟩
    walk_at "w"
    refine mid_q (fun ρ S' => S' = S ∧ ∃ c : Int, 0 ≤ c ∧ ρ = [some (.rl (ns.map W.int)), some (.int k), some (.int c)]) ?_ ?_
    · walk_at "w"
      refine ⟨fun h => ?_, fun h => ?_⟩
      · have h := of_decide_eq_true h
        rw [List.length_map] at h
        obtain ⟨n, e⟩ := atI_int (ns := ns) h0 h
        show rdAt (atI (ns.map W.int) k) S _
        rw [e]
        refine ⟨rfl, _, ?_, rfl⟩
        show 0 ≤ if n < 0 then -n else n
        split <;> omega
      · exact ⟨rfl, 0, Int.le_refl 0, rfl⟩
    · rintro ρ S' ⟨rfl, c, hc, rfl⟩
      walk_at "w"
      refine ⟨⟨by decide, by decide, by decide⟩, .inl (.inl ⟨by omega, by omega⟩), (by show (0 : Int) < 2147483647; decide), ?_⟩
      intro p hp
      refine fg_here (q p _ hp ⟨c, 0, _, _, put_same, hc, Int.le_refl 0, Int.le_refl 0, ?_, ?_⟩ fun a ha => put_ne (fun e => ha (by rw [e]; exact List.mem_singleton.mpr rfl)))
      · exact Int.emod_nonneg _ (by decide)
      · exact Int.emod_lt_of_pos _ (by decide)⟩
end
end K13
set_option Elab.async false
set_option linter.all false
set_option maxRecDepth 100000
set_option maxHeartbeats 4000000
set_option synthInstance.maxHeartbeats 4000000
set_option synthInstance.maxSize 100000
namespace K13
open PySem PySem.Spec PyProof.Rows L2 Wl
local macro_rules | `(tactic| walk_at "w") => `(tactic| (conv => whnf))
/-! what a store holds -/
local macro_rules | `(tactic| walk_at "ne") => `(tactic| first | assumption | (apply Ne.symm; assumption) | exact ne_free (by assumption) (by assumption) | exact (ne_free (by assumption) (by assumption)).symm | exact Pl.ne (by assumption) (by assumption) | exact (Pl.ne (by assumption) (by assumption)).symm)
local macro_rules | `(tactic| walk_at "s") => `(tactic| first
  | exact put_same
  | assumption
  | (refine (put_ne ?_).trans ?_; (· walk_at "ne"); (· walk_at "s")))
/-! a side condition -/
local macro_rules | `(tactic| walk_at "c") => `(tactic| first
  | exact Or.inl (Or.inl ⟨by omega, by omega⟩)
  | exact Or.inl (Or.inr ⟨by omega, by omega⟩)
  | exact Or.inl ⟨by omega, by omega⟩
  | exact Or.inl ⟨rfl, _, by walk_at "s"⟩
  | rfl
  | omega
  | decide
  | exact Nat.le_trans (by omega) sizeLine_ge)
/-! one question is answered, if the answer is plain -/
local macro_rules | `(tactic| walk_at "g1") => `(tactic| first
  | refine ⟨fun _ => ?_, fun h => absurd (show true = false from h) (by decide)⟩
  | refine ⟨fun h => absurd (show false = true from h) Bool.false_ne_true, fun _ => ?_⟩
  | refine ⟨_, by walk_at "s", ?_⟩
  | refine ⟨_, _, by walk_at "s", by walk_at "s", ?_⟩
  | refine ⟨_, by walk_at "s", by simpa using (by omega), ?_⟩
  | refine ⟨_, rfl, ?_⟩
  | refine ⟨_, _, rfl, (by first | exact isTy_tt | exact isTy_ii | exact isTy_ll | exact isTy_ss | exact isTy_ib | exact isTy_tb | exact isTy_ti | exact isTy_ts | exact isTy_tl | exact isTy_lb | exact isTy_li | exact isTy_ls | exact isTy_lt | exact isTy_sb | exact isTy_si | exact isTy_st | exact isTy_sl | exact isTy_is | exact isTy_it | exact isTy_il | exact isTy_bi | exact isTy_bs | exact isTy_bb | exact isTy_nb | exact isTy_ni | exact isTy_ns | exact isTy_nt | exact isTy_nl | exact isTy_bt | exact isTy_bl | exact isTy_nd | exact isTy_td | exact isTy_ld | exact isTy_sd | exact isTy_id | exact isTy_bd | exact isTy_dd | exact isTy_db | exact isTy_di | exact isTy_ds | exact isTy_dt | exact isTy_dl), ?_⟩
  | refine ⟨_, _, tyName_lst (by walk_at "s"), (by first | exact isTy_ll | exact isTy_lb | exact isTy_li | exact isTy_ls | exact isTy_lt), ?_⟩
  | refine if_q ?_
  | refine ⟨by walk_at "c", ?_⟩)
local macro_rules | `(tactic| walk_at "go") => `(tactic| (walk_at "w"; repeat (walk_at "g1"; walk_at "w")))
/-! a branch that cannot be -/
local macro_rules | `(tactic| walk_at "two") => `(tactic| refine ⟨fun h => ?_, fun h => ?_⟩)
section
variable {P : Program} {w : World} {K : PySem.W.Frag} {mg : Str → Option Value} {base : Heap} {ec : Cls}
def prs : List Str := ["size", "lead", "face", "align", "least", "place", "keep", "indent", "above", "below"]
def dkF (ns : List Str) (f : Str → W) : List (Key × W) := ns.map fun n => (.inr n, f n)
theorem val_dkF {f : Str → W} {n : Str} : ∀ {ns : List Str}, n ∈ ns → valW (dkF ns f) (.inr n : Key) = some (f n)
  | m :: ns, h => by
    unfold valW dkF
    rw [List.map_cons, List.find?_cons]
    by_cases e : m = n
    · subst e
      rw [decide_eq_true rfl]
      rfl
    · rw [decide_eq_false (fun z => e (Sum.inr.inj z))]
      exact val_dkF ((List.mem_cons.mp h).resolve_left fun z => e z.symm)
theorem val_dkF_no {f : Str → W} {n : Str} : ∀ {ns : List Str}, n ∉ ns → valW (dkF ns f) (.inr n : Key) = none
  | [], _ => rfl
  | m :: ns, h => by
    unfold valW dkF
    rw [List.map_cons, List.find?_cons, decide_eq_false (fun z => h (by rw [Sum.inr.inj z]; exact List.mem_cons_self))]
    exact val_dkF_no fun z => h (List.mem_cons_of_mem _ z)
def setF (f : Str → W) (n : Str) (v : W) : Str → W := fun m => if m = n then v else f m
theorem any_dkF {f : Str → W} {n : Str} {ns : List Str} : ((dkF ns f).any fun kv => decide (kv.1 = (.inr n : Key))) = decide (n ∈ ns) := by
  unfold dkF
  rw [List.any_map]
  induction ns with
  | nil => rfl
  | cons m ns ih =>
    rw [List.any_cons, ih]
    show (decide ((Sum.inr m : Key) = Sum.inr n) || decide (n ∈ ns)) = _
    by_cases e : m = n
    · subst e
      simp
    · rw [decide_eq_false (fun z => e (Sum.inr.inj z)), Bool.false_or]
      refine decide_eq_decide.mpr ⟨List.mem_cons_of_mem _, fun h => (List.mem_cons.mp h).resolve_left fun z => e z.symm⟩
theorem put_dkF {f : Str → W} {n : Str} {v : W} {ns : List Str} (h : n ∈ ns) : putW (dkF ns f) (.inr n : Key) v = dkF ns (setF f n v) := by
  unfold putW
  rw [any_dkF, decide_eq_true h, if_pos rfl]
  unfold dkF
  rw [List.map_map]
  refine List.map_congr_left fun m _ => ?_
  show (if (Sum.inr m : Key) = Sum.inr n then ((Sum.inr m : Key), v) else (Sum.inr m, f m)) = (Sum.inr m, if m = n then v else f m)
  by_cases e : m = n
  · rw [if_pos (by rw [e]), if_pos e]
  · rw [if_neg (fun z => e (Sum.inr.inj z)), if_neg e]
theorem put_new {f : Str → W} {n : Str} {v : W} {ns : List Str} (h : n ∉ ns) : putW (dkF ns f) (.inr n : Key) v = dkF (ns ++ [n]) (setF f n v) := by
  unfold putW
  rw [any_dkF, decide_eq_false h, if_neg Bool.false_ne_true]
  unfold dkF
  rw [List.map_append]
  have e : ns.map (fun m => ((Sum.inr m : Key), f m)) = ns.map fun m => (Sum.inr m, setF f n v m) := List.map_congr_left fun m hm => by
    show (Sum.inr m, f m) = (Sum.inr m, if m = n then v else f m)
    rw [if_neg (fun z => h (by rw [← z]; exact hm))]
  rw [e]
  show _ = _ ++ [(Sum.inr n, if n = n then v else f n)]
  rw [if_pos rfl]
def iniD : List (Key × W) := [(.inr "size", .int 2), (.inr "lead", .int 12), (.inr "face", .str "plain"), (.inr "align", .str "both"), (.inr "least", .int 1), (.inr "place", .str "line"), (.inr "keep", .str "no"), (.inr "indent", .int 0), (.inr "above", .int 0), (.inr "below", .int 0)]
def ini (n : Str) : W := (valW iniD (.inr n : Key)).getD .non
theorem iniD_eq : iniD = dkF prs ini := by
  have h : ∀ n : Str, n ∈ prs → (valW iniD (.inr n : Key)).getD .non = ini n := fun _ _ => rfl
  show iniD = [(_, ini "size"), (_, ini "lead"), (_, ini "face"), (_, ini "align"), (_, ini "least"), (_, ini "place"), (_, ini "keep"), (_, ini "indent"), (_, ini "above"), (_, ini "below")]
  rw [show ini "size" = .int 2 by kernel_rfl, show ini "lead" = .int 12 by kernel_rfl, show ini "face" = .str "plain" by kernel_rfl, show ini "align" = .str "both" by kernel_rfl, show ini "least" = .int 1 by kernel_rfl, show ini "place" = .str "line" by kernel_rfl, show ini "keep" = .str "no" by kernel_rfl, show ini "indent" = .int 0 by kernel_rfl, show ini "above" = .int 0 by kernel_rfl, show ini "below" = .int 0 by kernel_rfl]
  rfl
def spIv : SpW := fun ws S Q => ws = [] ∧ ∀ p, S p = none → Q (.ref p) (put S p (.dk (dkF prs ini)))
theorem ok_initial_values (T : Txt K mg ec w) (d : DefAt K mg "initial_values" s_initial_values []) : CalW P w K mg base 1 "initial_values" spIv :=
  calDI d sc_initial_values (fun ws S Q ⟨h, _⟩ => by rw [h]; rfl) fun f cdv A outer s H E hr => ⟨_, _,
    (pss_one (ps_ret (pe_callTy (k_dictA K w) (by rfl) T.b_dict (by decide +kernel) (pa_cons (k_gl K T.m_INITIAL rfl) pa_nil)))), inferInstance, by
    rintro ws S Q ⟨rfl, q⟩
    walk_at "w"
    refine .inr ⟨_, T.dc_INITIAL, fun p hp => ?_⟩
    have e : skW [(("size" : Str), W.int 2), ("lead", .int 12), ("face", .str "plain"), ("align", .str "both"), ("least", .int 1), ("place", .str "line"), ("keep", .str "no"), ("indent", .int 0), ("above", .int 0), ("below", .int 0)] = dkF prs ini := iniD_eq
    rw [e]
    exact fg_here (q p hp)⟩
theorem ok__law_initial (T : Txt K mg ec w) (d : DefAt K mg "_law_initial" s__law_initial []) : CalW P w K mg base 1 "_law_initial" spIv :=
  calDI d sc__law_initial (fun ws S Q ⟨h, _⟩ => by rw [h]; rfl) fun f cdv A outer s H E hr => ⟨_, _,
    (pss_one (ps_ret (pe_disp (pps_cons pe_str pe_int (pps_cons pe_str pe_int (pps_cons pe_str pe_str (pps_cons pe_str pe_str (pps_cons pe_str pe_int (pps_cons pe_str pe_str (pps_cons pe_str pe_str (pps_cons pe_str pe_int (pps_cons pe_str pe_int (pps_cons pe_str pe_int pps_nil)))))))))) (by rfl) (by rfl) (fun z => by cases z) (by decide)))), inferInstance, by
    rintro ws S Q ⟨rfl, q⟩
    walk_at "w"
    intro p hp
    walk_at "w"
    refine ⟨put_same, iniD, rfl, by decide, ?_⟩
    rw [put_put, show mergeW [] iniD = iniD by kernel_rfl, iniD_eq]
    exact fg_here (q p hp)⟩
end
end K13
set_option Elab.async false
set_option linter.all false
set_option maxRecDepth 100000
set_option maxHeartbeats 4000000
set_option synthInstance.maxHeartbeats 4000000
set_option synthInstance.maxSize 100000
namespace K13
open PySem PySem.Spec PyProof.Rows L2 Wl
local macro_rules | `(tactic| walk_at "w") => `(tactic| (conv => whnf))
/-! what a store holds -/
local macro_rules | `(tactic| walk_at "ne") => `(tactic| first | assumption | (apply Ne.symm; assumption) | exact ne_free (by assumption) (by assumption) | exact (ne_free (by assumption) (by assumption)).symm | exact Pl.ne (by assumption) (by assumption) | exact (Pl.ne (by assumption) (by assumption)).symm)
local macro_rules | `(tactic| walk_at "s") => `(tactic| first
  | exact put_same
  | assumption
  | (refine (put_ne ?_).trans ?_; (· walk_at "ne"); (· walk_at "s")))
/-! a side condition -/
local macro_rules | `(tactic| walk_at "c") => `(tactic| first
  | exact Or.inl (Or.inl ⟨by omega, by omega⟩)
  | exact Or.inl (Or.inr ⟨by omega, by omega⟩)
  | exact Or.inl ⟨by omega, by omega⟩
  | exact Or.inl ⟨rfl, _, by walk_at "s"⟩
  | rfl
  | omega
  | decide
  | exact Nat.le_trans (by omega) sizeLine_ge)
/-! one question is answered, if the answer is plain -/
local macro_rules | `(tactic| walk_at "g1") => `(tactic| first
  | refine ⟨fun _ => ?_, fun h => absurd (show true = false from h) (by decide)⟩
  | refine ⟨fun h => absurd (show false = true from h) Bool.false_ne_true, fun _ => ?_⟩
  | refine ⟨_, by walk_at "s", ?_⟩
  | refine ⟨_, _, by walk_at "s", by walk_at "s", ?_⟩
  | refine ⟨_, by walk_at "s", by simpa using (by omega), ?_⟩
  | refine ⟨_, rfl, ?_⟩
  | refine ⟨_, _, rfl, (by first | exact isTy_tt | exact isTy_ii | exact isTy_ll | exact isTy_ss | exact isTy_ib | exact isTy_tb | exact isTy_ti | exact isTy_ts | exact isTy_tl | exact isTy_lb | exact isTy_li | exact isTy_ls | exact isTy_lt | exact isTy_sb | exact isTy_si | exact isTy_st | exact isTy_sl | exact isTy_is | exact isTy_it | exact isTy_il | exact isTy_bi | exact isTy_bs | exact isTy_bb | exact isTy_nb | exact isTy_ni | exact isTy_ns | exact isTy_nt | exact isTy_nl | exact isTy_bt | exact isTy_bl | exact isTy_nd | exact isTy_td | exact isTy_ld | exact isTy_sd | exact isTy_id | exact isTy_bd | exact isTy_dd | exact isTy_db | exact isTy_di | exact isTy_ds | exact isTy_dt | exact isTy_dl), ?_⟩
  | refine ⟨_, _, tyName_lst (by walk_at "s"), (by first | exact isTy_ll | exact isTy_lb | exact isTy_li | exact isTy_ls | exact isTy_lt), ?_⟩
  | refine if_q ?_
  | refine ⟨by walk_at "c", ?_⟩)
local macro_rules | `(tactic| walk_at "go") => `(tactic| (walk_at "w"; repeat (walk_at "g1"; walk_at "w")))
/-! a branch that cannot be -/
local macro_rules | `(tactic| walk_at "two") => `(tactic| refine ⟨fun h => ?_, fun h => ?_⟩)
section
variable {P : Program} {w : World} {K : PySem.W.Frag} {mg : Str → Option Value} {base : Heap} {ec : Cls}
/-- names that a ratio may be declared for -/
def rat : List Str := ["size", "lead", "indent", "above", "below"]
def inh : List Str := ["size", "lead", "face", "align", "least"]
def loI (n : Str) : Int := if n = "size" ∨ n = "lead" then 1 else 0
def hiI (n : Str) : Int := if n = "size" then 12 else 99
/-- a plain value -/
inductive Flat : W → Prop where
  | int {i : Int} : Flat (.int i)
  | str {x : Str} : Flat (.str x)
/-- a declared value -/
inductive Dcl (n : Str) : W → Prop where
  | int {i : Int} : (n = "size" → 1 ≤ i ∧ i ≤ 12) → Dcl n (.int i)
  | str {x : Str} : n ≠ "size" ∨ x = "same" ∨ x = "first" → Dcl n (.str x)
  | tup {a b : Int} : n ∈ rat → 1 ≤ a → a ≤ 99 → 1 ≤ b → b ≤ 99 → Dcl n (.tup [.int a, .int b])
structure PvOk (f : Str → W) : Prop where
  flat : ∀ n ∈ prs, Flat (f n)
  size : ∃ s : Int, f "size" = .int s ∧ 1 ≤ s ∧ s ≤ 12
def mnI (a b : Int) : Int := if b < a then b else a
def mxI (a b : Int) : Int := if b > a then b else a
/-- a value by the rule -/
def vaW (n : Str) (pa : W) (sz : Int) : Option W → W
  | none => if n ∈ inh then pa else ini n
  | some (.str x) => if x = "same" then pa else if x = "first" then ini n else .str x
  | some (.tup [.int a, .int b]) => .int (mxI (loI n) (mnI (hiI n) (sz * a / b)))
  | some w => w
def oW : Option W → W
  | none => .non
  | some w => w
def spVo : SpW := fun ws S Q => ∃ (n : Str) (dc : Option W) (pa : W) (sz : Int), ws = [.str n, oW dc, pa, .int sz] ∧ n ∈ prs ∧ (∀ w, dc = some w → Dcl n w) ∧ 1 ≤ sz ∧ sz ≤ 12 ∧ Q (vaW n pa sz dc) S
theorem in_strs {x : Str} : ∀ {ns : List Str}, isInW (.str x) (ns.map W.str) = decide (x ∈ ns) := fun {ns} => by
  unfold isInW
  rw [List.any_map]
  induction ns with
  | nil => rfl
  | cons m ns ih =>
    rw [List.any_cons, ih]
    show (decide (m = x) || decide (x ∈ ns)) = _
    by_cases e : m = x
    · subst e
      simp
    · rw [decide_eq_false e, Bool.false_or]
      exact decide_eq_decide.mpr ⟨List.mem_cons_of_mem _, fun h => (List.mem_cons.mp h).resolve_left fun z => e z.symm⟩
theorem rng_at {n : Str} (h : n ∈ rat) : lkW [(("size" : Str), W.tup [.int 1, .int 12]), ("lead", .tup [.int 1, .int 99]), ("least", .tup [.int 1, .int 4]), ("indent", .tup [.int 0, .int 99]), ("above", .tup [.int 0, .int 99]), ("below", .tup [.int 0, .int 99])] n = some (.tup [.int (loI n), .int (hiI n)]) := by
  unfold rat at h
  simp only [List.mem_cons, List.not_mem_nil, or_false] at h
  rcases h with rfl | rfl | rfl | rfl | rfl <;> kernel_rfl
theorem ini_at {n : Str} (h : n ∈ prs) : lkW [(("size" : Str), W.int 2), ("lead", .int 12), ("face", .str "plain"), ("align", .str "both"), ("least", .int 1), ("place", .str "line"), ("keep", .str "no"), ("indent", .int 0), ("above", .int 0), ("below", .int 0)] n = some (ini n) := by
  unfold prs at h
  simp only [List.mem_cons, List.not_mem_nil, or_false] at h
  rcases h with rfl | rfl | rfl | rfl | rfl | rfl | rfl | rfl | rfl | rfl <;> kernel_rfl
theorem ok_value_of (T : Txt K mg ec w) (d : DefAt K mg "value_of" s_value_of ["name", "declared", "parent", "size"]) : CalW P w K mg base 1 "value_of" spVo :=
  calDI d sc_value_of (fun ws S Q ⟨n, dc, pa, sz, h, _⟩ => by rw [h]; rfl) fun f cdv A outer s H E hr => ⟨_, _,
    (pss_cons (ps_if (pt_cmpR op_isN (pv 1) pe_non (nomark _))
       (pss_one (ps_ret (pe_ifExp (pt_cmpR (k_inB K w (hu_of hr)) (pv 0) (k_gl K T.m_INHERITED rfl) rfl) (pv 2) (pe_ix (k_ixB K w (hu_of hr)) (k_gl K T.m_INITIAL rfl) (pv 0) (fun _ _ => rfl)))))
       pss_nil)
      (pss_cons (ps_if (pt_cmpR (k_eq K hr.units) (pv 1) pe_str (nomark _))
       (pss_one (ps_ret (pv 2)))
       pss_nil)
      (pss_cons (ps_if (pt_cmpR (k_eq K hr.units) (pv 1) pe_str (nomark _))
       (pss_one (ps_ret (pe_ix (k_ixB K w (hu_of hr)) (k_gl K T.m_INITIAL rfl) (pv 0) (fun _ _ => rfl))))
       pss_nil)
      (pss_cons (ps_if (pt_val (pe_callB (k_isi K) (by rfl) T.b_isinstance (by decide +kernel) (pa_cons (pv 1) (pa_cons (pe_bltn (v := .ty "tuple") (by rfl) T.b_tuple (by decide +kernel) rfl) pa_nil))))
       (pss_cons (ps_asg (pe_ix (k_ixB K w (hu_of hr)) (k_gl K T.m_RANGES rfl) (pv 0) (fun _ _ => rfl)) (k_gtup K (n := 2) rfl (pgs_cons (pg_name (i := 4) sc_value_of.nd rfl (Or.inl rfl)) (pgs_cons (pg_name (i := 5) sc_value_of.nd rfl (Or.inl rfl)) pgs_nil))))
       (pss_one (ps_ret (pe_callB (call_max2 rfl) (by rfl) T.b_max (by decide +kernel) (pa_cons (pv 4) (pa_cons (pe_callB (call_min2 rfl) (by rfl) T.b_min (by decide +kernel) (pa_cons (pv 5) (pa_cons (pe_op op_fdivA (pe_op op_mulA (pv 3) (pe_ix (k_ixB K w (hu_of hr)) (pv 1) pe_int (fun _ _ => rfl))) (pe_ix (k_ixB K w (hu_of hr)) (pv 1) pe_int (fun _ _ => rfl))) pa_nil))) pa_nil))))))
       pss_nil)
      (pss_one (ps_ret (pv 1))))))), inferInstance, by
    rintro ws S Q ⟨n, dc, pa, sz, rfl, hn, hd, hs0, hs1, q⟩
    cases dc with
    | none =>
      walk_at "w"
      refine ⟨rfl, ?_⟩
      refine ⟨fun _ => ?_, fun h => absurd (show true = false from h) (by decide)⟩
      walk_at "w"
      refine ⟨rfl, rfl, ?_⟩
      have q : Q (if n ∈ inh then pa else ini n) S := q
      have e : isInW (.str n) [.str "size", .str "lead", .str "face", .str "align", .str "least"] = decide (n ∈ inh) := in_strs (ns := inh)
      refine ⟨fun h => ?_, fun h => ?_⟩
      · have h : isInW (.str n) [.str "size", .str "lead", .str "face", .str "align", .str "least"] = true := h
        rw [e] at h
        rw [if_pos (of_decide_eq_true h)] at q
        walk_at "w"
        exact fg_here q
      · have h : isInW (.str n) [.str "size", .str "lead", .str "face", .str "align", .str "least"] = false := h
        rw [e] at h
        rw [if_neg (of_decide_eq_false h)] at q
        walk_at "w"
        refine .inr ⟨_, T.dk_INITIAL, rdAt_ok (ini_at hn) ?_⟩
        exact fg_here q
    | some x =>
      cases hd x rfl with
      | @int i hi =>
        walk_at "w"
        refine ⟨rfl, ?_⟩
        refine ⟨fun h => absurd (show false = true from h) Bool.false_ne_true, fun _ => ?_⟩
        walk_at "go"
        exact fg_here q
      | @str x hx =>
        have q : Q (if x = "same" then pa else if x = "first" then ini n else .str x) S := q
        walk_at "w"
        refine ⟨rfl, ?_⟩
        refine ⟨fun h => absurd (show false = true from h) Bool.false_ne_true, fun _ => ?_⟩
        walk_at "w"
        refine ⟨fun h => ?_, fun h => ?_⟩
        · rw [if_pos (of_decide_eq_true h)] at q
          walk_at "w"
          exact fg_here q
        rw [if_neg (of_decide_eq_false h)] at q
        walk_at "w"
        refine ⟨fun h => ?_, fun h => ?_⟩
        · rw [if_pos (of_decide_eq_true h)] at q
          walk_at "w"
          refine .inr ⟨_, T.dk_INITIAL, rdAt_ok (ini_at hn) ?_⟩
          exact fg_here q
        rw [if_neg (of_decide_eq_false h)] at q
        walk_at "go"
        exact fg_here q
      | @tup a b hr a0 a1 b0 b1 =>
        walk_at "w"
        refine ⟨rfl, ?_⟩
        refine ⟨fun h => absurd (show false = true from h) Bool.false_ne_true, fun _ => ?_⟩
        walk_at "go"
        refine ⟨sh_pr a b, shN_sh (shN_str (by decide +kernel)) (Nat.zero_le _), ?_⟩
        refine ⟨fun h => absurd (show false = true from h) Bool.false_ne_true, fun _ => ?_⟩
        walk_at "go"
        refine ⟨sh_pr a b, shN_sh (shN_str (by decide +kernel)) (Nat.zero_le _), ?_⟩
        refine ⟨fun h => absurd (show false = true from h) Bool.false_ne_true, fun _ => ?_⟩
        walk_at "go"
        refine .inr ⟨_, T.dk_RANGES, rdAt_ok (rng_at hr) ?_⟩
        walk_at "go"
        exact fg_here q⟩
end
end K13
set_option Elab.async false
set_option linter.all false
set_option maxRecDepth 100000
set_option maxHeartbeats 4000000
set_option synthInstance.maxHeartbeats 4000000
set_option synthInstance.maxSize 100000
namespace K13
open PySem PySem.Spec PyProof.Rows L2 Wl
local macro_rules | `(tactic| walk_at "w") => `(tactic| (conv => whnf))
/-! what a store holds -/
local macro_rules | `(tactic| walk_at "ne") => `(tactic| first | assumption | (apply Ne.symm; assumption) | exact ne_free (by assumption) (by assumption) | exact (ne_free (by assumption) (by assumption)).symm | exact Pl.ne (by assumption) (by assumption) | exact (Pl.ne (by assumption) (by assumption)).symm)
local macro_rules | `(tactic| walk_at "s") => `(tactic| first
  | exact put_same
  | assumption
  | (refine (put_ne ?_).trans ?_; (· walk_at "ne"); (· walk_at "s")))
/-! a side condition -/
local macro_rules | `(tactic| walk_at "c") => `(tactic| first
  | exact Or.inl (Or.inl ⟨by omega, by omega⟩)
  | exact Or.inl (Or.inr ⟨by omega, by omega⟩)
  | exact Or.inl ⟨by omega, by omega⟩
  | exact Or.inl ⟨rfl, _, by walk_at "s"⟩
  | rfl
  | omega
  | decide
  | exact Nat.le_trans (by omega) sizeLine_ge)
/-! one question is answered, if the answer is plain -/
local macro_rules | `(tactic| walk_at "g1") => `(tactic| first
  | refine ⟨fun _ => ?_, fun h => absurd (show true = false from h) (by decide)⟩
  | refine ⟨fun h => absurd (show false = true from h) Bool.false_ne_true, fun _ => ?_⟩
  | refine ⟨_, by walk_at "s", ?_⟩
  | refine ⟨_, _, by walk_at "s", by walk_at "s", ?_⟩
  | refine ⟨_, by walk_at "s", by simpa using (by omega), ?_⟩
  | refine ⟨_, rfl, ?_⟩
  | refine ⟨_, _, rfl, (by first | exact isTy_tt | exact isTy_ii | exact isTy_ll | exact isTy_ss | exact isTy_ib | exact isTy_tb | exact isTy_ti | exact isTy_ts | exact isTy_tl | exact isTy_lb | exact isTy_li | exact isTy_ls | exact isTy_lt | exact isTy_sb | exact isTy_si | exact isTy_st | exact isTy_sl | exact isTy_is | exact isTy_it | exact isTy_il | exact isTy_bi | exact isTy_bs | exact isTy_bb | exact isTy_nb | exact isTy_ni | exact isTy_ns | exact isTy_nt | exact isTy_nl | exact isTy_bt | exact isTy_bl | exact isTy_nd | exact isTy_td | exact isTy_ld | exact isTy_sd | exact isTy_id | exact isTy_bd | exact isTy_dd | exact isTy_db | exact isTy_di | exact isTy_ds | exact isTy_dt | exact isTy_dl), ?_⟩
  | refine ⟨_, _, tyName_lst (by walk_at "s"), (by first | exact isTy_ll | exact isTy_lb | exact isTy_li | exact isTy_ls | exact isTy_lt), ?_⟩
  | refine if_q ?_
  | refine ⟨by walk_at "c", ?_⟩)
local macro_rules | `(tactic| walk_at "go") => `(tactic| (walk_at "w"; repeat (walk_at "g1"; walk_at "w")))
/-! a branch that cannot be -/
local macro_rules | `(tactic| walk_at "two") => `(tactic| refine ⟨fun h => ?_, fun h => ?_⟩)
section
variable {P : Program} {w : World} {K : PySem.W.Frag} {mg : Str → Option Value} {base : Heap} {ec : Cls}
def ge (ds : List (Str × W)) (n : Str) : Option W := valW (skW ds) (.inr n : Key)
def sI (f : Str → W) : Int := match f "size" with | .int i => i | _ => 0
def s1 (f : Str → W) (ds : List (Str × W)) : Int := match vaW "size" (f "size") (sI f) (ge ds "size") with | .int i => i | _ => 0
def comp (f : Str → W) (ds : List (Str × W)) (n : Str) : W := vaW n (f n) (if n = "size" then sI f else s1 f ds) (ge ds n)
def DsOk (ds : List (Str × W)) : Prop := ∀ n w, n ∈ prs → ge ds n = some w → Dcl n w
theorem sI_bd {f : Str → W} (h : PvOk f) : f "size" = .int (sI f) ∧ 1 ≤ sI f ∧ sI f ≤ 12 := by
  obtain ⟨s, e, a, b⟩ := h.size
  have e2 : sI f = s := by unfold sI; rw [e]
  rw [e2]
  exact ⟨e, a, b⟩
theorem size_in : ("size" : Str) ∈ prs := List.mem_cons_self
theorem va_size {f : Str → W} {ds : List (Str × W)} (h : PvOk f) (hd : DsOk ds) : ∃ s, vaW "size" (f "size") (sI f) (ge ds "size") = .int s ∧ 1 ≤ s ∧ s ≤ 12 := by
  obtain ⟨e, a, b⟩ := sI_bd h
  cases hg : ge ds "size" with
  | none =>
    refine ⟨sI f, ?_, a, b⟩
    show (if ("size" : Str) ∈ inh then f "size" else ini "size") = _
    rw [if_pos (by decide +kernel), e]
  | some w =>
    cases hd "size" w size_in hg with
    | @int i hi => exact ⟨i, rfl, (hi rfl).1, (hi rfl).2⟩
    | @str x hx =>
      show ∃ s, (if x = "same" then f "size" else if x = "first" then ini "size" else .str x) = W.int s ∧ _
      rcases hx with hx | hx | hx
      · exact absurd rfl hx
      · rw [if_pos hx]
        exact ⟨sI f, e, a, b⟩
      · rw [if_neg (by rw [hx]; decide +kernel), if_pos hx]
        exact ⟨2, by kernel_rfl, by decide, by decide⟩
    | @tup p q hr _ _ _ _ =>
      refine ⟨_, rfl, ?_, ?_⟩
      · rw [show loI "size" = 1 by kernel_rfl, show hiI "size" = 12 by kernel_rfl]
        unfold mxI
        split <;> omega
      · rw [show loI "size" = 1 by kernel_rfl, show hiI "size" = 12 by kernel_rfl]
        unfold mxI mnI
        split <;> split <;> omega
theorem comp_size {f : Str → W} {ds : List (Str × W)} (h : PvOk f) (hd : DsOk ds) : comp f ds "size" = .int (s1 f ds) ∧ 1 ≤ s1 f ds ∧ s1 f ds ≤ 12 := by
  obtain ⟨s, e, a, b⟩ := va_size h hd
  have e2 : s1 f ds = s := by unfold s1; rw [e]
  rw [e2]
  refine ⟨?_, a, b⟩
  unfold comp
  rw [if_pos rfl]
  exact e
theorem ini_flat {n : Str} (h : n ∈ prs) : Flat (ini n) := by
  unfold prs at h
  simp only [List.mem_cons, List.not_mem_nil, or_false] at h
  rcases h with rfl | rfl | rfl | rfl | rfl | rfl | rfl | rfl | rfl | rfl
  · rw [show ini "size" = .int 2 by kernel_rfl]; exact .int
  · rw [show ini "lead" = .int 12 by kernel_rfl]; exact .int
  · rw [show ini "face" = .str "plain" by kernel_rfl]; exact .str
  · rw [show ini "align" = .str "both" by kernel_rfl]; exact .str
  · rw [show ini "least" = .int 1 by kernel_rfl]; exact .int
  · rw [show ini "place" = .str "line" by kernel_rfl]; exact .str
  · rw [show ini "keep" = .str "no" by kernel_rfl]; exact .str
  · rw [show ini "indent" = .int 0 by kernel_rfl]; exact .int
  · rw [show ini "above" = .int 0 by kernel_rfl]; exact .int
  · rw [show ini "below" = .int 0 by kernel_rfl]; exact .int
theorem comp_ok {f : Str → W} {ds : List (Str × W)} (h : PvOk f) (hd : DsOk ds) : PvOk (comp f ds) := by
  obtain ⟨e, a, b⟩ := comp_size h hd
  refine ⟨fun n hn => ?_, _, e, a, b⟩
  unfold comp
  cases hg : ge ds n with
  | none =>
    show Flat (if n ∈ inh then f n else ini n)
    split
    · exact h.flat n hn
    · exact ini_flat hn
  | some w =>
    cases hd n w hn hg with
    | int _ => exact .int
    | @str x _ =>
      show Flat (if x = "same" then f n else if x = "first" then ini n else .str x)
      split
      · exact h.flat n hn
      · split
        · exact ini_flat hn
        · exact .str
    | tup _ _ _ _ _ => exact .int
theorem prs_nodup : prs.Nodup := by decide +kernel
def spCo : SpW := fun ws S Q => ∃ (a b : Addr) (f : Str → W) (ds : List (Str × W)), ws = [.ref a, .ref b] ∧ S a = some (.dk (dkF prs f)) ∧ S b = some (.dk (skW ds)) ∧ PvOk f ∧ DsOk ds ∧ ∀ p S', S p = none → S' p = some (.dk (dkF prs (comp f ds))) → KpL [] S S' → Q (.ref p) S'
theorem ok_computed (T : Txt K mg ec w) (c_value_of : CalW P w K mg base 1 "value_of" (Hd spVo)) (d : DefAt K mg "computed" s_computed ["parent", "declared"]) : CalW P w K mg base 2 "computed" spCo :=
  calDI d sc_computed (fun ws S Q ⟨a, b, f, ds, h, _⟩ => by rw [h]; rfl) fun f cdv A outer s H E hr => ⟨_, _,
    (pss_cons (ps_set (i := 2) sc_computed.nd rfl (Or.inl rfl) pe_dnewK)
      (pss_cons (ps_for PassesOwn.never rfl (k_any K (k_gl K T.m_PROPERTIES rfl)) (pg_name (i := 3) sc_computed.nd rfl (Or.inl rfl))
       (pss_cons (ps_set (i := 4) sc_computed.nd rfl (Or.inl rfl) (pe_dget2 (hu_of hr) (pv 2) pe_str (pe_ix (k_ixB K w (hu_of hr)) (pv 0) pe_str (fun _ _ => rfl)) ⟨rfl, rfl, rfl, rfl⟩))
       (pss_one (ps_asg (k_w K c_value_of hr (by decide) rfl (pa_cons (pv 3) (pa_cons (pe_dget1 (hu_of hr) (pv 1) (pv 3) ⟨rfl, rfl, rfl, rfl⟩) (pa_cons (pe_ix (k_ixB K w (hu_of hr)) (pv 0) (pv 3) (fun _ _ => rfl)) (pa_cons (pv 4) pa_nil))))) (pg_sub (pv 2) (pv 3) (set_B (hu_of hr)))))))
      (pss_one (ps_ret (pv 2))))), inferInstance, by
    rintro ws S Q ⟨a, b, f, ds, rfl, ha, hb, hf, hd, q⟩
    obtain ⟨se, sa, sb⟩ := sI_bd hf
    obtain ⟨ce, ca, cb⟩ := comp_size hf hd
    walk_at "w"
    intro V hV
    have ha1 := (put_ne (c := .dk []) (ne_free ha hV).symm).trans ha
    have hb1 := (put_ne (c := .dk []) (ne_free hb hV).symm).trans hb
    have hv1 : put S V (.dk []) V = some (.dk (dkF (prs.take 0) (comp f ds))) := put_same
    have k1 : KpL [] S (put S V (.dk [])) := (KpL.refl [] S).new hV
    have hVa : V ≠ a := ne_free ha hV
    have hVb : V ≠ b := ne_free hb hV
    generalize put S V (.dk []) = S1 at ha1 hb1 hv1 k1
    walk_at "w"
    refine for_q (fun i ρ' S' => i ≤ 10 ∧ ∃ (a3 a4 : Option W), ρ' = [some (.ref a), some (.ref b), some (.ref V), a3, a4] ∧ S' V = some (.dk (dkF (prs.take i) (comp f ds))) ∧ S' a = some (.dk (dkF prs f)) ∧ S' b = some (.dk (skW ds)) ∧ KpL [] S S') ⟨Nat.zero_le _, _, _, rfl, hv1, ha1, hb1, k1⟩ (fun _ _ _ _ => trivial) ?_ ?_
    · rintro i w ρ' S' ew ⟨_, a3, a4, rfl, hv, ha2, hb2, k2⟩
      have ew : (prs.map W.str)[i]? = some w := ew
      obtain ⟨n, en, rfl⟩ : ∃ n, prs[i]? = some n ∧ W.str n = w := by
        rw [List.getElem?_map] at ew
        cases hc : prs[i]? with
        | none => rw [hc] at ew; cases ew
        | some n => rw [hc] at ew; exact ⟨n, rfl, Option.some.inj ew⟩
      have hi : i < 10 := (List.getElem?_eq_some_iff.mp en).1
      have hn : n ∈ prs := List.mem_of_getElem? en
      walk_at "w"
      refine ⟨⟨_, hv⟩, ?_⟩
      walk_at "w"
      refine .inl ⟨_, ha2, rdAt_ok (val_dkF size_in) ?_⟩
      refine ⟨_, _, hv, rfl, ?_⟩
      have key : (i = 0 ∧ n = "size") ∨ (("size" : Str) ∈ prs.take i ∧ n ≠ "size") := by
        by_cases h0 : i = 0
        · subst h0
          exact .inl ⟨rfl, (Option.some.inj en).symm⟩
        · refine .inr ⟨?_, fun z => ?_⟩
          · obtain ⟨j, rfl⟩ : ∃ j, i = j + 1 := ⟨i - 1, by omega⟩
            exact List.mem_cons_self
          · subst z
            have := (List.getElem?_inj (i := 0) (j := i) (l := prs) (by decide) prs_nodup).mp (by rw [en]; rfl)
            omega
      have hsz : (valW (dkF (prs.take i) (comp f ds)) (.inr "size" : Key)).getD (f "size") = W.int (if n = "size" then sI f else s1 f ds) := by
        rcases key with ⟨rfl, rfl⟩ | ⟨h1, h2⟩
        · rw [if_pos rfl]
          exact se
        · rw [val_dkF h1, if_neg h2]
          exact ce
      rw [hsz]
      refine ⟨⟨_, hb2⟩, ?_⟩
      walk_at "w"
      refine ⟨_, _, hb2, rfl, ?_⟩
      have hg : (valW (skW ds) (.inr n : Key)).getD .non = oW (ge ds n) := by
        unfold ge
        cases valW (skW ds) (.inr n : Key) <;> rfl
      rw [hg]
      walk_at "w"
      refine .inl ⟨_, ha2, rdAt_ok (val_dkF hn) ?_⟩
      have hz : 1 ≤ (if n = "size" then sI f else s1 f ds) ∧ (if n = "size" then sI f else s1 f ds) ≤ 12 := by split <;> exact ⟨by assumption, by assumption⟩
      refine Hd.mk ⟨n, ge ds n, f n, _, rfl, hn, fun w hw => hd n w hn hw, hz.1, hz.2, ?_⟩
      walk_at "w"
      have hnin : n ∉ prs.take i := fun h => by
        obtain ⟨j, hj, ej⟩ := List.mem_iff_getElem.mp h
        rw [List.length_take] at hj
        have e1 : prs[j]? = some n := by
          have := List.getElem?_eq_getElem (l := prs.take i) (i := j) (by rw [List.length_take]; exact hj)
          rw [ej, List.getElem?_take] at this
          rw [if_pos (by omega)] at this
          exact this
        have := (List.getElem?_inj (i := j) (j := i) (l := prs) (by show j < 10; omega) prs_nodup).mp (e1.trans en.symm)
        omega
      have tk : prs.take (i + 1) = prs.take i ++ [n] := by rw [List.take_add_one, en]; rfl
      refine ⟨_, hv, ?_, by omega, _, _, rfl, ?_, (put_ne hVa.symm).trans ha2, (put_ne hVb.symm).trans hb2, k2.own hV⟩
      · unfold dkF
        rw [List.length_map, List.length_take]
        exact Nat.lt_of_lt_of_le (show min i prs.length < 2000 by omega) (by decide)
      · rw [put_same, tk]
        show some (Cell.dk (putW _ (.inr n : Key) (comp f ds n))) = _
        rw [put_new hnin]
        have e : setF (comp f ds) n (comp f ds n) = comp f ds := funext fun m => by
          unfold setF
          by_cases h : m = n
          · rw [if_pos h, h]
          · rw [if_neg h]
        rw [e]
    · rintro ρ' S' ⟨_, a3, a4, rfl, hv, ha2, hb2, k2⟩
      walk_at "w"
      exact fg_here (q V S' hV hv k2)⟩
end
end K13
set_option Elab.async false
set_option linter.all false
set_option maxRecDepth 100000
set_option maxHeartbeats 4000000
set_option synthInstance.maxHeartbeats 4000000
set_option synthInstance.maxSize 100000
namespace K13
open PySem PySem.Spec PyProof.Rows L2 Wl
local macro_rules | `(tactic| walk_at "w") => `(tactic| (conv => whnf))
/-! what a store holds -/
local macro_rules | `(tactic| walk_at "ne") => `(tactic| first | assumption | (apply Ne.symm; assumption) | exact ne_free (by assumption) (by assumption) | exact (ne_free (by assumption) (by assumption)).symm | exact Pl.ne (by assumption) (by assumption) | exact (Pl.ne (by assumption) (by assumption)).symm)
local macro_rules | `(tactic| walk_at "s") => `(tactic| first
  | exact put_same
  | assumption
  | (refine (put_ne ?_).trans ?_; (· walk_at "ne"); (· walk_at "s")))
/-! a side condition -/
local macro_rules | `(tactic| walk_at "c") => `(tactic| first
  | exact Or.inl (Or.inl ⟨by omega, by omega⟩)
  | exact Or.inl (Or.inr ⟨by omega, by omega⟩)
  | exact Or.inl ⟨by omega, by omega⟩
  | exact Or.inl ⟨rfl, _, by walk_at "s"⟩
  | rfl
  | omega
  | decide
  | exact Nat.le_trans (by omega) sizeLine_ge)
/-! one question is answered, if the answer is plain -/
local macro_rules | `(tactic| walk_at "g1") => `(tactic| first
  | refine ⟨fun _ => ?_, fun h => absurd (show true = false from h) (by decide)⟩
  | refine ⟨fun h => absurd (show false = true from h) Bool.false_ne_true, fun _ => ?_⟩
  | refine ⟨_, by walk_at "s", ?_⟩
  | refine ⟨_, _, by walk_at "s", by walk_at "s", ?_⟩
  | refine ⟨_, by walk_at "s", by simpa using (by omega), ?_⟩
  | refine ⟨_, rfl, ?_⟩
  | refine ⟨_, _, rfl, (by first | exact isTy_tt | exact isTy_ii | exact isTy_ll | exact isTy_ss | exact isTy_ib | exact isTy_tb | exact isTy_ti | exact isTy_ts | exact isTy_tl | exact isTy_lb | exact isTy_li | exact isTy_ls | exact isTy_lt | exact isTy_sb | exact isTy_si | exact isTy_st | exact isTy_sl | exact isTy_is | exact isTy_it | exact isTy_il | exact isTy_bi | exact isTy_bs | exact isTy_bb | exact isTy_nb | exact isTy_ni | exact isTy_ns | exact isTy_nt | exact isTy_nl | exact isTy_bt | exact isTy_bl | exact isTy_nd | exact isTy_td | exact isTy_ld | exact isTy_sd | exact isTy_id | exact isTy_bd | exact isTy_dd | exact isTy_db | exact isTy_di | exact isTy_ds | exact isTy_dt | exact isTy_dl), ?_⟩
  | refine ⟨_, _, tyName_lst (by walk_at "s"), (by first | exact isTy_ll | exact isTy_lb | exact isTy_li | exact isTy_ls | exact isTy_lt), ?_⟩
  | refine if_q ?_
  | refine ⟨by walk_at "c", ?_⟩)
local macro_rules | `(tactic| walk_at "go") => `(tactic| (walk_at "w"; repeat (walk_at "g1"; walk_at "w")))
/-! a branch that cannot be -/
local macro_rules | `(tactic| walk_at "two") => `(tactic| refine ⟨fun h => ?_, fun h => ?_⟩)
section
variable {P : Program} {w : World} {K : PySem.W.Frag} {mg : Str → Option Value} {base : Heap} {ec : Cls}
def spPr : SpW := fun ws S Q => ws = [] ∧ ∀ p, S p = none → Q (.ref p) (put S p (.lst (prs.map W.str)))
theorem ok__law_properties (T : Txt K mg ec w) (d : DefAt K mg "_law_properties" s__law_properties []) : CalW P w K mg base 1 "_law_properties" spPr :=
  calDI d sc__law_properties (fun ws S Q ⟨h, _⟩ => by rw [h]; rfl) fun f cdv A outer s H E hr => ⟨_, _,
    (pss_one (ps_ret (pe_lst (pa_cons pe_str (pa_cons pe_str (pa_cons pe_str (pa_cons pe_str (pa_cons pe_str (pa_cons pe_str (pa_cons pe_str (pa_cons pe_str (pa_cons pe_str (pa_cons pe_str pa_nil))))))))))))), inferInstance, by
    rintro ws S Q ⟨rfl, q⟩
    walk_at "w"
    intro p hp
    exact fg_here (q p hp)⟩
def wds : List Str := ["face", "align", "keep", "place"]
theorem prs_cases {n : Str} (h : n ∈ prs) : n ∈ wds ∨ n = "least" ∨ n ∈ rat := by
  unfold prs at h
  simp only [List.mem_cons, List.not_mem_nil, or_false] at h
  rcases h with rfl | rfl | rfl | rfl | rfl | rfl | rfl | rfl | rfl | rfl <;> first
    | exact .inl (by decide +kernel)
    | exact .inr (.inl rfl)
    | exact .inr (.inr (by decide +kernel))
theorem wds_no {n : Str} (h : n ∈ wds) : n ≠ "size" := by
  unfold wds at h
  simp only [List.mem_cons, List.not_mem_nil, or_false] at h
  rcases h with rfl | rfl | rfl | rfl <;> decide +kernel
theorem rat_wds {n : Str} (h : n ∈ rat) : n ∉ wds ∧ n ≠ "least" := by
  unfold rat at h
  simp only [List.mem_cons, List.not_mem_nil, or_false] at h
  rcases h with rfl | rfl | rfl | rfl | rfl <;> exact ⟨by decide +kernel, by decide +kernel⟩
def wdD (a b c d : Addr) : List (Key × W) := [(.inr "face", .ref a), (.inr "align", .ref b), (.inr "keep", .ref c), (.inr "place", .ref d)]
theorem wd_at {n : Str} {a b c d : Addr} (h : n ∈ wds) : ∃ x, valW (wdD a b c d) (.inr n : Key) = some (.ref x) ∧ (x = a ∨ x = b ∨ x = c ∨ x = d) := by
  unfold wds at h
  simp only [List.mem_cons, List.not_mem_nil, or_false] at h
  rcases h with rfl | rfl | rfl | rfl
  · exact ⟨a, by kernel_rfl, .inl rfl⟩
  · exact ⟨b, by kernel_rfl, .inr (.inl rfl)⟩
  · exact ⟨c, by kernel_rfl, .inr (.inr (.inl rfl))⟩
  · exact ⟨d, by kernel_rfl, .inr (.inr (.inr rfl))⟩
theorem wd_no {n : Str} {a b c d : Addr} (h : n ∉ wds) : valW (wdD a b c d) (.inr n : Key) = none := by
  unfold valW
  rw [List.find?_eq_none.mpr fun kv hkv => ?_]
  · rfl
  · intro z
    have z := of_decide_eq_true z
    unfold wdD at hkv
    simp only [List.mem_cons, List.not_mem_nil, or_false] at hkv
    rcases hkv with rfl | rfl | rfl | rfl <;> exact h (by rw [← Sum.inr.inj z]; decide +kernel)
def spVl : SpW := fun ws S Q => ∃ (p : Addr) (N : Int) (n : Str), ws = [.ref p, .str n] ∧ Pl S p N ∧ N < 2 ^ 36 ∧ n ∈ prs ∧ ∀ v S', Dcl n v → Pl S' p (N + 5) → OffL [p] S S' → Q v S'
theorem ok__law_value (T : Txt K mg ec w) (c__law_take : CalW P w K mg base 1 "_law_take" (Hd spTk)) (d : DefAt K mg "_law_value" s__law_value ["_law_pool_here", "_law_name"]) : CalW P w K mg base 2 "_law_value" spVl :=
  calDI d sc__law_value (fun ws S Q ⟨p, N, n, h, _⟩ => by rw [h]; rfl) fun f cdv A outer s H E hr => ⟨_, _,
    (pss_cons (ps_set (i := 2) sc__law_value.nd rfl (Or.inl rfl) (pe_disp (pps_cons pe_str (pe_lst (pa_cons pe_str (pa_cons pe_str pa_nil))) (pps_cons pe_str (pe_lst (pa_cons pe_str (pa_cons pe_str pa_nil))) (pps_cons pe_str (pe_lst (pa_cons pe_str (pa_cons pe_str pa_nil))) (pps_cons pe_str (pe_lst (pa_cons pe_str (pa_cons pe_str (pa_cons pe_str (pa_cons pe_str (pa_cons pe_str pa_nil)))))) pps_nil)))) (by rfl) (by rfl) (fun z => by cases z) (by decide)))
      (pss_cons (ps_set (i := 3) sc__law_value.nd rfl (Or.inl rfl) (k_w K c__law_take hr (by decide) rfl (pa_cons (pv 0) (pa_cons pe_int pa_nil))))
      (pss_cons (ps_if (pt_cmpR (k_eq K hr.units) (pv 3) pe_int (nomark _))
       (pss_one (ps_ret pe_str))
       pss_nil)
      (pss_cons (ps_if (pt_cmpR (k_eq K hr.units) (pv 3) pe_int (nomark _))
       (pss_one (ps_ret pe_str))
       pss_nil)
      (pss_cons (ps_if (pt_cmpR (k_inB K w (hu_of hr)) (pv 1) (pv 2) rfl)
       (pss_cons (ps_set (i := 4) sc__law_value.nd rfl (Or.inl rfl) (pe_ix (k_ixB K w (hu_of hr)) (pv 2) (pv 1) (fun _ _ => rfl)))
       (pss_one (ps_ret (pe_ix (k_ixB K w (hu_of hr)) (pv 4) (k_w K c__law_take hr (by decide) rfl (pa_cons (pv 0) (pa_cons (pe_callB (k_len K) (by rfl) T.b_len (by decide +kernel) (pa_cons (pv 4) pa_nil)) pa_nil))) (fun _ _ => rfl)))))
       pss_nil)
      (pss_cons (ps_if (pt_cmpR (k_eq K hr.units) (pv 1) pe_str (nomark _))
       (pss_one (ps_ret (pe_op (k_addB K) pe_int (k_w K c__law_take hr (by decide) rfl (pa_cons (pv 0) (pa_cons pe_int pa_nil))))))
       pss_nil)
      (pss_cons (ps_if (pt_cmpR op_ltA (pv 3) pe_int (nomark _))
       (pss_cons (ps_set (i := 5) sc__law_value.nd rfl (Or.inl rfl) (pe_op (k_addB K) pe_int (k_w K c__law_take hr (by decide) rfl (pa_cons (pv 0) (pa_cons pe_int pa_nil)))))
       (pss_one (ps_ret (pe_tup (pa_cons (pv 5) (pa_cons (pe_op (k_addB K) pe_int (k_w K c__law_take hr (by decide) rfl (pa_cons (pv 0) (pa_cons pe_int pa_nil)))) pa_nil))))))
       pss_nil)
      (pss_cons (ps_if (pt_cmpR (k_eq K hr.units) (pv 1) pe_str (nomark _))
       (pss_one (ps_ret (pe_op (k_addB K) pe_int (k_w K c__law_take hr (by decide) rfl (pa_cons (pv 0) (pa_cons pe_int pa_nil))))))
       pss_nil)
      (pss_cons (ps_if (pt_cmpR (k_eq K hr.units) (pv 1) pe_str (nomark _))
       (pss_one (ps_ret (pe_op (k_addB K) pe_int (k_w K c__law_take hr (by decide) rfl (pa_cons (pv 0) (pa_cons pe_int pa_nil))))))
       pss_nil)
      (pss_one (ps_ret (k_w K c__law_take hr (by decide) rfl (pa_cons (pv 0) (pa_cons pe_int pa_nil)))))))))))))), inferInstance, by
    rintro ws S Q ⟨p, N, n, rfl, hp, hN, hn, q⟩
    walk_at "w"
    have p0 := hp
    have k0 : KpL [p] S S := KpL.refl [p] S
    intro D hD
    have p1 := p0.eq (put_ne (c := .dk []) (p0.ne hD).symm)
    have k1 := k0.new (c := .dk []) hD
    have D1 : put S D (.dk []) D = some (.dk []) := put_same
    generalize put S D (.dk []) = S1 at p1 k1  D1
    walk_at "w"
    intro A hA
    have p2 := p1.eq (put_ne (c := .lst [.str "plain", .str "bold"]) (p1.ne hA).symm)
    have k2 := k1.new (c := .lst [.str "plain", .str "bold"]) hA
    have D2 := (put_ne (c := .lst [.str "plain", .str "bold"]) (ne_free D1 hA).symm).trans D1
    have A2 : put S1 A (.lst [.str "plain", .str "bold"]) A = some (.lst [.str "plain", .str "bold"]) := put_same
    generalize put S1 A (.lst [.str "plain", .str "bold"]) = S2 at p2 k2 D2 A2
    walk_at "w"
    intro B hB
    have p3 := p2.eq (put_ne (c := .lst [.str "both", .str "left"]) (p2.ne hB).symm)
    have k3 := k2.new (c := .lst [.str "both", .str "left"]) hB
    have D3 := (put_ne (c := .lst [.str "both", .str "left"]) (ne_free D2 hB).symm).trans D2
    have A3 := (put_ne (c := .lst [.str "both", .str "left"]) (ne_free A2 hB).symm).trans A2
    have B3 : put S2 B (.lst [.str "both", .str "left"]) B = some (.lst [.str "both", .str "left"]) := put_same
    generalize put S2 B (.lst [.str "both", .str "left"]) = S3 at p3 k3 D3 A3 B3
    walk_at "w"
    intro C hC
    have p4 := p3.eq (put_ne (c := .lst [.str "yes", .str "no"]) (p3.ne hC).symm)
    have k4 := k3.new (c := .lst [.str "yes", .str "no"]) hC
    have D4 := (put_ne (c := .lst [.str "yes", .str "no"]) (ne_free D3 hC).symm).trans D3
    have A4 := (put_ne (c := .lst [.str "yes", .str "no"]) (ne_free A3 hC).symm).trans A3
    have B4 := (put_ne (c := .lst [.str "yes", .str "no"]) (ne_free B3 hC).symm).trans B3
    have C4 : put S3 C (.lst [.str "yes", .str "no"]) C = some (.lst [.str "yes", .str "no"]) := put_same
    generalize put S3 C (.lst [.str "yes", .str "no"]) = S4 at p4 k4 D4 A4 B4 C4
    walk_at "w"
    intro G hG
    have p5 := p4.eq (put_ne (c := .lst [.str "block", .str "line", .str "none", .str "note", .str "float"]) (p4.ne hG).symm)
    have k5 := k4.new (c := .lst [.str "block", .str "line", .str "none", .str "note", .str "float"]) hG
    have D5 := (put_ne (c := .lst [.str "block", .str "line", .str "none", .str "note", .str "float"]) (ne_free D4 hG).symm).trans D4
    have A5 := (put_ne (c := .lst [.str "block", .str "line", .str "none", .str "note", .str "float"]) (ne_free A4 hG).symm).trans A4
    have B5 := (put_ne (c := .lst [.str "block", .str "line", .str "none", .str "note", .str "float"]) (ne_free B4 hG).symm).trans B4
    have C5 := (put_ne (c := .lst [.str "block", .str "line", .str "none", .str "note", .str "float"]) (ne_free C4 hG).symm).trans C4
    have G5 : put S4 G (.lst [.str "block", .str "line", .str "none", .str "note", .str "float"]) G = some (.lst [.str "block", .str "line", .str "none", .str "note", .str "float"]) := put_same
    generalize put S4 G (.lst [.str "block", .str "line", .str "none", .str "note", .str "float"]) = S5 at p5 k5 D5 A5 B5 C5 G5
    walk_at "w"
    refine ⟨D5, wdD A B C G, rfl, (by show 4 ≤ 15; decide), ?_⟩
    have em : mergeW [] (wdD A B C G) = wdD A B C G := by kernel_rfl
    rw [em]
    have nA : A ≠ D := fun z => by rw [z, D5] at A5; cases A5
    have nB : B ≠ D := fun z => by rw [z, D5] at B5; cases B5
    have nC : C ≠ D := fun z => by rw [z, D5] at C5; cases C5
    have nG : G ≠ D := fun z => by rw [z, D5] at G5; cases G5
    have hDp := hp.ne hD
    have p6 := p5.eq (put_ne (c := .dk (wdD A B C G)) hDp.symm)
    have k6 := k5.own (c := .dk (wdD A B C G)) hD
    have A6 := (put_ne (c := .dk (wdD A B C G)) nA).trans A5
    have B6 := (put_ne (c := .dk (wdD A B C G)) nB).trans B5
    have C6 := (put_ne (c := .dk (wdD A B C G)) nC).trans C5
    have G6 := (put_ne (c := .dk (wdD A B C G)) nG).trans G5
    have D6 : put S5 D (.dk (wdD A B C G)) D = some (.dk (wdD A B C G)) := put_same
    generalize put S5 D (.dk (wdD A B C G)) = S6 at p6 k6 A6 B6 C6 G6 D6
    have fin : ∀ (v : W) (M : Int) (T : Sto), Dcl n v → Pl T p M → M ≤ N + 5 → KpL [p] S T → FgI Q v T := fun v M T hv hT hM hk => by
      refine fg_off (ps := [p]) hk fun S9 g1 g2 => ?_
      exact q v S9 hv ((hT.eq (g2 p (by simp))).mono hM) g1
    walk_at "w"
    refine tk_go p6 (by omega) (by decide) (by decide) fun so S7 so0 so1 p7 o7 => ?_
    have k7 := k6.trans o7.kp
    have D7 := (o7 D (notin1 hDp)).trans D6
    walk_at "w"
    refine ⟨fun _ => ?_, fun _ => ?_⟩
    · walk_at "w"
      exact fin _ _ _ (.str (.inr (.inl rfl))) p7 (by omega) k7
    walk_at "w"
    refine ⟨fun _ => ?_, fun _ => ?_⟩
    · walk_at "w"
      exact fin _ _ _ (.str (.inr (.inr rfl))) p7 (by omega) k7
    walk_at "w"
    refine .inr (.inl ⟨_, _, D7, rfl, ?_⟩)
    have nAp : A ≠ p := fun z => by obtain ⟨c, hc⟩ := p1.some; rw [z, hc] at hA; cases hA
    have nBp : B ≠ p := fun z => by obtain ⟨c, hc⟩ := p2.some; rw [z, hc] at hB; cases hB
    have nCp : C ≠ p := fun z => by obtain ⟨c, hc⟩ := p3.some; rw [z, hc] at hC; cases hC
    have nGp : G ≠ p := fun z => by obtain ⟨c, hc⟩ := p4.some; rw [z, hc] at hG; cases hG
    by_cases hw : n ∈ wds
    · obtain ⟨x, ex, hx⟩ := wd_at (a := A) (b := B) (c := C) (d := G) hw
      obtain ⟨xs, hxs, xl, xu, xp⟩ : ∃ xs : List Str, S7 x = some (.lst (xs.map W.str)) ∧ 0 < xs.length ∧ xs.length ≤ 5 ∧ x ≠ p := by
        rcases hx with rfl | rfl | rfl | rfl
        · exact ⟨["plain", "bold"], (o7 _ (notin1 nAp)).trans A6, by decide, by decide, nAp⟩
        · exact ⟨["both", "left"], (o7 _ (notin1 nBp)).trans B6, by decide, by decide, nBp⟩
        · exact ⟨["yes", "no"], (o7 _ (notin1 nCp)).trans C6, by decide, by decide, nCp⟩
        · exact ⟨["block", "line", "none", "note", "float"], (o7 _ (notin1 nGp)).trans G6, by decide, by decide, nGp⟩
      rw [ex]
      refine ⟨fun _ => ?_, fun h => absurd (show true = false from h) (by decide)⟩
      walk_at "w"
      refine .inl ⟨_, D7, rdAt_ok ex ?_⟩
      walk_at "w"
      refine ⟨_, hxs, ?_⟩
      walk_at "w"
      rw [List.length_map]
      refine tk_go p7 (by omega) (by omega) (by omega) fun r S8 r0 r1 p8 o8 => ?_
      have k8 := k7.trans o8.kp
      have hx8 := (o8 x (notin1 xp)).trans hxs
      obtain ⟨j, rfl⟩ : ∃ j : Nat, r = (j : Int) := ⟨r.toNat, by omega⟩
      have ej : xs[j]? = some (xs[j]'(by omega)) := List.getElem?_eq_getElem (by omega)
      walk_at "w"
      refine .inl ⟨_, hx8, rdAt_ok (atI_nat (j := j) (by rw [List.getElem?_map, ej]; rfl)) ?_⟩
      exact fin _ _ _ (.str (.inl (wds_no hw))) p8 (by omega) k8
    rw [wd_no hw]
    refine ⟨fun h => absurd (show false = true from h) Bool.false_ne_true, fun _ => ?_⟩
    walk_at "w"
    refine ⟨fun h => ?_, fun h => ?_⟩
    · have h := of_decide_eq_true h
      walk_at "w"
      refine tk_go p7 (by omega) (by omega) (by omega) fun r S8 r0 r1 p8 o8 => ?_
      exact fin _ _ _ (.int fun z => absurd (h.symm.trans z) (by decide +kernel)) p8 (by omega) (k7.trans o8.kp)
    have hl := of_decide_eq_false h
    have hr : n ∈ rat := ((prs_cases hn).resolve_left hw).resolve_left hl
    walk_at "w"
    refine ⟨fun h => ?_, fun _ => ?_⟩
    · walk_at "w"
      refine tk_go p7 (by omega) (by omega) (by omega) fun r S8 r0 r1 p8 o8 => ?_
      walk_at "w"
      refine tk_go p8 (by omega) (by omega) (by omega) fun r2 S9 r20 r21 p9 o9 => ?_
      exact fin _ _ _ (.tup hr (by omega) (by omega) (by omega) (by omega)) p9 (by omega) ((k7.trans o8.kp).trans o9.kp)
    walk_at "w"
    refine ⟨fun h => ?_, fun h => ?_⟩
    · walk_at "w"
      refine tk_go p7 (by omega) (by omega) (by omega) fun r S8 r0 r1 p8 o8 => ?_
      exact fin _ _ _ (.int fun _ => ⟨by omega, by omega⟩) p8 (by omega) (k7.trans o8.kp)
    have hz := of_decide_eq_false h
    walk_at "w"
    refine ⟨fun h => ?_, fun h => ?_⟩
    · walk_at "w"
      refine tk_go p7 (by omega) (by omega) (by omega) fun r S8 r0 r1 p8 o8 => ?_
      exact fin _ _ _ (.int fun z => absurd z hz) p8 (by omega) (k7.trans o8.kp)
    walk_at "w"
    refine tk_go p7 (by omega) (by omega) (by omega) fun r S8 r0 r1 p8 o8 => ?_
    exact fin _ _ _ (.int fun z => absurd z hz) p8 (by omega) (k7.trans o8.kp)⟩
end
end K13
set_option Elab.async false
set_option linter.all false
set_option maxRecDepth 100000
set_option maxHeartbeats 4000000
set_option synthInstance.maxHeartbeats 4000000
set_option synthInstance.maxSize 100000
namespace K13
open PySem PySem.Spec PyProof.Rows L2 Wl
local macro_rules | `(tactic| walk_at "w") => `(tactic| (conv => whnf))
/-! what a store holds -/
local macro_rules | `(tactic| walk_at "ne") => `(tactic| first | assumption | (apply Ne.symm; assumption) | exact ne_free (by assumption) (by assumption) | exact (ne_free (by assumption) (by assumption)).symm | exact Pl.ne (by assumption) (by assumption) | exact (Pl.ne (by assumption) (by assumption)).symm)
local macro_rules | `(tactic| walk_at "s") => `(tactic| first
  | exact put_same
  | assumption
  | (refine (put_ne ?_).trans ?_; (· walk_at "ne"); (· walk_at "s")))
/-! a side condition -/
local macro_rules | `(tactic| walk_at "c") => `(tactic| first
  | exact Or.inl (Or.inl ⟨by omega, by omega⟩)
  | exact Or.inl (Or.inr ⟨by omega, by omega⟩)
  | exact Or.inl ⟨by omega, by omega⟩
  | exact Or.inl ⟨rfl, _, by walk_at "s"⟩
  | rfl
  | omega
  | decide
  | exact Nat.le_trans (by omega) sizeLine_ge)
/-! one question is answered, if the answer is plain -/
local macro_rules | `(tactic| walk_at "g1") => `(tactic| first
  | refine ⟨fun _ => ?_, fun h => absurd (show true = false from h) (by decide)⟩
  | refine ⟨fun h => absurd (show false = true from h) Bool.false_ne_true, fun _ => ?_⟩
  | refine ⟨_, by walk_at "s", ?_⟩
  | refine ⟨_, _, by walk_at "s", by walk_at "s", ?_⟩
  | refine ⟨_, by walk_at "s", by simpa using (by omega), ?_⟩
  | refine ⟨_, rfl, ?_⟩
  | refine ⟨_, _, rfl, (by first | exact isTy_tt | exact isTy_ii | exact isTy_ll | exact isTy_ss | exact isTy_ib | exact isTy_tb | exact isTy_ti | exact isTy_ts | exact isTy_tl | exact isTy_lb | exact isTy_li | exact isTy_ls | exact isTy_lt | exact isTy_sb | exact isTy_si | exact isTy_st | exact isTy_sl | exact isTy_is | exact isTy_it | exact isTy_il | exact isTy_bi | exact isTy_bs | exact isTy_bb | exact isTy_nb | exact isTy_ni | exact isTy_ns | exact isTy_nt | exact isTy_nl | exact isTy_bt | exact isTy_bl | exact isTy_nd | exact isTy_td | exact isTy_ld | exact isTy_sd | exact isTy_id | exact isTy_bd | exact isTy_dd | exact isTy_db | exact isTy_di | exact isTy_ds | exact isTy_dt | exact isTy_dl), ?_⟩
  | refine ⟨_, _, tyName_lst (by walk_at "s"), (by first | exact isTy_ll | exact isTy_lb | exact isTy_li | exact isTy_ls | exact isTy_lt), ?_⟩
  | refine if_q ?_
  | refine ⟨by walk_at "c", ?_⟩)
local macro_rules | `(tactic| walk_at "go") => `(tactic| (walk_at "w"; repeat (walk_at "g1"; walk_at "w")))
/-! a branch that cannot be -/
local macro_rules | `(tactic| walk_at "two") => `(tactic| refine ⟨fun h => ?_, fun h => ?_⟩)
section
variable {P : Program} {w : World} {K : PySem.W.Frag} {mg : Str → Option Value} {base : Heap} {ec : Cls}
theorem PvOk.set {f : Str → W} {n : Str} {v : W} (h : PvOk f) (hv : Flat v) (hs : n = "size" → ∃ s : Int, v = .int s ∧ 1 ≤ s ∧ s ≤ 12) : PvOk (setF f n v) := by
  refine ⟨fun m hm => ?_, ?_⟩
  · unfold setF
    split
    · exact hv
    · exact h.flat m hm
  · unfold setF
    by_cases e : ("size" : Str) = n
    · rw [if_pos e]
      exact hs e.symm
    · rw [if_neg e]
      exact h.size
theorem ini_ok : PvOk ini := ⟨fun n hn => ini_flat hn, 2, by kernel_rfl, by decide, by decide⟩
/-- a pool and a dict of values -/
structure Gv (B S : Sto) (p V : Addr) (f : Str → W) (N : Int) : Prop where
  pp : Pl S p N
  vv : S V = some (.dk (dkF prs f))
  kk : KpL [p] B S
  vp : V ≠ p
  nn : B V = none
  ok : PvOk f
section
variable {B S : Sto} {p V D : Addr} {f : Str → W} {N : Int} {Q : WK}
theorem Gv.new {c : Cell} (g : Gv B S p V f N) (hD : S D = none) : Gv B (put S D c) p V f N :=
  ⟨g.pp.eq (put_ne (g.pp.ne hD).symm), (put_ne (ne_free g.vv hD).symm).trans g.vv, g.kk.new hD, g.vp, g.nn, g.ok⟩
theorem Gv.tk {many : Int} (g : Gv B S p V f N) (hN : N < 2 ^ 40) (h0 : 0 < many) (h1 : many < 2 ^ 64) (q : ∀ r S', 0 ≤ r → r < many → Gv B S' p V f (N + 1) → OffL [p] S S' → Q (.int r) S') : Hd spTk [.ref p, .int many] S Q :=
  tk_go g.pp hN h0 h1 fun r S' r0 r1 p' o => q r S' r0 r1 ⟨p', (o V (notin1 g.vp)).trans g.vv, g.kk.trans o.kp, g.vp, g.nn, g.ok⟩ o
theorem Gv.set {n : Str} {v : W} (g : Gv B S p V f N) (hn : n ∈ prs) (hv : Flat v) (hs : n = "size" → ∃ s : Int, v = .int s ∧ 1 ≤ s ∧ s ≤ 12) : Gv B (put S V (.dk (putW (dkF prs f) (.inr n : Key) v))) p V (setF f n v) N :=
  ⟨g.pp.eq (put_ne g.vp.symm), by rw [put_same, put_dkF hn], g.kk.own g.nn, g.vp, g.nn, g.ok.set hv hs⟩
theorem dkF_len {f : Str → W} : (dkF prs f).length < sizeLine := by
  unfold dkF
  rw [List.length_map]
  decide
end
theorem tabS {xs : List Str} {r : Int} (h0 : 0 ≤ r) (h1 : r < xs.length) : ∃ x : Str, atI (xs.map W.str) r = some (.str x) := by
  obtain ⟨j, rfl⟩ : ∃ j : Nat, r = (j : Int) := ⟨r.toNat, by omega⟩
  have ej : xs[j]? = some (xs[j]'(by omega)) := List.getElem?_eq_getElem (by omega)
  exact ⟨_, atI_nat (by rw [List.getElem?_map, ej]; rfl)⟩
def spPa : SpW := fun ws S Q => ∃ (p : Addr) (N : Int), ws = [.ref p] ∧ Pl S p N ∧ N < 2 ^ 36 ∧ ∀ V f S' M, Gv S S' p V f M → M ≤ N + 30 → Q (.ref V) S'
theorem ok__law_parent (T : Txt K mg ec w) (c__law_initial : CalW P w K mg base 1 "_law_initial" (Hd spIv)) (c__law_take : CalW P w K mg base 1 "_law_take" (Hd spTk)) (d : DefAt K mg "_law_parent" s__law_parent ["_law_pool_here"]) : CalW P w K mg base 2 "_law_parent" spPa :=
  calDI d sc__law_parent (fun ws S Q ⟨p, N, h, _⟩ => by rw [h]; rfl) fun f cdv A outer s H E hr => ⟨_, _,
    (pss_cons (ps_set (i := 1) sc__law_parent.nd rfl (Or.inl rfl) (k_w0 K c__law_initial hr (by decide) rfl))
      (pss_cons (ps_if (pt_cmpR (k_eq K hr.units) (k_w K c__law_take hr (by decide) rfl (pa_cons (pv 0) (pa_cons pe_int pa_nil))) pe_int (nomark _))
       (pss_one (ps_ret (pv 1)))
       pss_nil)
      (pss_cons (ps_asg (pe_op (k_addB K) pe_int (k_w K c__law_take hr (by decide) rfl (pa_cons (pv 0) (pa_cons pe_int pa_nil)))) (pg_sub (pv 1) pe_str (set_B (hu_of hr))))
      (pss_cons (ps_asg (pe_op (k_addB K) pe_int (k_w K c__law_take hr (by decide) rfl (pa_cons (pv 0) (pa_cons pe_int pa_nil)))) (pg_sub (pv 1) pe_str (set_B (hu_of hr))))
      (pss_cons (ps_asg (pe_ix (k_ixB K w (hu_of hr)) (pe_lst (pa_cons pe_str (pa_cons pe_str pa_nil))) (k_w K c__law_take hr (by decide) rfl (pa_cons (pv 0) (pa_cons pe_int pa_nil))) (fun _ _ => rfl)) (pg_sub (pv 1) pe_str (set_B (hu_of hr))))
      (pss_cons (ps_asg (pe_ix (k_ixB K w (hu_of hr)) (pe_lst (pa_cons pe_str (pa_cons pe_str pa_nil))) (k_w K c__law_take hr (by decide) rfl (pa_cons (pv 0) (pa_cons pe_int pa_nil))) (fun _ _ => rfl)) (pg_sub (pv 1) pe_str (set_B (hu_of hr))))
      (pss_cons (ps_asg (pe_op (k_addB K) pe_int (k_w K c__law_take hr (by decide) rfl (pa_cons (pv 0) (pa_cons pe_int pa_nil)))) (pg_sub (pv 1) pe_str (set_B (hu_of hr))))
      (pss_cons (ps_asg (pe_ix (k_ixB K w (hu_of hr)) (pe_lst (pa_cons pe_str (pa_cons pe_str (pa_cons pe_str (pa_cons pe_str (pa_cons pe_str pa_nil)))))) (k_w K c__law_take hr (by decide) rfl (pa_cons (pv 0) (pa_cons pe_int pa_nil))) (fun _ _ => rfl)) (pg_sub (pv 1) pe_str (set_B (hu_of hr))))
      (pss_cons (ps_asg (pe_ix (k_ixB K w (hu_of hr)) (pe_lst (pa_cons pe_str (pa_cons pe_str pa_nil))) (k_w K c__law_take hr (by decide) rfl (pa_cons (pv 0) (pa_cons pe_int pa_nil))) (fun _ _ => rfl)) (pg_sub (pv 1) pe_str (set_B (hu_of hr))))
      (pss_cons (ps_for PassesOwn.never rfl (k_any K (pe_lst (pa_cons pe_str (pa_cons pe_str (pa_cons pe_str pa_nil))))) (pg_name (i := 2) sc__law_parent.nd rfl (Or.inl rfl))
       (pss_one (ps_asg (k_w K c__law_take hr (by decide) rfl (pa_cons (pv 0) (pa_cons pe_int pa_nil))) (pg_sub (pv 1) (pv 2) (set_B (hu_of hr))))))
      (pss_one (ps_ret (pv 1))))))))))))), inferInstance, by
    rintro ws S Q ⟨p, N, rfl, hp, hN, q⟩
    walk_at "w"
    refine Hd.mk ⟨rfl, fun V hV => ?_⟩
    have hVp := hp.ne hV
    have g0 : Gv S (put S V (.dk (dkF prs ini))) p V ini N := ⟨hp.eq (put_ne hVp.symm), put_same, (KpL.refl [p] S).new hV, hVp, hV, ini_ok⟩
    generalize put S V (.dk (dkF prs ini)) = S0 at g0
    have fin : ∀ f T M, Gv S T p V f M → M ≤ N + 30 → FgI Q (.ref V) T := fun f T M g hM => by
      refine fg_off (ps := [p, V]) (g.kk.mono (fun a h => by simp at h ⊢; exact .inl h)) fun S9 g1 g2 => ?_
      refine q V f S9 M ⟨g.pp.eq (g2 p (by simp)), (g2 V (by simp)).trans g.vv, fun a c ha e => (g1 a (fun z => ?_)).trans e, g.vp, g.nn, g.ok⟩ hM
      rcases List.mem_cons.mp z with z | z
      · exact ha (by rw [z]; exact List.mem_cons_self)
      · rw [List.mem_singleton.mp z, hV] at e
        cases e
    walk_at "w"
    refine g0.tk (by omega) (by decide) (by decide) fun u S1 u0 u1 g1 o1 => ?_
    walk_at "w"
    refine ⟨fun _ => ?_, fun _ => ?_⟩
    · walk_at "w"
      exact fin _ _ _ g1 (by omega)
    walk_at "w"
    refine g1.tk (by omega) (by decide) (by decide) fun v2 S2 v20 v21 g2 o2 => ?_
    walk_at "w"
    refine ⟨_, g2.vv, dkF_len, ?_⟩
    have g3 := g2.set (n := "size") (by decide +kernel) (.int : Flat (.int (1 + v2))) (fun _ => ⟨_, rfl, by omega, by omega⟩)
    generalize put S2 V _ = S3 at g3
    walk_at "w"
    refine g3.tk (by omega) (by decide) (by decide) fun v4 S4 v40 v41 g4 o4 => ?_
    walk_at "w"
    refine ⟨_, g4.vv, dkF_len, ?_⟩
    have g5 := g4.set (n := "lead") (by decide +kernel) (.int : Flat (.int (1 + v4))) (fun z => absurd z (by decide +kernel))
    generalize put S4 V _ = S5 at g5
    walk_at "w"
    intro D6 hD6
    have nD6 := g5.pp.ne hD6
    refine (g5.new hD6).tk (by omega) (by decide) (by decide) fun v6 S6 v60 v61 g6 o6 => ?_
    obtain ⟨x6, e6⟩ := tabS (xs := ["plain", "bold"]) v60 v61
    walk_at "w"
    refine .inl ⟨_, (o6 D6 (notin1 nD6)).trans put_same, rdAt_ok e6 ?_⟩
    walk_at "w"
    refine ⟨_, g6.vv, dkF_len, ?_⟩
    have g7 := g6.set (n := "face") (by decide +kernel) (.str : Flat (.str x6)) (fun z => absurd z (by decide +kernel))
    generalize put S6 V _ = S7 at g7
    walk_at "w"
    intro D8 hD8
    have nD8 := g7.pp.ne hD8
    refine (g7.new hD8).tk (by omega) (by decide) (by decide) fun v8 S8 v80 v81 g8 o8 => ?_
    obtain ⟨x8, e8⟩ := tabS (xs := ["both", "left"]) v80 v81
    walk_at "w"
    refine .inl ⟨_, (o8 D8 (notin1 nD8)).trans put_same, rdAt_ok e8 ?_⟩
    walk_at "w"
    refine ⟨_, g8.vv, dkF_len, ?_⟩
    have g9 := g8.set (n := "align") (by decide +kernel) (.str : Flat (.str x8)) (fun z => absurd z (by decide +kernel))
    generalize put S8 V _ = S9 at g9
    walk_at "w"
    refine g9.tk (by omega) (by decide) (by decide) fun v10 S10 v100 v101 g10 o10 => ?_
    walk_at "w"
    refine ⟨_, g10.vv, dkF_len, ?_⟩
    have g11 := g10.set (n := "least") (by decide +kernel) (.int : Flat (.int (1 + v10))) (fun z => absurd z (by decide +kernel))
    generalize put S10 V _ = S11 at g11
    walk_at "w"
    intro D12 hD12
    have nD12 := g11.pp.ne hD12
    refine (g11.new hD12).tk (by omega) (by decide) (by decide) fun v12 S12 v120 v121 g12 o12 => ?_
    obtain ⟨x12, e12⟩ := tabS (xs := ["block", "line", "none", "note", "float"]) v120 v121
    walk_at "w"
    refine .inl ⟨_, (o12 D12 (notin1 nD12)).trans put_same, rdAt_ok e12 ?_⟩
    walk_at "w"
    refine ⟨_, g12.vv, dkF_len, ?_⟩
    have g13 := g12.set (n := "place") (by decide +kernel) (.str : Flat (.str x12)) (fun z => absurd z (by decide +kernel))
    generalize put S12 V _ = S13 at g13
    walk_at "w"
    intro D14 hD14
    have nD14 := g13.pp.ne hD14
    refine (g13.new hD14).tk (by omega) (by decide) (by decide) fun v14 S14 v140 v141 g14 o14 => ?_
    obtain ⟨x14, e14⟩ := tabS (xs := ["yes", "no"]) v140 v141
    walk_at "w"
    refine .inl ⟨_, (o14 D14 (notin1 nD14)).trans put_same, rdAt_ok e14 ?_⟩
    walk_at "w"
    refine ⟨_, g14.vv, dkF_len, ?_⟩
    have g15 := g14.set (n := "keep") (by decide +kernel) (.str : Flat (.str x14)) (fun z => absurd z (by decide +kernel))
    generalize put S14 V _ = S15 at g15
    walk_at "w"
    intro X hX
    have g16 := g15.new (c := .lst [.str "indent", .str "above", .str "below"]) hX
    have x16 : put S15 X (.lst [.str "indent", .str "above", .str "below"]) X = some (.lst [.str "indent", .str "above", .str "below"]) := put_same
    have nXp := g15.pp.ne hX
    have nXV : X ≠ V := ne_free g15.vv hX
    generalize put S15 X (.lst [.str "indent", .str "above", .str "below"]) = S16 at g16 x16
    walk_at "w"
    refine ⟨_, x16, ?_⟩
    refine for_q (fun i ρ' S' => i ≤ 3 ∧ ∃ (f : Str → W) (M : Int) (a2 : Option W), ρ' = [some (.ref p), some (.ref V), a2] ∧ Gv S S' p V f M ∧ M ≤ N + 20 + i ∧ S' X = some (.lst [.str "indent", .str "above", .str "below"])) ⟨Nat.zero_le _, _, _, _, rfl, g16, by omega, x16⟩ (fun i ρ' S' h => by obtain ⟨_, _, _, _, _, _, _, h⟩ := h; exact h) ?_ ?_
    · rintro i w ρ' S' ew ⟨_, f, M, a2, rfl, g, hM, hx⟩
      have hi : i < 3 := (List.getElem?_eq_some_iff.mp ew).1
      obtain ⟨n, rfl, hn, hz⟩ : ∃ n : Str, w = .str n ∧ n ∈ prs ∧ n ≠ "size" := by
        match i, ew with
        | 0, ew => cases ew; exact ⟨_, rfl, by decide +kernel, by decide +kernel⟩
        | 1, ew => cases ew; exact ⟨_, rfl, by decide +kernel, by decide +kernel⟩
        | 2, ew => cases ew; exact ⟨_, rfl, by decide +kernel, by decide +kernel⟩
      walk_at "w"
      refine g.tk (by omega) (by decide) (by decide) fun v S2 v0 v1 g2 o2 => ?_
      have hx2 := (o2 X (notin1 nXp)).trans hx
      walk_at "w"
      refine ⟨_, g2.vv, dkF_len, ?_⟩
      exact ⟨by omega, _, _, _, rfl, g2.set hn .int (fun z => absurd z hz), by omega, (put_ne nXV).trans hx2⟩
    · rintro ρ' S' ⟨_, f, M, a2, rfl, g, hM, hx⟩
      walk_at "w"
      exact fin f S' M g (by have : ([W.str "indent", W.str "above", W.str "below"] : List W).length = 3 := rfl; omega)⟩
end
end K13
set_option Elab.async false
set_option linter.all false
set_option maxRecDepth 100000
set_option maxHeartbeats 4000000
set_option synthInstance.maxHeartbeats 4000000
set_option synthInstance.maxSize 100000
namespace K13
open PySem PySem.Spec PyProof.Rows L2 Wl
local macro_rules | `(tactic| walk_at "w") => `(tactic| (conv => whnf))
/-! what a store holds -/
local macro_rules | `(tactic| walk_at "ne") => `(tactic| first | assumption | (apply Ne.symm; assumption) | exact ne_free (by assumption) (by assumption) | exact (ne_free (by assumption) (by assumption)).symm | exact Pl.ne (by assumption) (by assumption) | exact (Pl.ne (by assumption) (by assumption)).symm)
local macro_rules | `(tactic| walk_at "s") => `(tactic| first
  | exact put_same
  | assumption
  | (refine (put_ne ?_).trans ?_; (· walk_at "ne"); (· walk_at "s")))
/-! a side condition -/
local macro_rules | `(tactic| walk_at "c") => `(tactic| first
  | exact Or.inl (Or.inl ⟨by omega, by omega⟩)
  | exact Or.inl (Or.inr ⟨by omega, by omega⟩)
  | exact Or.inl ⟨by omega, by omega⟩
  | exact Or.inl ⟨rfl, _, by walk_at "s"⟩
  | rfl
  | omega
  | decide
  | exact Nat.le_trans (by omega) sizeLine_ge)
/-! one question is answered, if the answer is plain -/
local macro_rules | `(tactic| walk_at "g1") => `(tactic| first
  | refine ⟨fun _ => ?_, fun h => absurd (show true = false from h) (by decide)⟩
  | refine ⟨fun h => absurd (show false = true from h) Bool.false_ne_true, fun _ => ?_⟩
  | refine ⟨_, by walk_at "s", ?_⟩
  | refine ⟨_, _, by walk_at "s", by walk_at "s", ?_⟩
  | refine ⟨_, by walk_at "s", by simpa using (by omega), ?_⟩
  | refine ⟨_, rfl, ?_⟩
  | refine ⟨_, _, rfl, (by first | exact isTy_tt | exact isTy_ii | exact isTy_ll | exact isTy_ss | exact isTy_ib | exact isTy_tb | exact isTy_ti | exact isTy_ts | exact isTy_tl | exact isTy_lb | exact isTy_li | exact isTy_ls | exact isTy_lt | exact isTy_sb | exact isTy_si | exact isTy_st | exact isTy_sl | exact isTy_is | exact isTy_it | exact isTy_il | exact isTy_bi | exact isTy_bs | exact isTy_bb | exact isTy_nb | exact isTy_ni | exact isTy_ns | exact isTy_nt | exact isTy_nl | exact isTy_bt | exact isTy_bl | exact isTy_nd | exact isTy_td | exact isTy_ld | exact isTy_sd | exact isTy_id | exact isTy_bd | exact isTy_dd | exact isTy_db | exact isTy_di | exact isTy_ds | exact isTy_dt | exact isTy_dl), ?_⟩
  | refine ⟨_, _, tyName_lst (by walk_at "s"), (by first | exact isTy_ll | exact isTy_lb | exact isTy_li | exact isTy_ls | exact isTy_lt), ?_⟩
  | refine if_q ?_
  | refine ⟨by walk_at "c", ?_⟩)
local macro_rules | `(tactic| walk_at "go") => `(tactic| (walk_at "w"; repeat (walk_at "g1"; walk_at "w")))
/-! a branch that cannot be -/
local macro_rules | `(tactic| walk_at "two") => `(tactic| refine ⟨fun h => ?_, fun h => ?_⟩)
section
variable {P : Program} {w : World} {K : PySem.W.Frag} {mg : Str → Option Value} {base : Heap} {ec : Cls}
theorem er_map {α β : Type} (f : α → β) : ∀ (l : List α) (n : Nat), (l.map f).eraseIdx n = (l.eraseIdx n).map f
  | [], _ => rfl
  | _ :: _, 0 => rfl
  | x :: l, n + 1 => congrArg (f x :: ·) (er_map f l n)
def rowD (e : Str × W) : W := .tup [.str e.1, e.2]
def DOk (e : Str × W) : Prop := e.1 ∈ prs ∧ Dcl e.1 e.2
theorem put_sk {ds : List (Str × W)} {n : Str} {v : W} : ∃ ds', putW (skW ds) (.inr n : Key) v = skW ds' ∧ ds'.length ≤ ds.length + 1 ∧ ∀ e ∈ ds', e ∈ ds ∨ e = (n, v) := by
  unfold putW
  split
  · refine ⟨ds.map fun e => if e.1 = n then (e.1, v) else e, ?_, by rw [List.length_map]; omega, fun e he => ?_⟩
    · unfold skW
      rw [List.map_map, List.map_map]
      refine List.map_congr_left fun e _ => ?_
      show (if (Sum.inr e.1 : Key) = Sum.inr n then ((Sum.inr e.1 : Key), v) else (Sum.inr e.1, e.2)) = (Sum.inr (if e.1 = n then (e.1, v) else e).1, (if e.1 = n then (e.1, v) else e).2)
      by_cases h : e.1 = n
      · rw [if_pos (by rw [h]), if_pos h]
      · rw [if_neg (fun z => h (Sum.inr.inj z)), if_neg h]
    · obtain ⟨x, hx, rfl⟩ := List.mem_map.mp he
      by_cases h : x.1 = n
      · rw [if_pos h, h]
        exact .inr rfl
      · rw [if_neg h]
        exact .inl hx
  · refine ⟨ds ++ [(n, v)], by unfold skW; rw [List.map_append]; rfl, by rw [List.length_append]; exact Nat.le_refl _, fun e he => ?_⟩
    rcases List.mem_append.mp he with h | h
    · exact .inl h
    · exact .inr (List.mem_singleton.mp h)
theorem ds_ok {ds : List (Str × W)} (h : ∀ e ∈ ds, DOk e) : DsOk ds := by
  intro n w _ hg
  unfold ge at hg
  induction ds with
  | nil => cases hg
  | cons e ds ih =>
    by_cases c : e.1 = n
    · subst c
      have : valW (skW (e :: ds)) (.inr e.1 : Key) = some e.2 := by simp [skW, valW, List.find?_cons]
      rw [this] at hg
      cases Option.some.inj hg
      exact (h e List.mem_cons_self).2
    · have : valW (skW (e :: ds)) (.inr n : Key) = valW (skW ds) (.inr n : Key) := by simp [skW, valW, List.find?_cons, c]
      rw [this] at hg
      exact ih (fun x hx => h x (List.mem_cons_of_mem _ hx)) hg
def spDv : SpW := fun ws S Q => ∃ (p : Addr) (N : Int), ws = [.ref p] ∧ Pl S p N ∧ N < 2 ^ 34 ∧ ∀ V ds S', S V = none → S' V = some (.dk (skW ds)) → (∀ e ∈ ds, DOk e) → ds.length ≤ 10 → OffL [p, V] S S' → Q (.ref V) S'
theorem ok__law_declared_values (T : Txt K mg ec w) (c__law_properties : CalW P w K mg base 1 "_law_properties" (Hd spPr)) (c__law_take : CalW P w K mg base 1 "_law_take" (Hd spTk)) (c__law_value : CalW P w K mg base 2 "_law_value" (Hd spVl)) (d : DefAt K mg "_law_declared_values" s__law_declared_values ["_law_pool_here"]) : CalW P w K mg base 3 "_law_declared_values" spDv :=
  have c__law_properties := c__law_properties.mono (k := 2) (by decide)
  have c__law_take := c__law_take.mono (k := 2) (by decide)
  calDI d sc__law_declared_values (fun ws S Q ⟨p, N, h, _⟩ => by rw [h]; rfl) fun f cdv A outer s H E hr => ⟨_, _,
    (pss_cons (ps_set (i := 1) sc__law_declared_values.nd rfl (Or.inl rfl) (pe_lst pa_nil))
      (pss_cons (ps_for PassesOwn.never rfl (k_any K (k_w0 K c__law_properties hr (by decide) rfl)) (pg_name (i := 2) sc__law_declared_values.nd rfl (Or.inl rfl))
       (pss_one (ps_if (pt_cmpR (k_eq K hr.units) (k_w K c__law_take hr (by decide) rfl (pa_cons (pv 0) (pa_cons pe_int pa_nil))) pe_int (nomark _))
        (pss_one (ps_expr (k_bm K PySem.F.plainAttrs_list PySem.F.slot_list_append PySem.F.type_list_append mt_append (pv 1) (pa_cons (pe_tup (pa_cons (pv 2) (pa_cons (k_w K c__law_value hr (by decide) rfl (pa_cons (pv 0) (pa_cons (pv 2) pa_nil))) pa_nil))) pa_nil))))
        pss_nil)))
      (pss_cons (ps_set (i := 3) sc__law_declared_values.nd rfl (Or.inl rfl) pe_dnewK)
      (pss_cons (ps_for PassesOwn.never rfl (pi_range1 rfl T.b_range (pa_cons (pe_callB (k_len K) (by rfl) T.b_len (by decide +kernel) (pa_cons (pv 1) pa_nil)) pa_nil)) (pg_name (i := 4) sc__law_declared_values.nd rfl (Or.inl rfl))
       (pss_cons (ps_asg (k_bm K PySem.F.plainAttrs_list PySem.F.slot_list_pop PySem.F.type_list_pop mt_popAt (pv 1) (pa_cons (k_w K c__law_take hr (by decide) rfl (pa_cons (pv 0) (pa_cons (pe_callB (k_len K) (by rfl) T.b_len (by decide +kernel) (pa_cons (pv 1) pa_nil)) pa_nil))) pa_nil)) (k_gtup K (n := 2) rfl (pgs_cons (pg_name (i := 2) sc__law_declared_values.nd rfl (Or.inl rfl)) (pgs_cons (pg_name (i := 5) sc__law_declared_values.nd rfl (Or.inl rfl)) pgs_nil))))
       (pss_one (ps_asg (pv 5) (pg_sub (pv 3) (pv 2) (set_B (hu_of hr)))))))
      (pss_one (ps_ret (pv 3))))))), inferInstance, by
    rintro ws S Q ⟨p, N, rfl, hp, hN, q⟩
    walk_at "w"
    intro R hR
    have hRp := hp.ne hR
    have p1 := hp.eq (put_ne (c := .lst []) hRp.symm)
    have k1 : KpL [p] S (put S R (.lst [])) := (KpL.refl [p] S).new hR
    have r1 : put S R (.lst []) R = some (.lst (([] : List (Str × W)).map rowD)) := put_same
    generalize put S R (.lst []) = S1 at p1 k1 r1
    walk_at "w"
    refine Hd.mk ⟨rfl, fun X hX => ?_⟩
    have nXp := p1.ne hX
    have nXR := ne_free r1 hX
    have p2 := p1.eq (put_ne (c := .lst (prs.map W.str)) nXp.symm)
    have k2 := k1.new (c := .lst (prs.map W.str)) hX
    have r2 := (put_ne (c := .lst (prs.map W.str)) nXR.symm).trans r1
    have x2 : put S1 X (.lst (prs.map W.str)) X = some (.lst (prs.map W.str)) := put_same
    generalize put S1 X (.lst (prs.map W.str)) = S2 at p2 k2 r2 x2
    walk_at "w"
    refine ⟨_, x2, ?_⟩
    refine for_q (fun i ρ' S' => i ≤ 10 ∧ ∃ (rs : List (Str × W)) (M : Int) (a2 a3 a4 a5 : Option W), ρ' = [some (.ref p), some (.ref R), a2, a3, a4, a5] ∧ rs.length ≤ i ∧ (∀ e ∈ rs, DOk e) ∧ S' R = some (.lst (rs.map rowD)) ∧ S' X = some (.lst (prs.map W.str)) ∧ Pl S' p M ∧ M ≤ N + 10 * i ∧ KpL [p] S S') ⟨Nat.zero_le _, [], _, _, _, _, _, rfl, Nat.le_refl _, (fun _ h => by cases h), r2, x2, p2, by omega, k2⟩ (fun i ρ' S' h => by obtain ⟨_, _, _, _, _, _, _, _, _, _, _, h, _⟩ := h; exact h) ?_ ?_
    · rintro i w ρ' S' ew ⟨_, rs, M, a2, a3, a4, a5, rfl, hl, hok, hr, hx, hp', hM, hk⟩
      obtain ⟨n, en, rfl⟩ : ∃ n, prs[i]? = some n ∧ W.str n = w := by
        rw [List.getElem?_map] at ew
        cases hc : prs[i]? with
        | none => rw [hc] at ew; cases ew
        | some n => rw [hc] at ew; exact ⟨n, rfl, Option.some.inj ew⟩
      have hi : i < 10 := (List.getElem?_eq_some_iff.mp en).1
      have hn : n ∈ prs := List.mem_of_getElem? en
      walk_at "w"
      refine tk_go hp' (by omega) (by decide) (by decide) fun u S3 u0 u1 p3 o3 => ?_
      have r3 := (o3 R (notin1 hRp)).trans hr
      have x3 := (o3 X (notin1 nXp)).trans hx
      have k3 := hk.trans o3.kp
      walk_at "w"
      refine ⟨fun _ => ?_, fun _ => ⟨by omega, rs, _, _, _, _, _, rfl, by omega, hok, r3, x3, p3, by omega, k3⟩⟩
      walk_at "w"
      refine ⟨.inl ⟨rfl, _, r3⟩, ?_⟩
      walk_at "w"
      refine Hd.mk ⟨p, _, n, rfl, p3, by omega, hn, fun v S4 hv p4 o4 => ?_⟩
      have r4 := (o4 R (notin1 hRp)).trans r3
      have x4 := (o4 X (notin1 nXp)).trans x3
      have k4 := k3.trans o4.kp
      walk_at "w"
      refine ⟨_, r4, ?_, by omega, rs ++ [(n, v)], M + 6, _, _, _, _, rfl, ?_, ?_, ?_, (put_ne nXR).trans x4, (p4.eq (put_ne hRp.symm)).mono (by omega), by omega, k4.own hR⟩
      · rw [List.length_map]
        exact Nat.lt_of_lt_of_le (show rs.length < 2000 by omega) (by decide)
      · rw [List.length_append]
        show rs.length + 1 ≤ i + 1
        omega
      · intro e he
        rcases List.mem_append.mp he with h | h
        · exact hok e h
        · rw [List.mem_singleton.mp h]
          exact ⟨hn, hv⟩
      · rw [put_same, List.map_append]
        rfl
    rintro ρ' S' ⟨_, rs, M, a2, a3, a4, a5, rfl, hl, hok, hr, hx, hp', hM, hk⟩
    rw [show (prs.map W.str).length = 10 from rfl] at hl hM
    walk_at "w"
    intro V hV
    have nVp := hp'.ne hV
    have nVR := ne_free hr hV
    have hVS : S V = none := hk.free hV (by simp [nVp])
    have p5 := hp'.eq (put_ne (c := .dk []) nVp.symm)
    have k5 := hk.new (c := .dk []) hV
    have r5 := (put_ne (c := .dk []) nVR.symm).trans hr
    have v5 : put S' V (.dk []) V = some (.dk (skW [])) := put_same
    generalize put S' V (.dk []) = S5 at p5 k5 r5 v5
    walk_at "w"
    refine ⟨_, r5, ?_⟩
    walk_at "w"
    rw [List.length_map]
    refine ⟨by omega, by omega, ?_⟩
    refine for_q (fun i ρ' S' => i ≤ rs.length ∧ ∃ (qs ds : List (Str × W)) (b2 b4 b5 : Option W), ρ' = [some (.ref p), some (.ref R), b2, some (.ref V), b4, b5] ∧ qs.length = rs.length - i ∧ ds.length ≤ i ∧ (∀ e ∈ qs, DOk e) ∧ (∀ e ∈ ds, DOk e) ∧ S' R = some (.lst (qs.map rowD)) ∧ S' V = some (.dk (skW ds)) ∧ Pl S' p (M + i) ∧ KpL [p] S S') ⟨Nat.zero_le _, rs, [], _, _, _, rfl, rfl, Nat.le_refl _, hok, (fun _ h => by cases h), r5, v5, p5.mono (by omega), k5⟩ (fun _ _ _ _ => trivial) ?_ ?_
    · rintro i w ρ' S' ew ⟨_, qs, ds, b2, b4, b5, rfl, hq, hds, hqo, hdo, hr', hv', hp2, hk2⟩
      obtain ⟨hi, rfl⟩ := intsW_at ew
      have hi : i < ((rs.length : Nat) : Int).toNat := hi
      rw [Int.toNat_natCast] at hi
      walk_at "w"
      refine ⟨.inl ⟨rfl, _, hr'⟩, ?_⟩
      walk_at "w"
      refine ⟨_, hr', ?_⟩
      walk_at "w"
      rw [List.length_map]
      refine tk_go hp2 (by omega) (by omega) (by omega) fun u S6 u0 u1 p6 o6 => ?_
      have r6 := (o6 R (notin1 hRp)).trans hr'
      have v6 := (o6 V (notin1 nVp)).trans hv'
      have k6 := hk2.trans o6.kp
      have hu : u.toNat < qs.length := by omega
      have eq : qs[u.toNat]? = some qs[u.toNat] := List.getElem?_eq_getElem hu
      refine ⟨_, u.toNat, rowD qs[u.toNat], r6, by omega, by omega, seqIndex_of u0 (by rw [List.length_map]; omega), by rw [List.getElem?_map, eq]; rfl, ?_⟩
      have ho := hqo _ (List.getElem_mem hu)
      have hqe : ∀ e ∈ qs.eraseIdx u.toNat, DOk e := fun e he => hqo e (List.mem_of_mem_eraseIdx he)
      have hle : (qs.eraseIdx u.toNat).length = rs.length - (i + 1) := by
        rw [List.length_eraseIdx, if_pos hu]
        omega
      rw [er_map]
      generalize qs.eraseIdx u.toNat = qe at hqe hle
      revert ho
      generalize qs[u.toNat] = e0
      intro ho
      obtain ⟨n, v⟩ := e0
      have v7 := (put_ne (c := .lst (qe.map rowD)) nVR).trans v6
      have p7 := p6.eq (put_ne (c := .lst (qe.map rowD)) hRp.symm)
      have k7 := k6.own (c := .lst (qe.map rowD)) hR
      have r7 : put S6 R (.lst (qe.map rowD)) R = some (.lst (qe.map rowD)) := put_same
      generalize put S6 R (.lst (qe.map rowD)) = S7 at v7 p7 k7 r7
      walk_at "w"
      refine ⟨rfl, ?_⟩
      walk_at "w"
      refine ⟨rfl, ?_⟩
      obtain ⟨ds', e1, e2, e3⟩ := put_sk (ds := ds) (n := n) (v := v)
      walk_at "w"
      refine ⟨_, v7, ?_, by omega, qe, ds', _, _, _, rfl, hle, by omega, hqe, ?_, (put_ne nVR.symm).trans r7, ?_, (p7.eq (put_ne nVp.symm)).mono (by omega), k7.own hVS⟩
      · unfold skW
        rw [List.length_map]
        exact Nat.lt_of_lt_of_le (show ds.length < 2000 by omega) (by decide)
      · intro e he
        rcases e3 e he with h | h
        · exact hdo e h
        · rw [h]
          exact ho
      · rw [put_same, e1]
    rintro ρ' S' ⟨_, qs, ds, b2, b4, b5, rfl, hq, hds, hqo, hdo, hr', hv', hp2, hk2⟩
    rw [intsW_len, Int.toNat_natCast] at hds
    walk_at "w"
    refine fg_off (ps := [p, V]) (hk2.mono (fun a h => by simp at h ⊢; exact .inl h)) fun S9 g1 g2 => ?_
    exact q V ds S9 hVS ((g2 V (by simp)).trans hv') hdo (by omega) g1⟩
end
end K13
set_option Elab.async false
set_option linter.all false
set_option maxRecDepth 100000
set_option maxHeartbeats 4000000
set_option synthInstance.maxHeartbeats 4000000
set_option synthInstance.maxSize 100000
namespace K13
open PySem PySem.Spec PyProof.Rows L2 Wl
local macro_rules | `(tactic| walk_at "w") => `(tactic| (conv => whnf))
/-! what a store holds -/
local macro_rules | `(tactic| walk_at "ne") => `(tactic| first | assumption | (apply Ne.symm; assumption) | exact ne_free (by assumption) (by assumption) | exact (ne_free (by assumption) (by assumption)).symm | exact Pl.ne (by assumption) (by assumption) | exact (Pl.ne (by assumption) (by assumption)).symm)
local macro_rules | `(tactic| walk_at "s") => `(tactic| first
  | exact put_same
  | assumption
  | (refine (put_ne ?_).trans ?_; (· walk_at "ne"); (· walk_at "s")))
/-! a side condition -/
local macro_rules | `(tactic| walk_at "c") => `(tactic| first
  | exact Or.inl (Or.inl ⟨by omega, by omega⟩)
  | exact Or.inl (Or.inr ⟨by omega, by omega⟩)
  | exact Or.inl ⟨by omega, by omega⟩
  | exact Or.inl ⟨rfl, _, by walk_at "s"⟩
  | rfl
  | omega
  | decide
  | exact Nat.le_trans (by omega) sizeLine_ge)
/-! one question is answered, if the answer is plain -/
local macro_rules | `(tactic| walk_at "g1") => `(tactic| first
  | refine ⟨fun _ => ?_, fun h => absurd (show true = false from h) (by decide)⟩
  | refine ⟨fun h => absurd (show false = true from h) Bool.false_ne_true, fun _ => ?_⟩
  | refine ⟨_, by walk_at "s", ?_⟩
  | refine ⟨_, _, by walk_at "s", by walk_at "s", ?_⟩
  | refine ⟨_, by walk_at "s", by simpa using (by omega), ?_⟩
  | refine ⟨_, rfl, ?_⟩
  | refine ⟨_, _, rfl, (by first | exact isTy_tt | exact isTy_ii | exact isTy_ll | exact isTy_ss | exact isTy_ib | exact isTy_tb | exact isTy_ti | exact isTy_ts | exact isTy_tl | exact isTy_lb | exact isTy_li | exact isTy_ls | exact isTy_lt | exact isTy_sb | exact isTy_si | exact isTy_st | exact isTy_sl | exact isTy_is | exact isTy_it | exact isTy_il | exact isTy_bi | exact isTy_bs | exact isTy_bb | exact isTy_nb | exact isTy_ni | exact isTy_ns | exact isTy_nt | exact isTy_nl | exact isTy_bt | exact isTy_bl | exact isTy_nd | exact isTy_td | exact isTy_ld | exact isTy_sd | exact isTy_id | exact isTy_bd | exact isTy_dd | exact isTy_db | exact isTy_di | exact isTy_ds | exact isTy_dt | exact isTy_dl), ?_⟩
  | refine ⟨_, _, tyName_lst (by walk_at "s"), (by first | exact isTy_ll | exact isTy_lb | exact isTy_li | exact isTy_ls | exact isTy_lt), ?_⟩
  | refine if_q ?_
  | refine ⟨by walk_at "c", ?_⟩)
local macro_rules | `(tactic| walk_at "go") => `(tactic| (walk_at "w"; repeat (walk_at "g1"; walk_at "w")))
/-! a branch that cannot be -/
local macro_rules | `(tactic| walk_at "two") => `(tactic| refine ⟨fun h => ?_, fun h => ?_⟩)
section
variable {P : Program} {w : World} {K : PySem.W.Frag} {mg : Str → Option Value} {base : Heap} {ec : Cls}
/-! two things that look the same -/
inductive Alike (S : Sto) : Nat → W → W → Prop where
  | int {n : Nat} {a : Int} : Alike S n (.int a) (.int a)
  | str {n : Nat} {a : Str} : Alike S n (.str a) (.str a)
  | bl {n : Nat} {a : Bool} : Alike S n (.bl a) (.bl a)
  | non {n : Nat} : Alike S n .non .non
  | tup {n : Nat} {xs ys : List W} : xs.length = ys.length → xs.length ≤ 1000000 → (∀ (i : Nat) (x y : W), xs[i]? = some x → ys[i]? = some y → Alike S n x y) → Alike S (n + 1) (.tup xs) (.tup ys)
  | lst {n : Nat} {a b : Addr} {xs ys : List W} : S a = some (.lst xs) → S b = some (.lst ys) → xs.length = ys.length → xs.length ≤ 1000000 → (∀ (i : Nat) (x y : W), xs[i]? = some x → ys[i]? = some y → Alike S n x y) → Alike S (n + 1) (.ref a) (.ref b)
def spSame (n : Nat) : SpW := fun ws S Q => ∃ v w, ws = [v, w] ∧ Alike S n v w ∧ Q (.bl true) S
theorem same_go {n : Nat} {v w : W} {S : Sto} {Q : WK} (h : Alike S n v w) (q : Q (.bl true) S) : Hd (spSame n) [v, w] S Q := Hd.mk ⟨v, w, rfl, h, q⟩
theorem at_zero {xs : List W} {i : Nat} {x : W} (h : xs[i]? = some x) : atI xs (0 + (i : Int)) = some x := by
  rw [Int.zero_add]
  exact atI_nat h
theorem same_step (T : Txt K mg ec w) (k n : Nat) (sp' : SpW) (c__law_same : CalW P w K mg base k "_law_same" (Hd sp')) (hn : ∀ (m : Nat) (v w : W) (S : Sto) (Q : WK), n = m + 1 → Alike S m v w → Q (.bl true) S → sp' [v, w] S Q)
    (d : DefAt K mg "_law_same" s__law_same ["_law_one", "_law_two"]) : CalW P w K mg base (k + 1) "_law_same" (spSame n) :=
  calDI d sc__law_same (fun ws S Q ⟨v, w, e, _⟩ => by rw [e]; rfl) fun f cdv A outer s H E hr => ⟨_, _,
    (pss_cons (ps_if (PW.pt (pw_or (pt_val (pe_callB (k_isi K) (by rfl) T.b_isinstance (by decide +kernel) (pa_cons (pv 0) (pa_cons (pe_bltn (v := .ty "bool") (by rfl) T.b_bool (by decide +kernel) rfl) pa_nil)))) (pw_or1 (pt_val (pe_callB (k_isi K) (by rfl) T.b_isinstance (by decide +kernel) (pa_cons (pv 1) (pa_cons (pe_bltn (v := .ty "bool") (by rfl) T.b_bool (by decide +kernel) rfl) pa_nil)))))))
       (pss_one (ps_ret (pe_and (pe_callB (k_isi K) (by rfl) T.b_isinstance (by decide +kernel) (pa_cons (pv 0) (pa_cons (pe_bltn (v := .ty "bool") (by rfl) T.b_bool (by decide +kernel) rfl) pa_nil))) (pe_and (pe_callB (k_isi K) (by rfl) T.b_isinstance (by decide +kernel) (pa_cons (pv 1) (pa_cons (pe_bltn (v := .ty "bool") (by rfl) T.b_bool (by decide +kernel) rfl) pa_nil))) (pe_one (pe_cmpR (k_eq K hr.units) (pv 0) (pv 1) (nomark _)))))))
       pss_nil)
      (pss_cons (ps_if (PW.pt (pw_and (pt_val (pe_callB (k_isi K) (by rfl) T.b_isinstance (by decide +kernel) (pa_cons (pv 0) (pa_cons (pe_bltn (v := .ty "int") (by rfl) T.b_int (by decide +kernel) rfl) pa_nil)))) (pw_and1 (pt_val (pe_callB (k_isi K) (by rfl) T.b_isinstance (by decide +kernel) (pa_cons (pv 1) (pa_cons (pe_bltn (v := .ty "int") (by rfl) T.b_int (by decide +kernel) rfl) pa_nil)))))))
       (pss_one (ps_ret (pe_cmpR (k_eq K hr.units) (pv 0) (pv 1) (nomark _))))
       pss_nil)
      (pss_cons (ps_if (PW.pt (pw_and (pt_val (pe_callB (k_isi K) (by rfl) T.b_isinstance (by decide +kernel) (pa_cons (pv 0) (pa_cons (pe_bltn (v := .ty "str") (by rfl) T.b_str (by decide +kernel) rfl) pa_nil)))) (pw_and1 (pt_val (pe_callB (k_isi K) (by rfl) T.b_isinstance (by decide +kernel) (pa_cons (pv 1) (pa_cons (pe_bltn (v := .ty "str") (by rfl) T.b_str (by decide +kernel) rfl) pa_nil)))))))
       (pss_one (ps_ret (pe_cmpR (k_eq K hr.units) (pv 0) (pv 1) (nomark _))))
       pss_nil)
      (pss_cons (ps_set (i := 2) sc__law_same.nd rfl (Or.inl rfl) (pe_and (pe_callB (k_isi K) (by rfl) T.b_isinstance (by decide +kernel) (pa_cons (pv 0) (pa_cons (pe_bltn (v := .ty "tuple") (by rfl) T.b_tuple (by decide +kernel) rfl) pa_nil))) (pe_one (pe_callB (k_isi K) (by rfl) T.b_isinstance (by decide +kernel) (pa_cons (pv 1) (pa_cons (pe_bltn (v := .ty "tuple") (by rfl) T.b_tuple (by decide +kernel) rfl) pa_nil))))))
      (pss_cons (ps_if (PW.pt (pw_or (k_truth K (pv 2)) (pw_or1 (PW.pt (pw_and (pt_val (pe_callB (k_isi K) (by rfl) T.b_isinstance (by decide +kernel) (pa_cons (pv 0) (pa_cons (pe_bltn (v := .ty "list") (by rfl) T.b_list (by decide +kernel) rfl) pa_nil)))) (pw_and1 (pt_val (pe_callB (k_isi K) (by rfl) T.b_isinstance (by decide +kernel) (pa_cons (pv 1) (pa_cons (pe_bltn (v := .ty "list") (by rfl) T.b_list (by decide +kernel) rfl) pa_nil))))))))))
       (pss_cons (ps_if (pt_cmpR (k_ne K hr.units) (pe_callB (k_len K) (by rfl) T.b_len (by decide +kernel) (pa_cons (pv 0) pa_nil)) (pe_callB (k_len K) (by rfl) T.b_len (by decide +kernel) (pa_cons (pv 1) pa_nil)) (nomark _))
        (pss_one (ps_ret pe_bl))
        pss_nil)
       (pss_cons (ps_for PassesOwn.never rfl (pi_range1 rfl T.b_range (pa_cons (pe_callB (k_len K) (by rfl) T.b_len (by decide +kernel) (pa_cons (pv 0) pa_nil)) pa_nil)) (pg_name (i := 3) sc__law_same.nd rfl (Or.inl rfl))
        (pss_one (ps_if (pt_not (pt_val (k_w K c__law_same hr (Nat.le_refl _) rfl (pa_cons (pe_ix (k_ixB K w (hu_of hr)) (pv 0) (pv 3) (fun _ _ => rfl)) (pa_cons (pe_ix (k_ixB K w (hu_of hr)) (pv 1) (pv 3) (fun _ _ => rfl)) pa_nil)))))
         (pss_one (ps_ret pe_bl))
         pss_nil)))
       (pss_one (ps_ret pe_bl))))
       pss_nil)
      (pss_cons (ps_if (PW.pt (pw_and (pt_val (pe_callB (k_isi K) (by rfl) T.b_isinstance (by decide +kernel) (pa_cons (pv 0) (pa_cons (pe_bltn (v := .ty "dict") (by rfl) T.b_dict (by decide +kernel) rfl) pa_nil)))) (pw_and1 (pt_val (pe_callB (k_isi K) (by rfl) T.b_isinstance (by decide +kernel) (pa_cons (pv 1) (pa_cons (pe_bltn (v := .ty "dict") (by rfl) T.b_dict (by decide +kernel) rfl) pa_nil)))))))
       (pss_cons (ps_if (pt_not (pt_val (k_w K c__law_same hr (Nat.le_refl _) rfl (pa_cons (pe_callTy (k_listB K rfl) (by rfl) T.b_list (by decide +kernel) (pa_cons (pv 0) pa_nil)) (pa_cons (pe_callTy (k_listB K rfl) (by rfl) T.b_list (by decide +kernel) (pa_cons (pv 1) pa_nil)) pa_nil)))))
        (pss_one (ps_ret pe_bl))
        pss_nil)
       (pss_cons (ps_for PassesOwn.never rfl (k_any K (pe_callTy (k_listB K rfl) (by rfl) T.b_list (by decide +kernel) (pa_cons (pv 0) pa_nil))) (pg_name (i := 3) sc__law_same.nd rfl (Or.inl rfl))
        (pss_one (ps_if (pt_not (pt_val (k_w K c__law_same hr (Nat.le_refl _) rfl (pa_cons (pe_ix (k_ixB K w (hu_of hr)) (pv 0) (pv 3) (fun _ _ => rfl)) (pa_cons (pe_ix (k_ixB K w (hu_of hr)) (pv 1) (pv 3) (fun _ _ => rfl)) pa_nil)))))
         (pss_one (ps_ret pe_bl))
         pss_nil)))
       (pss_one (ps_ret pe_bl))))
       pss_nil)
      (pss_one (ps_ret (pe_and (pe_cmpR op_isN (pv 0) pe_non (nomark _)) (pe_one (pe_cmpR op_isN (pv 1) pe_non (nomark _)))))))))))), inferInstance, by
    rintro ws S Q ⟨v, w, rfl, h, q⟩
    cases h with
    | @int _ a =>
      walk_at "go"
      rw [decide_eq_true rfl]
      exact fg_here q
    | @str _ a =>
      walk_at "go"
      rw [decide_eq_true rfl]
      exact fg_here q
    | @bl _ a =>
      walk_at "go"
      rw [decide_eq_true rfl]
      exact fg_here q
    | non =>
      walk_at "go"
      exact fg_here q
    | @tup m xs ys hl hz hx =>
      walk_at "go"
      refine ⟨fun h => absurd (show (!decide ((xs.length : Int) = (ys.length : Int))) = true from h) (by rw [hl]; simp), fun _ => ?_⟩
      walk_at "w"
      refine ⟨by omega, by omega, ?_⟩
      refine for_q (fun i ρ' S' => S' = S ∧ ∃ a2 a3, ρ' = [some (.tup xs), some (.tup ys), a2, a3]) ⟨rfl, _, _, rfl⟩ (fun _ _ _ _ => trivial) ?_ ?_
      · rintro i w ρ' S' e ⟨rfl, a2, a3, rfl⟩
        obtain ⟨hi, rfl⟩ := intsW_at e
        have hi : i < xs.length := by
          have : i < ((xs.length : Nat) : Int).toNat := hi
          omega
        have ex : xs[i]? = some xs[i] := List.getElem?_eq_getElem hi
        have ey : ys[i]? = some (ys[i]'(by omega)) := List.getElem?_eq_getElem (by omega)
        walk_at "w"
        rw [at_zero ex]
        walk_at "w"
        rw [at_zero ey]
        walk_at "w"
        refine Hd.mk (hn m _ _ _ _ rfl (hx i _ _ ex ey) ?_)
        refine ⟨fun h => absurd (show false = true from h) Bool.false_ne_true, fun _ => ?_⟩
        exact ⟨rfl, _, _, rfl⟩
      · rintro ρ' S' ⟨rfl, a2, a3, rfl⟩
        exact fg_here q
    | @lst m a b xs ys ha hb hl hz hx =>
      walk_at "go"
      refine ⟨fun h => absurd (show (!decide ((xs.length : Int) = (ys.length : Int))) = true from h) (by rw [hl]; simp), fun _ => ?_⟩
      walk_at "w"
      refine ⟨_, ha, ?_⟩
      walk_at "w"
      refine ⟨by omega, by omega, ?_⟩
      refine for_q (fun i ρ' S' => S' = S ∧ ∃ a2 a3, ρ' = [some (.ref a), some (.ref b), a2, a3]) ⟨rfl, _, _, rfl⟩ (fun _ _ _ _ => trivial) ?_ ?_
      · rintro i w ρ' S' e ⟨rfl, a2, a3, rfl⟩
        obtain ⟨hi, rfl⟩ := intsW_at e
        have hi : i < xs.length := by
          have : i < ((xs.length : Nat) : Int).toNat := hi
          omega
        have ex : xs[i]? = some xs[i] := List.getElem?_eq_getElem hi
        have ey : ys[i]? = some (ys[i]'(by omega)) := List.getElem?_eq_getElem (by omega)
        walk_at "w"
        refine .inl ⟨_, ha, ?_⟩
        refine rdAt_ok (at_zero ex) ?_
        walk_at "w"
        refine .inl ⟨_, hb, ?_⟩
        refine rdAt_ok (at_zero ey) ?_
        walk_at "w"
        refine Hd.mk (hn m _ _ _ _ rfl (hx i _ _ ex ey) ?_)
        refine ⟨fun h => absurd (show false = true from h) Bool.false_ne_true, fun _ => ?_⟩
        exact ⟨rfl, _, _, rfl⟩
      · rintro ρ' S' ⟨rfl, a2, a3, rfl⟩
        exact fg_here q⟩
theorem ok_same (T : Txt K mg ec w) (d : DefAt K mg "_law_same" s__law_same ["_law_one", "_law_two"]) : ∀ n : Nat, CalW P w K mg base (n + 2) "_law_same" (spSame n)
  | 0 => same_step T 1 0 spNever ((calNever d sc__law_same).hd) (fun m v w S Q e => by cases e) d
  | n + 1 => same_step T (n + 2) (n + 1) (spSame n) (ok_same T d n).hd (fun m v w S Q e h q => ⟨v, w, rfl, by rw [Nat.succ.inj e]; exact h, q⟩) d
theorem Alike.up {S : Sto} {n m : Nat} {v w : W} (h : Alike S n v w) (l : n ≤ m) : Alike S m v w := by
  induction h generalizing m with
  | int => exact .int
  | str => exact .str
  | bl => exact .bl
  | non => exact .non
  | tup h1 h2 h3 ih =>
    obtain ⟨m, rfl⟩ : ∃ m', m = m' + 1 := ⟨m - 1, by omega⟩
    exact .tup h1 h2 fun i x y e1 e2 => ih i x y e1 e2 (by omega)
  | lst h0 h00 h1 h2 h3 ih =>
    obtain ⟨m, rfl⟩ : ∃ m', m = m' + 1 := ⟨m - 1, by omega⟩
    exact .lst h0 h00 h1 h2 fun i x y e1 e2 => ih i x y e1 e2 (by omega)
theorem tyName_dk {S : Sto} {a : Addr} {kvs : List (Key × W)} (h : S a = some (.dk kvs)) : tyName (.ref a) S = some "dict" := by
  unfold tyName
  simp only [h]
local macro_rules | `(tactic| walk_at "d1") => `(tactic| first
  | refine ⟨_, _, tyName_dk (by assumption), (by first | exact isTy_db | exact isTy_di | exact isTy_ds | exact isTy_dt | exact isTy_dl | exact isTy_dd), ?_⟩
  | refine if_q ?_
  | refine ⟨fun h => absurd (show false = true from h) Bool.false_ne_true, fun _ => ?_⟩
  | refine ⟨fun _ => ?_, fun h => absurd (show true = false from h) (by decide)⟩)
local macro_rules | `(tactic| walk_at "dgo") => `(tactic| (walk_at "w"; repeat (walk_at "d1"; walk_at "w")))
theorem alike_strs {S : Sto} {a b : Addr} {xs : List Str} (ha : S a = some (.lst (xs.map W.str))) (hb : S b = some (.lst (xs.map W.str))) (h : xs.length ≤ 1000000) : Alike S 1 (.ref a) (.ref b) := by
  refine .lst ha hb rfl (by rw [List.length_map]; exact h) fun i x y e1 e2 => ?_
  rw [e1] at e2
  cases Option.some.inj e2
  rw [List.getElem?_map] at e1
  cases hc : xs[i]? with
  | none => rw [hc] at e1; cases e1
  | some z => rw [hc] at e1; cases Option.some.inj e1; exact .str
def spSd : SpW := fun ws S Q => ∃ (a b : Addr) (ds : List (Str × W)), ws = [.ref a, .ref b] ∧ S a = some (.dk (skW ds)) ∧ S b = some (.dk (skW ds)) ∧ ds.length ≤ 1000 ∧ (∀ e ∈ ds, ∀ T, Alike T 2 e.2 e.2) ∧ Q (.bl true) S
theorem keys_sk (ds : List (Str × W)) : (skW ds).map (fun kv => keyW kv.1) = (ds.map (·.1)).map W.str := by
  unfold skW
  rw [List.map_map, List.map_map]
  rfl
theorem val_sk {ds : List (Str × W)} {n : Str} (h : n ∈ ds.map (·.1)) : ∃ w, valW (skW ds) (.inr n : Key) = some w ∧ (n, w) ∈ ds := by
  induction ds with
  | nil => cases h
  | cons e ds ih =>
    by_cases c : e.1 = n
    · subst c
      exact ⟨e.2, by simp [skW, valW, List.find?_cons], List.mem_cons_self⟩
    · obtain ⟨w, h1, h2⟩ := ih ((List.mem_cons.mp h).resolve_left fun z => c z.symm)
      refine ⟨w, ?_, List.mem_cons_of_mem _ h2⟩
      rw [← h1]
      simp [skW, valW, List.find?_cons, c]
theorem ok_sameD (T : Txt K mg ec w) (c__law_same : CalW P w K mg base 4 "_law_same" (Hd (spSame 2))) (d : DefAt K mg "_law_same" s__law_same ["_law_one", "_law_two"]) : CalW P w K mg base 5 "_law_same" spSd :=
  calDI d sc__law_same (fun ws S Q ⟨a, b, ds, e, _⟩ => by rw [e]; rfl) fun f cdv A outer s H E hr => ⟨_, _,
    (pss_cons (ps_if (PW.pt (pw_or (pt_val (pe_callB (k_isi K) (by rfl) T.b_isinstance (by decide +kernel) (pa_cons (pv 0) (pa_cons (pe_bltn (v := .ty "bool") (by rfl) T.b_bool (by decide +kernel) rfl) pa_nil)))) (pw_or1 (pt_val (pe_callB (k_isi K) (by rfl) T.b_isinstance (by decide +kernel) (pa_cons (pv 1) (pa_cons (pe_bltn (v := .ty "bool") (by rfl) T.b_bool (by decide +kernel) rfl) pa_nil)))))))
       (pss_one (ps_ret (pe_and (pe_callB (k_isi K) (by rfl) T.b_isinstance (by decide +kernel) (pa_cons (pv 0) (pa_cons (pe_bltn (v := .ty "bool") (by rfl) T.b_bool (by decide +kernel) rfl) pa_nil))) (pe_and (pe_callB (k_isi K) (by rfl) T.b_isinstance (by decide +kernel) (pa_cons (pv 1) (pa_cons (pe_bltn (v := .ty "bool") (by rfl) T.b_bool (by decide +kernel) rfl) pa_nil))) (pe_one (pe_cmpR (k_eq K hr.units) (pv 0) (pv 1) (nomark _)))))))
       pss_nil)
      (pss_cons (ps_if (PW.pt (pw_and (pt_val (pe_callB (k_isi K) (by rfl) T.b_isinstance (by decide +kernel) (pa_cons (pv 0) (pa_cons (pe_bltn (v := .ty "int") (by rfl) T.b_int (by decide +kernel) rfl) pa_nil)))) (pw_and1 (pt_val (pe_callB (k_isi K) (by rfl) T.b_isinstance (by decide +kernel) (pa_cons (pv 1) (pa_cons (pe_bltn (v := .ty "int") (by rfl) T.b_int (by decide +kernel) rfl) pa_nil)))))))
       (pss_one (ps_ret (pe_cmpR (k_eq K hr.units) (pv 0) (pv 1) (nomark _))))
       pss_nil)
      (pss_cons (ps_if (PW.pt (pw_and (pt_val (pe_callB (k_isi K) (by rfl) T.b_isinstance (by decide +kernel) (pa_cons (pv 0) (pa_cons (pe_bltn (v := .ty "str") (by rfl) T.b_str (by decide +kernel) rfl) pa_nil)))) (pw_and1 (pt_val (pe_callB (k_isi K) (by rfl) T.b_isinstance (by decide +kernel) (pa_cons (pv 1) (pa_cons (pe_bltn (v := .ty "str") (by rfl) T.b_str (by decide +kernel) rfl) pa_nil)))))))
       (pss_one (ps_ret (pe_cmpR (k_eq K hr.units) (pv 0) (pv 1) (nomark _))))
       pss_nil)
      (pss_cons (ps_set (i := 2) sc__law_same.nd rfl (Or.inl rfl) (pe_and (pe_callB (k_isi K) (by rfl) T.b_isinstance (by decide +kernel) (pa_cons (pv 0) (pa_cons (pe_bltn (v := .ty "tuple") (by rfl) T.b_tuple (by decide +kernel) rfl) pa_nil))) (pe_one (pe_callB (k_isi K) (by rfl) T.b_isinstance (by decide +kernel) (pa_cons (pv 1) (pa_cons (pe_bltn (v := .ty "tuple") (by rfl) T.b_tuple (by decide +kernel) rfl) pa_nil))))))
      (pss_cons (ps_if (PW.pt (pw_or (k_truth K (pv 2)) (pw_or1 (PW.pt (pw_and (pt_val (pe_callB (k_isi K) (by rfl) T.b_isinstance (by decide +kernel) (pa_cons (pv 0) (pa_cons (pe_bltn (v := .ty "list") (by rfl) T.b_list (by decide +kernel) rfl) pa_nil)))) (pw_and1 (pt_val (pe_callB (k_isi K) (by rfl) T.b_isinstance (by decide +kernel) (pa_cons (pv 1) (pa_cons (pe_bltn (v := .ty "list") (by rfl) T.b_list (by decide +kernel) rfl) pa_nil))))))))))
       (pss_cons (ps_if (pt_cmpR (k_ne K hr.units) (pe_callB (k_len K) (by rfl) T.b_len (by decide +kernel) (pa_cons (pv 0) pa_nil)) (pe_callB (k_len K) (by rfl) T.b_len (by decide +kernel) (pa_cons (pv 1) pa_nil)) (nomark _))
        (pss_one (ps_ret pe_bl))
        pss_nil)
       (pss_cons (ps_for PassesOwn.never rfl (pi_range1 rfl T.b_range (pa_cons (pe_callB (k_len K) (by rfl) T.b_len (by decide +kernel) (pa_cons (pv 0) pa_nil)) pa_nil)) (pg_name (i := 3) sc__law_same.nd rfl (Or.inl rfl))
        (pss_one (ps_if (pt_not (pt_val (k_w K c__law_same hr (Nat.le_refl _) rfl (pa_cons (pe_ix (k_ixB K w (hu_of hr)) (pv 0) (pv 3) (fun _ _ => rfl)) (pa_cons (pe_ix (k_ixB K w (hu_of hr)) (pv 1) (pv 3) (fun _ _ => rfl)) pa_nil)))))
         (pss_one (ps_ret pe_bl))
         pss_nil)))
       (pss_one (ps_ret pe_bl))))
       pss_nil)
      (pss_cons (ps_if (PW.pt (pw_and (pt_val (pe_callB (k_isi K) (by rfl) T.b_isinstance (by decide +kernel) (pa_cons (pv 0) (pa_cons (pe_bltn (v := .ty "dict") (by rfl) T.b_dict (by decide +kernel) rfl) pa_nil)))) (pw_and1 (pt_val (pe_callB (k_isi K) (by rfl) T.b_isinstance (by decide +kernel) (pa_cons (pv 1) (pa_cons (pe_bltn (v := .ty "dict") (by rfl) T.b_dict (by decide +kernel) rfl) pa_nil)))))))
       (pss_cons (ps_if (pt_not (pt_val (k_w K c__law_same hr (Nat.le_refl _) rfl (pa_cons (pe_callTy (k_listB K rfl) (by rfl) T.b_list (by decide +kernel) (pa_cons (pv 0) pa_nil)) (pa_cons (pe_callTy (k_listB K rfl) (by rfl) T.b_list (by decide +kernel) (pa_cons (pv 1) pa_nil)) pa_nil)))))
        (pss_one (ps_ret pe_bl))
        pss_nil)
       (pss_cons (ps_for PassesOwn.never rfl (k_any K (pe_callTy (k_listB K rfl) (by rfl) T.b_list (by decide +kernel) (pa_cons (pv 0) pa_nil))) (pg_name (i := 3) sc__law_same.nd rfl (Or.inl rfl))
        (pss_one (ps_if (pt_not (pt_val (k_w K c__law_same hr (Nat.le_refl _) rfl (pa_cons (pe_ix (k_ixB K w (hu_of hr)) (pv 0) (pv 3) (fun _ _ => rfl)) (pa_cons (pe_ix (k_ixB K w (hu_of hr)) (pv 1) (pv 3) (fun _ _ => rfl)) pa_nil)))))
         (pss_one (ps_ret pe_bl))
         pss_nil)))
       (pss_one (ps_ret pe_bl))))
       pss_nil)
      (pss_one (ps_ret (pe_and (pe_cmpR op_isN (pv 0) pe_non (nomark _)) (pe_one (pe_cmpR op_isN (pv 1) pe_non (nomark _)))))))))))), inferInstance, by
    rintro ws S Q ⟨a, b, ds, rfl, ha, hb, hl, hv, q⟩
    walk_at "dgo"
    refine .inr ⟨_, ha, fun X hX => ?_⟩
    rw [keys_sk]
    walk_at "w"
    have ha1 := (put_ne (c := .lst ((ds.map (·.1)).map W.str)) (ne_free ha hX).symm).trans ha
    have hb1 := (put_ne (c := .lst ((ds.map (·.1)).map W.str)) (ne_free hb hX).symm).trans hb
    have hX1 : put S X (.lst ((ds.map (·.1)).map W.str)) X = some (.lst ((ds.map (·.1)).map W.str)) := put_same
    have k1 : KpL [] S (put S X (.lst ((ds.map (·.1)).map W.str))) := (KpL.refl [] S).new hX
    refine .inr ⟨_, hb1, fun Y hY => ?_⟩
    rw [keys_sk]
    generalize put S X (.lst ((ds.map (·.1)).map W.str)) = S1 at ha1 hb1 hX1 k1 hY
    have ha2 := (put_ne (c := .lst ((ds.map (·.1)).map W.str)) (ne_free ha1 hY).symm).trans ha1
    have hb2 := (put_ne (c := .lst ((ds.map (·.1)).map W.str)) (ne_free hb1 hY).symm).trans hb1
    have hX2 := (put_ne (c := .lst ((ds.map (·.1)).map W.str)) (ne_free hX1 hY).symm).trans hX1
    have hY2 : put S1 Y (.lst ((ds.map (·.1)).map W.str)) Y = some (.lst ((ds.map (·.1)).map W.str)) := put_same
    have k2 := k1.new (c := .lst ((ds.map (·.1)).map W.str)) hY
    generalize put S1 Y (.lst ((ds.map (·.1)).map W.str)) = S2 at ha2 hb2 hX2 hY2 k2
    refine same_go ((alike_strs hX2 hY2 (by rw [List.length_map]; omega)).up (by decide)) ?_
    refine ⟨fun h => absurd (show false = true from h) Bool.false_ne_true, fun _ => ?_⟩
    walk_at "w"
    refine .inr ⟨_, ha2, fun Z hZ => ?_⟩
    rw [keys_sk]
    have ha3 := (put_ne (c := .lst ((ds.map (·.1)).map W.str)) (ne_free ha2 hZ).symm).trans ha2
    have hb3 := (put_ne (c := .lst ((ds.map (·.1)).map W.str)) (ne_free hb2 hZ).symm).trans hb2
    have hZ3 : put S2 Z (.lst ((ds.map (·.1)).map W.str)) Z = some (.lst ((ds.map (·.1)).map W.str)) := put_same
    have k3 := k2.new (c := .lst ((ds.map (·.1)).map W.str)) hZ
    generalize put S2 Z (.lst ((ds.map (·.1)).map W.str)) = S3 at ha3 hb3 hZ3 k3
    walk_at "w"
    refine ⟨_, hZ3, ?_⟩
    refine for_q (fun i ρ' S' => S' = S3 ∧ ∃ a2 a3 : Option W, ρ' = [some (.ref a), some (.ref b), a2, a3]) ⟨rfl, _, _, rfl⟩ (fun i ρ' S' h => by rw [h.1]; exact hZ3) ?_ ?_
    · rintro i w ρ' S' ew ⟨rfl, a2, a3, rfl⟩
      obtain ⟨n, en, rfl⟩ : ∃ n, (ds.map (·.1))[i]? = some n ∧ W.str n = w := by
        rw [List.getElem?_map] at ew
        cases hc : (ds.map (·.1))[i]? with
        | none => rw [hc] at ew; cases ew
        | some n => rw [hc] at ew; exact ⟨n, rfl, Option.some.inj ew⟩
      obtain ⟨w, e1, e2⟩ := val_sk (List.mem_of_getElem? en)
      walk_at "w"
      refine .inl ⟨_, ha3, rdAt_ok e1 ?_⟩
      walk_at "w"
      refine .inl ⟨_, hb3, rdAt_ok e1 ?_⟩
      refine same_go (hv _ e2 _) ?_
      refine ⟨fun h => absurd (show false = true from h) Bool.false_ne_true, fun _ => ?_⟩
      exact ⟨rfl, _, _, rfl⟩
    · rintro ρ' S' ⟨rfl, a2, a3, rfl⟩
      walk_at "w"
      refine fg_off (ps := []) k3 fun S6 g1 g2 => ?_
      rw [show S6 = S from funext fun x => g1 x (by simp)]
      exact q⟩
end
end K13
set_option Elab.async false
set_option linter.all false
set_option maxRecDepth 100000
set_option maxHeartbeats 4000000
set_option synthInstance.maxHeartbeats 4000000
set_option synthInstance.maxSize 100000
namespace K13
open PySem PySem.Spec PyProof.Rows L2 Wl
local macro_rules | `(tactic| walk_at "w") => `(tactic| (conv => whnf))
/-! what a store holds -/
local macro_rules | `(tactic| walk_at "ne") => `(tactic| first | assumption | (apply Ne.symm; assumption) | exact ne_free (by assumption) (by assumption) | exact (ne_free (by assumption) (by assumption)).symm | exact Pl.ne (by assumption) (by assumption) | exact (Pl.ne (by assumption) (by assumption)).symm)
local macro_rules | `(tactic| walk_at "s") => `(tactic| first
  | exact put_same
  | assumption
  | (refine (put_ne ?_).trans ?_; (· walk_at "ne"); (· walk_at "s")))
/-! a side condition -/
local macro_rules | `(tactic| walk_at "c") => `(tactic| first
  | exact Or.inl (Or.inl ⟨by omega, by omega⟩)
  | exact Or.inl (Or.inr ⟨by omega, by omega⟩)
  | exact Or.inl ⟨by omega, by omega⟩
  | exact Or.inl ⟨rfl, _, by walk_at "s"⟩
  | rfl
  | omega
  | decide
  | exact Nat.le_trans (by omega) sizeLine_ge)
/-! one question is answered, if the answer is plain -/
local macro_rules | `(tactic| walk_at "g1") => `(tactic| first
  | refine ⟨fun _ => ?_, fun h => absurd (show true = false from h) (by decide)⟩
  | refine ⟨fun h => absurd (show false = true from h) Bool.false_ne_true, fun _ => ?_⟩
  | refine ⟨_, by walk_at "s", ?_⟩
  | refine ⟨_, _, by walk_at "s", by walk_at "s", ?_⟩
  | refine ⟨_, by walk_at "s", by simpa using (by omega), ?_⟩
  | refine ⟨_, rfl, ?_⟩
  | refine ⟨_, _, rfl, (by first | exact isTy_tt | exact isTy_ii | exact isTy_ll | exact isTy_ss | exact isTy_ib | exact isTy_tb | exact isTy_ti | exact isTy_ts | exact isTy_tl | exact isTy_lb | exact isTy_li | exact isTy_ls | exact isTy_lt | exact isTy_sb | exact isTy_si | exact isTy_st | exact isTy_sl | exact isTy_is | exact isTy_it | exact isTy_il | exact isTy_bi | exact isTy_bs | exact isTy_bb | exact isTy_nb | exact isTy_ni | exact isTy_ns | exact isTy_nt | exact isTy_nl | exact isTy_bt | exact isTy_bl | exact isTy_nd | exact isTy_td | exact isTy_ld | exact isTy_sd | exact isTy_id | exact isTy_bd | exact isTy_dd | exact isTy_db | exact isTy_di | exact isTy_ds | exact isTy_dt | exact isTy_dl), ?_⟩
  | refine ⟨_, _, tyName_lst (by walk_at "s"), (by first | exact isTy_ll | exact isTy_lb | exact isTy_li | exact isTy_ls | exact isTy_lt), ?_⟩
  | refine if_q ?_
  | refine ⟨by walk_at "c", ?_⟩)
local macro_rules | `(tactic| walk_at "go") => `(tactic| (walk_at "w"; repeat (walk_at "g1"; walk_at "w")))
/-! a branch that cannot be -/
local macro_rules | `(tactic| walk_at "two") => `(tactic| refine ⟨fun h => ?_, fun h => ?_⟩)
section
variable {P : Program} {w : World} {K : PySem.W.Frag} {mg : Str → Option Value} {base : Heap} {ec : Cls}
theorem share_math {lo hi ba a b v : Int} (h0 : lo ≤ hi) (hb : 1 ≤ b) (hv : v = mxI lo (mnI hi (ba * a / b))) : lo ≤ v ∧ v ≤ hi ∧ (v * b ≤ ba * a ∨ v = lo) ∧ (ba * a < (v + 1) * b ∨ v = hi) := by
  have h1 := Int.ediv_mul_le (ba * a) (b := b) (by omega)
  have h2 := Int.lt_ediv_add_one_mul_self (ba * a) (b := b) (by omega)
  revert h1 h2 hv
  generalize ba * a / b = t
  generalize ba * a = z
  intro hv h1 h2
  have lv : (lo ≤ v ∧ v ≤ hi) ∧ (v = lo ∨ v ≤ t) ∧ (v = hi ∨ t ≤ v) := by
    rw [hv]
    unfold mxI mnI
    by_cases c : t < hi
    · rw [if_pos c]
      by_cases c2 : t > lo
      · rw [if_pos c2]
        omega
      · rw [if_neg c2]
        omega
    · rw [if_neg c]
      by_cases c2 : hi > lo
      · rw [if_pos c2]
        omega
      · rw [if_neg c2]
        omega
  refine ⟨lv.1.1, lv.1.2, ?_, ?_⟩
  · rcases lv.2.1 with e | e
    · exact .inr e
    · have := Int.mul_le_mul_of_nonneg_right e (show 0 ≤ b by omega)
      exact .inl (by omega)
  · rcases lv.2.2 with e | e
    · exact .inr e
    · have := Int.mul_le_mul_of_nonneg_right (show t + 1 ≤ v + 1 by omega) (show 0 ≤ b by omega)
      exact .inl (by omega)
def spSh : SpW := fun ws S Q => ∃ (v ba a b lo hi : Int), ws = [.int v, .int ba, .tup [.int a, .int b], .int lo, .int hi] ∧ lo ≤ hi ∧ -1000 ≤ lo ∧ hi ≤ 1000 ∧ 1 ≤ b ∧ b ≤ 99 ∧ 0 ≤ a ∧ a ≤ 99 ∧ v = mxI lo (mnI hi (ba * a / b)) ∧ Q (.bl true) S
theorem ok__law_share (T : Txt K mg ec w) (d : DefAt K mg "_law_share" s__law_share ["_law_value_here", "_law_base", "_law_ratio", "_law_lowest", "_law_highest"]) : CalW P w K mg base 1 "_law_share" spSh :=
  calDI d sc__law_share (fun ws S Q ⟨v, ba, a, b, lo, hi, h, _⟩ => by rw [h]; rfl) fun f cdv A outer s H E hr => ⟨_, _,
    (pss_cons (ps_if (PW.pt (pw_or (pt_not (pt_val (pe_callB (k_isi K) (by rfl) T.b_isinstance (by decide +kernel) (pa_cons (pv 0) (pa_cons (pe_bltn (v := .ty "int") (by rfl) T.b_int (by decide +kernel) rfl) pa_nil))))) (pw_or (pt_val (pe_callB (k_isi K) (by rfl) T.b_isinstance (by decide +kernel) (pa_cons (pv 0) (pa_cons (pe_bltn (v := .ty "bool") (by rfl) T.b_bool (by decide +kernel) rfl) pa_nil)))) (pw_or1 (pt_not (pt_chain op_leA op_leA (pv 3) (pv 0) (pv 4)))))))
       (pss_one (ps_ret pe_bl))
       pss_nil)
      (pss_cons (ps_set (i := 5) sc__law_share.nd rfl (Or.inl rfl) (pe_cmpR op_leA (pe_op op_mulA (pv 0) (pe_ix (k_ix K) (pv 2) pe_int (fun _ _ => rfl))) (pe_op op_mulA (pv 1) (pe_ix (k_ix K) (pv 2) pe_int (fun _ _ => rfl))) (nomark _)))
      (pss_cons (ps_set (i := 6) sc__law_share.nd rfl (Or.inl rfl) (pe_cmpR op_ltA (pe_op op_mulA (pv 1) (pe_ix (k_ix K) (pv 2) pe_int (fun _ _ => rfl))) (pe_op op_mulA (pe_op (k_addB K) (pv 0) pe_int) (pe_ix (k_ix K) (pv 2) pe_int (fun _ _ => rfl))) (nomark _)))
      (pss_one (ps_ret (pe_and (pe_or (pv 5) (pe_one (pe_cmpR (k_eq K hr.units) (pv 0) (pv 3) (nomark _)))) (pe_one (pe_or (pv 6) (pe_one (pe_cmpR (k_eq K hr.units) (pv 0) (pv 4) (nomark _))))))))))), inferInstance, by
    rintro ws S Q ⟨v, ba, a, b, lo, hi, rfl, h0, hlo, hhi, b0, b1, a0, a1, hv, q⟩
    obtain ⟨v0, v1, m1, m2⟩ := share_math h0 b0 hv
    refine if_ev false ?_ (fun h => by cases h) (fun _ => ?_)
    · intro Q' q'
      walk_at "go"
      refine ⟨fun _ => ?_, fun h => absurd v0 (of_decide_eq_false h)⟩
      walk_at "w"
      show Q' (!decide (v ≤ hi)) S
      rw [decide_eq_true v1]
      exact q'
    walk_at "w"
    refine ⟨.inl (.inr ⟨by omega, by omega⟩), ?_⟩
    walk_at "w"
    refine ⟨.inl (.inr ⟨by omega, by omega⟩), ?_⟩
    walk_at "w"
    refine ⟨.inl (.inr ⟨by omega, by omega⟩), ?_⟩
    walk_at "w"
    refine ⟨.inl (.inr ⟨by omega, by omega⟩), ?_⟩
    walk_at "w"
    have second : wOrV (wVar 6) (wOp wEq (wVar 0) (wVar 4)) [some (.int v), some (.int ba), some (.tup [.int a, .int b]), some (.int lo), some (.int hi), some (.bl (decide (v * b ≤ ba * a))), some (.bl (decide (ba * a < (v + 1) * b)))] S (FgI Q) := by
      walk_at "w"
      refine ⟨fun h => ?_, fun h => ?_⟩
      · exact fg_here q
      · have h : ¬ ba * a < (v + 1) * b := of_decide_eq_false h
        walk_at "w"
        rw [decide_eq_true (m2.resolve_left h)]
        exact fg_here q
    refine ⟨fun h => ?_, fun h => ?_⟩
    · walk_at "w"
      exact ⟨fun _ => second, fun h => absurd (show true = false from h) (by decide)⟩
    · have h : ¬ v * b ≤ ba * a := of_decide_eq_false h
      walk_at "w"
      rw [decide_eq_true (m1.resolve_left h)]
      exact ⟨fun _ => second, fun h => absurd (show true = false from h) (by decide)⟩⟩
end
end K13
set_option Elab.async false
set_option linter.all false
set_option maxRecDepth 100000
set_option maxHeartbeats 4000000
set_option synthInstance.maxHeartbeats 4000000
set_option synthInstance.maxSize 100000
namespace K13
open PySem PySem.Spec PyProof.Rows L2 Wl
local macro_rules | `(tactic| walk_at "w") => `(tactic| (conv => whnf))
/-! what a store holds -/
local macro_rules | `(tactic| walk_at "ne") => `(tactic| first | assumption | (apply Ne.symm; assumption) | exact ne_free (by assumption) (by assumption) | exact (ne_free (by assumption) (by assumption)).symm | exact Pl.ne (by assumption) (by assumption) | exact (Pl.ne (by assumption) (by assumption)).symm)
local macro_rules | `(tactic| walk_at "s") => `(tactic| first
  | exact put_same
  | assumption
  | (refine (put_ne ?_).trans ?_; (· walk_at "ne"); (· walk_at "s")))
/-! a side condition -/
local macro_rules | `(tactic| walk_at "c") => `(tactic| first
  | exact Or.inl (Or.inl ⟨by omega, by omega⟩)
  | exact Or.inl (Or.inr ⟨by omega, by omega⟩)
  | exact Or.inl ⟨by omega, by omega⟩
  | exact Or.inl ⟨rfl, _, by walk_at "s"⟩
  | rfl
  | omega
  | decide
  | exact Nat.le_trans (by omega) sizeLine_ge)
/-! one question is answered, if the answer is plain -/
local macro_rules | `(tactic| walk_at "g1") => `(tactic| first
  | refine ⟨fun _ => ?_, fun h => absurd (show true = false from h) (by decide)⟩
  | refine ⟨fun h => absurd (show false = true from h) Bool.false_ne_true, fun _ => ?_⟩
  | refine ⟨_, by walk_at "s", ?_⟩
  | refine ⟨_, _, by walk_at "s", by walk_at "s", ?_⟩
  | refine ⟨_, by walk_at "s", by simpa using (by omega), ?_⟩
  | refine ⟨_, rfl, ?_⟩
  | refine ⟨_, _, rfl, (by first | exact isTy_tt | exact isTy_ii | exact isTy_ll | exact isTy_ss | exact isTy_ib | exact isTy_tb | exact isTy_ti | exact isTy_ts | exact isTy_tl | exact isTy_lb | exact isTy_li | exact isTy_ls | exact isTy_lt | exact isTy_sb | exact isTy_si | exact isTy_st | exact isTy_sl | exact isTy_is | exact isTy_it | exact isTy_il | exact isTy_bi | exact isTy_bs | exact isTy_bb | exact isTy_nb | exact isTy_ni | exact isTy_ns | exact isTy_nt | exact isTy_nl | exact isTy_bt | exact isTy_bl | exact isTy_nd | exact isTy_td | exact isTy_ld | exact isTy_sd | exact isTy_id | exact isTy_bd | exact isTy_dd | exact isTy_db | exact isTy_di | exact isTy_ds | exact isTy_dt | exact isTy_dl), ?_⟩
  | refine ⟨_, _, tyName_lst (by walk_at "s"), (by first | exact isTy_ll | exact isTy_lb | exact isTy_li | exact isTy_ls | exact isTy_lt), ?_⟩
  | refine if_q ?_
  | refine ⟨by walk_at "c", ?_⟩)
local macro_rules | `(tactic| walk_at "go") => `(tactic| (walk_at "w"; repeat (walk_at "g1"; walk_at "w")))
/-! a branch that cannot be -/
local macro_rules | `(tactic| walk_at "two") => `(tactic| refine ⟨fun h => ?_, fun h => ?_⟩)
section
variable {P : Program} {w : World} {K : PySem.W.Frag} {mg : Str → Option Value} {base : Heap} {ec : Cls}
theorem Flat.alike {w : W} (h : Flat w) {S : Sto} {n : Nat} : Alike S n w w := by
  cases h with
  | int => exact .int
  | str => exact .str
def spVr : SpW := fun ws S Q => ∃ (n : Str) (a b : Addr) (f : Str → W) (ds : List (Str × W)), ws = [.str n, comp f ds n, .ref a, .ref b, comp f ds "size"] ∧ n ∈ prs ∧ PvOk f ∧ DsOk ds ∧ S a = some (.dk (dkF prs f)) ∧ S b = some (.dk (skW ds)) ∧ Q (.bl true) S
theorem ok__law_value_right (T : Txt K mg ec w) (c__law_same : CalW P w K mg base 4 "_law_same" (Hd (spSame 2))) (c__law_initial : CalW P w K mg base 1 "_law_initial" (Hd spIv)) (c__law_share : CalW P w K mg base 1 "_law_share" (Hd spSh)) (d : DefAt K mg "_law_value_right" s__law_value_right ["_law_name", "_law_value_here", "_law_parent_here", "_law_declared", "_law_own"]) : CalW P w K mg base 5 "_law_value_right" spVr :=
  have c__law_initial := c__law_initial.mono (k := 4) (by decide)
  have c__law_share := c__law_share.mono (k := 4) (by decide)
  calDI d sc__law_value_right (fun ws S Q ⟨n, a, b, f, ds, h, _⟩ => by rw [h]; rfl) fun f cdv A outer s H E hr => ⟨_, _,
    (pss_cons (ps_if (pt_cmpR (k_notInB K w (hu_of hr)) (pv 0) (pv 3) rfl)
       (pss_cons (ps_if (pt_cmpR (k_inB K w (hu_of hr)) (pv 0) (pe_lst (pa_cons pe_str (pa_cons pe_str (pa_cons pe_str (pa_cons pe_str (pa_cons pe_str pa_nil)))))) rfl)
        (pss_one (ps_ret (k_w K c__law_same hr (by decide) rfl (pa_cons (pv 1) (pa_cons (pe_ix (k_ixB K w (hu_of hr)) (pv 2) (pv 0) (fun _ _ => rfl)) pa_nil)))))
        pss_nil)
       (pss_one (ps_ret (k_w K c__law_same hr (by decide) rfl (pa_cons (pv 1) (pa_cons (pe_ix (k_ixB K w (hu_of hr)) (k_w0 K c__law_initial hr (by decide) rfl) (pv 0) (fun _ _ => rfl)) pa_nil))))))
       pss_nil)
      (pss_cons (ps_set (i := 5) sc__law_value_right.nd rfl (Or.inl rfl) (pe_ix (k_ixB K w (hu_of hr)) (pv 3) (pv 0) (fun _ _ => rfl)))
      (pss_cons (ps_if (pt_cmpR (k_eq K hr.units) (pv 5) pe_str (nomark _))
       (pss_one (ps_ret (k_w K c__law_same hr (by decide) rfl (pa_cons (pv 1) (pa_cons (pe_ix (k_ixB K w (hu_of hr)) (pv 2) (pv 0) (fun _ _ => rfl)) pa_nil)))))
       pss_nil)
      (pss_cons (ps_if (pt_cmpR (k_eq K hr.units) (pv 5) pe_str (nomark _))
       (pss_one (ps_ret (k_w K c__law_same hr (by decide) rfl (pa_cons (pv 1) (pa_cons (pe_ix (k_ixB K w (hu_of hr)) (k_w0 K c__law_initial hr (by decide) rfl) (pv 0) (fun _ _ => rfl)) pa_nil)))))
       pss_nil)
      (pss_cons (ps_if (pt_not (pt_val (pe_callB (k_isi K) (by rfl) T.b_isinstance (by decide +kernel) (pa_cons (pv 5) (pa_cons (pe_bltn (v := .ty "tuple") (by rfl) T.b_tuple (by decide +kernel) rfl) pa_nil)))))
       (pss_one (ps_ret (k_w K c__law_same hr (by decide) rfl (pa_cons (pv 1) (pa_cons (pv 5) pa_nil)))))
       pss_nil)
      (pss_cons (ps_if (pt_cmpR (k_eq K hr.units) (pv 0) pe_str (nomark _))
       (pss_one (ps_ret (k_w K c__law_share hr (by decide) rfl (pa_cons (pv 1) (pa_cons (pe_ix (k_ixB K w (hu_of hr)) (pv 2) pe_str (fun _ _ => rfl)) (pa_cons (pv 5) (pa_cons pe_int (pa_cons pe_int pa_nil))))))))
       pss_nil)
      (pss_one (ps_ret (k_w K c__law_share hr (by decide) rfl (pa_cons (pv 1) (pa_cons (pv 4) (pa_cons (pv 5) (pa_cons (pe_callTy call_int1 (by rfl) T.b_int (by decide +kernel) (pa_cons (pe_cmpR (k_eq K hr.units) (pv 0) pe_str (nomark _)) pa_nil)) (pa_cons pe_int pa_nil)))))))))))))), inferInstance, by
    rintro ws S Q ⟨n, a, b, f, ds, rfl, hn, hf, hd, ha, hb, q⟩
    obtain ⟨ce, ca, cb⟩ := comp_size hf hd
    obtain ⟨se, sa, sb⟩ := sI_bd hf
    have hfl := (comp_ok hf hd).flat n hn
    have off : ∀ T, KpL [] S T → FgI Q (.bl true) T := fun T k => by
      refine fg_off (ps := []) k fun S6 g1 g2 => ?_
      rw [show S6 = S from funext fun x => g1 x (by simp)]
      exact q
    cases hg : ge ds n with
    | none =>
      have hc : comp f ds n = if n ∈ inh then f n else ini n := by
        unfold comp
        rw [hg]
        rfl
      walk_at "w"
      refine .inr (.inl ⟨_, _, hb, rfl, ?_⟩)
      have hg : valW (skW ds) (.inr n : Key) = none := hg
      rw [hg]
      refine ⟨fun _ => ?_, fun h => absurd (show true = false from h) (by decide)⟩
      walk_at "w"
      intro X hX
      have ha1 := (put_ne (c := .lst [.str "size", .str "lead", .str "face", .str "align", .str "least"]) (ne_free ha hX).symm).trans ha
      have e : isInW (.str n) [.str "size", .str "lead", .str "face", .str "align", .str "least"] = decide (n ∈ inh) := in_strs (ns := inh)
      refine .inl ⟨rfl, _, put_same, rfl, ?_⟩
      rw [e]
      refine ⟨fun h => ?_, fun h => ?_⟩
      · rw [if_pos (of_decide_eq_true h)] at hc
        walk_at "w"
        refine .inl ⟨_, ha1, rdAt_ok (val_dkF hn) ?_⟩
        rw [hc] at hfl ⊢
        exact same_go hfl.alike (off _ ((KpL.refl [] S).new hX))
      · rw [if_neg (of_decide_eq_false h)] at hc
        walk_at "w"
        refine Hd.mk ⟨rfl, fun V hV => ?_⟩
        refine .inl ⟨_, put_same, rdAt_ok (val_dkF hn) ?_⟩
        rw [hc] at hfl ⊢
        exact same_go hfl.alike (off _ (((KpL.refl [] S).new hX).new hV))
    | some x =>
      have hc : comp f ds n = vaW n (f n) (if n = "size" then sI f else s1 f ds) (some x) := by
        unfold comp
        rw [hg]
      have hdx := hd n x hn hg
      have hg : valW (skW ds) (.inr n : Key) = some x := hg
      walk_at "w"
      refine .inr (.inl ⟨_, _, hb, rfl, ?_⟩)
      rw [hg]
      refine ⟨fun h => absurd (show false = true from h) Bool.false_ne_true, fun _ => ?_⟩
      walk_at "w"
      refine .inl ⟨_, hb, rdAt_ok hg ?_⟩
      cases hdx with
      | @int i hi =>
        have hc : comp f ds n = .int i := hc
        walk_at "go"
        rw [hc]
        exact same_go .int (fg_here q)
      | @str x hx =>
        have hc : comp f ds n = if x = "same" then f n else if x = "first" then ini n else .str x := hc
        walk_at "w"
        refine ⟨fun h => ?_, fun h => ?_⟩
        · rw [if_pos (of_decide_eq_true h)] at hc
          walk_at "w"
          refine .inl ⟨_, ha, rdAt_ok (val_dkF hn) ?_⟩
          rw [hc] at hfl ⊢
          exact same_go hfl.alike (fg_here q)
        rw [if_neg (of_decide_eq_false h)] at hc
        walk_at "w"
        refine ⟨fun h => ?_, fun h => ?_⟩
        · rw [if_pos (of_decide_eq_true h)] at hc
          walk_at "w"
          refine Hd.mk ⟨rfl, fun V hV => ?_⟩
          refine .inl ⟨_, put_same, rdAt_ok (val_dkF hn) ?_⟩
          rw [hc] at hfl ⊢
          exact same_go hfl.alike (off _ ((KpL.refl [] S).new hV))
        rw [if_neg (of_decide_eq_false h)] at hc
        walk_at "go"
        rw [hc]
        exact same_go .str (fg_here q)
      | @tup p r hr a0 a1 b0 b1 =>
        have hc : comp f ds n = .int (mxI (loI n) (mnI (hiI n) ((if n = "size" then sI f else s1 f ds) * p / r))) := hc
        walk_at "go"
        refine ⟨sh_pr p r, shN_sh (shN_str (by decide +kernel)) (Nat.zero_le _), ?_⟩
        refine ⟨fun h => absurd (show false = true from h) Bool.false_ne_true, fun _ => ?_⟩
        walk_at "go"
        refine ⟨sh_pr p r, shN_sh (shN_str (by decide +kernel)) (Nat.zero_le _), ?_⟩
        refine ⟨fun h => absurd (show false = true from h) Bool.false_ne_true, fun _ => ?_⟩
        walk_at "go"
        refine ⟨fun h => ?_, fun h => ?_⟩
        · have h : n = "size" := of_decide_eq_true h
          rw [if_pos h] at hc
          have el : loI n = 1 := by unfold loI; rw [if_pos (.inl h)]
          have eh : hiI n = 12 := by unfold hiI; rw [if_pos h]
          rw [el, eh] at hc
          walk_at "w"
          refine .inl ⟨_, ha, rdAt_ok (val_dkF size_in) ?_⟩
          rw [hc, se]
          refine Hd.mk ⟨_, sI f, p, r, 1, 12, rfl, by decide, by decide, by decide, b0, b1, by omega, a1, rfl, ?_⟩
          exact fg_here q
        · have h : n ≠ "size" := of_decide_eq_false h
          rw [if_neg h] at hc
          have eh : hiI n = 99 := by unfold hiI; rw [if_neg h]
          rw [eh] at hc
          have el : loI n = if decide (n = "lead") = true then 1 else 0 := by
            unfold loI
            by_cases c : n = "lead"
            · rw [if_pos (.inr c), if_pos (decide_eq_true c)]
            · rw [if_neg (fun z => z.elim h c), if_neg (by rw [decide_eq_false c]; exact Bool.false_ne_true)]
          walk_at "w"
          rw [hc, ce]
          refine Hd.mk ⟨_, s1 f ds, p, r, loI n, 99, by rw [el], ?_, ?_, by decide, b0, b1, by omega, a1, rfl, ?_⟩
          · rw [el]
            split <;> decide
          · rw [el]
            split <;> decide
          · exact fg_here q⟩
end
end K13
set_option Elab.async false
set_option linter.all false
set_option maxRecDepth 100000
set_option maxHeartbeats 4000000
set_option synthInstance.maxHeartbeats 4000000
set_option synthInstance.maxSize 100000
namespace K13
open PySem PySem.Spec PyProof.Rows L2 Wl
local macro_rules | `(tactic| walk_at "w") => `(tactic| (conv => whnf))
/-! what a store holds -/
local macro_rules | `(tactic| walk_at "ne") => `(tactic| first | assumption | (apply Ne.symm; assumption) | exact ne_free (by assumption) (by assumption) | exact (ne_free (by assumption) (by assumption)).symm | exact Pl.ne (by assumption) (by assumption) | exact (Pl.ne (by assumption) (by assumption)).symm)
local macro_rules | `(tactic| walk_at "s") => `(tactic| first
  | exact put_same
  | assumption
  | (refine (put_ne ?_).trans ?_; (· walk_at "ne"); (· walk_at "s")))
/-! a side condition -/
local macro_rules | `(tactic| walk_at "c") => `(tactic| first
  | exact Or.inl (Or.inl ⟨by omega, by omega⟩)
  | exact Or.inl (Or.inr ⟨by omega, by omega⟩)
  | exact Or.inl ⟨by omega, by omega⟩
  | exact Or.inl ⟨rfl, _, by walk_at "s"⟩
  | rfl
  | omega
  | decide
  | exact Nat.le_trans (by omega) sizeLine_ge)
/-! one question is answered, if the answer is plain -/
local macro_rules | `(tactic| walk_at "g1") => `(tactic| first
  | refine ⟨fun _ => ?_, fun h => absurd (show true = false from h) (by decide)⟩
  | refine ⟨fun h => absurd (show false = true from h) Bool.false_ne_true, fun _ => ?_⟩
  | refine ⟨_, by walk_at "s", ?_⟩
  | refine ⟨_, _, by walk_at "s", by walk_at "s", ?_⟩
  | refine ⟨_, by walk_at "s", by simpa using (by omega), ?_⟩
  | refine ⟨_, rfl, ?_⟩
  | refine ⟨_, _, rfl, (by first | exact isTy_tt | exact isTy_ii | exact isTy_ll | exact isTy_ss | exact isTy_ib | exact isTy_tb | exact isTy_ti | exact isTy_ts | exact isTy_tl | exact isTy_lb | exact isTy_li | exact isTy_ls | exact isTy_lt | exact isTy_sb | exact isTy_si | exact isTy_st | exact isTy_sl | exact isTy_is | exact isTy_it | exact isTy_il | exact isTy_bi | exact isTy_bs | exact isTy_bb | exact isTy_nb | exact isTy_ni | exact isTy_ns | exact isTy_nt | exact isTy_nl | exact isTy_bt | exact isTy_bl | exact isTy_nd | exact isTy_td | exact isTy_ld | exact isTy_sd | exact isTy_id | exact isTy_bd | exact isTy_dd | exact isTy_db | exact isTy_di | exact isTy_ds | exact isTy_dt | exact isTy_dl), ?_⟩
  | refine ⟨_, _, tyName_lst (by walk_at "s"), (by first | exact isTy_ll | exact isTy_lb | exact isTy_li | exact isTy_ls | exact isTy_lt), ?_⟩
  | refine if_q ?_
  | refine ⟨by walk_at "c", ?_⟩)
local macro_rules | `(tactic| walk_at "go") => `(tactic| (walk_at "w"; repeat (walk_at "g1"; walk_at "w")))
/-! a branch that cannot be -/
local macro_rules | `(tactic| walk_at "two") => `(tactic| refine ⟨fun h => ?_, fun h => ?_⟩)
section
variable {P : Program} {w : World} {K : PySem.W.Frag} {mg : Str → Option Value} {base : Heap} {ec : Cls}
def spRi : SpW := fun ws S Q => ∃ (g a b : Addr) (f : Str → W) (ds : List (Str × W)), ws = [.ref g, .ref a, .ref b] ∧ PvOk f ∧ DsOk ds ∧ S g = some (.dk (dkF prs (comp f ds))) ∧ S a = some (.dk (dkF prs f)) ∧ S b = some (.dk (skW ds)) ∧ Q (.bl true) S
theorem keys_dkF (f : Str → W) : (dkF prs f).map (fun kv => keyW kv.1) = prs.map W.str := by
  unfold dkF
  rw [List.map_map]
  rfl
theorem ok__law_right (T : Txt K mg ec w) (c__law_same : CalW P w K mg base 4 "_law_same" (Hd (spSame 2))) (c__law_properties : CalW P w K mg base 1 "_law_properties" (Hd spPr)) (c__law_value_right : CalW P w K mg base 5 "_law_value_right" (Hd spVr)) (d : DefAt K mg "_law_right" s__law_right ["_law_got", "_law_parent_here", "_law_declared"]) : CalW P w K mg base 6 "_law_right" spRi :=
  have c__law_same := c__law_same.mono (k := 5) (by decide)
  have c__law_properties := c__law_properties.mono (k := 5) (by decide)
  calDI d sc__law_right (fun ws S Q ⟨g, a, b, f, ds, h, _⟩ => by rw [h]; rfl) fun f cdv A outer s H E hr => ⟨_, _,
    (pss_cons (ps_if (PW.pt (pw_or (pt_not (pt_val (pe_callB (k_isi K) (by rfl) T.b_isinstance (by decide +kernel) (pa_cons (pv 0) (pa_cons (pe_bltn (v := .ty "dict") (by rfl) T.b_dict (by decide +kernel) rfl) pa_nil))))) (pw_or1 (pt_not (pt_val (k_w K c__law_same hr (by decide) rfl (pa_cons (pe_callTy (k_listB K rfl) (by rfl) T.b_list (by decide +kernel) (pa_cons (pv 0) pa_nil)) (pa_cons (k_w0 K c__law_properties hr (by decide) rfl) pa_nil))))))))
       (pss_one (ps_ret pe_bl))
       pss_nil)
      (pss_cons (ps_for PassesOwn.never rfl (k_any K (k_w0 K c__law_properties hr (by decide) rfl)) (pg_name (i := 3) sc__law_right.nd rfl (Or.inl rfl))
       (pss_one (ps_if (pt_not (pt_val (k_w K c__law_value_right hr (by decide) rfl (pa_cons (pv 3) (pa_cons (pe_ix (k_ixB K w (hu_of hr)) (pv 0) (pv 3) (fun _ _ => rfl)) (pa_cons (pv 1) (pa_cons (pv 2) (pa_cons (pe_ix (k_ixB K w (hu_of hr)) (pv 0) pe_str (fun _ _ => rfl)) pa_nil))))))))
        (pss_one (ps_ret pe_bl))
        pss_nil)))
      (pss_one (ps_ret pe_bl)))), inferInstance, by
    rintro ws S Q ⟨g, a, b, f, ds, rfl, hf, hd, hg, ha, hb, q⟩
    refine if_q ?_
    walk_at "w"
    refine ⟨"dict", true, tyName_dk hg, isTy_dd, ?_⟩
    refine ⟨fun h => absurd (show false = true from h) Bool.false_ne_true, fun _ => ?_⟩
    walk_at "w"
    refine .inr ⟨_, hg, fun X hX => ?_⟩
    rw [keys_dkF]
    have hg1 := (put_ne (c := .lst (prs.map W.str)) (ne_free hg hX).symm).trans hg
    have ha1 := (put_ne (c := .lst (prs.map W.str)) (ne_free ha hX).symm).trans ha
    have hb1 := (put_ne (c := .lst (prs.map W.str)) (ne_free hb hX).symm).trans hb
    have hX1 : put S X (.lst (prs.map W.str)) X = some (.lst (prs.map W.str)) := put_same
    have k1 : KpL [] S (put S X (.lst (prs.map W.str))) := (KpL.refl [] S).new hX
    generalize put S X (.lst (prs.map W.str)) = S1 at hg1 ha1 hb1 hX1 k1
    walk_at "w"
    refine Hd.mk ⟨rfl, fun Y hY => ?_⟩
    have hg2 := (put_ne (c := .lst (prs.map W.str)) (ne_free hg1 hY).symm).trans hg1
    have ha2 := (put_ne (c := .lst (prs.map W.str)) (ne_free ha1 hY).symm).trans ha1
    have hb2 := (put_ne (c := .lst (prs.map W.str)) (ne_free hb1 hY).symm).trans hb1
    have hX2 := (put_ne (c := .lst (prs.map W.str)) (ne_free hX1 hY).symm).trans hX1
    have hY2 : put S1 Y (.lst (prs.map W.str)) Y = some (.lst (prs.map W.str)) := put_same
    have k2 := k1.new (c := .lst (prs.map W.str)) hY
    generalize put S1 Y (.lst (prs.map W.str)) = S2 at hg2 ha2 hb2 hX2 hY2 k2
    refine same_go ((alike_strs hX2 hY2 (by decide)).up (by decide)) ?_
    refine ⟨fun h => absurd (show false = true from h) Bool.false_ne_true, fun _ => ?_⟩
    walk_at "w"
    refine Hd.mk ⟨rfl, fun Z hZ => ?_⟩
    have hg3 := (put_ne (c := .lst (prs.map W.str)) (ne_free hg2 hZ).symm).trans hg2
    have ha3 := (put_ne (c := .lst (prs.map W.str)) (ne_free ha2 hZ).symm).trans ha2
    have hb3 := (put_ne (c := .lst (prs.map W.str)) (ne_free hb2 hZ).symm).trans hb2
    have hZ3 : put S2 Z (.lst (prs.map W.str)) Z = some (.lst (prs.map W.str)) := put_same
    have k3 := k2.new (c := .lst (prs.map W.str)) hZ
    generalize put S2 Z (.lst (prs.map W.str)) = S3 at hg3 ha3 hb3 hZ3 k3
    walk_at "w"
    refine ⟨_, hZ3, ?_⟩
    refine for_q (fun i ρ' S' => S' = S3 ∧ ∃ a3 : Option W, ρ' = [some (.ref g), some (.ref a), some (.ref b), a3]) ⟨rfl, _, rfl⟩ (fun i ρ' S' h => by rw [h.1]; exact hZ3) ?_ ?_
    · rintro i w ρ' S' ew ⟨rfl, a3, rfl⟩
      obtain ⟨n, en, rfl⟩ : ∃ n, prs[i]? = some n ∧ W.str n = w := by
        rw [List.getElem?_map] at ew
        cases hc : prs[i]? with
        | none => rw [hc] at ew; cases ew
        | some n => rw [hc] at ew; exact ⟨n, rfl, Option.some.inj ew⟩
      have hn : n ∈ prs := List.mem_of_getElem? en
      walk_at "w"
      refine .inl ⟨_, hg3, rdAt_ok (val_dkF hn) ?_⟩
      walk_at "w"
      refine .inl ⟨_, hg3, rdAt_ok (val_dkF size_in) ?_⟩
      refine Hd.mk ⟨n, a, b, f, ds, rfl, hn, hf, hd, ha3, hb3, ?_⟩
      refine ⟨fun h => absurd (show false = true from h) Bool.false_ne_true, fun _ => ?_⟩
      exact ⟨rfl, _, rfl⟩
    · rintro ρ' S' ⟨rfl, a3, rfl⟩
      walk_at "w"
      refine fg_off (ps := []) k3 fun S6 g1 g2 => ?_
      rw [show S6 = S from funext fun x => g1 x (by simp)]
      exact q⟩
end
end K13
set_option Elab.async false
set_option linter.all false
set_option maxRecDepth 100000
set_option maxHeartbeats 4000000
set_option synthInstance.maxHeartbeats 4000000
set_option synthInstance.maxSize 100000
namespace K13
open PySem PySem.Spec PyProof.Rows L2 Wl
local macro_rules | `(tactic| walk_at "w") => `(tactic| (conv => whnf))
/-! what a store holds -/
local macro_rules | `(tactic| walk_at "ne") => `(tactic| first | assumption | (apply Ne.symm; assumption) | exact ne_free (by assumption) (by assumption) | exact (ne_free (by assumption) (by assumption)).symm | exact Pl.ne (by assumption) (by assumption) | exact (Pl.ne (by assumption) (by assumption)).symm)
local macro_rules | `(tactic| walk_at "s") => `(tactic| first
  | exact put_same
  | assumption
  | (refine (put_ne ?_).trans ?_; (· walk_at "ne"); (· walk_at "s")))
/-! a side condition -/
local macro_rules | `(tactic| walk_at "c") => `(tactic| first
  | exact Or.inl (Or.inl ⟨by omega, by omega⟩)
  | exact Or.inl (Or.inr ⟨by omega, by omega⟩)
  | exact Or.inl ⟨by omega, by omega⟩
  | exact Or.inl ⟨rfl, _, by walk_at "s"⟩
  | rfl
  | omega
  | decide
  | exact Nat.le_trans (by omega) sizeLine_ge)
/-! one question is answered, if the answer is plain -/
local macro_rules | `(tactic| walk_at "g1") => `(tactic| first
  | refine ⟨fun _ => ?_, fun h => absurd (show true = false from h) (by decide)⟩
  | refine ⟨fun h => absurd (show false = true from h) Bool.false_ne_true, fun _ => ?_⟩
  | refine ⟨_, by walk_at "s", ?_⟩
  | refine ⟨_, _, by walk_at "s", by walk_at "s", ?_⟩
  | refine ⟨_, by walk_at "s", by simpa using (by omega), ?_⟩
  | refine ⟨_, rfl, ?_⟩
  | refine ⟨_, _, rfl, (by first | exact isTy_tt | exact isTy_ii | exact isTy_ll | exact isTy_ss | exact isTy_ib | exact isTy_tb | exact isTy_ti | exact isTy_ts | exact isTy_tl | exact isTy_lb | exact isTy_li | exact isTy_ls | exact isTy_lt | exact isTy_sb | exact isTy_si | exact isTy_st | exact isTy_sl | exact isTy_is | exact isTy_it | exact isTy_il | exact isTy_bi | exact isTy_bs | exact isTy_bb | exact isTy_nb | exact isTy_ni | exact isTy_ns | exact isTy_nt | exact isTy_nl | exact isTy_bt | exact isTy_bl | exact isTy_nd | exact isTy_td | exact isTy_ld | exact isTy_sd | exact isTy_id | exact isTy_bd | exact isTy_dd | exact isTy_db | exact isTy_di | exact isTy_ds | exact isTy_dt | exact isTy_dl), ?_⟩
  | refine ⟨_, _, tyName_lst (by walk_at "s"), (by first | exact isTy_ll | exact isTy_lb | exact isTy_li | exact isTy_ls | exact isTy_lt), ?_⟩
  | refine if_q ?_
  | refine ⟨by walk_at "c", ?_⟩)
local macro_rules | `(tactic| walk_at "go") => `(tactic| (walk_at "w"; repeat (walk_at "g1"; walk_at "w")))
/-! a branch that cannot be -/
local macro_rules | `(tactic| walk_at "two") => `(tactic| refine ⟨fun h => ?_, fun h => ?_⟩)
section
variable {P : Program} {w : World} {K : PySem.W.Frag} {mg : Str → Option Value} {base : Heap} {ec : Cls}
theorem sk_dkF (f : Str → W) : dkF prs f = skW (prs.map fun n => (n, f n)) := by
  unfold dkF skW
  rw [List.map_map]
  rfl
theorem same_pv {a b : Addr} {f : Str → W} {S : Sto} {Q : WK} (ha : S a = some (.dk (dkF prs f))) (hb : S b = some (.dk (dkF prs f))) (hf : PvOk f) (q : Q (.bl true) S) : Hd spSd [.ref a, .ref b] S Q := by
  rw [sk_dkF] at ha hb
  refine Hd.mk ⟨a, b, _, rfl, ha, hb, by rw [List.length_map]; decide, fun e he T => ?_, q⟩
  obtain ⟨n, hn, rfl⟩ := List.mem_map.mp he
  exact (hf.flat n hn).alike
theorem same_ds {a b : Addr} {ds : List (Str × W)} {S : Sto} {Q : WK} (ha : S a = some (.dk (skW ds))) (hb : S b = some (.dk (skW ds))) (hd : ∀ e ∈ ds, DOk e) (hl : ds.length ≤ 10) (q : Q (.bl true) S) : Hd spSd [.ref a, .ref b] S Q := by
  refine Hd.mk ⟨a, b, ds, rfl, ha, hb, by omega, fun e he T => ?_, q⟩
  obtain ⟨n, v⟩ := e
  have h2 : Dcl n v := (hd _ he).2
  cases h2 with
  | int _ => exact .int
  | str _ => exact .str
  | tup _ _ _ _ _ =>
    refine .tup rfl (by show 2 ≤ 1000000; decide) fun j x y e1 e2 => ?_
    match j with
    | 0 => cases Option.some.inj e1; cases Option.some.inj e2; exact .int
    | 1 => cases Option.some.inj e1; cases Option.some.inj e2; exact .int
    | j + 2 => cases e1
theorem ok_law (T : Txt K mg ec w) {f : Addr} {fd : FuncData} (F : Fun K "law" "law" s_law f fd) (c__law_pool : CalW P w K mg base 1 "_law_pool" (Hd spPl)) (c__law_parent : CalW P w K mg base 2 "_law_parent" (Hd spPa)) (c__law_declared_values : CalW P w K mg base 3 "_law_declared_values" (Hd spDv)) (c_initial_values : CalW P w K mg base 1 "initial_values" (Hd spIv)) (c__law_initial : CalW P w K mg base 1 "_law_initial" (Hd spIv))
    (c__law_same : CalW P w K mg base 5 "_law_same" (Hd spSd)) (c_computed : CalW P w K mg base 2 "computed" (Hd spCo)) (c__law_right : CalW P w K mg base 6 "_law_right" (Hd spRi)) : FnOk P w K mg base CX0 7 f fd ["_law_script"] (liftSp K spLaw) :=
  have c__law_pool := c__law_pool.mono (k := 6) (by decide)
  have c__law_parent := c__law_parent.mono (k := 6) (by decide)
  have c__law_declared_values := c__law_declared_values.mono (k := 6) (by decide)
  have c_initial_values := c_initial_values.mono (k := 6) (by decide)
  have c__law_initial := c__law_initial.mono (k := 6) (by decide)
  have c__law_same := c__law_same.mono (k := 6) (by decide)
  have c_computed := c_computed.mono (k := 6) (by decide)
  fnDI F sc_law (fun ws S Q ⟨ns, e, _⟩ => by rw [e]; rfl) fun f cdv A outer s H E hr => ⟨_, _,
    (pss_cons (ps_set (i := 1) sc_law.nd rfl (Or.inl rfl) (k_w K c__law_parent hr (by decide) rfl (pa_cons (k_w K c__law_pool hr (by decide) rfl (pa_cons (pv 0) (pa_cons pe_int pa_nil))) pa_nil)))
      (pss_cons (ps_set (i := 2) sc_law.nd rfl (Or.inl rfl) (k_w K c__law_declared_values hr (by decide) rfl (pa_cons (k_w K c__law_pool hr (by decide) rfl (pa_cons (pv 0) (pa_cons pe_int pa_nil))) pa_nil)))
      (pss_cons (ps_set (i := 3) sc_law.nd rfl (Or.inl rfl) (k_w0 K c_initial_values hr (by decide) rfl))
      (pss_cons (ps_if (pt_not (pt_val (k_w K c__law_same hr (by decide) rfl (pa_cons (pv 3) (pa_cons (k_w0 K c__law_initial hr (by decide) rfl) pa_nil)))))
       (pss_one (ps_ret pe_bl))
       pss_nil)
      (pss_cons (ps_asg pe_int (pg_sub (pv 3) pe_str (set_B (hu_of hr))))
      (pss_cons (ps_asg pe_str (pg_sub (pv 3) pe_str (set_B (hu_of hr))))
      (pss_cons (ps_if (pt_not (pt_val (k_w K c__law_same hr (by decide) rfl (pa_cons (k_w0 K c_initial_values hr (by decide) rfl) (pa_cons (k_w0 K c__law_initial hr (by decide) rfl) pa_nil)))))
       (pss_one (ps_ret pe_bl))
       pss_nil)
      (pss_cons (ps_set (i := 4) sc_law.nd rfl (Or.inl rfl) (pe_callTy (k_dictA K w) (by rfl) T.b_dict (by decide +kernel) (pa_cons (pv 1) pa_nil)))
      (pss_cons (ps_set (i := 5) sc_law.nd rfl (Or.inl rfl) (pe_callTy (k_dictA K w) (by rfl) T.b_dict (by decide +kernel) (pa_cons (pv 2) pa_nil)))
      (pss_cons (ps_set (i := 6) sc_law.nd rfl (Or.inl rfl) (k_w K c_computed hr (by decide) rfl (pa_cons (pv 4) (pa_cons (pv 5) pa_nil))))
      (pss_cons (ps_if (pt_not (pt_val (k_w K c__law_right hr (by decide) rfl (pa_cons (pv 6) (pa_cons (pv 1) (pa_cons (pv 2) pa_nil))))))
       (pss_one (ps_ret pe_bl))
       pss_nil)
      (pss_cons (ps_set (i := 7) sc_law.nd rfl (Or.inl rfl) (k_w K c_computed hr (by decide) rfl (pa_cons (pe_callTy (k_dictA K w) (by rfl) T.b_dict (by decide +kernel) (pa_cons (pv 6) pa_nil)) (pa_cons (pv 5) pa_nil))))
      (pss_cons (ps_if (pt_not (pt_val (k_w K c__law_right hr (by decide) rfl (pa_cons (pv 7) (pa_cons (pv 6) (pa_cons (pv 2) pa_nil))))))
       (pss_one (ps_ret pe_bl))
       pss_nil)
      (pss_cons (ps_asg (pe_op op_sub pe_int (pe_ix (k_ixB K w (hu_of hr)) (pv 6) pe_str (fun _ _ => rfl))) (pg_sub (pv 6) pe_str (set_B (hu_of hr))))
      (pss_cons (ps_asg pe_str (pg_sub (pv 6) pe_str (set_B (hu_of hr))))
      (pss_cons (ps_if (pt_not (pt_val (k_w K c__law_right hr (by decide) rfl (pa_cons (k_w K c_computed hr (by decide) rfl (pa_cons (pv 4) (pa_cons (pv 5) pa_nil))) (pa_cons (pv 1) (pa_cons (pv 2) pa_nil))))))
       (pss_one (ps_ret pe_bl))
       pss_nil)
      (pss_one (ps_ret (pe_and (k_w K c__law_same hr (by decide) rfl (pa_cons (pv 4) (pa_cons (pv 1) pa_nil))) (pe_one (k_w K c__law_same hr (by decide) rfl (pa_cons (pv 5) (pa_cons (pv 2) pa_nil))))))))))))))))))))))), inferInstance, by
    rintro ws S Q ⟨ns, rfl, hl, q⟩
    walk_at "w"
    refine pl_go (by decide) (by decide) hl fun p S1 hpf p1 o1 => ?_
    refine Hd.mk ⟨p, 0, rfl, p1, by decide, fun V f S2 M g2 hM => ?_⟩
    have hf := g2.ok
    walk_at "w"
    refine pl_go (by decide) (by decide) hl fun p' S3 hpf3 p3 o3 => ?_
    have nV : V ≠ p' := fun z => by rw [← z, g2.vv] at hpf3; cases hpf3
    have hV3 := (o3 V (notin1 nV)).trans g2.vv
    refine Hd.mk ⟨p', 0, rfl, p3, by decide, fun D ds S4 hDf hD4 hdo hdl o4 => ?_⟩
    have hd := ds_ok hdo
    have hVD : V ≠ D := fun z => by rw [← z, hV3] at hDf; cases hDf
    have hV4 := (o4 V (by simp [nV, hVD])).trans hV3
    walk_at "w"
    refine Hd.mk ⟨rfl, fun B hB => ?_⟩
    have k5 : KpL [] S4 (put S4 B (.dk (dkF prs ini))) := (KpL.refl [] S4).new hB
    have b5 : put S4 B (.dk (dkF prs ini)) B = some (.dk (dkF prs ini)) := put_same
    generalize put S4 B (.dk (dkF prs ini)) = S5 at k5 b5
    walk_at "w"
    refine Hd.mk ⟨rfl, fun X hX => ?_⟩
    have nXB := ne_free b5 hX
    have k6 := k5.new (c := .dk (dkF prs ini)) hX
    have b6 := (put_ne (c := .dk (dkF prs ini)) nXB.symm).trans b5
    refine same_pv b6 put_same ini_ok ?_
    generalize put S5 X (.dk (dkF prs ini)) = S6 at k6 b6
    refine ⟨fun h => absurd (show false = true from h) Bool.false_ne_true, fun _ => ?_⟩
    walk_at "w"
    refine ⟨_, b6, dkF_len, ?_⟩
    have b7 : put S6 B (.dk (putW (dkF prs ini) (.inr "lead" : Key) (.int 13))) B = some (.dk (dkF prs (setF ini "lead" (.int 13)))) := by rw [put_same, put_dkF (by decide +kernel)]
    have k7 := k6.own (c := .dk (putW (dkF prs ini) (.inr "lead" : Key) (.int 13))) hB
    generalize put S6 B _ = S7 at k7 b7
    walk_at "w"
    refine ⟨_, b7, dkF_len, ?_⟩
    have k8 := k7.own (c := .dk (putW (dkF prs (setF ini "lead" (.int 13))) (.inr "keep" : Key) (.str "yes"))) hB
    generalize put S7 B _ = S8 at k8
    walk_at "w"
    refine Hd.mk ⟨rfl, fun B2 hB2 => ?_⟩
    have k9 := k8.new (c := .dk (dkF prs ini)) hB2
    have b9 : put S8 B2 (.dk (dkF prs ini)) B2 = some (.dk (dkF prs ini)) := put_same
    generalize put S8 B2 (.dk (dkF prs ini)) = S9 at k9 b9
    walk_at "w"
    refine Hd.mk ⟨rfl, fun X2 hX2 => ?_⟩
    have nXB2 := ne_free b9 hX2
    have k10 := k9.new (c := .dk (dkF prs ini)) hX2
    have b10 := (put_ne (c := .dk (dkF prs ini)) nXB2.symm).trans b9
    refine same_pv b10 put_same ini_ok ?_
    generalize put S9 X2 (.dk (dkF prs ini)) = S10 at k10 b10
    refine ⟨fun h => absurd (show false = true from h) Bool.false_ne_true, fun _ => ?_⟩
    have hV := k10 V _ (by simp) hV4
    have hD := k10 D _ (by simp) hD4
    walk_at "w"
    refine .inl ⟨_, hV, fun P1 hP1 => ?_⟩
    have hV1 := (put_ne (c := .dk (dkF prs f)) (ne_free hV hP1).symm).trans hV
    have hD1 := (put_ne (c := .dk (dkF prs f)) (ne_free hD hP1).symm).trans hD
    have p11 : put S10 P1 (.dk (dkF prs f)) P1 = some (.dk (dkF prs f)) := put_same
    generalize put S10 P1 (.dk (dkF prs f)) = S11 at hV1 hD1 p11
    walk_at "w"
    refine .inl ⟨_, hD1, fun E1 hE1 => ?_⟩
    have hV2 := (put_ne (c := .dk (skW ds)) (ne_free hV1 hE1).symm).trans hV1
    have hD2 := (put_ne (c := .dk (skW ds)) (ne_free hD1 hE1).symm).trans hD1
    have p12 := (put_ne (c := .dk (skW ds)) (ne_free p11 hE1).symm).trans p11
    have e12 : put S11 E1 (.dk (skW ds)) E1 = some (.dk (skW ds)) := put_same
    generalize put S11 E1 (.dk (skW ds)) = S12 at hV2 hD2 p12 e12
    walk_at "w"
    refine Hd.mk ⟨P1, E1, f, ds, rfl, p12, e12, hf, hd, fun G S13 hG hG13 k13 => ?_⟩
    have hV13 := k13 V _ (by simp) hV2
    have hD13 := k13 D _ (by simp) hD2
    have p13 := k13 P1 _ (by simp) p12
    have e13 := k13 E1 _ (by simp) e12
    walk_at "w"
    refine Hd.mk ⟨G, V, D, f, ds, rfl, hf, hd, hG13, hV13, hD13, ?_⟩
    refine ⟨fun h => absurd (show false = true from h) Bool.false_ne_true, fun _ => ?_⟩
    have hf2 := comp_ok hf hd
    walk_at "w"
    refine .inl ⟨_, hG13, fun H1 hH1 => ?_⟩
    have kH : KpL [] S13 (put S13 H1 (.dk (dkF prs (comp f ds)))) := (KpL.refl [] S13).new hH1
    have h14 : put S13 H1 (.dk (dkF prs (comp f ds))) H1 = some (.dk (dkF prs (comp f ds))) := put_same
    generalize put S13 H1 (.dk (dkF prs (comp f ds))) = S14 at kH h14
    refine Hd.mk ⟨H1, E1, comp f ds, ds, rfl, h14, kH E1 _ (by simp) e13, hf2, hd, fun A S15 hA hA15 k15 => ?_⟩
    have kk := kH.trans k15
    have hV15 := kk V _ (by simp) hV13
    have hD15 := kk D _ (by simp) hD13
    have p15 := kk P1 _ (by simp) p13
    have e15 := kk E1 _ (by simp) e13
    have g15 := kk G _ (by simp) hG13
    walk_at "w"
    refine Hd.mk ⟨A, G, D, comp f ds, ds, rfl, hf2, hd, hA15, g15, hD15, ?_⟩
    refine ⟨fun h => absurd (show false = true from h) Bool.false_ne_true, fun _ => ?_⟩
    obtain ⟨ce, ca, cb⟩ := comp_size hf hd
    have nGV : G ≠ V := fun z => by rw [z, hV2] at hG; cases hG
    have nGD : G ≠ D := fun z => by rw [z, hD2] at hG; cases hG
    have nGP : G ≠ P1 := fun z => by rw [z, p12] at hG; cases hG
    have nGE : G ≠ E1 := fun z => by rw [z, e12] at hG; cases hG
    walk_at "w"
    refine .inl ⟨_, g15, rdAt_ok (val_dkF size_in) ?_⟩
    rw [ce]
    walk_at "w"
    refine ⟨_, g15, dkF_len, ?_⟩
    have q1 : put S15 G (.dk (putW (dkF prs (comp f ds)) (.inr "size" : Key) (.int (13 - s1 f ds)))) G = some (.dk (dkF prs (setF (comp f ds) "size" (.int (13 - s1 f ds))))) := by rw [put_same, put_dkF size_in]
    have hV16 := (put_ne (c := .dk (putW (dkF prs (comp f ds)) (.inr "size" : Key) (.int (13 - s1 f ds)))) nGV.symm).trans hV15
    have hD16 := (put_ne (c := .dk (putW (dkF prs (comp f ds)) (.inr "size" : Key) (.int (13 - s1 f ds)))) nGD.symm).trans hD15
    have p16 := (put_ne (c := .dk (putW (dkF prs (comp f ds)) (.inr "size" : Key) (.int (13 - s1 f ds)))) nGP.symm).trans p15
    have e16 := (put_ne (c := .dk (putW (dkF prs (comp f ds)) (.inr "size" : Key) (.int (13 - s1 f ds)))) nGE.symm).trans e15
    generalize put S15 G _ = S16 at q1 hV16 hD16 p16 e16
    walk_at "w"
    refine ⟨_, q1, dkF_len, ?_⟩
    have hV17 := (put_ne (c := .dk (putW (dkF prs (setF (comp f ds) "size" (.int (13 - s1 f ds)))) (.inr "place" : Key) (.str "same"))) nGV.symm).trans hV16
    have hD17 := (put_ne (c := .dk (putW (dkF prs (setF (comp f ds) "size" (.int (13 - s1 f ds)))) (.inr "place" : Key) (.str "same"))) nGD.symm).trans hD16
    have p17 := (put_ne (c := .dk (putW (dkF prs (setF (comp f ds) "size" (.int (13 - s1 f ds)))) (.inr "place" : Key) (.str "same"))) nGP.symm).trans p16
    have e17 := (put_ne (c := .dk (putW (dkF prs (setF (comp f ds) "size" (.int (13 - s1 f ds)))) (.inr "place" : Key) (.str "same"))) nGE.symm).trans e16
    generalize put S16 G _ = S17 at hV17 hD17 p17 e17
    walk_at "w"
    refine Hd.mk ⟨P1, E1, f, ds, rfl, p17, e17, hf, hd, fun Y S18 hY hY18 k18 => ?_⟩
    have hV18 := k18 V _ (by simp) hV17
    have hD18 := k18 D _ (by simp) hD17
    have p18 := k18 P1 _ (by simp) p17
    have e18 := k18 E1 _ (by simp) e17
    walk_at "w"
    refine Hd.mk ⟨Y, V, D, f, ds, rfl, hf, hd, hY18, hV18, hD18, ?_⟩
    refine ⟨fun h => absurd (show false = true from h) Bool.false_ne_true, fun _ => ?_⟩
    walk_at "w"
    refine same_pv p18 hV18 hf ?_
    refine ⟨fun _ => ?_, fun h => absurd (show true = false from h) (by decide)⟩
    walk_at "w"
    refine same_ds e18 hD18 hdo hdl ?_
    exact fg_here (q _)⟩
end
theorem all_mk {l : PySem.W.OpenLaw} {w : World} {K : PySem.W.Frag} {h : Heap} {mg : Str → Option Value} {fa : Addr} (X : K.In h) (G : h.Ns mainGlobals mg) (hfa : mg "law" = some (.ref fa))
    {f0 : Addr} {od0 an0 : Option Addr} {sl0 : Array (Option Value)} {oc0 kV0 dc0 pm0 cd0 ct0 : Value} (a0 : PySem.W.nsIn K mainGlobals "initial_values" = some (some (.ref f0)))
     (l0 : K.lookup f0 = some ⟨oc0, od0, .func (PySem.W.fnOf "initial_values" "initial_values" (defArgs s_initial_values) (defBody s_initial_values) (defScope s_initial_values) .none kV0 dc0 pm0 an0 cd0 ct0), sl0⟩)
     (c0 : PySem.W.codeIn K cd0 "initial_values" = true)
     (k0 : PySem.W.keepIn K (.ref f0) = true)
    {f1 : Addr} {od1 an1 : Option Addr} {sl1 : Array (Option Value)} {oc1 kV1 dc1 pm1 cd1 ct1 : Value} (a1 : PySem.W.nsIn K mainGlobals "value_of" = some (some (.ref f1)))
     (l1 : K.lookup f1 = some ⟨oc1, od1, .func (PySem.W.fnOf "value_of" "value_of" (defArgs s_value_of) (defBody s_value_of) (defScope s_value_of) .none kV1 dc1 pm1 an1 cd1 ct1), sl1⟩)
     (c1 : PySem.W.codeIn K cd1 "value_of" = true)
     (k1 : PySem.W.keepIn K (.ref f1) = true)
    {f2 : Addr} {od2 an2 : Option Addr} {sl2 : Array (Option Value)} {oc2 kV2 dc2 pm2 cd2 ct2 : Value} (a2 : PySem.W.nsIn K mainGlobals "computed" = some (some (.ref f2)))
     (l2 : K.lookup f2 = some ⟨oc2, od2, .func (PySem.W.fnOf "computed" "computed" (defArgs s_computed) (defBody s_computed) (defScope s_computed) .none kV2 dc2 pm2 an2 cd2 ct2), sl2⟩)
     (c2 : PySem.W.codeIn K cd2 "computed" = true)
     (k2 : PySem.W.keepIn K (.ref f2) = true)
    {f3 : Addr} {od3 an3 : Option Addr} {sl3 : Array (Option Value)} {oc3 kV3 dc3 pm3 cd3 ct3 : Value} (a3 : PySem.W.nsIn K mainGlobals "_law_pool" = some (some (.ref f3)))
     (l3 : K.lookup f3 = some ⟨oc3, od3, .func (PySem.W.fnOf "_law_pool" "_law_pool" (defArgs s__law_pool) (defBody s__law_pool) (defScope s__law_pool) .none kV3 dc3 pm3 an3 cd3 ct3), sl3⟩)
     (c3 : PySem.W.codeIn K cd3 "_law_pool" = true)
     (k3 : PySem.W.keepIn K (.ref f3) = true)
    {f4 : Addr} {od4 an4 : Option Addr} {sl4 : Array (Option Value)} {oc4 kV4 dc4 pm4 cd4 ct4 : Value} (a4 : PySem.W.nsIn K mainGlobals "_law_take" = some (some (.ref f4)))
     (l4 : K.lookup f4 = some ⟨oc4, od4, .func (PySem.W.fnOf "_law_take" "_law_take" (defArgs s__law_take) (defBody s__law_take) (defScope s__law_take) .none kV4 dc4 pm4 an4 cd4 ct4), sl4⟩)
     (c4 : PySem.W.codeIn K cd4 "_law_take" = true)
     (k4 : PySem.W.keepIn K (.ref f4) = true)
    {f5 : Addr} {od5 an5 : Option Addr} {sl5 : Array (Option Value)} {oc5 kV5 dc5 pm5 cd5 ct5 : Value} (a5 : PySem.W.nsIn K mainGlobals "_law_same" = some (some (.ref f5)))
     (l5 : K.lookup f5 = some ⟨oc5, od5, .func (PySem.W.fnOf "_law_same" "_law_same" (defArgs s__law_same) (defBody s__law_same) (defScope s__law_same) .none kV5 dc5 pm5 an5 cd5 ct5), sl5⟩)
     (c5 : PySem.W.codeIn K cd5 "_law_same" = true)
     (k5 : PySem.W.keepIn K (.ref f5) = true)
    {f6 : Addr} {od6 an6 : Option Addr} {sl6 : Array (Option Value)} {oc6 kV6 dc6 pm6 cd6 ct6 : Value} (a6 : PySem.W.nsIn K mainGlobals "_law_properties" = some (some (.ref f6)))
     (l6 : K.lookup f6 = some ⟨oc6, od6, .func (PySem.W.fnOf "_law_properties" "_law_properties" (defArgs s__law_properties) (defBody s__law_properties) (defScope s__law_properties) .none kV6 dc6 pm6 an6 cd6 ct6), sl6⟩)
     (c6 : PySem.W.codeIn K cd6 "_law_properties" = true)
     (k6 : PySem.W.keepIn K (.ref f6) = true)
    {f7 : Addr} {od7 an7 : Option Addr} {sl7 : Array (Option Value)} {oc7 kV7 dc7 pm7 cd7 ct7 : Value} (a7 : PySem.W.nsIn K mainGlobals "_law_initial" = some (some (.ref f7)))
     (l7 : K.lookup f7 = some ⟨oc7, od7, .func (PySem.W.fnOf "_law_initial" "_law_initial" (defArgs s__law_initial) (defBody s__law_initial) (defScope s__law_initial) .none kV7 dc7 pm7 an7 cd7 ct7), sl7⟩)
     (c7 : PySem.W.codeIn K cd7 "_law_initial" = true)
     (k7 : PySem.W.keepIn K (.ref f7) = true)
    {f8 : Addr} {od8 an8 : Option Addr} {sl8 : Array (Option Value)} {oc8 kV8 dc8 pm8 cd8 ct8 : Value} (a8 : PySem.W.nsIn K mainGlobals "_law_value" = some (some (.ref f8)))
     (l8 : K.lookup f8 = some ⟨oc8, od8, .func (PySem.W.fnOf "_law_value" "_law_value" (defArgs s__law_value) (defBody s__law_value) (defScope s__law_value) .none kV8 dc8 pm8 an8 cd8 ct8), sl8⟩)
     (c8 : PySem.W.codeIn K cd8 "_law_value" = true)
     (k8 : PySem.W.keepIn K (.ref f8) = true)
    {f9 : Addr} {od9 an9 : Option Addr} {sl9 : Array (Option Value)} {oc9 kV9 dc9 pm9 cd9 ct9 : Value} (a9 : PySem.W.nsIn K mainGlobals "_law_parent" = some (some (.ref f9)))
     (l9 : K.lookup f9 = some ⟨oc9, od9, .func (PySem.W.fnOf "_law_parent" "_law_parent" (defArgs s__law_parent) (defBody s__law_parent) (defScope s__law_parent) .none kV9 dc9 pm9 an9 cd9 ct9), sl9⟩)
     (c9 : PySem.W.codeIn K cd9 "_law_parent" = true)
     (k9 : PySem.W.keepIn K (.ref f9) = true)
    {f10 : Addr} {od10 an10 : Option Addr} {sl10 : Array (Option Value)} {oc10 kV10 dc10 pm10 cd10 ct10 : Value} (a10 : PySem.W.nsIn K mainGlobals "_law_declared_values" = some (some (.ref f10)))
     (l10 : K.lookup f10 = some ⟨oc10, od10, .func (PySem.W.fnOf "_law_declared_values" "_law_declared_values" (defArgs s__law_declared_values) (defBody s__law_declared_values) (defScope s__law_declared_values) .none kV10 dc10 pm10 an10 cd10 ct10), sl10⟩)
     (c10 : PySem.W.codeIn K cd10 "_law_declared_values" = true)
     (k10 : PySem.W.keepIn K (.ref f10) = true)
    {f11 : Addr} {od11 an11 : Option Addr} {sl11 : Array (Option Value)} {oc11 kV11 dc11 pm11 cd11 ct11 : Value} (a11 : PySem.W.nsIn K mainGlobals "_law_share" = some (some (.ref f11)))
     (l11 : K.lookup f11 = some ⟨oc11, od11, .func (PySem.W.fnOf "_law_share" "_law_share" (defArgs s__law_share) (defBody s__law_share) (defScope s__law_share) .none kV11 dc11 pm11 an11 cd11 ct11), sl11⟩)
     (c11 : PySem.W.codeIn K cd11 "_law_share" = true)
     (k11 : PySem.W.keepIn K (.ref f11) = true)
    {f12 : Addr} {od12 an12 : Option Addr} {sl12 : Array (Option Value)} {oc12 kV12 dc12 pm12 cd12 ct12 : Value} (a12 : PySem.W.nsIn K mainGlobals "_law_value_right" = some (some (.ref f12)))
     (l12 : K.lookup f12 = some ⟨oc12, od12, .func (PySem.W.fnOf "_law_value_right" "_law_value_right" (defArgs s__law_value_right) (defBody s__law_value_right) (defScope s__law_value_right) .none kV12 dc12 pm12 an12 cd12 ct12), sl12⟩)
     (c12 : PySem.W.codeIn K cd12 "_law_value_right" = true)
     (k12 : PySem.W.keepIn K (.ref f12) = true)
    {f13 : Addr} {od13 an13 : Option Addr} {sl13 : Array (Option Value)} {oc13 kV13 dc13 pm13 cd13 ct13 : Value} (a13 : PySem.W.nsIn K mainGlobals "_law_right" = some (some (.ref f13)))
     (l13 : K.lookup f13 = some ⟨oc13, od13, .func (PySem.W.fnOf "_law_right" "_law_right" (defArgs s__law_right) (defBody s__law_right) (defScope s__law_right) .none kV13 dc13 pm13 an13 cd13 ct13), sl13⟩)
     (c13 : PySem.W.codeIn K cd13 "_law_right" = true)
     (k13 : PySem.W.keepIn K (.ref f13) = true)
    {f14 : Addr} {od14 an14 : Option Addr} {sl14 : Array (Option Value)} {oc14 kV14 dc14 pm14 cd14 ct14 : Value} (a14 : PySem.W.nsIn K mainGlobals "law" = some (some (.ref f14)))
     (l14 : K.lookup f14 = some ⟨oc14, od14, .func (PySem.W.fnOf "law" "law" (defArgs s_law) (defBody s_law) (defScope s_law) .none kV14 dc14 pm14 an14 cd14 ct14), sl14⟩)
     (c14 : PySem.W.codeIn K cd14 "law" = true)
     (k14 : PySem.W.keepIn K (.ref f14) = true)
     (z_abs : PySem.W.nsIn K mainGlobals "abs" = some none)
     (z_bool : PySem.W.nsIn K mainGlobals "bool" = some none)
     (z_dict : PySem.W.nsIn K mainGlobals "dict" = some none)
     (z_int : PySem.W.nsIn K mainGlobals "int" = some none)
     (z_isinstance : PySem.W.nsIn K mainGlobals "isinstance" = some none)
     (z_len : PySem.W.nsIn K mainGlobals "len" = some none)
     (z_list : PySem.W.nsIn K mainGlobals "list" = some none)
     (z_max : PySem.W.nsIn K mainGlobals "max" = some none)
     (z_min : PySem.W.nsIn K mainGlobals "min" = some none)
     (z_range : PySem.W.nsIn K mainGlobals "range" = some none)
     (z_str : PySem.W.nsIn K mainGlobals "str" = some none)
     (z_tuple : PySem.W.nsIn K mainGlobals "tuple" = some none)
    {t2 : Tok} {t3 : Tok} {t4 : Tok} {t5 : Tok} {t6 : Tok} {r1 : Addr} {rd1 : Option Addr} {rn1 : Nat} {rs1 : Array (Option Value)} (m_INHERITED : PySem.W.nsIn K mainGlobals "INHERITED" = some (some (.ref r1)))
     (lr1 : K.lookup r1 = some ⟨.type "tuple", rd1, .seq (#[(.str "size" t2), (.str "lead" t3), (.str "face" t4), (.str "align" t5), (.str "least" t6)] : Array Value) rn1, rs1⟩)
    {D_INITIAL : Addr} (m_INITIAL : PySem.W.nsIn K mainGlobals "INITIAL" = some (some (.ref D_INITIAL)))
    {t7 : Tok} {hkINITIAL0 : Int} {tkINITIAL0 : Tok} {t8 : Tok} {hkINITIAL1 : Int} {tkINITIAL1 : Tok} {t9 : Tok} {hkINITIAL2 : Int} {tkINITIAL2 : Tok} {t10 : Tok} {hkINITIAL3 : Int} {tkINITIAL3 : Tok} {t11 : Tok} {hkINITIAL4 : Int} {tkINITIAL4 : Tok} {t12 : Tok} {hkINITIAL5 : Int} {tkINITIAL5 : Tok} {t13 : Tok} {hkINITIAL6 : Int} {tkINITIAL6 : Tok} {t14 : Tok} {hkINITIAL7 : Int} {tkINITIAL7 : Tok} {t15 : Tok} {hkINITIAL8 : Int} {tkINITIAL8 : Tok} {t16 : Tok} {hkINITIAL9 : Int} {tkINITIAL9 : Tok} {dn_INITIAL : Nat} (dl_INITIAL : K.lookup D_INITIAL = some ⟨.type "dict", none, .dict (#[⟨hkINITIAL0, .str "size" tkINITIAL0, (.int (2) t7)⟩, ⟨hkINITIAL1, .str "lead" tkINITIAL1, (.int (12) t8)⟩, ⟨hkINITIAL2, .str "face" tkINITIAL2, (.str "plain" t9)⟩, ⟨hkINITIAL3, .str "align" tkINITIAL3, (.str "both" t10)⟩, ⟨hkINITIAL4, .str "least" tkINITIAL4, (.int (1) t11)⟩, ⟨hkINITIAL5, .str "place" tkINITIAL5, (.str "line" t12)⟩, ⟨hkINITIAL6, .str "keep" tkINITIAL6, (.str "no" t13)⟩, ⟨hkINITIAL7, .str "indent" tkINITIAL7, (.int (0) t14)⟩, ⟨hkINITIAL8, .str "above" tkINITIAL8, (.int (0) t15)⟩, ⟨hkINITIAL9, .str "below" tkINITIAL9, (.int (0) t16)⟩] : Array DictEntry) dn_INITIAL, #[]⟩)
     (dq_INITIAL : PySem.W.KeysLit w.params [⟨hkINITIAL0, .str "size" tkINITIAL0, (.int (2) t7)⟩, ⟨hkINITIAL1, .str "lead" tkINITIAL1, (.int (12) t8)⟩, ⟨hkINITIAL2, .str "face" tkINITIAL2, (.str "plain" t9)⟩, ⟨hkINITIAL3, .str "align" tkINITIAL3, (.str "both" t10)⟩, ⟨hkINITIAL4, .str "least" tkINITIAL4, (.int (1) t11)⟩, ⟨hkINITIAL5, .str "place" tkINITIAL5, (.str "line" t12)⟩, ⟨hkINITIAL6, .str "keep" tkINITIAL6, (.str "no" t13)⟩, ⟨hkINITIAL7, .str "indent" tkINITIAL7, (.int (0) t14)⟩, ⟨hkINITIAL8, .str "above" tkINITIAL8, (.int (0) t15)⟩, ⟨hkINITIAL9, .str "below" tkINITIAL9, (.int (0) t16)⟩])
     (dw_INITIAL : (D_INITIAL == sysModules) = false)
    {t18 : Tok} {t19 : Tok} {t20 : Tok} {t21 : Tok} {t22 : Tok} {t23 : Tok} {t24 : Tok} {t25 : Tok} {t26 : Tok} {t27 : Tok} {r17 : Addr} {rd17 : Option Addr} {rn17 : Nat} {rs17 : Array (Option Value)} (m_PROPERTIES : PySem.W.nsIn K mainGlobals "PROPERTIES" = some (some (.ref r17)))
     (lr17 : K.lookup r17 = some ⟨.type "tuple", rd17, .seq (#[(.str "size" t18), (.str "lead" t19), (.str "face" t20), (.str "align" t21), (.str "least" t22), (.str "place" t23), (.str "keep" t24), (.str "indent" t25), (.str "above" t26), (.str "below" t27)] : Array Value) rn17, rs17⟩)
    {D_RANGES : Addr} (m_RANGES : PySem.W.nsIn K mainGlobals "RANGES" = some (some (.ref D_RANGES)))
    {t29 : Tok} {t30 : Tok} {r28 : Addr} {rd28 : Option Addr} {rn28 : Nat} {rs28 : Array (Option Value)} {hkRANGES0 : Int} {tkRANGES0 : Tok} {t32 : Tok} {t33 : Tok} {r31 : Addr} {rd31 : Option Addr} {rn31 : Nat} {rs31 : Array (Option Value)} {hkRANGES1 : Int} {tkRANGES1 : Tok} {t35 : Tok} {t36 : Tok} {r34 : Addr} {rd34 : Option Addr} {rn34 : Nat} {rs34 : Array (Option Value)} {hkRANGES2 : Int} {tkRANGES2 : Tok} {t38 : Tok} {t39 : Tok} {r37 : Addr} {rd37 : Option Addr} {rn37 : Nat} {rs37 : Array (Option Value)} {hkRANGES3 : Int} {tkRANGES3 : Tok} {t41 : Tok} {t42 : Tok} {r40 : Addr} {rd40 : Option Addr} {rn40 : Nat} {rs40 : Array (Option Value)} {hkRANGES4 : Int} {tkRANGES4 : Tok} {t44 : Tok} {t45 : Tok} {r43 : Addr} {rd43 : Option Addr} {rn43 : Nat} {rs43 : Array (Option Value)} {hkRANGES5 : Int} {tkRANGES5 : Tok} {dn_RANGES : Nat} (dl_RANGES : K.lookup D_RANGES = some ⟨.type "dict", none, .dict (#[⟨hkRANGES0, .str "size" tkRANGES0, (.ref r28)⟩, ⟨hkRANGES1, .str "lead" tkRANGES1, (.ref r31)⟩, ⟨hkRANGES2, .str "least" tkRANGES2, (.ref r34)⟩, ⟨hkRANGES3, .str "indent" tkRANGES3, (.ref r37)⟩, ⟨hkRANGES4, .str "above" tkRANGES4, (.ref r40)⟩, ⟨hkRANGES5, .str "below" tkRANGES5, (.ref r43)⟩] : Array DictEntry) dn_RANGES, #[]⟩)
     (lr43 : K.lookup r43 = some ⟨.type "tuple", rd43, .seq (#[(.int (0) t44), (.int (99) t45)] : Array Value) rn43, rs43⟩)
     (lr40 : K.lookup r40 = some ⟨.type "tuple", rd40, .seq (#[(.int (0) t41), (.int (99) t42)] : Array Value) rn40, rs40⟩)
     (lr37 : K.lookup r37 = some ⟨.type "tuple", rd37, .seq (#[(.int (0) t38), (.int (99) t39)] : Array Value) rn37, rs37⟩)
     (lr34 : K.lookup r34 = some ⟨.type "tuple", rd34, .seq (#[(.int (1) t35), (.int (4) t36)] : Array Value) rn34, rs34⟩)
     (lr31 : K.lookup r31 = some ⟨.type "tuple", rd31, .seq (#[(.int (1) t32), (.int (99) t33)] : Array Value) rn31, rs31⟩)
     (lr28 : K.lookup r28 = some ⟨.type "tuple", rd28, .seq (#[(.int (1) t29), (.int (12) t30)] : Array Value) rn28, rs28⟩)
     (dq_RANGES : PySem.W.KeysLit w.params [⟨hkRANGES0, .str "size" tkRANGES0, (.ref r28)⟩, ⟨hkRANGES1, .str "lead" tkRANGES1, (.ref r31)⟩, ⟨hkRANGES2, .str "least" tkRANGES2, (.ref r34)⟩, ⟨hkRANGES3, .str "indent" tkRANGES3, (.ref r37)⟩, ⟨hkRANGES4, .str "above" tkRANGES4, (.ref r40)⟩, ⟨hkRANGES5, .str "below" tkRANGES5, (.ref r43)⟩])
     (dw_RANGES : (D_RANGES == sysModules) = false)
    : ∃ fd : FuncData, (∀ (s : Shared) (v : Value), BindsTo s fd ⟨[v], []⟩ [("_law_script", v)]) ∧ ∀ base : Heap, K.In base → base.Ns mainGlobals mg → FnOk l.prog w K mg base CX0 7 fa fd ["_law_script"] (liftSp K spLaw) := by
  have e := hfa.symm.trans (PySem.W.mg_of X G a14)
  cases e
  have T : Txt K mg ⟨D_INITIAL, D_RANGES⟩ w := ⟨PySem.W.mg_none_of X G z_abs, PySem.W.mg_none_of X G z_bool, PySem.W.mg_none_of X G z_dict, PySem.W.mg_none_of X G z_int, PySem.W.mg_none_of X G z_isinstance, PySem.W.mg_none_of X G z_len, PySem.W.mg_none_of X G z_list, PySem.W.mg_none_of X G z_max, PySem.W.mg_none_of X G z_min, PySem.W.mg_none_of X G z_range, PySem.W.mg_none_of X G z_str, PySem.W.mg_none_of X G z_tuple, const_wr (PySem.W.mg_of X G m_INHERITED) (wr_tup (its := [(.str "size" t2), (.str "lead" t3), (.str "face" t4), (.str "align" t5), (.str "least" t6)]) lr1 (by show 5 ≤ 1000; decide) (.cons wr_str (.cons wr_str (.cons wr_str (.cons wr_str (.cons wr_str Wrs.nil)))))), ⟨⟨_, .ref D_INITIAL, PySem.W.mg_of X G m_INITIAL, rfl, fun _ => rfl⟩⟩, dkAt_of dl_INITIAL dq_INITIAL dw_INITIAL (.cons (hh := 0) rfl rfl rfl wr_int (.cons (hh := 0) rfl rfl rfl wr_int (.cons (hh := 0) rfl rfl rfl wr_str (.cons (hh := 0) rfl rfl rfl wr_str (.cons (hh := 0) rfl rfl rfl wr_int (.cons (hh := 0) rfl rfl rfl wr_str (.cons (hh := 0) rfl rfl rfl wr_str (.cons (hh := 0) rfl rfl rfl wr_int (.cons (hh := 0) rfl rfl rfl wr_int (.cons (hh := 0) rfl rfl rfl wr_int .nil)))))))))), dcAt_of dl_INITIAL dq_INITIAL dw_INITIAL (.cons (hh := 0) rfl rfl rfl wr_int (.cons (hh := 0) rfl rfl rfl wr_int (.cons (hh := 0) rfl rfl rfl wr_str (.cons (hh := 0) rfl rfl rfl wr_str (.cons (hh := 0) rfl rfl rfl wr_int (.cons (hh := 0) rfl rfl rfl wr_str (.cons (hh := 0) rfl rfl rfl wr_str (.cons (hh := 0) rfl rfl rfl wr_int (.cons (hh := 0) rfl rfl rfl wr_int (.cons (hh := 0) rfl rfl rfl wr_int .nil)))))))))) (by decide +kernel) (by decide), const_wr (PySem.W.mg_of X G m_PROPERTIES) (wr_tup (its := [(.str "size" t18), (.str "lead" t19), (.str "face" t20), (.str "align" t21), (.str "least" t22), (.str "place" t23), (.str "keep" t24), (.str "indent" t25), (.str "above" t26), (.str "below" t27)]) lr17 (by show 10 ≤ 1000; decide) (.cons wr_str (.cons wr_str (.cons wr_str (.cons wr_str (.cons wr_str (.cons wr_str (.cons wr_str (.cons wr_str (.cons wr_str (.cons wr_str Wrs.nil))))))))))), ⟨⟨_, .ref D_RANGES, PySem.W.mg_of X G m_RANGES, rfl, fun _ => rfl⟩⟩, dkAt_of dl_RANGES dq_RANGES dw_RANGES (.cons (hh := 0) rfl rfl rfl (wr_tup (its := [(.int (1) t29), (.int (12) t30)]) lr28 (by show 2 ≤ 1000; decide) (.cons wr_int (.cons wr_int Wrs.nil))) (.cons (hh := 0) rfl rfl rfl (wr_tup (its := [(.int (1) t32), (.int (99) t33)]) lr31 (by show 2 ≤ 1000; decide) (.cons wr_int (.cons wr_int Wrs.nil))) (.cons (hh := 0) rfl rfl rfl (wr_tup (its := [(.int (1) t35), (.int (4) t36)]) lr34 (by show 2 ≤ 1000; decide) (.cons wr_int (.cons wr_int Wrs.nil))) (.cons (hh := 0) rfl rfl rfl (wr_tup (its := [(.int (0) t38), (.int (99) t39)]) lr37 (by show 2 ≤ 1000; decide) (.cons wr_int (.cons wr_int Wrs.nil))) (.cons (hh := 0) rfl rfl rfl (wr_tup (its := [(.int (0) t41), (.int (99) t42)]) lr40 (by show 2 ≤ 1000; decide) (.cons wr_int (.cons wr_int Wrs.nil))) (.cons (hh := 0) rfl rfl rfl (wr_tup (its := [(.int (0) t44), (.int (99) t45)]) lr43 (by show 2 ≤ 1000; decide) (.cons wr_int (.cons wr_int Wrs.nil))) .nil))))))⟩
  have d_initial_values : DefAt K mg "initial_values" s_initial_values [] := ⟨_, _, fun_mk (st := s_initial_values) l0 c0 k0, PySem.W.mg_of X G a0, (fun_mk (st := s_initial_values) l0 c0 k0).binds (ps := []) fun _ _ _ _ _ _ us hl => match us, hl with | [], _ => rfl⟩
  have d_value_of : DefAt K mg "value_of" s_value_of ["name", "declared", "parent", "size"] := ⟨_, _, fun_mk (st := s_value_of) l1 c1 k1, PySem.W.mg_of X G a1, (fun_mk (st := s_value_of) l1 c1 k1).binds (ps := ["name", "declared", "parent", "size"]) fun _ _ _ _ _ _ us hl => match us, hl with | [_, _, _, _], _ => rfl⟩
  have d_computed : DefAt K mg "computed" s_computed ["parent", "declared"] := ⟨_, _, fun_mk (st := s_computed) l2 c2 k2, PySem.W.mg_of X G a2, (fun_mk (st := s_computed) l2 c2 k2).binds (ps := ["parent", "declared"]) fun _ _ _ _ _ _ us hl => match us, hl with | [_, _], _ => rfl⟩
  have d__law_pool : DefAt K mg "_law_pool" s__law_pool ["_law_script", "_law_at"] := ⟨_, _, fun_mk (st := s__law_pool) l3 c3 k3, PySem.W.mg_of X G a3, (fun_mk (st := s__law_pool) l3 c3 k3).binds (ps := ["_law_script", "_law_at"]) fun _ _ _ _ _ _ us hl => match us, hl with | [_, _], _ => rfl⟩
  have d__law_take : DefAt K mg "_law_take" s__law_take ["_law_pool_here", "_law_many"] := ⟨_, _, fun_mk (st := s__law_take) l4 c4 k4, PySem.W.mg_of X G a4, (fun_mk (st := s__law_take) l4 c4 k4).binds (ps := ["_law_pool_here", "_law_many"]) fun _ _ _ _ _ _ us hl => match us, hl with | [_, _], _ => rfl⟩
  have d__law_same : DefAt K mg "_law_same" s__law_same ["_law_one", "_law_two"] := ⟨_, _, fun_mk (st := s__law_same) l5 c5 k5, PySem.W.mg_of X G a5, (fun_mk (st := s__law_same) l5 c5 k5).binds (ps := ["_law_one", "_law_two"]) fun _ _ _ _ _ _ us hl => match us, hl with | [_, _], _ => rfl⟩
  have d__law_properties : DefAt K mg "_law_properties" s__law_properties [] := ⟨_, _, fun_mk (st := s__law_properties) l6 c6 k6, PySem.W.mg_of X G a6, (fun_mk (st := s__law_properties) l6 c6 k6).binds (ps := []) fun _ _ _ _ _ _ us hl => match us, hl with | [], _ => rfl⟩
  have d__law_initial : DefAt K mg "_law_initial" s__law_initial [] := ⟨_, _, fun_mk (st := s__law_initial) l7 c7 k7, PySem.W.mg_of X G a7, (fun_mk (st := s__law_initial) l7 c7 k7).binds (ps := []) fun _ _ _ _ _ _ us hl => match us, hl with | [], _ => rfl⟩
  have d__law_value : DefAt K mg "_law_value" s__law_value ["_law_pool_here", "_law_name"] := ⟨_, _, fun_mk (st := s__law_value) l8 c8 k8, PySem.W.mg_of X G a8, (fun_mk (st := s__law_value) l8 c8 k8).binds (ps := ["_law_pool_here", "_law_name"]) fun _ _ _ _ _ _ us hl => match us, hl with | [_, _], _ => rfl⟩
  have d__law_parent : DefAt K mg "_law_parent" s__law_parent ["_law_pool_here"] := ⟨_, _, fun_mk (st := s__law_parent) l9 c9 k9, PySem.W.mg_of X G a9, (fun_mk (st := s__law_parent) l9 c9 k9).binds (ps := ["_law_pool_here"]) fun _ _ _ _ _ _ us hl => match us, hl with | [_], _ => rfl⟩
  have d__law_declared_values : DefAt K mg "_law_declared_values" s__law_declared_values ["_law_pool_here"] := ⟨_, _, fun_mk (st := s__law_declared_values) l10 c10 k10, PySem.W.mg_of X G a10, (fun_mk (st := s__law_declared_values) l10 c10 k10).binds (ps := ["_law_pool_here"]) fun _ _ _ _ _ _ us hl => match us, hl with | [_], _ => rfl⟩
  have d__law_share : DefAt K mg "_law_share" s__law_share ["_law_value_here", "_law_base", "_law_ratio", "_law_lowest", "_law_highest"] := ⟨_, _, fun_mk (st := s__law_share) l11 c11 k11, PySem.W.mg_of X G a11, (fun_mk (st := s__law_share) l11 c11 k11).binds (ps := ["_law_value_here", "_law_base", "_law_ratio", "_law_lowest", "_law_highest"]) fun _ _ _ _ _ _ us hl => match us, hl with | [_, _, _, _, _], _ => rfl⟩
  have d__law_value_right : DefAt K mg "_law_value_right" s__law_value_right ["_law_name", "_law_value_here", "_law_parent_here", "_law_declared", "_law_own"] := ⟨_, _, fun_mk (st := s__law_value_right) l12 c12 k12, PySem.W.mg_of X G a12, (fun_mk (st := s__law_value_right) l12 c12 k12).binds (ps := ["_law_name", "_law_value_here", "_law_parent_here", "_law_declared", "_law_own"]) fun _ _ _ _ _ _ us hl => match us, hl with | [_, _, _, _, _], _ => rfl⟩
  have d__law_right : DefAt K mg "_law_right" s__law_right ["_law_got", "_law_parent_here", "_law_declared"] := ⟨_, _, fun_mk (st := s__law_right) l13 c13 k13, PySem.W.mg_of X G a13, (fun_mk (st := s__law_right) l13 c13 k13).binds (ps := ["_law_got", "_law_parent_here", "_law_declared"]) fun _ _ _ _ _ _ us hl => match us, hl with | [_, _, _], _ => rfl⟩
  have F14 := fun_mk (st := s_law) l14 c14 k14
  refine ⟨PySem.W.fnOf "law" "law" (defArgs s_law) (defBody s_law) (defScope s_law) .none kV14 dc14 pm14 an14 cd14 ct14, fun s v => .of_eq rfl, fun base _ _ => ?_⟩
  have c_take := (ok__law_take (P := l.prog) (w := w) (base := base) T d__law_take).hd
  have c_pool := ok__law_pool (P := l.prog) (w := w) (base := base) T d__law_pool
  have c_iv := (ok_initial_values (P := l.prog) (w := w) (base := base) T d_initial_values).hd
  have c_li := (ok__law_initial (P := l.prog) (w := w) (base := base) T d__law_initial).hd
  have c_vo := (ok_value_of (P := l.prog) (w := w) (base := base) T d_value_of).hd
  have c_co := (ok_computed T c_vo d_computed).hd
  have c_pr := (ok__law_properties (P := l.prog) (w := w) (base := base) T d__law_properties).hd
  have c_vl := (ok__law_value T c_take d__law_value).hd
  have c_pa := (ok__law_parent T c_li c_take d__law_parent).hd
  have c_dv := (ok__law_declared_values T c_pr c_take c_vl d__law_declared_values).hd
  have c_s2 := (ok_same (P := l.prog) (w := w) (base := base) T d__law_same 2).hd
  have c_sd := (ok_sameD T c_s2 d__law_same).hd
  have c_sh := (ok__law_share (P := l.prog) (w := w) (base := base) T d__law_share).hd
  have c_vr := (ok__law_value_right T c_s2 c_li c_sh d__law_value_right).hd
  have c_ri := (ok__law_right T c_s2 c_pr c_vr d__law_right).hd
  exact ok_law T F14 c_pool.hd c_pa c_dv c_iv c_li c_sd c_co c_ri
end K13
open PySem PySem.W PyProof.Rows
set_option maxRecDepth 100000 in
set_option maxHeartbeats 0 in
theorem PySem.Challenge.cw_stylepages_k13_computed_values_holds : PySem.Challenge.rw_stylepages_k13_computed_values.Holds := by
  w_on; o_law; k_head; (case hw => w_witness2)
  k_fill
  refine L2.walk_of (l := PySem.Challenge.rw_stylepages_k13_computed_values) (n := 63) (k := 7) (x := "_law_script") (CX := fun _ => L2.CX0) (sp := fun w => Wl.liftSp _ Wl.spLaw) rfl (by decide) rfl ⟨rfl, by decide, by decide⟩ (fun w h Y => PySem.W.kIn_of Y) ?F (fun _ _ a ns hl hO hS => Wl.law_end hl hO hS) (fun _ _ _ _ _ h => h)
  case F =>
    intro w mg fa h KX G hmg
    refine' K13.all_mk KX G hmg ?a0 ?l0 ?c0 ?k0 ?a1 ?l1 ?c1 ?k1 ?a2 ?l2 ?c2 ?k2 ?a3 ?l3 ?c3 ?k3 ?a4 ?l4 ?c4 ?k4 ?a5 ?l5 ?c5 ?k5 ?a6 ?l6 ?c6 ?k6 ?a7 ?l7 ?c7 ?k7 ?a8 ?l8 ?c8 ?k8 ?a9 ?l9 ?c9 ?k9 ?a10 ?l10 ?c10 ?k10 ?a11 ?l11 ?c11 ?k11 ?a12 ?l12 ?c12 ?k12 ?a13 ?l13 ?c13 ?k13 ?a14 ?l14 ?c14 ?k14 ?z_abs ?z_bool ?z_dict ?z_int ?z_isinstance ?z_len ?z_list ?z_max ?z_min ?z_range ?z_str ?z_tuple ?m_INHERITED ?lr1 ?m_INITIAL ?dl_INITIAL ?dq_INITIAL ?dw_INITIAL ?m_PROPERTIES ?lr17 ?m_RANGES ?dl_RANGES ?lr43 ?lr40 ?lr37 ?lr34 ?lr31 ?lr28 ?dq_RANGES ?dw_RANGES
    (case a0 => k_is)
    (case l0 => k_is)
    (case c0 => k_is)
    (case k0 => k_is)
    (case a1 => k_is)
    (case l1 => k_is)
    (case c1 => k_is)
    (case k1 => k_is)
    (case a2 => k_is)
    (case l2 => k_is)
    (case c2 => k_is)
    (case k2 => k_is)
    (case a3 => k_is)
    (case l3 => k_is)
    (case c3 => k_is)
    (case k3 => k_is)
    (case a4 => k_is)
    (case l4 => k_is)
    (case c4 => k_is)
    (case k4 => k_is)
    (case a5 => k_is)
    (case l5 => k_is)
    (case c5 => k_is)
    (case k5 => k_is)
    (case a6 => k_is)
    (case l6 => k_is)
    (case c6 => k_is)
    (case k6 => k_is)
    (case a7 => k_is)
    (case l7 => k_is)
    (case c7 => k_is)
    (case k7 => k_is)
    (case a8 => k_is)
    (case l8 => k_is)
    (case c8 => k_is)
    (case k8 => k_is)
    (case a9 => k_is)
    (case l9 => k_is)
    (case c9 => k_is)
    (case k9 => k_is)
    (case a10 => k_is)
    (case l10 => k_is)
    (case c10 => k_is)
    (case k10 => k_is)
    (case a11 => k_is)
    (case l11 => k_is)
    (case c11 => k_is)
    (case k11 => k_is)
    (case a12 => k_is)
    (case l12 => k_is)
    (case c12 => k_is)
    (case k12 => k_is)
    (case a13 => k_is)
    (case l13 => k_is)
    (case c13 => k_is)
    (case k13 => k_is)
    (case a14 => k_is)
    (case l14 => k_is)
    (case c14 => k_is)
    (case k14 => k_is)
    (case z_abs => k_is)
    (case z_bool => k_is)
    (case z_dict => k_is)
    (case z_int => k_is)
    (case z_isinstance => k_is)
    (case z_len => k_is)
    (case z_list => k_is)
    (case z_max => k_is)
    (case z_min => k_is)
    (case z_range => k_is)
    (case z_str => k_is)
    (case z_tuple => k_is)
    (case m_INHERITED => k_is)
    (case lr1 => k_is)
    (case m_INITIAL => k_is)
    (case dl_INITIAL => k_is)
    (case dq_INITIAL => exact ⟨⟨_, _, rfl, rfl⟩, ⟨_, _, rfl, rfl⟩, ⟨_, _, rfl, rfl⟩, ⟨_, _, rfl, rfl⟩, ⟨_, _, rfl, rfl⟩, ⟨_, _, rfl, rfl⟩, ⟨_, _, rfl, rfl⟩, ⟨_, _, rfl, rfl⟩, ⟨_, _, rfl, rfl⟩, ⟨_, _, rfl, rfl⟩, trivial⟩)
    (case dw_INITIAL => decide +kernel)
    (case m_PROPERTIES => k_is)
    (case lr17 => k_is)
    (case m_RANGES => k_is)
    (case dl_RANGES => k_is)
    (case lr43 => k_is)
    (case lr40 => k_is)
    (case lr37 => k_is)
    (case lr34 => k_is)
    (case lr31 => k_is)
    (case lr28 => k_is)
    (case dq_RANGES => exact ⟨⟨_, _, rfl, rfl⟩, ⟨_, _, rfl, rfl⟩, ⟨_, _, rfl, rfl⟩, ⟨_, _, rfl, rfl⟩, ⟨_, _, rfl, rfl⟩, ⟨_, _, rfl, rfl⟩, trivial⟩)
    (case dw_RANGES => decide +kernel)
#print axioms PySem.Challenge.cw_stylepages_k13_computed_values_holds
