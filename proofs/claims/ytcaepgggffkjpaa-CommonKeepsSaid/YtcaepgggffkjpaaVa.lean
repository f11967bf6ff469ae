/-
  symtab: names in their order, what a name is used for, resolutions (mathematics, no program).
-/
import Derived.Test.YtcaepgggffkjpaaBb
import Derived.Lib.Strings
namespace Go.Proofs.Ytcaepgggffkjpaa.Tab
open Go.Proofs.Ytcaepgggffkjpaa.Obj (Sy)
open Go.Proofs.Ytcaepgggffkjpaa.Bnd

/-- The order of strings, as the model has it. -/
def bl (a b : ByteArray) : Bool := Op.bytesLess a.toList b.toList
theorem less_lt : ∀ x y : List UInt8, Op.bytesLess x y = decide (x < y)
  | [], [] => by simp [Op.bytesLess]
  | _ :: _, [] => by simp [Op.bytesLess]
  | [], _ :: _ => by simp [Op.bytesLess]
  | a :: x, b :: y => by
    rw [Op.bytesLess, less_lt x y]
    simp only [List.cons_lt_cons_iff]
    by_cases h1 : a < b <;> by_cases h2 : a = b <;> by_cases h3 : x < y <;> simp [h1, h2, h3]
theorem bl_iff {a b : ByteArray} : bl a b = true ↔ a.toList < b.toList := by simp [bl, less_lt]
theorem tl_inj {a b : ByteArray} (h : a.toList = b.toList) : a = b := by
  rw [ByteArray.toList_eq, ByteArray.toList_eq] at h
  cases a
  cases b
  simpa [Array.toList_inj] using h
theorem bl_irrefl (a : ByteArray) : ¬ bl a a = true := by rw [bl_iff]; exact List.lt_irrefl _
theorem bl_trans {a b c : ByteArray} (h : bl a b = true) (g : bl b c = true) : bl a c = true := by
  rw [bl_iff] at *
  exact List.lt_trans h g
theorem bl_total {a b : ByteArray} (h : ¬ bl a b = true) (hne : a ≠ b) : bl b a = true := by
  rw [bl_iff] at *
  rcases Std.lt_trichotomy a.toList b.toList with q | q | q
  · exact absurd q h
  · exact absurd (tl_inj q) hne
  · exact q

/-- A name put among names. -/
def putN : List ByteArray → ByteArray → List ByteArray
  | [], x => [x]
  | a :: r, x => if bl a x = true then a :: putN r x else if a = x then a :: r else x :: a :: r
def Asc (l : List ByteArray) : Prop := l.Pairwise fun a b => bl a b = true
theorem mem_put {l : List ByteArray} {x y : ByteArray} : y ∈ putN l x ↔ y = x ∨ y ∈ l := by
  induction l with
  | nil => simp [putN]
  | cons a r ih =>
    unfold putN
    split
    · simp only [List.mem_cons, ih]
      constructor
      · rintro (h | h | h) <;> simp [h]
      · rintro (h | h | h) <;> simp [h]
    · split
      · rename_i h
        subst h
        simp
      · simp
theorem asc_put {l : List ByteArray} {x : ByteArray} (h : Asc l) : Asc (putN l x) := by
  induction l with
  | nil => simp [putN, Asc]
  | cons a r ih =>
    obtain ⟨h1, h2⟩ := List.pairwise_cons.1 h
    unfold putN
    split
    · rename_i hl
      refine List.pairwise_cons.2 ⟨fun y hy => ?_, ih h2⟩
      rcases mem_put.1 hy with rfl | hy
      · exact hl
      · exact h1 y hy
    · split
      · exact h
      · rename_i hl hne
        have hx := bl_total hl hne
        refine List.pairwise_cons.2 ⟨fun y hy => ?_, h⟩
        rcases List.mem_cons.1 hy with rfl | hy
        · exact hx
        · exact bl_trans hx (h1 y hy)
/-- Names in ascending order are told by which they are. -/
theorem asc_eq : ∀ {l m : List ByteArray}, Asc l → Asc m → (∀ x, x ∈ l ↔ x ∈ m) → l = m
  | [], [], _, _, _ => rfl
  | [], b :: s, _, _, h => absurd ((h b).2 (List.mem_cons_self ..)) (by simp)
  | a :: r, [], _, _, h => absurd ((h a).1 (List.mem_cons_self ..)) (by simp)
  | a :: r, b :: s, h1, h2, h => by
    obtain ⟨p1, p2⟩ := List.pairwise_cons.1 h1
    obtain ⟨q1, q2⟩ := List.pairwise_cons.1 h2
    have e : a = b := by
      rcases List.mem_cons.1 ((h a).1 (List.mem_cons_self ..)) with g | g
      · exact g
      · rcases List.mem_cons.1 ((h b).2 (List.mem_cons_self ..)) with k | k
        · exact k.symm
        · exact absurd (bl_trans (p1 b k) (q1 a g)) (bl_irrefl a)
    subst e
    rw [asc_eq p2 q2 fun x => ?_]
    constructor
    · intro hx
      rcases List.mem_cons.1 ((h x).1 (List.mem_cons_of_mem _ hx)) with g | g
      · subst g; exact absurd (p1 x hx) (bl_irrefl x)
      · exact g
    · intro hx
      rcases List.mem_cons.1 ((h x).2 (List.mem_cons_of_mem _ hx)) with g | g
      · subst g; exact absurd (q1 x hx) (bl_irrefl x)
      · exact g
/-- Fewer names in ascending order stand among more in their order. -/
theorem asc_sub : ∀ {l m : List ByteArray}, Asc l → Asc m → (∀ x, x ∈ l → x ∈ m) → l.Sublist m
  | [], m, _, _, _ => List.nil_sublist m
  | a :: r, [], _, _, h => absurd (h a (List.mem_cons_self ..)) (by simp)
  | a :: r, b :: s, h1, h2, h => by
    obtain ⟨p1, p2⟩ := List.pairwise_cons.1 h1
    obtain ⟨q1, q2⟩ := List.pairwise_cons.1 h2
    by_cases e : a = b
    · subst e
      refine (asc_sub p2 q2 fun x hx => ?_).cons_cons a
      rcases List.mem_cons.1 (h x (List.mem_cons_of_mem _ hx)) with g | g
      · subst g; exact absurd (p1 x hx) (bl_irrefl x)
      · exact g
    · refine (asc_sub h1 q2 fun x hx => ?_).cons b
      have hb : ∀ y, y ∈ a :: r → y ∈ b :: s → bl a b = true ∨ y ∈ s := fun y _ hys => by
        rcases List.mem_cons.1 hys with g | g
        · rename_i hyr
          subst g
          rcases List.mem_cons.1 hyr with k | k
          · exact absurd k.symm e
          · exact .inl (p1 y k)
        · exact .inr g
      rcases hb x hx (h x hx) with g | g
      · rcases List.mem_cons.1 (h a (List.mem_cons_self ..)) with k | k
        · exact absurd k e
        · exact absurd (bl_trans g (q1 a k)) (bl_irrefl a)
      · exact g
/-- The names looked for one after the other: what is left of them. -/
def lft : List ByteArray → List ByteArray → List ByteArray
  | a, [] => a
  | [], _ :: _ => []
  | x :: a, y :: b => if y = x then lft a b else lft (x :: a) b
theorem lft_nil : ∀ b, lft [] b = []
  | [] => rfl
  | _ :: _ => rfl
theorem lft_sub : ∀ {a b : List ByteArray}, a.Sublist b → lft a b = []
  | a, [], h => by
    have := List.sublist_nil.1 h
    subst this
    rfl
  | [], b, _ => lft_nil b
  | x :: a, y :: b, h => by
    unfold lft
    split
    · rename_i e
      subst e
      refine lft_sub ?_
      cases h with
      | cons _ h => exact (List.sublist_cons_self _ _).trans h
      | cons_cons _ h => exact h
    · rename_i e
      refine lft_sub ?_
      cases h with
      | cons _ h => exact h
      | cons_cons _ h => exact absurd rfl e

/-- The names of objects. -/
def nms (os : List (List Sy)) : List ByteArray := (os.flatten.map (·.name)).foldl putN []
theorem nms_fold (l : List ByteArray) : Asc (l.foldl putN []) ∧ ∀ x, x ∈ l.foldl putN [] ↔ x ∈ l := by
  refine Dec.by_snoc (P := fun l => Asc (l.foldl putN []) ∧ ∀ x, x ∈ l.foldl putN [] ↔ x ∈ l) ⟨List.Pairwise.nil, by simp⟩ (fun l x ih => ?_) l
  rw [List.foldl_append]
  refine ⟨asc_put ih.1, fun y => ?_⟩
  show y ∈ putN _ x ↔ _
  rw [mem_put, ih.2]
  simp [or_comm]
theorem nms_asc (os : List (List Sy)) : Asc (nms os) := (nms_fold _).1
theorem mem_nms {os : List (List Sy)} {x : ByteArray} : x ∈ nms os ↔ ∃ o ∈ os, ∃ s ∈ o, s.name = x := by
  unfold nms
  rw [(nms_fold _).2]
  simp only [List.mem_map, List.mem_flatten]
  constructor
  · rintro ⟨s, ⟨o, h1, h2⟩, h3⟩; exact ⟨o, h1, s, h2, h3⟩
  · rintro ⟨o, h1, s, h2, h3⟩; exact ⟨s, ⟨o, h1, h2⟩, h3⟩
theorem nms_pre (a b : List (List Sy)) : (nms a).Sublist (nms (a ++ b)) := asc_sub (nms_asc _) (nms_asc _) fun x hx => by
  obtain ⟨o, h1, h2⟩ := mem_nms.1 hx
  exact mem_nms.2 ⟨o, List.mem_append_left _ h1, h2⟩
theorem nms_app (a b : List (List Sy)) : nms (a ++ b) = (b.flatten.map (·.name)).foldl putN (nms a) := by simp [nms]

/-- The symbols of a name in an object. -/
def us1 (nm : ByteArray) (i : Nat) (o : List Sy) : List Us := (o.filter fun s => decide (s.name = nm)).map fun s => ⟨s, (i : Int)⟩
def usK (nm : ByteArray) : Nat → List (List Sy) → List Us
  | _, [] => []
  | i, o :: r => us1 nm i o ++ usK nm (i + 1) r
def uses (os : List (List Sy)) (nm : ByteArray) : List Us := usK nm 0 os
theorem usK_app (nm : ByteArray) : ∀ (i : Nat) (a b : List (List Sy)), usK nm i (a ++ b) = usK nm i a ++ usK nm (i + a.length) b
  | i, [], b => rfl
  | i, o :: a, b => by
    rw [List.cons_append, usK, usK_app nm (i + 1) a b, usK, List.append_assoc, List.length_cons, show i + 1 + a.length = i + (a.length + 1) by omega]
theorem uses_snoc (os : List (List Sy)) (o : List Sy) (nm : ByteArray) : uses (os ++ [o]) nm = uses os nm ++ us1 nm os.length o := by
  unfold uses
  rw [usK_app, Nat.zero_add]
  simp [usK]
theorem uses_app (a b : List (List Sy)) (nm : ByteArray) : ∃ r, uses (a ++ b) nm = uses a nm ++ r := ⟨_, usK_app nm 0 a b⟩
theorem us1_ok {nm : ByteArray} {i : Nat} {o : List Sy} {x : Us} (h : x ∈ us1 nm i o) : x.s ∈ o ∧ x.s.name = nm ∧ x.u = i := by
  unfold us1 at h
  obtain ⟨s, hs, rfl⟩ := List.mem_map.1 h
  obtain ⟨h1, h2⟩ := List.mem_filter.1 hs
  exact ⟨h1, by simpa using h2, rfl⟩
theorem usK_ok {nm : ByteArray} : ∀ {i : Nat} {os : List (List Sy)} {x : Us}, x ∈ usK nm i os → (∃ o ∈ os, x.s ∈ o) ∧ x.s.name = nm ∧ 0 ≤ x.u
  | i, [], x, h => by cases h
  | i, o :: r, x, h => by
    rw [usK] at h
    rcases List.mem_append.1 h with h | h
    · obtain ⟨h1, h2, h3⟩ := us1_ok h
      exact ⟨⟨o, List.mem_cons_self .., h1⟩, h2, by omega⟩
    · obtain ⟨⟨o', h1, h1'⟩, h2, h3⟩ := usK_ok h
      exact ⟨⟨o', List.mem_cons_of_mem _ h1, h1'⟩, h2, h3⟩
/-- A name that no symbol bears has no uses. -/
theorem uses_none {os : List (List Sy)} {nm : ByteArray} (h : nm ∉ nms os) : uses os nm = [] := by
  refine List.eq_nil_iff_forall_not_mem.2 fun x hx => h ?_
  obtain ⟨⟨o, h1, h2⟩, h3, _⟩ := usK_ok hx
  exact mem_nms.2 ⟨o, h1, x.s, h2, h3⟩

/-- The bindings among which the first, or the greatest, is chosen. -/
def rk (b : Int) : Int := if b = 1 then 5 else if b = 3 then 4 else if b = 2 then 3 else if b = 4 then 2 else if b = 5 then 1 else 0
structure Bst where
  best : Int
  size : Int
  align : Int
  unit : Int
def Bst.step (t : Bst) (x : Us) : Bst :=
  let z := if rk x.s.bind = 4 ∧ t.best = 4 then max t.size x.s.size else t.size
  let a := if rk x.s.bind = 4 ∧ t.best = 4 then max t.align x.s.align else t.align
  if t.best < rk x.s.bind then ⟨rk x.s.bind, x.s.size, x.s.align, x.u⟩ else ⟨t.best, z, a, t.unit⟩
def bstOf (S : St) : Int := if S.bind = 1 then 5 else if S.bind = 3 then 4 else if S.bind = 2 then 3 else if S.sr = true then 2 else if S.wr = true then 1 else 0
/-- What the valid symbols of objects keep. -/
def VS (x : Us) : Prop := uOk x = true ∧ (x.s.bind ≠ 3 → x.s.align = 0) ∧ (4 ≤ x.s.bind → x.s.size = 0)
set_option linter.unusedSimpArgs false in
theorem bst_all (l : List Us) (h : ∀ x ∈ l, VS x) : (l.foldl Bst.step ⟨0, 0, 0, -1⟩).best = bstOf (allL l) ∧ (l.foldl Bst.step ⟨0, 0, 0, -1⟩).size = (allL l).size ∧ (l.foldl Bst.step ⟨0, 0, 0, -1⟩).align = (allL l).align ∧
    ((allL l).bind ≠ 0 → (l.foldl Bst.step ⟨0, 0, 0, -1⟩).unit = (allL l).unit) := by
  revert h
  refine Dec.by_snoc (P := fun l => (∀ x ∈ l, VS x) → (l.foldl Bst.step ⟨0, 0, 0, -1⟩).best = bstOf (allL l) ∧ (l.foldl Bst.step ⟨0, 0, 0, -1⟩).size = (allL l).size ∧ (l.foldl Bst.step ⟨0, 0, 0, -1⟩).align = (allL l).align ∧
    ((allL l).bind ≠ 0 → (l.foldl Bst.step ⟨0, 0, 0, -1⟩).unit = (allL l).unit)) (fun _ => ⟨rfl, rfl, rfl, fun h => absurd rfl h⟩) (fun l x ih h => ?_) l
  have i := ih fun y hy => h y (List.mem_append_left _ hy)
  have hx := h x (by simp)
  rw [List.foldl_append, allL_snoc]
  have wf := wf_all l
  generalize l.foldl Bst.step ⟨0, 0, 0, -1⟩ = t at i ⊢
  generalize allL l = S at i wf ⊢
  obtain ⟨hu, hal, hsz⟩ := hx
  have hf := five hu
  obtain ⟨⟨nm, xb, xz, xa⟩, xu⟩ := x
  obtain ⟨tb, tz, ta, tu⟩ := t
  obtain ⟨sb, sz, sa, su, sd, sr, sw, sl⟩ := S
  have r1 : rnk 1 = 3 := rfl
  have r2 : rnk 2 = 1 := rfl
  have r3 : rnk 3 = 2 := rfl
  have r4 : rnk 4 = 0 := rfl
  have r5 : rnk 5 = 0 := rfl
  have r0 : rnk 0 = 0 := rfl
  simp only [bstOf] at i hf hal hsz
  obtain ⟨i1, i2, i3, i4⟩ := i
  subst i1 i2 i3
  obtain ⟨wb, w0⟩ := wf
  simp only at wb w0
  rcases wb with rfl | rfl | rfl | rfl <;> rcases hf with rfl | rfl | rfl | rfl | rfl <;> cases sr <;> cases sw
  all_goals
    simp [Bst.step, rk, joi, prv, sgl, bstOf, r0, r1, r2, r3, r4, r5] at *
  all_goals simp_all
/-- The k-th among those that are chosen. -/
theorem filter_at {α : Type} (p : α → Bool) (l : List α) (i : Nat) (h : i < l.length) (hp : p l[i] = true) : (l.filter p)[((l.take i).filter p).length]? = some l[i] := by
  have e : l = l.take i ++ l[i] :: l.drop (i + 1) := by
    rw [← List.drop_eq_getElem_cons h, List.take_append_drop]
  have e2 : l.filter p = (l.take i).filter p ++ l[i] :: (l.drop (i + 1)).filter p := by
    conv => lhs; rw [e]
    rw [List.filter_append, List.filter_cons_of_pos hp]
  rw [e2, List.getElem?_append_right (Nat.le_refl _), Nat.sub_self]
  rfl
end Go.Proofs.Ytcaepgggffkjpaa.Tab
