/-
  symtab: names in their order, what a name is used for, resolutions (mathematics, no program).
  symtab: names that are sorted; what a range over a map has met (mathematics, no program).
-/
import Derived.Test.YtbcjbembhajgcaaDoorZBa
import Derived.Lib.Strings
import Derived.MapKept
import Derived.Laws.IdiomRangeMap
import Derived.Sort.KeysCollected
namespace Go.Proofs.YtbcjbembhajgcaaDoor.Tab
open Go.Proofs.YtbcjbembhajgcaaDoor.Obj (Sy)
open Go.Proofs.YtbcjbembhajgcaaDoor.Bnd

/-- The order of strings, as the model has it. -/
def bl (a b : ByteArray) : Bool := Op.bytesLess a.toList b.toList
theorem less_lt : ∀ x y : List UInt8, Op.bytesLess x y = decide (x < y)
  | [], [] => by simp [Op.bytesLess]
  | _ :: _, [] => by simp [Op.bytesLess]
  | [], _ :: _ => by simp [Op.bytesLess]
  | a :: x, b :: y => by
    rw [Op.bytesLess, less_lt x y]
    simp only [List.cons_lt_cons_iff]
    by_cases h1 : a < b <;> by_cases h2 : a = b <;> by_cases h3 : x < y <;> simp [h1, h2, h3]
theorem bl_iff {a b : ByteArray} : bl a b = true ↔ a.toList < b.toList := by simp [bl, less_lt]
theorem tl_inj {a b : ByteArray} (h : a.toList = b.toList) : a = b := by
  rw [ByteArray.toList_eq, ByteArray.toList_eq] at h
  cases a
  cases b
  simpa [Array.toList_inj] using h
theorem bl_irrefl (a : ByteArray) : ¬ bl a a = true := by rw [bl_iff]; exact List.lt_irrefl _
theorem bl_trans {a b c : ByteArray} (h : bl a b = true) (g : bl b c = true) : bl a c = true := by
  rw [bl_iff] at *
  exact List.lt_trans h g
theorem bl_total {a b : ByteArray} (h : ¬ bl a b = true) (hne : a ≠ b) : bl b a = true := by
  rw [bl_iff] at *
  rcases Std.lt_trichotomy a.toList b.toList with q | q | q
  · exact absurd q h
  · exact absurd (tl_inj q) hne
  · exact q

/-- A name put among names. -/
def putN : List ByteArray → ByteArray → List ByteArray
  | [], x => [x]
  | a :: r, x => if bl a x = true then a :: putN r x else if a = x then a :: r else x :: a :: r
def Asc (l : List ByteArray) : Prop := l.Pairwise fun a b => bl a b = true
theorem mem_put {l : List ByteArray} {x y : ByteArray} : y ∈ putN l x ↔ y = x ∨ y ∈ l := by
  induction l with
  | nil => simp [putN]
  | cons a r ih =>
    unfold putN
    split
    · simp only [List.mem_cons, ih]
      constructor
      · rintro (h | h | h) <;> simp [h]
      · rintro (h | h | h) <;> simp [h]
    · split
      · rename_i h
        subst h
        simp
      · simp
theorem asc_put {l : List ByteArray} {x : ByteArray} (h : Asc l) : Asc (putN l x) := by
  induction l with
  | nil => simp [putN, Asc]
  | cons a r ih =>
    obtain ⟨h1, h2⟩ := List.pairwise_cons.1 h
    unfold putN
    split
    · rename_i hl
      refine List.pairwise_cons.2 ⟨fun y hy => ?_, ih h2⟩
      rcases mem_put.1 hy with rfl | hy
      · exact hl
      · exact h1 y hy
    · split
      · exact h
      · rename_i hl hne
        have hx := bl_total hl hne
        refine List.pairwise_cons.2 ⟨fun y hy => ?_, h⟩
        rcases List.mem_cons.1 hy with rfl | hy
        · exact hx
        · exact bl_trans hx (h1 y hy)
/-- Names in ascending order are told by which they are. -/
theorem asc_eq : ∀ {l m : List ByteArray}, Asc l → Asc m → (∀ x, x ∈ l ↔ x ∈ m) → l = m
  | [], [], _, _, _ => rfl
  | [], b :: s, _, _, h => absurd ((h b).2 (List.mem_cons_self ..)) (by simp)
  | a :: r, [], _, _, h => absurd ((h a).1 (List.mem_cons_self ..)) (by simp)
  | a :: r, b :: s, h1, h2, h => by
    obtain ⟨p1, p2⟩ := List.pairwise_cons.1 h1
    obtain ⟨q1, q2⟩ := List.pairwise_cons.1 h2
    have e : a = b := by
      rcases List.mem_cons.1 ((h a).1 (List.mem_cons_self ..)) with g | g
      · exact g
      · rcases List.mem_cons.1 ((h b).2 (List.mem_cons_self ..)) with k | k
        · exact k.symm
        · exact absurd (bl_trans (p1 b k) (q1 a g)) (bl_irrefl a)
    subst e
    rw [asc_eq p2 q2 fun x => ?_]
    constructor
    · intro hx
      rcases List.mem_cons.1 ((h x).1 (List.mem_cons_of_mem _ hx)) with g | g
      · subst g; exact absurd (p1 x hx) (bl_irrefl x)
      · exact g
    · intro hx
      rcases List.mem_cons.1 ((h x).2 (List.mem_cons_of_mem _ hx)) with g | g
      · subst g; exact absurd (q1 x hx) (bl_irrefl x)
      · exact g
/-- Fewer names in ascending order stand among more in their order. -/
theorem asc_sub : ∀ {l m : List ByteArray}, Asc l → Asc m → (∀ x, x ∈ l → x ∈ m) → l.Sublist m
  | [], m, _, _, _ => List.nil_sublist m
  | a :: r, [], _, _, h => absurd (h a (List.mem_cons_self ..)) (by simp)
  | a :: r, b :: s, h1, h2, h => by
    obtain ⟨p1, p2⟩ := List.pairwise_cons.1 h1
    obtain ⟨q1, q2⟩ := List.pairwise_cons.1 h2
    by_cases e : a = b
    · subst e
      refine (asc_sub p2 q2 fun x hx => ?_).cons_cons a
      rcases List.mem_cons.1 (h x (List.mem_cons_of_mem _ hx)) with g | g
      · subst g; exact absurd (p1 x hx) (bl_irrefl x)
      · exact g
    · refine (asc_sub h1 q2 fun x hx => ?_).cons b
      have hb : ∀ y, y ∈ a :: r → y ∈ b :: s → bl a b = true ∨ y ∈ s := fun y _ hys => by
        rcases List.mem_cons.1 hys with g | g
        · rename_i hyr
          subst g
          rcases List.mem_cons.1 hyr with k | k
          · exact absurd k.symm e
          · exact .inl (p1 y k)
        · exact .inr g
      rcases hb x hx (h x hx) with g | g
      · rcases List.mem_cons.1 (h a (List.mem_cons_self ..)) with k | k
        · exact absurd k e
        · exact absurd (bl_trans g (q1 a k)) (bl_irrefl a)
      · exact g
/-- The names of objects. -/
def nms (os : List (List Sy)) : List ByteArray := (os.flatten.map (·.name)).foldl putN []
theorem nms_fold (l : List ByteArray) : Asc (l.foldl putN []) ∧ ∀ x, x ∈ l.foldl putN [] ↔ x ∈ l := by
  refine Dec.by_snoc (P := fun l => Asc (l.foldl putN []) ∧ ∀ x, x ∈ l.foldl putN [] ↔ x ∈ l) ⟨List.Pairwise.nil, by simp⟩ (fun l x ih => ?_) l
  rw [List.foldl_append]
  refine ⟨asc_put ih.1, fun y => ?_⟩
  show y ∈ putN _ x ↔ _
  rw [mem_put, ih.2]
  simp [or_comm]
theorem nms_asc (os : List (List Sy)) : Asc (nms os) := (nms_fold _).1
theorem mem_nms {os : List (List Sy)} {x : ByteArray} : x ∈ nms os ↔ ∃ o ∈ os, ∃ s ∈ o, s.name = x := by
  unfold nms
  rw [(nms_fold _).2]
  simp only [List.mem_map, List.mem_flatten]
  constructor
  · rintro ⟨s, ⟨o, h1, h2⟩, h3⟩; exact ⟨o, h1, s, h2, h3⟩
  · rintro ⟨o, h1, s, h2, h3⟩; exact ⟨s, ⟨o, h1, h2⟩, h3⟩
theorem nms_app (a b : List (List Sy)) : nms (a ++ b) = (b.flatten.map (·.name)).foldl putN (nms a) := by simp [nms]

/-- The symbols of a name in an object. -/
def us1 (nm : ByteArray) (i : Nat) (o : List Sy) : List Us := (o.filter fun s => decide (s.name = nm)).map fun s => ⟨s, (i : Int)⟩
def usK (nm : ByteArray) : Nat → List (List Sy) → List Us
  | _, [] => []
  | i, o :: r => us1 nm i o ++ usK nm (i + 1) r
def uses (os : List (List Sy)) (nm : ByteArray) : List Us := usK nm 0 os
theorem usK_app (nm : ByteArray) : ∀ (i : Nat) (a b : List (List Sy)), usK nm i (a ++ b) = usK nm i a ++ usK nm (i + a.length) b
  | i, [], b => rfl
  | i, o :: a, b => by
    rw [List.cons_append, usK, usK_app nm (i + 1) a b, usK, List.append_assoc, List.length_cons, show i + 1 + a.length = i + (a.length + 1) by omega]
theorem uses_snoc (os : List (List Sy)) (o : List Sy) (nm : ByteArray) : uses (os ++ [o]) nm = uses os nm ++ us1 nm os.length o := by
  unfold uses
  rw [usK_app, Nat.zero_add]
  simp [usK]
theorem us1_ok {nm : ByteArray} {i : Nat} {o : List Sy} {x : Us} (h : x ∈ us1 nm i o) : x.s ∈ o ∧ x.s.name = nm ∧ x.u = i := by
  unfold us1 at h
  obtain ⟨s, hs, rfl⟩ := List.mem_map.1 h
  obtain ⟨h1, h2⟩ := List.mem_filter.1 hs
  exact ⟨h1, by simpa using h2, rfl⟩
theorem usK_ok {nm : ByteArray} : ∀ {i : Nat} {os : List (List Sy)} {x : Us}, x ∈ usK nm i os → (∃ o ∈ os, x.s ∈ o) ∧ x.s.name = nm ∧ 0 ≤ x.u
  | i, [], x, h => by cases h
  | i, o :: r, x, h => by
    rw [usK] at h
    rcases List.mem_append.1 h with h | h
    · obtain ⟨h1, h2, h3⟩ := us1_ok h
      exact ⟨⟨o, List.mem_cons_self .., h1⟩, h2, by omega⟩
    · obtain ⟨⟨o', h1, h1'⟩, h2, h3⟩ := usK_ok h
      exact ⟨⟨o', List.mem_cons_of_mem _ h1, h1'⟩, h2, h3⟩
/-- A name that no symbol bears has no uses. -/
theorem uses_none {os : List (List Sy)} {nm : ByteArray} (h : nm ∉ nms os) : uses os nm = [] := by
  refine List.eq_nil_iff_forall_not_mem.2 fun x hx => h ?_
  obtain ⟨⟨o, h1, h2⟩, h3, _⟩ := usK_ok hx
  exact mem_nms.2 ⟨o, h1, x.s, h2, h3⟩

/-- What the valid symbols of objects keep. -/
def VS (x : Us) : Prop := uOk x = true ∧ (x.s.bind ≠ 3 → x.s.align = 0) ∧ (4 ≤ x.s.bind → x.s.size = 0)
end Go.Proofs.YtbcjbembhajgcaaDoor.Tab

namespace Go.Proofs.YtbcjbembhajgcaaDoor.Tab
open Go.Proofs.YtbcjbembhajgcaaDoor.Bnd

/-- Names sorted, as the library sorts them. -/
def srt (l : List ByteArray) : List ByteArray := ((l.map (·.toList)).mergeSort fun x y => decide (x ≤ y)).map fun b => ⟨b.toArray⟩
theorem of_toList (a : ByteArray) : (⟨a.toList.toArray⟩ : ByteArray) = a := tl_inj (by rw [ByteArray.toList_eq])
theorem toList_of (l : List UInt8) : (⟨l.toArray⟩ : ByteArray).toList = l := by rw [ByteArray.toList_eq]
theorem srt_perm (l : List ByteArray) : (srt l).Perm l := by
  have h := (List.mergeSort_perm (l.map (·.toList)) fun x y => decide (x ≤ y)).map fun b => (⟨b.toArray⟩ : ByteArray)
  rw [List.map_map] at h
  have e : ((fun b => (⟨b.toArray⟩ : ByteArray)) ∘ fun a : ByteArray => a.toList) = id := funext fun a => of_toList a
  rw [e, List.map_id] at h
  exact h
theorem srt_len (l : List ByteArray) : (srt l).length = l.length := (srt_perm l).length_eq
theorem srt_asc {l : List ByteArray} (h : l.Nodup) : Asc (srt l) := by
  have tr : ∀ a b c : List UInt8, decide (a ≤ b) = true → decide (b ≤ c) = true → decide (a ≤ c) = true := fun a b c h1 h2 => by
    simp only [decide_eq_true_eq] at *
    exact List.le_trans h1 h2
  have tot : ∀ a b : List UInt8, (decide (a ≤ b) || decide (b ≤ a)) = true := fun a b => by
    have := List.le_total a b
    simpa using this
  have h1 : (srt l).Pairwise fun a b => a.toList ≤ b.toList := by
    unfold srt
    rw [List.pairwise_map]
    refine (List.pairwise_mergeSort tr tot (l.map (·.toList))).imp ?_
    intro a b hab
    rw [toList_of, toList_of]
    simpa using hab
  have h2 : (srt l).Nodup := (srt_perm l).nodup_iff.2 h
  unfold Asc
  refine (List.pairwise_and_iff.2 ⟨h1, h2⟩).imp ?_
  rintro a b ⟨hle, hne⟩
  rw [bl_iff]
  rcases Std.lt_trichotomy a.toList b.toList with q | q | q
  · exact q
  · exact absurd (tl_inj q) hne
  · exact absurd q (List.not_lt.2 hle)
theorem srt_eq {l m : List ByteArray} (hl : l.Nodup) (hm : Asc m) (h : ∀ x, x ∈ l ↔ x ∈ m) : srt l = m := asc_eq (srt_asc hl) hm fun x => by rw [(srt_perm l).mem_iff, h]
/-- Names no twice, all of them among names in ascending order, are no more than these. -/
theorem nodup_len {l m : List ByteArray} (hl : l.Nodup) (hm : Asc m) (h : ∀ x, x ∈ l → x ∈ m) : l.length ≤ m.length := by
  rw [← srt_len l]
  exact (asc_sub (srt_asc hl) hm fun x hx => h x ((srt_perm l).mem_iff.1 hx)).length_le

/-- The map's keys are names, and it has each name that is used. -/
def Keys (es : Array MapEntry) (U : ByteArray → List Us) : Prop := (∀ x ∈ es.toList, ∃ n, x.key = .string n ∧ U n ≠ []) ∧ ∀ n, U n ≠ [] → ∃ x ∈ es.toList, x.key = .string n
/-- What has been met of a map, and meets a condition. -/
def Got (es : Array MapEntry) (seen : Array Nat) (p : ByteArray → Bool) (ss : List ByteArray) : Prop :=
  ss.Nodup ∧ ∀ n, n ∈ ss ↔ (∃ x ∈ es.toList, x.key = .string n ∧ x.born ∈ seen) ∧ p n = true
theorem Got.start (es : Array MapEntry) (p : ByteArray → Bool) : Got es #[] p [] := ⟨List.nodup_nil, fun n => by simp⟩
theorem stamped_key {es : Array MapEntry} {clock : Nat} (h : MapKept.Stamped es clock) {x y : MapEntry} (hx : x ∈ es.toList) (hy : y ∈ es.toList) (e : x.key = y.key) : x = y := by
  have h3 := ((MapKept.stamped_iff es clock).1 h).2.2
  by_cases hxy : x = y
  · exact hxy
  · exfalso
    rcases List.mem_iff_getElem.1 hx with ⟨i, hi, rfl⟩
    rcases List.mem_iff_getElem.1 hy with ⟨j, hj, rfl⟩
    have hp := List.pairwise_iff_getElem.1 h3
    rcases Nat.lt_trichotomy i j with q | q | q
    · exact hp i j hi hj q e
    · subst q; exact hxy rfl
    · exact hp j i hj hi q e.symm
theorem stamped_born {es : Array MapEntry} {clock : Nat} (h : MapKept.Stamped es clock) {x y : MapEntry} (hx : x ∈ es.toList) (hy : y ∈ es.toList) (e : x.born = y.born) : x = y := by
  have h3 := ((MapKept.stamped_iff es clock).1 h).2.1
  have h3 := List.pairwise_map.1 h3
  by_cases hxy : x = y
  · exact hxy
  · exfalso
    rcases List.mem_iff_getElem.1 hx with ⟨i, hi, rfl⟩
    rcases List.mem_iff_getElem.1 hy with ⟨j, hj, rfl⟩
    have hp := List.pairwise_iff_getElem.1 h3
    rcases Nat.lt_trichotomy i j with q | q | q
    · exact hp i j hi hj q e
    · subst q; exact hxy rfl
    · exact hp j i hj hi q e.symm
theorem mem_leftOf {es : Array MapEntry} {seen : Array Nat} {e : MapEntry} (h : e ∈ (leftOf es seen).toList) : e ∈ es.toList ∧ e.born ∉ seen := by
  unfold leftOf at h
  simpa using h
theorem Got.yes {es : Array MapEntry} {clock : Nat} {seen : Array Nat} {p : ByteArray → Bool} {ss : List ByteArray} (h : Got es seen p ss) (hs : MapKept.Stamped es clock) {e : MapEntry} {n : ByteArray} (he : e ∈ (leftOf es seen).toList) (hn : e.key = .string n)
    (hp : p n = true) : Got es (seen.push e.born) p (ss ++ [n]) := by
  obtain ⟨h1, h2⟩ := mem_leftOf he
  refine ⟨List.nodup_append.2 ⟨h.1, by simp, ?_⟩, fun m => ?_⟩
  · intro a ha b hb
    rw [List.mem_singleton] at hb
    subst hb
    rintro rfl
    obtain ⟨⟨x, hx, hk, hb⟩, _⟩ := (h.2 a).1 ha
    have := stamped_key hs hx h1 (hk.trans hn.symm)
    subst this
    exact h2 hb
  · rw [List.mem_append, List.mem_singleton, h.2]
    constructor
    · rintro (⟨⟨x, hx, hk, hb⟩, hq⟩ | rfl)
      · exact ⟨⟨x, hx, hk, by simp [hb]⟩, hq⟩
      · exact ⟨⟨e, h1, hn, by simp⟩, hp⟩
    · rintro ⟨⟨x, hx, hk, hb⟩, hq⟩
      rcases Array.mem_push.1 hb with hb | hb
      · exact .inl ⟨⟨x, hx, hk, hb⟩, hq⟩
      · have := stamped_born hs hx h1 hb
        subst this
        rw [hk] at hn
        injection hn with hn
        exact .inr hn
theorem Got.no {es : Array MapEntry} {clock : Nat} {seen : Array Nat} {p : ByteArray → Bool} {ss : List ByteArray} (h : Got es seen p ss) (hs : MapKept.Stamped es clock) {e : MapEntry} {n : ByteArray} (he : e ∈ (leftOf es seen).toList) (hn : e.key = .string n)
    (hp : p n = false) : Got es (seen.push e.born) p ss := by
  obtain ⟨h1, h2⟩ := mem_leftOf he
  refine ⟨h.1, fun m => ?_⟩
  rw [h.2]
  constructor
  · rintro ⟨⟨x, hx, hk, hb⟩, hq⟩
    exact ⟨⟨x, hx, hk, by simp [hb]⟩, hq⟩
  · rintro ⟨⟨x, hx, hk, hb⟩, hq⟩
    rcases Array.mem_push.1 hb with hb | hb
    · exact ⟨⟨x, hx, hk, hb⟩, hq⟩
    · have := stamped_born hs hx h1 hb
      subst this
      rw [hk] at hn
      injection hn with hn
      subst hn
      rw [hp] at hq
      cases hq
theorem Got.done {es : Array MapEntry} {seen : Array Nat} {p : ByteArray → Bool} {ss : List ByteArray} (h : Got es seen p ss) {U : ByteArray → List Us} (hk : Keys es U) (h0 : (leftOf es seen).size = 0) : ss.Nodup ∧ ∀ n, n ∈ ss ↔ U n ≠ [] ∧ p n = true := by
  refine ⟨h.1, fun n => ?_⟩
  rw [h.2]
  constructor
  · rintro ⟨⟨x, hx, hq, _⟩, hp⟩
    obtain ⟨m, hm, hu⟩ := hk.1 x hx
    rw [hq] at hm
    injection hm with hm
    subst hm
    exact ⟨hu, hp⟩
  · rintro ⟨hu, hp⟩
    obtain ⟨x, hx, hq⟩ := hk.2 n hu
    refine ⟨⟨x, hx, hq, ?_⟩, hp⟩
    have e : leftOf es seen = #[] := Array.eq_empty_of_size_eq_zero h0
    unfold leftOf at e
    rw [Array.filter_eq_empty_iff] at e
    have := e x (by simpa using hx)
    simpa using this
/-- No more names are met than there are. -/
theorem Got.len {es : Array MapEntry} {seen : Array Nat} {p : ByteArray → Bool} {ss : List ByteArray} (h : Got es seen p ss) {U : ByteArray → List Us} (hk : Keys es U) {N : List ByteArray} (hN : Asc N) (hU : ∀ n, U n ≠ [] → n ∈ N) : ss.length ≤ N.length :=
  nodup_len h.1 hN fun n hn => by
    obtain ⟨⟨x, hx, hq, _⟩, _⟩ := (h.2 n).1 hn
    obtain ⟨m, hm, hu⟩ := hk.1 x hx
    rw [hq] at hm
    injection hm with hm
    subst hm
    exact hU n hu
/-- A name is used just if it occurs. -/
theorem usK_ne {nm : ByteArray} : ∀ {i : Nat} {os : List (List Obj.Sy)}, (∃ o ∈ os, ∃ s ∈ o, s.name = nm) → usK nm i os ≠ []
  | i, [], h => by obtain ⟨o, ho, _⟩ := h; cases ho
  | i, o :: r, h => by
    rw [usK]
    intro e
    obtain ⟨e1, e2⟩ := List.append_eq_nil_iff.1 e
    obtain ⟨o', ho, s, hs, hn⟩ := h
    rcases List.mem_cons.1 ho with rfl | ho
    · unfold us1 at e1
      rw [List.map_eq_nil_iff, List.filter_eq_nil_iff] at e1
      exact e1 s hs (by simpa using hn)
    · exact usK_ne ⟨o', ho, s, hs, hn⟩ e2
theorem uses_iff {os : List (List Obj.Sy)} {nm : ByteArray} : uses os nm ≠ [] ↔ nm ∈ nms os := by
  constructor
  · intro h
    by_cases hm : nm ∈ nms os
    · exact hm
    · exact absurd (uses_none hm) h
  · intro h
    exact usK_ne (mem_nms.1 h)
end Go.Proofs.YtbcjbembhajgcaaDoor.Tab
