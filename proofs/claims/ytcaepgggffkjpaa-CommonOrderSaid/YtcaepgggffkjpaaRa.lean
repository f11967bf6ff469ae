/-
  common: the order of the symbols, the layout (mathematics).
-/
import Derived.Test.YtcaepgggffkjpaaBa
import Derived.Test.YtcaepgggffkjpaaQa
namespace Go.Proofs.Ytcaepgggffkjpaa.Cmn
open Go.Proofs.Ytcaepgggffkjpaa.Tab (bl bl_iff bl_irrefl bl_trans bl_total)
open Go.Proofs.Ytcaepgggffkjpaa.Bnd (Us)

/-- A symbol is placed before another one. -/
def bef (a b : Us) : Bool := if a.s.align ≠ b.s.align then decide (b.s.align < a.s.align) else if a.s.size ≠ b.s.size then decide (b.s.size < a.s.size) else bl a.s.name b.s.name
theorem bef_iff {a b : Us} : bef a b = true ↔ b.s.align < a.s.align ∨ (a.s.align = b.s.align ∧ (b.s.size < a.s.size ∨ (a.s.size = b.s.size ∧ bl a.s.name b.s.name = true))) := by
  unfold bef
  split
  · rw [decide_eq_true_eq]
    constructor
    · exact .inl
    · rintro (h | h)
      · exact h
      · omega
  · split
    · rw [decide_eq_true_eq]
      constructor
      · intro h
        exact .inr ⟨by omega, .inl h⟩
      · rintro (h | ⟨_, h | h⟩)
        · omega
        · exact h
        · omega
    · constructor
      · intro h
        exact .inr ⟨by omega, .inr ⟨by omega, h⟩⟩
      · rintro (h | ⟨_, h | h⟩)
        · omega
        · omega
        · exact h.2
theorem bef_irrefl (a : Us) : ¬ bef a a = true := by
  rw [bef_iff]
  rintro (h | ⟨_, h | ⟨_, h⟩⟩)
  · omega
  · omega
  · exact bl_irrefl _ h
theorem bef_trans {a b c : Us} (h : bef a b = true) (g : bef b c = true) : bef a c = true := by
  rw [bef_iff] at *
  rcases h with h | ⟨h0, h | ⟨h1, h⟩⟩ <;> rcases g with g | ⟨g0, g | ⟨g1, g⟩⟩
  · exact .inl (by omega)
  · exact .inl (by omega)
  · exact .inl (by omega)
  · exact .inl (by omega)
  · exact .inr ⟨by omega, .inl (by omega)⟩
  · exact .inr ⟨by omega, .inl (by omega)⟩
  · exact .inl (by omega)
  · exact .inr ⟨by omega, .inl (by omega)⟩
  · exact .inr ⟨by omega, .inr ⟨by omega, bl_trans h g⟩⟩
theorem bef_ntrans {a b c : Us} (h : ¬ bef a b = true) (g : ¬ bef b c = true) : ¬ bef a c = true := by
  rw [bef_iff] at *
  intro k
  by_cases e1 : b.s.align < a.s.align
  · exact h (.inl e1)
  by_cases e2 : c.s.align < b.s.align
  · exact g (.inl e2)
  rcases k with k | ⟨k0, k⟩
  · omega
  have e3 : a.s.align = b.s.align := by omega
  have e4 : b.s.align = c.s.align := by omega
  by_cases e5 : b.s.size < a.s.size
  · exact h (.inr ⟨e3, .inl e5⟩)
  by_cases e6 : c.s.size < b.s.size
  · exact g (.inr ⟨e4, .inl e6⟩)
  rcases k with k | ⟨k1, k⟩
  · omega
  have e7 : a.s.size = b.s.size := by omega
  have e8 : b.s.size = c.s.size := by omega
  exact Wnt.not_trans (fun e => h (.inr ⟨e3, .inr ⟨e7, e⟩⟩)) (fun e => g (.inr ⟨e4, .inr ⟨e8, e⟩⟩)) k
/-- Of two symbols with different names one is before the other. -/
theorem bef_total {a b : Us} (h : ¬ bef a b = true) (hn : a.s.name ≠ b.s.name) : bef b a = true := by
  rw [bef_iff] at *
  by_cases e1 : a.s.align < b.s.align
  · exact .inl e1
  by_cases e2 : b.s.align < a.s.align
  · exact absurd (.inl e2) h
  by_cases e3 : a.s.size < b.s.size
  · exact .inr ⟨by omega, .inl e3⟩
  by_cases e4 : b.s.size < a.s.size
  · exact absurd (.inr ⟨by omega, .inl e4⟩) h
  refine .inr ⟨by omega, .inr ⟨by omega, ?_⟩⟩
  refine bl_total (fun e => h (.inr ⟨by omega, .inr ⟨by omega, e⟩⟩)) hn
/-- A symbol put in its place. -/
def ins : List Us → Us → List Us
  | [], x => [x]
  | y :: l, x => if bef y x = true then y :: ins l x else x :: y :: l
def com (x : Us) : Bool := decide (x.s.bind = 3)
/-- The common symbols in their order. -/
def srt (xs : List Us) : List Us := (xs.filter com).foldl ins []
def Srd (l : List Us) : Prop := l.Pairwise fun a b => bef a b = true
theorem ins_perm : ∀ (l : List Us) (x : Us), (ins l x).Perm (x :: l)
  | [], _ => List.Perm.refl _
  | y :: l, x => by
    unfold ins
    split
    · exact ((ins_perm l x).cons y).trans (List.Perm.swap x y l)
    · exact List.Perm.refl _
theorem ins_srd : ∀ {l : List Us} {x : Us}, Srd l → (∀ y ∈ l, y.s.name ≠ x.s.name) → Srd (ins l x)
  | [], x, _, _ => List.pairwise_singleton _ _
  | y :: l, x, h, hn => by
    obtain ⟨h1, h2⟩ := List.pairwise_cons.1 h
    unfold ins
    split
    · rename_i hy
      refine List.pairwise_cons.2 ⟨fun z hz => ?_, ins_srd h2 fun z hz => hn z (List.mem_cons_of_mem _ hz)⟩
      rcases List.mem_cons.1 ((ins_perm l x).mem_iff.1 hz) with rfl | hz
      · exact hy
      · exact h1 z hz
    · rename_i hy
      have hx : bef x y = true := bef_total hy (hn y List.mem_cons_self)
      refine List.pairwise_cons.2 ⟨fun z hz => ?_, h⟩
      rcases List.mem_cons.1 hz with rfl | hz
      · exact hx
      · exact bef_trans hx (h1 z hz)
/-- The names of the common symbols are different. -/
def Dif (xs : List Us) : Prop := (xs.filter com).Pairwise fun a b => a.s.name ≠ b.s.name
theorem fold_ins : ∀ (xs l : List Us), (xs.foldl ins l).Perm (xs.reverse ++ l)
  | [], l => List.Perm.refl _
  | x :: xs, l => by
    have h := fold_ins xs (ins l x)
    rw [List.reverse_cons, List.append_assoc]
    exact h.trans ((List.Perm.append_left _ (ins_perm l x)))
theorem fold_srd : ∀ (xs l : List Us), Srd l → (xs.Pairwise fun a b => a.s.name ≠ b.s.name) → (∀ a ∈ xs, ∀ b ∈ l, b.s.name ≠ a.s.name) → Srd (xs.foldl ins l)
  | [], _, h, _, _ => h
  | x :: xs, l, h, hp, hd => by
    obtain ⟨h1, h2⟩ := List.pairwise_cons.1 hp
    refine fold_srd xs (ins l x) (ins_srd h fun y hy => hd x List.mem_cons_self y hy) h2 fun a ha b hb => ?_
    rcases List.mem_cons.1 ((ins_perm l x).mem_iff.1 hb) with rfl | hb
    · exact h1 a ha
    · exact hd a (List.mem_cons_of_mem _ ha) b hb
theorem srt_perm (xs : List Us) : (srt xs).Perm (xs.filter com) := by
  have h := fold_ins (xs.filter com) []
  rw [List.append_nil] at h
  exact h.trans (List.reverse_perm _)
theorem srt_srd {xs : List Us} (h : Dif xs) : Srd (srt xs) := fold_srd _ _ List.Pairwise.nil h fun _ _ _ hb => by cases hb
theorem srd_eq : ∀ {l m : List Us}, Srd l → Srd m → (∀ x, x ∈ l ↔ x ∈ m) → l = m
  | [], [], _, _, _ => rfl
  | [], y :: m, _, _, h => absurd ((h y).2 List.mem_cons_self) (by simp)
  | x :: l, [], _, _, h => absurd ((h x).1 List.mem_cons_self) (by simp)
  | x :: l, y :: m, hl, hm, h => by
    obtain ⟨l1, l2⟩ := List.pairwise_cons.1 hl
    obtain ⟨m1, m2⟩ := List.pairwise_cons.1 hm
    have e : x = y := by
      rcases List.mem_cons.1 ((h x).1 List.mem_cons_self) with e | hx
      · exact e
      · rcases List.mem_cons.1 ((h y).2 List.mem_cons_self) with e | hy
        · exact e.symm
        · exact absurd (bef_trans (m1 x hx) (l1 y hy)) (bef_irrefl _)
    subst e
    congr 1
    refine srd_eq l2 m2 fun z => ⟨fun hz => ?_, fun hz => ?_⟩
    · rcases List.mem_cons.1 ((h z).1 (List.mem_cons_of_mem _ hz)) with rfl | hz'
      · exact absurd (l1 z hz) (bef_irrefl _)
      · exact hz'
    · rcases List.mem_cons.1 ((h z).2 (List.mem_cons_of_mem _ hz)) with rfl | hz'
      · exact absurd (m1 z hz) (bef_irrefl _)
      · exact hz'
/-- The order of what comes in does not matter. -/
theorem srt_perm_eq {xs ys : List Us} (hp : xs.Perm ys) (h : Dif xs) : srt xs = srt ys := by
  have hd : Dif ys := (hp.filter com).pairwise h fun hab => fun e => hab e.symm
  exact srd_eq (srt_srd h) (srt_srd hd) fun x => by rw [(srt_perm xs).mem_iff, (srt_perm ys).mem_iff, (hp.filter com).mem_iff]

/-- A slot. -/
structure Slt where
  name : ByteArray
  off : Int
  size : Int
/-- The least multiple of an alignment from an end on. -/
def upTo (e a : Int) : Int := if e % a ≠ 0 then e + a - e % a else e
/-- The layout's state: the slots, the end, the alignment. -/
structure Lay where
  out : List Slt
  fin : Int
  al : Int
def Lay.step (L : Lay) (x : Us) : Lay := ⟨L.out ++ [⟨x.s.name, upTo L.fin x.s.align, x.s.size⟩], upTo L.fin x.s.align + x.s.size, max L.al x.s.align⟩
def lay0 : Lay := ⟨[], 0, 1⟩
def layS (l : List Us) : Lay := l.foldl Lay.step lay0
theorem layS_snoc (l : List Us) (x : Us) : layS (l ++ [x]) = (layS l).step x := by simp [layS]
/-- The layout of resolutions. -/
def layL (xs : List Us) : Lay := layS (srt xs)
/-- A common symbol as it should be. -/
def ComOk (x : Us) : Prop := 0 ≤ x.s.size ∧ x.s.size ≤ 4294967295 ∧ 1 ≤ x.s.align ∧ x.s.align ≤ 65536 ∧ ∃ i : Nat, i ≤ 16 ∧ x.s.align = ((2 ^ i : Nat) : Int)
theorem upTo_le {e a : Int} (ha : 1 ≤ a) : e ≤ upTo e a ∧ upTo e a < e + a ∧ upTo e a % a = 0 := by
  have h1 := Int.emod_nonneg e (show a ≠ 0 by omega)
  have h2 := Int.emod_lt_of_pos e (show 0 < a by omega)
  unfold upTo
  split
  · refine ⟨by omega, by omega, ?_⟩
    have e3 : e + a - e % a = a * (e / a + 1) := by
      have := Int.mul_ediv_add_emod e a
      rw [Int.mul_add, Int.mul_one]
      omega
    rw [e3]
    exact Int.mul_emod_right _ _
  · rename_i h
    exact ⟨by omega, by omega, by omega⟩
theorem layS_fin : ∀ (l : List Us), (∀ x ∈ l, ComOk x) → 0 ≤ (layS l).fin ∧ (layS l).fin ≤ l.length * 4295032831 ∧ 1 ≤ (layS l).al ∧ (layS l).al ≤ 65536 ∧ (layS l).out.length = l.length := by
  intro l
  refine Dec.by_snoc (P := fun l => (∀ x ∈ l, ComOk x) → 0 ≤ (layS l).fin ∧ (layS l).fin ≤ l.length * 4295032831 ∧ 1 ≤ (layS l).al ∧ (layS l).al ≤ 65536 ∧ (layS l).out.length = l.length) (fun _ => ⟨by decide, by decide, by decide, by decide, rfl⟩) (fun l x ih hx => ?_) l
  obtain ⟨h1, h2, h3, h4, h5⟩ := ih fun y hy => hx y (List.mem_append_left _ hy)
  obtain ⟨k1, k2, k3, k4, _⟩ := hx x (List.mem_append_right _ List.mem_cons_self)
  rw [layS_snoc]
  have h6 := upTo_le (e := (layS l).fin) k3
  unfold Lay.step
  simp only [List.length_append, List.length_singleton]
  exact ⟨by omega, by omega, by omega, by omega, by omega⟩
end Go.Proofs.Ytcaepgggffkjpaa.Cmn
