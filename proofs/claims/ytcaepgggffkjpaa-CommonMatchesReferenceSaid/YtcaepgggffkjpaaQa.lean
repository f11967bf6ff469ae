/-
  wanted: heaps of names (mathematics, no program).
-/
import Derived.Test.YtcaepgggffkjpaaVa
namespace Go.Proofs.Ytcaepgggffkjpaa.Wnt
open Go.Proofs.Ytcaepgggffkjpaa.Tab (bl bl_iff bl_irrefl bl_trans bl_total putN mem_put Asc asc_put asc_eq tl_inj)

def nE : ByteArray := ⟨#[]⟩
/-- The name at an index. -/
def nth (l : List ByteArray) (i : Nat) : ByteArray := l.getD i nE
theorem nth_eq {l : List ByteArray} {i : Nat} (h : i < l.length) : nth l i = l[i] := by
  unfold nth
  rw [List.getD_eq_getElem?_getD, List.getElem?_eq_getElem h]
  rfl
/-- Two names exchanged. -/
def swp (l : List ByteArray) (i j : Nat) : List ByteArray := (l.set i (nth l j)).set j (nth l i)
theorem swp_len (l : List ByteArray) (i j : Nat) : (swp l i j).length = l.length := by simp [swp]
theorem swp_perm {l : List ByteArray} {i j : Nat} (hi : i < l.length) (hj : j < l.length) : (swp l i j).Perm l := by
  unfold swp
  rw [nth_eq hi, nth_eq hj]
  exact List.set_set_perm hi hj
theorem nth_swp {l : List ByteArray} {i j : Nat} (hi : i < l.length) (hj : j < l.length) (k : Nat) : nth (swp l i j) k = if k = j then nth l i else if k = i then nth l j else nth l k := by
  unfold nth swp
  rw [List.getD_eq_getElem?_getD, List.getElem?_set, List.getElem?_set]
  by_cases h1 : j = k
  · subst h1
    rw [if_pos rfl, if_pos rfl, if_pos (by simpa using hj)]
    rfl
  · rw [if_neg h1, if_neg (fun e => h1 e.symm : ¬ k = j)]
    by_cases h2 : i = k
    · subst h2
      rw [if_pos rfl, if_pos rfl, if_pos hi]
      rfl
    · rw [if_neg h2, if_neg (fun e => h2 e.symm : ¬ k = i), ← List.getD_eq_getElem?_getD]
def par (k : Nat) : Nat := (k - 1) / 2
theorem par_lt {k : Nat} (h : 0 < k) : par k < k := by unfold par; omega
/-- No name among the first n is less than its parent. -/
def Hp (l : List ByteArray) (n : Nat) : Prop := ∀ k, 0 < k → k < n → ¬ bl (nth l k) (nth l (par k)) = true
theorem not_trans {a b c : ByteArray} (h : ¬ bl a b = true) (g : ¬ bl b c = true) : ¬ bl a c = true := fun k => by
  by_cases e : a = b
  · subst e; exact g k
  · exact g (bl_trans (bl_total h e) k)
theorem not_self (a : ByteArray) : ¬ bl a a = true := bl_irrefl a
theorem not_of {a b : ByteArray} (h : bl a b = true) : ¬ bl b a = true := fun k => bl_irrefl a (bl_trans h k)
/-- The root is the least. -/
theorem Hp.root {l : List ByteArray} {n : Nat} (h : Hp l n) : ∀ k, k < n → ¬ bl (nth l k) (nth l 0) = true := fun k => by
  induction k using Nat.strongRecOn with
  | _ k ih =>
    intro hk
    rcases Nat.eq_zero_or_pos k with rfl | h0
    · exact not_self _
    · exact not_trans (h k h0 hk) (ih (par k) (par_lt h0) (Nat.lt_trans (par_lt h0) hk))
/-- While a name goes up. -/
def UpI (l : List ByteArray) (n j : Nat) : Prop :=
  j < n ∧ n ≤ l.length ∧ (∀ k, 0 < k → k < n → k ≠ j → ¬ bl (nth l k) (nth l (par k)) = true) ∧ ∀ k, 0 < k → k < n → par k = j → 0 < j → ¬ bl (nth l k) (nth l (par j)) = true
theorem UpI.start {l : List ByteArray} {x : ByteArray} (h : Hp l l.length) : UpI (l ++ [x]) (l.length + 1) l.length := by
  have hn : ∀ k, k < l.length → nth (l ++ [x]) k = nth l k := fun k hk => by
    rw [nth_eq (by simp; omega), nth_eq hk, List.getElem_append_left hk]
  refine ⟨Nat.lt_succ_self _, by simp, fun k h0 hk hne => ?_, fun k h0 hk hp h1 => ?_⟩
  · have hkl : k < l.length := by omega
    rw [hn k hkl, hn (par k) (Nat.lt_trans (par_lt h0) hkl)]
    exact h k h0 hkl
  · unfold par at hp
    omega
theorem UpI.done {l : List ByteArray} {n j : Nat} (h : UpI l n j) (hd : j = 0 ∨ ¬ bl (nth l j) (nth l (par j)) = true) : Hp l n := fun k h0 hk => by
  by_cases e : k = j
  · subst e
    rcases hd with hd | hd
    · omega
    · exact hd
  · exact h.2.2.1 k h0 hk e
theorem UpI.step {l : List ByteArray} {n j : Nat} (h : UpI l n j) (h0 : 0 < j) (hl : bl (nth l j) (nth l (par j)) = true) : UpI (swp l (par j) j) n (par j) := by
  obtain ⟨hj, hn, h1, h2⟩ := h
  have hp := par_lt h0
  have hpl : par j < l.length := by omega
  have hjl : j < l.length := by omega
  refine ⟨by omega, by rw [swp_len]; exact hn, fun k k0 kn kne => ?_, fun k k0 kn kp p0 => ?_⟩
  · rw [nth_swp hpl hjl, nth_swp hpl hjl]
    by_cases e : k = j
    · subst e
      rw [if_pos rfl, if_neg (by omega), if_pos rfl]
      exact not_of hl
    · rw [if_neg e, if_neg kne]
      by_cases e2 : par k = j
      · rw [if_pos e2]
        exact h2 k k0 kn e2 h0
      · rw [if_neg e2]
        by_cases e3 : par k = par j
        · rw [if_pos e3]
          have := h1 k k0 kn e
          rw [e3] at this
          exact not_trans this (not_of hl)
        · rw [if_neg e3]
          exact h1 k k0 kn e
  · have hpp := par_lt p0
    have hg : ¬ bl (nth l (par j)) (nth l (par (par j))) = true := h1 (par j) p0 (by omega) (by omega)
    rw [nth_swp hpl hjl, nth_swp hpl hjl, if_neg (by omega : ¬ par (par j) = j), if_neg (by omega : ¬ par (par j) = par j)]
    by_cases e : k = j
    · subst e
      rw [if_pos rfl]
      exact hg
    · rw [if_neg e]
      by_cases e2 : k = par j
      · have := par_lt k0; omega
      · rw [if_neg e2]
        have := h1 k k0 kn e
        rw [kp] at this
        exact not_trans this hg
/-- While a name goes down. -/
def DnI (l : List ByteArray) (n i : Nat) : Prop :=
  n ≤ l.length ∧ (∀ k, 0 < k → k < n → par k ≠ i → ¬ bl (nth l k) (nth l (par k)) = true) ∧ ∀ k, 0 < k → k < n → par k = i → 0 < i → ¬ bl (nth l k) (nth l (par i)) = true
theorem DnI.start {l : List ByteArray} {n : Nat} (h : Hp l (n + 1)) (hl : l.length = n + 1) : DnI (swp l 0 n) n 0 := by
  refine ⟨by rw [swp_len]; omega, fun k k0 kn kp => ?_, fun _ _ _ _ h0 => absurd h0 (Nat.lt_irrefl 0)⟩
  have hpk := par_lt k0
  rw [nth_swp (by omega) (by omega), nth_swp (by omega) (by omega), if_neg (by omega), if_neg (by omega), if_neg (by omega), if_neg kp]
  exact h k k0 (by omega)
theorem DnI.leaf {l : List ByteArray} {n i : Nat} (h : DnI l n i) (hd : n ≤ 2 * i + 1) : Hp l n := fun k k0 kn => by
  refine h.2.1 k k0 kn fun e => ?_
  unfold par at e
  omega
/-- j is the lesser child of i. -/
def Lss (l : List ByteArray) (n i j : Nat) : Prop := par j = i ∧ 0 < j ∧ j < n ∧ ∀ k, 0 < k → k < n → par k = i → ¬ bl (nth l k) (nth l j) = true
theorem Lss.one {l : List ByteArray} {n i : Nat} (h1 : 2 * i + 1 < n) (h2 : ¬ (2 * i + 2 < n ∧ bl (nth l (2 * i + 2)) (nth l (2 * i + 1)) = true)) : Lss l n i (2 * i + 1) := by
  refine ⟨by unfold par; omega, by omega, h1, fun k k0 kn kp => ?_⟩
  unfold par at kp
  rcases (by omega : k = 2 * i + 1 ∨ k = 2 * i + 2) with rfl | rfl
  · exact not_self _
  · exact fun e => h2 ⟨kn, e⟩
theorem Lss.two {l : List ByteArray} {n i : Nat} (h1 : 2 * i + 2 < n) (h2 : bl (nth l (2 * i + 2)) (nth l (2 * i + 1)) = true) : Lss l n i (2 * i + 2) := by
  refine ⟨by unfold par; omega, by omega, h1, fun k k0 kn kp => ?_⟩
  unfold par at kp
  rcases (by omega : k = 2 * i + 1 ∨ k = 2 * i + 2) with rfl | rfl
  · exact not_of h2
  · exact not_self _
theorem DnI.done {l : List ByteArray} {n i j : Nat} (h : DnI l n i) (hj : Lss l n i j) (hl : ¬ bl (nth l j) (nth l i) = true) : Hp l n := fun k k0 kn => by
  by_cases e : par k = i
  · rw [e]
    exact not_trans (hj.2.2.2 k k0 kn e) hl
  · exact h.2.1 k k0 kn e
theorem DnI.step {l : List ByteArray} {n i j : Nat} (h : DnI l n i) (hj : Lss l n i j) (hl : bl (nth l j) (nth l i) = true) : DnI (swp l i j) n j := by
  obtain ⟨hn, h1, h2⟩ := h
  obtain ⟨jp, j0, jn, jm⟩ := hj
  have hij : i < j := by rw [← jp]; exact par_lt j0
  have hil : i < l.length := by omega
  have hjl : j < l.length := by omega
  refine ⟨by rw [swp_len]; exact hn, fun k k0 kn kp => ?_, fun k k0 kn kp _ => ?_⟩
  · rw [nth_swp hil hjl, nth_swp hil hjl, if_neg kp]
    by_cases e : k = j
    · subst e
      rw [if_pos rfl, if_pos jp]
      exact not_of hl
    · rw [if_neg e]
      by_cases e2 : k = i
      · subst e2
        have hpi := par_lt k0
        rw [if_pos rfl, if_neg (by omega)]
        exact h2 j j0 jn jp k0
      · rw [if_neg e2]
        by_cases e3 : par k = i
        · rw [if_pos e3]
          exact jm k k0 kn e3
        · rw [if_neg e3]
          exact h1 k k0 kn e3
  · rw [nth_swp hil hjl, nth_swp hil hjl, jp, if_neg (by omega : ¬ i = j), if_pos rfl]
    have hkj := par_lt k0
    rw [if_neg (by omega : ¬ k = j), if_neg (by omega : ¬ k = i)]
    have := h1 k k0 kn (by omega)
    rw [kp] at this
    exact this
end Go.Proofs.Ytcaepgggffkjpaa.Wnt
