/-
  common: heaps of symbols (mathematics, no program).
-/
import Derived.Test.YtcaepgggffkjpaaRa
namespace Go.Proofs.Ytcaepgggffkjpaa.Cmn
open Go.Proofs.Ytcaepgggffkjpaa.Bnd (Us)

def u0 : Us := ⟨⟨⟨#[]⟩, 0, 0, 0⟩, 0⟩
/-- The symbol at an index. -/
def nth (l : List Us) (i : Nat) : Us := l.getD i u0
theorem nth_eq {l : List Us} {i : Nat} (h : i < l.length) : nth l i = l[i] := by
  unfold nth
  rw [List.getD_eq_getElem?_getD, List.getElem?_eq_getElem h]
  rfl
/-- Two symbols exchanged. -/
def swp (l : List Us) (i j : Nat) : List Us := (l.set i (nth l j)).set j (nth l i)
theorem swp_len (l : List Us) (i j : Nat) : (swp l i j).length = l.length := by simp [swp]
theorem swp_perm {l : List Us} {i j : Nat} (hi : i < l.length) (hj : j < l.length) : (swp l i j).Perm l := by
  unfold swp
  rw [nth_eq hi, nth_eq hj]
  exact List.set_set_perm hi hj
theorem nth_swp {l : List Us} {i j : Nat} (hi : i < l.length) (hj : j < l.length) (k : Nat) : nth (swp l i j) k = if k = j then nth l i else if k = i then nth l j else nth l k := by
  unfold nth swp
  rw [List.getD_eq_getElem?_getD, List.getElem?_set, List.getElem?_set]
  by_cases h1 : j = k
  · subst h1
    rw [if_pos rfl, if_pos rfl, if_pos (by simpa using hj)]
    rfl
  · rw [if_neg h1, if_neg (fun e => h1 e.symm : ¬ k = j)]
    by_cases h2 : i = k
    · subst h2
      rw [if_pos rfl, if_pos rfl, if_pos hi]
      rfl
    · rw [if_neg h2, if_neg (fun e => h2 e.symm : ¬ k = i), ← List.getD_eq_getElem?_getD]
def par (k : Nat) : Nat := (k - 1) / 2
theorem par_lt {k : Nat} (h : 0 < k) : par k < k := by unfold par; omega
/-- No symbol among the first n is less than its parent. -/
def Hp (l : List Us) (n : Nat) : Prop := ∀ k, 0 < k → k < n → ¬ bef (nth l k) (nth l (par k)) = true
theorem not_trans {a b c : Us} (h : ¬ bef a b = true) (g : ¬ bef b c = true) : ¬ bef a c = true := bef_ntrans h g
theorem not_self (a : Us) : ¬ bef a a = true := bef_irrefl a
theorem not_of {a b : Us} (h : bef a b = true) : ¬ bef b a = true := fun k => bef_irrefl a (bef_trans h k)
/-- The root is the least. -/
theorem Hp.root {l : List Us} {n : Nat} (h : Hp l n) : ∀ k, k < n → ¬ bef (nth l k) (nth l 0) = true := fun k => by
  induction k using Nat.strongRecOn with
  | _ k ih =>
    intro hk
    rcases Nat.eq_zero_or_pos k with rfl | h0
    · exact not_self _
    · exact not_trans (h k h0 hk) (ih (par k) (par_lt h0) (Nat.lt_trans (par_lt h0) hk))
/-- While a symbol goes up. -/
def UpI (l : List Us) (n j : Nat) : Prop :=
  j < n ∧ n ≤ l.length ∧ (∀ k, 0 < k → k < n → k ≠ j → ¬ bef (nth l k) (nth l (par k)) = true) ∧ ∀ k, 0 < k → k < n → par k = j → 0 < j → ¬ bef (nth l k) (nth l (par j)) = true
theorem UpI.start {l : List Us} {x : Us} (h : Hp l l.length) : UpI (l ++ [x]) (l.length + 1) l.length := by
  have hn : ∀ k, k < l.length → nth (l ++ [x]) k = nth l k := fun k hk => by
    rw [nth_eq (by simp; omega), nth_eq hk, List.getElem_append_left hk]
  refine ⟨Nat.lt_succ_self _, by simp, fun k h0 hk hne => ?_, fun k h0 hk hp h1 => ?_⟩
  · have hkl : k < l.length := by omega
    rw [hn k hkl, hn (par k) (Nat.lt_trans (par_lt h0) hkl)]
    exact h k h0 hkl
  · unfold par at hp
    omega
theorem UpI.done {l : List Us} {n j : Nat} (h : UpI l n j) (hd : j = 0 ∨ ¬ bef (nth l j) (nth l (par j)) = true) : Hp l n := fun k h0 hk => by
  by_cases e : k = j
  · subst e
    rcases hd with hd | hd
    · omega
    · exact hd
  · exact h.2.2.1 k h0 hk e
theorem UpI.step {l : List Us} {n j : Nat} (h : UpI l n j) (h0 : 0 < j) (hl : bef (nth l j) (nth l (par j)) = true) : UpI (swp l (par j) j) n (par j) := by
  obtain ⟨hj, hn, h1, h2⟩ := h
  have hp := par_lt h0
  have hpl : par j < l.length := by omega
  have hjl : j < l.length := by omega
  refine ⟨by omega, by rw [swp_len]; exact hn, fun k k0 kn kne => ?_, fun k k0 kn kp p0 => ?_⟩
  · rw [nth_swp hpl hjl, nth_swp hpl hjl]
    by_cases e : k = j
    · subst e
      rw [if_pos rfl, if_neg (by omega), if_pos rfl]
      exact not_of hl
    · rw [if_neg e, if_neg kne]
      by_cases e2 : par k = j
      · rw [if_pos e2]
        exact h2 k k0 kn e2 h0
      · rw [if_neg e2]
        by_cases e3 : par k = par j
        · rw [if_pos e3]
          have := h1 k k0 kn e
          rw [e3] at this
          exact not_trans this (not_of hl)
        · rw [if_neg e3]
          exact h1 k k0 kn e
  · have hpp := par_lt p0
    have hg : ¬ bef (nth l (par j)) (nth l (par (par j))) = true := h1 (par j) p0 (by omega) (by omega)
    rw [nth_swp hpl hjl, nth_swp hpl hjl, if_neg (by omega : ¬ par (par j) = j), if_neg (by omega : ¬ par (par j) = par j)]
    by_cases e : k = j
    · subst e
      rw [if_pos rfl]
      exact hg
    · rw [if_neg e]
      by_cases e2 : k = par j
      · have := par_lt k0; omega
      · rw [if_neg e2]
        have := h1 k k0 kn e
        rw [kp] at this
        exact not_trans this hg
/-- While a symbol goes down. -/
def DnI (l : List Us) (n i : Nat) : Prop :=
  n ≤ l.length ∧ (∀ k, 0 < k → k < n → par k ≠ i → ¬ bef (nth l k) (nth l (par k)) = true) ∧ ∀ k, 0 < k → k < n → par k = i → 0 < i → ¬ bef (nth l k) (nth l (par i)) = true
theorem DnI.start {l : List Us} {n : Nat} (h : Hp l (n + 1)) (hl : l.length = n + 1) : DnI (swp l 0 n) n 0 := by
  refine ⟨by rw [swp_len]; omega, fun k k0 kn kp => ?_, fun _ _ _ _ h0 => absurd h0 (Nat.lt_irrefl 0)⟩
  have hpk := par_lt k0
  rw [nth_swp (by omega) (by omega), nth_swp (by omega) (by omega), if_neg (by omega), if_neg (by omega), if_neg (by omega), if_neg kp]
  exact h k k0 (by omega)
theorem DnI.leaf {l : List Us} {n i : Nat} (h : DnI l n i) (hd : n ≤ 2 * i + 1) : Hp l n := fun k k0 kn => by
  refine h.2.1 k k0 kn fun e => ?_
  unfold par at e
  omega
/-- j is the lesser child of i. -/
def Lss (l : List Us) (n i j : Nat) : Prop := par j = i ∧ 0 < j ∧ j < n ∧ ∀ k, 0 < k → k < n → par k = i → ¬ bef (nth l k) (nth l j) = true
theorem Lss.one {l : List Us} {n i : Nat} (h1 : 2 * i + 1 < n) (h2 : ¬ (2 * i + 2 < n ∧ bef (nth l (2 * i + 2)) (nth l (2 * i + 1)) = true)) : Lss l n i (2 * i + 1) := by
  refine ⟨by unfold par; omega, by omega, h1, fun k k0 kn kp => ?_⟩
  unfold par at kp
  rcases (by omega : k = 2 * i + 1 ∨ k = 2 * i + 2) with rfl | rfl
  · exact not_self _
  · exact fun e => h2 ⟨kn, e⟩
theorem Lss.two {l : List Us} {n i : Nat} (h1 : 2 * i + 2 < n) (h2 : bef (nth l (2 * i + 2)) (nth l (2 * i + 1)) = true) : Lss l n i (2 * i + 2) := by
  refine ⟨by unfold par; omega, by omega, h1, fun k k0 kn kp => ?_⟩
  unfold par at kp
  rcases (by omega : k = 2 * i + 1 ∨ k = 2 * i + 2) with rfl | rfl
  · exact not_of h2
  · exact not_self _
theorem DnI.done {l : List Us} {n i j : Nat} (h : DnI l n i) (hj : Lss l n i j) (hl : ¬ bef (nth l j) (nth l i) = true) : Hp l n := fun k k0 kn => by
  by_cases e : par k = i
  · rw [e]
    exact not_trans (hj.2.2.2 k k0 kn e) hl
  · exact h.2.1 k k0 kn e
theorem DnI.step {l : List Us} {n i j : Nat} (h : DnI l n i) (hj : Lss l n i j) (hl : bef (nth l j) (nth l i) = true) : DnI (swp l i j) n j := by
  obtain ⟨hn, h1, h2⟩ := h
  obtain ⟨jp, j0, jn, jm⟩ := hj
  have hij : i < j := by rw [← jp]; exact par_lt j0
  have hil : i < l.length := by omega
  have hjl : j < l.length := by omega
  refine ⟨by rw [swp_len]; exact hn, fun k k0 kn kp => ?_, fun k k0 kn kp _ => ?_⟩
  · rw [nth_swp hil hjl, nth_swp hil hjl, if_neg kp]
    by_cases e : k = j
    · subst e
      rw [if_pos rfl, if_pos jp]
      exact not_of hl
    · rw [if_neg e]
      by_cases e2 : k = i
      · subst e2
        have hpi := par_lt k0
        rw [if_pos rfl, if_neg (by omega)]
        exact h2 j j0 jn jp k0
      · rw [if_neg e2]
        by_cases e3 : par k = i
        · rw [if_pos e3]
          exact jm k k0 kn e3
        · rw [if_neg e3]
          exact h1 k k0 kn e3
  · rw [nth_swp hil hjl, nth_swp hil hjl, jp, if_neg (by omega : ¬ i = j), if_pos rfl]
    have hkj := par_lt k0
    rw [if_neg (by omega : ¬ k = j), if_neg (by omega : ¬ k = i)]
    have := h1 k k0 kn (by omega)
    rw [kp] at this
    exact this

/-- What Pop leaves. -/
theorem take_last {l : List Us} {n : Nat} (hl : l.length = n) (hn : 0 < n) : l = l.take (n - 1) ++ [nth l (n - 1)] := by
  subst hl
  rw [nth_eq (by omega), ← List.take_succ_eq_append_getElem (by omega), show l.length - 1 + 1 = l.length by omega, List.take_length]
theorem hp_take {l : List Us} {n : Nat} (h : Hp l n) (hn : n ≤ l.length) : Hp (l.take n) n := fun k k0 kn => by
  have := par_lt k0
  have e : ∀ j, j < n → nth (l.take n) j = nth l j := fun j hj => by
    rw [nth_eq (by rw [List.length_take]; omega), nth_eq (by omega), List.getElem_take]
  rw [e k kn, e (par k) (by omega)]
  exact h k k0 kn
theorem pop_perm {l l2 : List Us} {n : Nat} (hl : l.length = n) (hn : 0 < n) (hp : l2.Perm (swp l 0 (n - 1))) (hk : nth l2 (n - 1) = nth (swp l 0 (n - 1)) (n - 1)) : nth l2 (n - 1) = nth l 0 ∧ (nth l 0 :: l2.take (n - 1)).Perm l := by
  have h1 : nth l2 (n - 1) = nth l 0 := by rw [hk, nth_swp (by omega) (by omega), if_pos rfl]
  have h2 := take_last (l := l2) (n := n) (by rw [hp.length_eq, swp_len]; exact hl) hn
  have h3 : (nth l 0 :: l2.take (n - 1)).Perm l2 := by
    conv => rhs; rw [h2, h1]
    exact (List.perm_append_singleton _ _).symm
  exact ⟨h1, (h3.trans hp).trans (swp_perm (by omega) (by omega))⟩
/-- While the symbols leave the heap: d those that have left, r those that wait. -/
def Lv (xs d r : List Us) : Prop := (d ++ r).Perm (xs.filter com) ∧ Srd d ∧ (∀ a ∈ d, ∀ b ∈ r, bef a b = true) ∧ Hp r r.length
theorem Lv.start {xs r : List Us} (hp : r.Perm (xs.filter com)) (hh : Hp r r.length) : Lv xs [] r := ⟨by simpa using hp, List.Pairwise.nil, (fun _ h => by cases h), hh⟩
theorem Lv.step {xs d r r' : List Us} (h : Lv xs d r) (hd : Dif xs) (hp : (nth r 0 :: r').Perm r) (hh : Hp r' r'.length) : Lv xs (d ++ [nth r 0]) r' := by
  obtain ⟨h1, h2, h3, h4⟩ := h
  have hm : nth r 0 ∈ r := hp.mem_iff.1 List.mem_cons_self
  have hall : (d ++ (nth r 0 :: r')).Perm (xs.filter com) := (List.Perm.append_left d hp).trans h1
  have hne : (d ++ (nth r 0 :: r')).Pairwise fun a b => a.s.name ≠ b.s.name := hall.symm.pairwise hd fun hab => fun e => hab e.symm
  have hne2 := (List.pairwise_cons.1 (List.pairwise_append.1 hne).2.1).1
  have hmin : ∀ b ∈ r', bef (nth r 0) b = true := fun b hb => by
    have hbr : b ∈ r := hp.mem_iff.1 (List.mem_cons_of_mem _ hb)
    obtain ⟨k, hk, rfl⟩ := List.getElem_of_mem hbr
    have h5 := Hp.root h4 k hk
    rw [nth_eq hk] at h5
    exact bef_total h5 fun e => hne2 _ hb e.symm
  refine ⟨by rw [List.append_assoc]; exact hall, List.pairwise_append.2 ⟨h2, List.pairwise_singleton _ _, fun a ha b hb => ?_⟩, fun a ha b hb => ?_, hh⟩
  · rw [List.mem_singleton] at hb
    subst hb
    exact h3 a ha _ hm
  · rcases List.mem_append.1 ha with ha | ha
    · exact h3 a ha b (hp.mem_iff.1 (List.mem_cons_of_mem _ hb))
    · rw [List.mem_singleton] at ha
      subst ha
      exact hmin b hb
/-- All have left: in their order. -/
theorem Lv.done {xs d : List Us} (h : Lv xs d []) (hd : Dif xs) : d = srt xs := by
  refine srd_eq h.2.1 (srt_srd hd) fun x => ?_
  have h1 := h.1
  rw [List.append_nil] at h1
  rw [h1.mem_iff, (srt_perm xs).mem_iff]
theorem Lv.mem {xs d r : List Us} (h : Lv xs d r) {x : Us} (hx : x ∈ d ++ r) : x ∈ xs ∧ com x = true := by
  have := h.1.mem_iff.1 hx
  rw [List.mem_filter] at this
  exact this
theorem Lv.len {xs d r : List Us} (h : Lv xs d r) : d.length + r.length ≤ xs.length := by
  have h1 := h.1.length_eq
  rw [List.length_append] at h1
  have h2 := List.length_filter_le com xs
  omega
end Go.Proofs.Ytcaepgggffkjpaa.Cmn
