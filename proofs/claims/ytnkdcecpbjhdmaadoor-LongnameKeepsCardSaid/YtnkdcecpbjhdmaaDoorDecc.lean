/-
  decfield.appendDigits and decfield.Format: the bytes that they make.
-/
import Derived.Test.YtnkdcecpbjhdmaaDoorDecb
namespace Go.Proofs.YtnkdcecpbjhdmaaDoor.Dec
open Go.RowKit Go.Proofs Go.Proofs.YtnkdcecpbjhdmaaDoor.Byt

/-- The powers in the loops: the quotient by a power, its digit. -/
theorem pow_step {b n d j : Nat} (hb : 8 ≤ b) (hd : d = nd b n) (hj : j + 1 < d) : b ^ j * b ≤ n := by
  have hn : 1 ≤ n := by
    rcases Nat.eq_zero_or_pos n with h | h
    · subst h; rw [nd_small (by omega)] at hd; omega
    · exact h
  have h := pow_le (B := b) (by omega) n hn
  rw [← Nat.pow_succ]
  exact Nat.le_trans (Nat.pow_le_pow_right (by omega) (by omega)) h

/-- The first loop: the unit is a power. -/
def Unit1 (b d : Nat) (u j : Value) : Prop := ∃ k : Nat, j = .int .i64 (k : Int) ∧ k + 1 ≤ d ∧ u = .int .i64 ((b ^ k : Nat) : Int)

/-- The second loop: what has been appended, and the unit of the next digit. -/
def Unit2 (w : World) (K b n m d : Nat) (l : List UInt8) (v u j : Value) (W : World) : Prop :=
  ∃ k q : Nat, j = .int .i64 (k : Int) ∧ k ≤ d ∧ u = .int .i64 (q : Int) ∧ q = (if k < d then b ^ (d - 1 - k) else 0) ∧ Own W K v (m + k) (l ++ (tx b n).take k) ∧ Below K w W

theorem digit_at {b n d k q : Nat} (hb : 8 ≤ b) (hb3 : b ≤ 10) (hd : d = nd b n) (hk : k < d) (hq : q = (if k < d then b ^ (d - 1 - k) else 0)) :
    1 ≤ q ∧ ∃ p r c : Nat, ((n : Int) / (q : Int) = (p : Int) ∧ (p : Int) % (b : Int) = (r : Int) ∧ (q : Int) / (b : Int) = (c : Int)) ∧ (r < 10 ∧ p ≤ n ∧ c ≤ n) ∧ (tx b n)[k]? = some (UInt8.ofNat (48 + r)) ∧
      c = (if k + 1 < d then b ^ (d - 1 - (k + 1)) else 0) := by
  rw [if_pos hk] at hq
  have hpos : 1 ≤ q := by rw [hq]; exact Nat.pow_pos (by omega)
  refine ⟨hpos, n / q, n / q % b, q / b, ⟨by simp, by simp, by simp⟩, ⟨?_, Nat.div_le_self _ _, ?_⟩, ?_, ?_⟩
  · have := Nat.mod_lt (n / q) (show 0 < b by omega); omega
  · have hqn : q ≤ n + 1 := by
      rcases Nat.eq_zero_or_pos n with h | h
      · subst h
        rw [nd_small (by omega)] at hd
        rw [hq, show d - 1 - k = 0 by omega]; simp
      · have := pow_le (B := b) (by omega) n h
        have h2 : b ^ (d - 1 - k) ≤ b ^ (nd b n - 1) := Nat.pow_le_pow_right (by omega) (by omega)
        omega
    have h8 : q / b ≤ q / 8 := Nat.div_le_div_left hb (by omega)
    omega
  · rw [tx_at (by omega) n k (by omega), hq, hd]
  · by_cases h1 : k + 1 < d
    · rw [if_pos h1, hq]
      obtain ⟨j, hj⟩ : ∃ j, d - 1 - k = j + 1 := ⟨d - 1 - (k + 1), by omega⟩
      rw [hj, show d - 1 - (k + 1) = j by omega, Nat.pow_succ, Nat.mul_div_cancel _ (by omega)]
    · rw [if_neg h1, hq, show d - 1 - k = 0 by omega, Nat.pow_zero]
      exact Nat.div_eq_of_lt (by omega)

end Go.Proofs.YtnkdcecpbjhdmaaDoor.Dec
