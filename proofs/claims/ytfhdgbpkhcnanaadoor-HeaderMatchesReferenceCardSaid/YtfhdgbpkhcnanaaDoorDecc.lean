/-
  decfield.appendDigits and decfield.Format: the bytes that they make.
-/
import Derived.Test.YtfhdgbpkhcnanaaDoorDecb
namespace Go.Proofs.YtfhdgbpkhcnanaaDoor.Dec
open Go.RowKit Go.Proofs Go.Proofs.YtfhdgbpkhcnanaaDoor.Byt

/-- The powers in the loops: the quotient by a power, its digit. -/
theorem pow_step {b n d j : Nat} (hb : 8 ≤ b) (hd : d = nd b n) (hj : j + 1 < d) : b ^ j * b ≤ n := by
  have hn : 1 ≤ n := by
    rcases Nat.eq_zero_or_pos n with h | h
    · subst h; rw [nd_small (by omega)] at hd; omega
    · exact h
  have h := pow_le (B := b) (by omega) n hn
  rw [← Nat.pow_succ]
  exact Nat.le_trans (Nat.pow_le_pow_right (by omega) (by omega)) h

/-- The first loop: the unit is a power. -/
def Unit1 (b d : Nat) (u j : Value) : Prop := ∃ k : Nat, j = .int .i64 (k : Int) ∧ k + 1 ≤ d ∧ u = .int .i64 ((b ^ k : Nat) : Int)

/-- The second loop: what has been appended, and the unit of the next digit. -/
def Unit2 (w : World) (K b n m d : Nat) (l : List UInt8) (v u j : Value) (W : World) : Prop :=
  ∃ k q : Nat, j = .int .i64 (k : Int) ∧ k ≤ d ∧ u = .int .i64 (q : Int) ∧ q = (if k < d then b ^ (d - 1 - k) else 0) ∧ Own W K v (m + k) (l ++ (tx b n).take k) ∧ Below K w W

theorem digit_at {b n d k q : Nat} (hb : 8 ≤ b) (hb3 : b ≤ 10) (hd : d = nd b n) (hk : k < d) (hq : q = (if k < d then b ^ (d - 1 - k) else 0)) :
    1 ≤ q ∧ ∃ p r c : Nat, ((n : Int) / (q : Int) = (p : Int) ∧ (p : Int) % (b : Int) = (r : Int) ∧ (q : Int) / (b : Int) = (c : Int)) ∧ (r < 10 ∧ p ≤ n ∧ c ≤ n) ∧ (tx b n)[k]? = some (UInt8.ofNat (48 + r)) ∧
      c = (if k + 1 < d then b ^ (d - 1 - (k + 1)) else 0) := by
  rw [if_pos hk] at hq
  have hpos : 1 ≤ q := by rw [hq]; exact Nat.pow_pos (by omega)
  refine ⟨hpos, n / q, n / q % b, q / b, ⟨by simp, by simp, by simp⟩, ⟨?_, Nat.div_le_self _ _, ?_⟩, ?_, ?_⟩
  · have := Nat.mod_lt (n / q) (show 0 < b by omega); omega
  · have hqn : q ≤ n + 1 := by
      rcases Nat.eq_zero_or_pos n with h | h
      · subst h
        rw [nd_small (by omega)] at hd
        rw [hq, show d - 1 - k = 0 by omega]; simp
      · have := pow_le (B := b) (by omega) n h
        have h2 : b ^ (d - 1 - k) ≤ b ^ (nd b n - 1) := Nat.pow_le_pow_right (by omega) (by omega)
        omega
    have h8 : q / b ≤ q / 8 := Nat.div_le_div_left hb (by omega)
    omega
  · rw [tx_at (by omega) n k (by omega), hq, hd]
  · by_cases h1 : k + 1 < d
    · rw [if_pos h1, hq]
      obtain ⟨j, hj⟩ : ∃ j, d - 1 - k = j + 1 := ⟨d - 1 - (k + 1), by omega⟩
      rw [hj, show d - 1 - (k + 1) = j by omega, Nat.pow_succ, Nat.mul_div_cancel _ (by omega)]
    · rw [if_neg h1, hq, show d - 1 - k = 0 by omega, Nat.pow_zero]
      exact Nat.div_eq_of_lt (by omega)

set_option maxHeartbeats 1000000 in
theorem appendDigits_any (K : Nat) (v : Value) (m n b : Nat) (l : List UInt8) (w : World) (hv : Own w K v m l) (hK : K ≤ w.heap.size) (hm : m ≤ 1000) (hb : vb (b : Int) = true) (hn : n < 9223372036854775808) :
    Calls Tryd.prog 39 #[v, .int .i64 (n : Int), .int .i64 (b : Int)] w fun e w' => ∃ v', e = .returned v' ∧ Own w' K v' (m + nd b n) (l ++ tx b n) ∧ Below K w w' := by
  have hb2 : 8 ≤ b := by have := vb_iff.1 hb; omega
  have hb3 : b ≤ 10 := by have := vb_iff.1 hb; omega
  have hd1 := nd_pos b n
  have hd2 := nd_lt_64 (B := b) (by omega) hn
  have hdig := digits_some n b hb hn
  have Hdig := hid hdig
  clear hdig
  obtain ⟨d, hd⟩ : ∃ d, d = nd b n := ⟨_, rfl⟩
  rw [← hd] at hd1 hd2 Hdig
  have Hd := hid hd
  clear hd
  go_enter Tryd.func39, Tryd.ntmps39
  go_wp2_with fail
  refine (Hdig.out _).mono ?_
  rintro e w' ⟨rfl, rfl⟩
  go_wp2_with fail
  go_loop [8, 14] (fun u j => Unit1 b d u j) (fun _ j => d - (intOf j).toNat)
  case atStart => exact ⟨0, rfl, by omega, rfl⟩
  case round =>
    obtain ⟨k, rfl, hk, rfl⟩ := hrel
    by_cases hlt : k + 1 < d
    · have h1 := pow_step (n := n) hb2 Hd.out hlt
      have h2 : ((b ^ k : Nat) : Int) * (b : Int) = ((b ^ k * b : Nat) : Int) := by simp
      have h3 : Hid (b ^ (k + 1) = b ^ k * b) := Nat.pow_succ ..
      generalize b ^ k * b = p at *
      generalize b ^ k = q at *
      go_wp2
      go_round
      case rel => exact ⟨k + 1, by go_num, by omega, by rw [h3.out]⟩
      case measure => simp [intOf]; omega
    · obtain rfl : d = k + 1 := by omega
      go_wp2
      go_loopw [0, 8, 21] (fun v' u j W => Unit2 w K b n m (k + 1) l v' u j W) (fun _ _ j _ => (k + 1) - (intOf j).toNat)
      case atStart => exact ⟨0, b ^ k, rfl, by omega, by simp, by simp, by simpa using hv, Below.refl _ _⟩
      case round =>
        obtain ⟨j, q, rfl, hj, rfl, hq, hown, hbel⟩ := hrel
        by_cases hlt : j < k + 1
        · have hKr : K ≤ wr.heap.size := Nat.le_trans hK hbel.size
          obtain ⟨hq0, p, r, c, ⟨e1, e2, e3⟩, ⟨hr10, hpn, hcq⟩, ht, hc⟩ := digit_at (n := n) hb2 hb3 Hd.out hlt hq
          have Hc := hid hc
          have Ht := hid ht
          clear hq hc ht
          have hu : (UInt8.ofNat (48 + r)).toNat = 48 + r := toNat_dig (B := 10) (by omega) hr10
          have Hu := hid hu
          clear hu
          go_wp2_with (at_builtin; refine wpList_push wr K u0 (m + j) (l ++ (tx b n).take j) (UInt8.ofNat (48 + r)) (48 + (r : Int)) (by rw [Hu.out]; simp) hown hKr (by omega) rfl (.tmp 23) (.tmp 31) rfl rfl rfl ?_; intro v1 w1 hown1 hb1)
          go_roundw
          case rel =>
            refine ⟨j + 1, c, by go_num, by omega, rfl, Hc.out, ?_, hbel.trans hb1⟩
            have hd := Hd.out
            rw [List.append_assoc] at hown1
            rw [List.take_add_one, Ht.out]
            exact hown1
          case measure => simp [intOf]; omega
        · obtain rfl : j = k + 1 := by omega
          have hd := Hd.out
          rw [hd, List.take_of_length_le (by rw [tx_length (by omega)]; omega)] at hown
          have Hown := hid hown
          clear hown hd hq
          go_wp2
          go_ret
          exact ⟨_, rfl, Hown.out, hbel⟩
end Go.Proofs.YtfhdgbpkhcnanaaDoor.Dec
