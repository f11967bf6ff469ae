/-
  The small functions of decfield: what they answer at every argument.
-/
import Derived.Test.YtnkdcecpbjhdmaaDoorDecm
import Derived.Test.YtnkdcecpbjhdmaaDoorByt
namespace Go.Proofs.YtnkdcecpbjhdmaaDoor.Dec
open Go.RowKit Go.Proofs Go.Proofs.YtnkdcecpbjhdmaaDoor.Byt

/-- The numbers that are bases. -/
def vb (b : Int) : Bool := b == 8 || b == 10
theorem vb_iff {b : Int} : vb b = true ↔ b = 8 ∨ b = 10 := by simp [vb]

theorem validBase_any (b : Int) (w : World) : Calls Tryd.prog 51 #[.int .i64 b] w fun e w' => e = .returned (.bool (vb b)) ∧ w = w' := by
  by_cases h : b = 8
  · subst h
    go_enter Tryd.func51, Tryd.ntmps51
    go_wp2
    go_ret
    exact ⟨rfl, rfl⟩
  · have h8 : (b == 8) = false := by simpa using h
    have hv : Hid (vb b = (b == 10)) := by unfold Hid vb; rw [h8]; rfl
    go_enter Tryd.func51, Tryd.ntmps51
    go_wp2
    go_ret
    exact ⟨ret_bool hv.out.symm, rfl⟩

/-- The numbers that are widths. -/
def vw (n : Int) : Bool := decide (1 ≤ n) && decide (n ≤ 18)
theorem vw_iff {b : Int} : vw b = true ↔ 1 ≤ b ∧ b ≤ 18 := by simp [vw]
theorem validWidth_any (b : Int) (w : World) : Calls Tryd.prog 52 #[.int .i64 b] w fun e w' => e = .returned (.bool (vw b)) ∧ w = w' := by
  by_cases h : 1 ≤ b
  · have hv : Hid (vw b = decide (b ≤ 18)) := by unfold Hid vw; simp [h]
    go_enter Tryd.func52, Tryd.ntmps52
    go_wp2
    go_ret
    exact ⟨ret_bool hv.out.symm, rfl⟩
  · have hv : Hid (vw b = false) := by unfold Hid vw; simp [h]
    go_enter Tryd.func52, Tryd.ntmps52
    go_wp2
    go_ret
    exact ⟨ret_bool hv.out.symm, rfl⟩

theorem isDigit_any (c : UInt8) (b : Nat) (hb : b = 8 ∨ b = 10) (w : World) : Calls Tryd.prog 53 #[.int .u8 (c.toNat : Int), .int .i64 (b : Int)] w fun e w' => e = .returned (.bool (isD b c)) ∧ w = w' := by
  have hc : c.toNat < 256 := c.toNat_lt
  have hb1 : b ≤ 10 := by omega
  have hb2 : 8 ≤ b := by omega
  clear hb
  by_cases h : 48 ≤ c.toNat
  · have hv : Hid (isD b c = decide ((c.toNat : Int) < 48 + (b : Int))) := by
      unfold Hid isD; rw [Bool.eq_iff_iff]; simp; omega
    go_enter Tryd.func53, Tryd.ntmps53
    go_wp2
    go_ret
    exact ⟨ret_bool hv.out.symm, rfl⟩
  · have hv : Hid (isD b c = false) := by unfold Hid isD; simp [h]
    go_enter Tryd.func53, Tryd.ntmps53
    go_wp2
    go_ret
    exact ⟨ret_bool hv.out.symm, rfl⟩

/-- Digits: the number of digits, where there are any. -/
def dgs (n b : Int) : Int := if 0 ≤ n ∧ vb b = true then (nd b.toNat n.toNat : Int) else 0

theorem digits_none (n b : Int) (h : ¬(0 ≤ n ∧ vb b = true)) (w : World) : Calls Tryd.prog 43 #[.int .i64 n, .int .i64 b] w fun e w' => e = .returned (.int .i64 0) ∧ w = w' := by
  by_cases h0 : n < 0
  · clear h
    go_enter Tryd.func43, Tryd.ntmps43
    go_wp2_with (go_at_call 51; refine (validBase_any _ _).mono ?_; rintro e w' ⟨rfl, rfl⟩)
    go_ret
    exact ⟨rfl, rfl⟩
  · have hv : vb b = false := by
      cases hh : vb b
      · rfl
      · exact absurd ⟨by omega, hh⟩ h
    clear h
    go_enter Tryd.func43, Tryd.ntmps43
    go_wp2_with (go_at_call 51; refine (validBase_any _ _).mono ?_; rintro e w' ⟨rfl, rfl⟩)
    go_ret
    exact ⟨rfl, rfl⟩


/-- After some divisions: what is left, and how many digits have been counted. -/
def DgRel (B n : Nat) (c r : Value) : Prop := ∃ k q : Nat, c = .int .i64 (k : Int) ∧ r = .int .i64 (q : Int) ∧ q ≤ n ∧ k ≤ 64 ∧ ((q = 0 ∧ k = nd B n) ∨ (0 < q ∧ k + nd B q = nd B n))
theorem DgRel.start {B n : Nat} (hB : 2 ≤ B) : DgRel B n (.int .i64 1) (.int .i64 ((n / B : Nat) : Int)) := by
  refine ⟨1, n / B, rfl, rfl, Nat.div_le_self _ _, by omega, ?_⟩
  by_cases h : n < B
  · exact .inl ⟨Nat.div_eq_of_lt h, (nd_small h).symm⟩
  · have := nd_big hB (n := n) (by omega)
    exact .inr ⟨(Nat.le_div_iff_mul_le (by omega)).2 (by omega), by omega⟩
theorem DgRel.next {B n k q : Nat} (hB : 2 ≤ B) (hn : n < 9223372036854775808) (hq : q ≤ n) (h : k + nd B q = nd B n) :
    DgRel B n (.int .i64 ((k : Int) + 1)) (.int .i64 ((q / B : Nat) : Int)) := by
  have h64 := nd_lt_64 hB hn
  have hp := nd_pos B q
  refine ⟨k + 1, q / B, by simp, rfl, Nat.le_trans (Nat.div_le_self _ _) hq, by omega, ?_⟩
  by_cases hs : q < B
  · rw [nd_small hs] at h
    exact .inl ⟨Nat.div_eq_of_lt hs, h⟩
  · refine .inr ⟨(Nat.le_div_iff_mul_le (by omega)).2 (by omega), ?_⟩
    rw [nd_big hB (by omega)] at h
    omega

theorem quo_bd (q b : Nat) : 0 ≤ (q : Int) / (b : Int) ∧ (q : Int) / (b : Int) ≤ q :=
  ⟨Int.ediv_nonneg (by omega) (by omega), Int.ediv_le_self _ (by omega)⟩

set_option maxHeartbeats 400000 in
theorem digits_some (n b : Nat) (hb : vb (b : Int) = true) (hn : n < 9223372036854775808) (w : World) :
    Calls Tryd.prog 43 #[.int .i64 (n : Int), .int .i64 (b : Int)] w fun e w' => e = .returned (.int .i64 (nd b n : Int)) ∧ w = w' := by
  have hb2 : 8 ≤ b := by have := vb_iff.1 hb; omega
  have hq0 := quo_bd n b
  obtain ⟨hq1, hq2⟩ := hq0
  go_enter Tryd.func43, Tryd.ntmps43
  go_wp2_with (go_at_call 51; refine (validBase_any _ _).mono ?_; rintro e w' ⟨rfl, rfl⟩)
  go_loop [5, 6] (fun c r => DgRel b n c r) (fun _ r => (intOf r).toNat)
  case atStart => exact DgRel.start (by omega)
  case round =>
    clear hq1 hq2
    obtain ⟨k, q, rfl, rfl, hq, hk, hrel⟩ := hrel
    obtain ⟨hq1, hq2⟩ := quo_bd q b
    by_cases h0 : 0 < q
    · have hx := DgRel.next (B := b) (by omega) hn hq (by omega : k + nd b q = nd b n)
      have hm : Hid (q / b < q) := Nat.div_lt_self h0 (by omega)
      clear hrel
      go_wp2
      go_round
      case rel => exact hx
      case measure => have := hm.out; simp [intOf]; omega
    · have hx : nd b n = k := by omega
      go_wp2
      go_ret
      exact ⟨ret_int (by omega), rfl⟩
end Go.Proofs.YtnkdcecpbjhdmaaDoor.Dec
