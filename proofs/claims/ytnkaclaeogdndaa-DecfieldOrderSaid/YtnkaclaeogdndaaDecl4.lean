/-
  DecfieldOrder: greater numbers do not have fewer digits, and a number with d digits is less than the base to the power d. No condition.
-/
import Derived.Test.YtnkaclaeogdndaaDeci
import Derived.Test.YtnkaclaeogdndaaLaw
namespace Go.Proofs.Ytnkaclaeogdndaa.Order
open Go.ChangeShapes Go.WideShapes Go.ChangeAt Go.RowKit Go.Proofs Go.Proofs.Ytnkaclaeogdndaa.Byt Go.Proofs.Ytnkaclaeogdndaa.Dec Go.Proofs.Ytnkaclaeogdndaa.Frame

theorem out_neg (w : World) (n m : Int) (h : n < 0) (oct : Bool) :
    Calls Try.prog 6 #[.int .i64 n, .int .i64 m, .bool oct] w fun e w' => e = .returned (.bool true) ∧ Below w.heap.size w w' := by
  go_enter Try.func6, Try.ntmps6
  go_wp2_with fail
  refine (awake_any _).mono ?_
  rintro e w1 ⟨rfl, hb1⟩
  go_wp2_with fail
  refine (awake_any _).mono ?_
  rintro e w2 ⟨rfl, hb2⟩
  go_wp2_with fail
  go_ret
  exact ⟨rfl, hb1.trans (hb2.mono hb1.size)⟩
theorem out_less (w : World) (n m : Int) (h : 0 ≤ n) (h2 : m < n) (oct : Bool) :
    Calls Try.prog 6 #[.int .i64 n, .int .i64 m, .bool oct] w fun e w' => e = .returned (.bool true) ∧ Below w.heap.size w w' := by
  go_enter Try.func6, Try.ntmps6
  go_wp2_with fail
  refine (awake_any _).mono ?_
  rintro e w1 ⟨rfl, hb1⟩
  go_wp2_with fail
  refine (awake_any _).mono ?_
  rintro e w2 ⟨rfl, hb2⟩
  go_wp2_with fail
  go_ret
  exact ⟨rfl, hb1.trans (hb2.mono hb1.size)⟩

def ORel (b n d : Nat) (v i : Value) : Prop :=
  ∃ j q : Nat, v = .int .i64 (q : Int) ∧ i = .int .i64 ((j : Int) + 1) ∧ q ≤ n ∧ j + nd b q = d ∧ (q = 0 → n = 0)

set_option maxHeartbeats 1000000 in
theorem walk (w : World) (n : Int) (_l : -9223372036854775808 ≤ n) (hn : n < 9223372036854775808) (m : Int) (_l2 : -9223372036854775808 ≤ m) (hm : m < 9223372036854775808) (oct : Bool) :
    Calls Try.prog 6 #[.int .i64 n, .int .i64 m, .bool oct] w fun e w' => e = .returned (.bool true) ∧ Below w.heap.size w w' := by
  by_cases h0 : n < 0
  · exact out_neg w n m h0 oct
  by_cases h1 : m < n
  · exact out_less w n m (by omega) h1 oct
  obtain ⟨n, rfl⟩ := Int.eq_ofNat_of_zero_le (a := n) (by omega)
  obtain ⟨m, rfl⟩ := Int.eq_ofNat_of_zero_le (a := m) (by omega)
  have hnm : n ≤ m := by omega
  have hn' : n < 9223372036854775808 := by omega
  have hm' : m < 9223372036854775808 := by omega
  clear hn hm h0 h1 _l _l2
  cases oct
  · have hv : vb 10 = true := rfl
    have Hd := hid (digits_some n 10 hv (by omega))
    have He := hid (digits_some m 10 hv (by omega))
    have hmono := nd_mono (B := 10) (by omega) hnm
    have hp := nd_pos 10 n
    have h63 := nd_lt_64 (B := 10) (n := n) (by omega) (by omega)
    have H0 : Hid (n = 0 → nd 10 n = 1) := hid (fun h => by subst h; exact nd_small (by omega))
    obtain ⟨d, hd⟩ : ∃ d, nd 10 n = d := ⟨_, rfl⟩
    rw [hd] at Hd hmono hp H0 h63
    have Hdd := hid hd
    clear hd
    go_enter Try.func6, Try.ntmps6
    go_wp2_with fail
    refine (awake_any _).mono ?_
    rintro e w1 ⟨rfl, hb1⟩
    go_wp2_with fail
    refine (Hd.out _).mono ?_
    rintro e w2 ⟨rfl, rfl⟩
    go_wp2_with fail
    go_loop [9, 10] (fun q i => ORel 10 n d q i) (fun _ i => d - (intOf i).toNat)
    case atStart => exact ⟨0, n, rfl, rfl, by omega, by rw [Hdd.out]; omega, fun h => h⟩
    case round =>
      obtain ⟨j, q, rfl, rfl, hq, hj, h0⟩ := hrel
      have hpq := nd_pos 10 q
      by_cases hlt : j + 1 < d
      · have hqb : 10 ≤ q := by
          rcases Nat.lt_or_ge q 10 with h | h
          · rw [nd_small h] at hj; omega
          · exact h
        have hbig := nd_big (B := 10) (by omega) hqb
        clear h0
        have hlt2 : j + 1 < d := hlt
        go_wp2
        go_round
        case rel => exact ⟨j + 1, q / 10, by simp, by go_num, by omega, by omega, fun h => by omega⟩
        case measure => simp [intOf]; omega
      · have hqb : q < 10 := by
          rcases Nat.lt_or_ge q 10 with h | h
          · exact h
          · have := nd_big (B := 10) (by omega) h; have := nd_pos 10 (q / 10); omega
        have hle : (d : Int) ≤ ((nd 10 m : Nat) : Int) := by omega
        clear hj hpq hmono
        by_cases hz : q = 0
        · have hn0 := h0 hz
          have hd1 := H0.out hn0
          have e1 : ((n : Int) == 0) = true := by simp; omega
          have e2 : ((d : Int) == 1) = true := by simp; omega
          have hz1 : q ≤ 0 := by omega
          clear h0 hn0 hd1 hz
          go_wp2_with fail
          refine (He.out _).mono ?_
          rintro e w2 ⟨rfl, rfl⟩
          go_wp2_with fail
          go_ret
          exact ⟨ret_bool (by simp), hb1⟩
        · have hz1 : 0 < q := by omega
          clear h0 hz
          go_wp2_with fail
          refine (He.out _).mono ?_
          rintro e w2 ⟨rfl, rfl⟩
          go_wp2_with fail
          go_ret
          exact ⟨ret_bool (by simp), hb1⟩
  · have hv : vb 8 = true := rfl
    have Hd := hid (digits_some n 8 hv (by omega))
    have He := hid (digits_some m 8 hv (by omega))
    have hmono := nd_mono (B := 8) (by omega) hnm
    have hp := nd_pos 8 n
    have h63 := nd_lt_64 (B := 8) (n := n) (by omega) (by omega)
    have H0 : Hid (n = 0 → nd 8 n = 1) := hid (fun h => by subst h; exact nd_small (by omega))
    obtain ⟨d, hd⟩ : ∃ d, nd 8 n = d := ⟨_, rfl⟩
    rw [hd] at Hd hmono hp H0 h63
    have Hdd := hid hd
    clear hd
    go_enter Try.func6, Try.ntmps6
    go_wp2_with fail
    refine (awake_any _).mono ?_
    rintro e w1 ⟨rfl, hb1⟩
    go_wp2_with fail
    refine (Hd.out _).mono ?_
    rintro e w2 ⟨rfl, rfl⟩
    go_wp2_with fail
    go_loop [9, 10] (fun q i => ORel 8 n d q i) (fun _ i => d - (intOf i).toNat)
    case atStart => exact ⟨0, n, rfl, rfl, by omega, by rw [Hdd.out]; omega, fun h => h⟩
    case round =>
      obtain ⟨j, q, rfl, rfl, hq, hj, h0⟩ := hrel
      have hpq := nd_pos 8 q
      by_cases hlt : j + 1 < d
      · have hqb : 8 ≤ q := by
          rcases Nat.lt_or_ge q 8 with h | h
          · rw [nd_small h] at hj; omega
          · exact h
        have hbig := nd_big (B := 8) (by omega) hqb
        clear h0
        have hlt2 : j + 1 < d := hlt
        go_wp2
        go_round
        case rel => exact ⟨j + 1, q / 8, by simp, by go_num, by omega, by omega, fun h => by omega⟩
        case measure => simp [intOf]; omega
      · have hqb : q < 8 := by
          rcases Nat.lt_or_ge q 8 with h | h
          · exact h
          · have := nd_big (B := 8) (by omega) h; have := nd_pos 8 (q / 8); omega
        have hle : (d : Int) ≤ ((nd 8 m : Nat) : Int) := by omega
        clear hj hpq hmono
        by_cases hz : q = 0
        · have hn0 := h0 hz
          have hd1 := H0.out hn0
          have e1 : ((n : Int) == 0) = true := by simp; omega
          have e2 : ((d : Int) == 1) = true := by simp; omega
          have hz1 : q ≤ 0 := by omega
          clear h0 hn0 hd1 hz
          go_wp2_with fail
          refine (He.out _).mono ?_
          rintro e w2 ⟨rfl, rfl⟩
          go_wp2_with fail
          go_ret
          exact ⟨ret_bool (by simp), hb1⟩
        · have hz1 : 0 < q := by omega
          clear h0 hz
          go_wp2_with fail
          refine (He.out _).mono ?_
          rintro e w2 ⟨rfl, rfl⟩
          go_wp2_with fail
          go_ret
          exact ⟨ret_bool (by simp), hb1⟩

set_option maxRecDepth 100000 in
theorem proved : Rows.DecfieldOrderSaid :=
  OpenClaim.holds_of_wide 6 Try.f6 rfl rfl rfl rfl rfl rfl rfl ⟨rfl, rfl, rfl, rfl, rfl⟩ rfl rfl rfl rfl rfl (by kernel_rfl) Try.func6 (by kernel_rfl)
    (of_decide_eq_true (by kernel_rfl)) (by unfold Func.isWrapper; rw [if_neg (of_decide_eq_false (by kernel_rfl))]; exact ⟨rfl, rfl⟩)
    (fun os started H enc _ => lifted (started := started) (s := Rows.decfieldOrderSpec) rfl
      (fun ds h => by match ds, h with | [_, _, _], _ => rfl) (by kernel_rfl)
      (by kernel_rfl) (by kernel_rfl) Try.func6
      (ChangeSpec.witness6 (enc := enc) (C := Try.checked) false ⟨#[], #[.int .i64 0, .int .i64 0, .bool false], []⟩ 8 (by kernel_rfl) (by kernel_rfl) (by kernel_rfl) (by kernel_rfl))
      (fun W base args ds p h => by
        obtain ⟨hval, hA, _⟩ := h
        rw [show Try.f6.params = #[3, 3, 4] from by kernel_rfl] at hA hval
        obtain ⟨v0, vs0, d0, ds0, p0, q0, hargs, rfl, rfl, k0, r0⟩ := trodAll_cons hA
        obtain ⟨v1, vs1, d1, ds1, p1, q1, rfl, rfl, rfl, k1, r1⟩ := trodAll_cons r0
        obtain ⟨v2, vs2, d2, ds2, p2, q2, rfl, rfl, rfl, k2, r2⟩ := trodAll_cons r1
        obtain ⟨rfl, rfl, rfl⟩ := trodAll_nil r2
        obtain rfl : args = #[v0, v1, v2] := by cases args; simp_all
        obtain ⟨a0, rfl, l0, u0⟩ := open_i64 (hval 0 _ v0 rfl rfl) k0
        obtain ⟨a1, rfl, l1, u1⟩ := open_i64 (hval 1 _ v1 rfl rfl) k1
        obtain ⟨a2, rfl⟩ := open_b (hval 2 _ v2 rfl rfl) k2
        exact walk W a0 l0 u0 a1 l1 u1 a2))
#print axioms proved
end Go.Proofs.Ytnkaclaeogdndaa.Order
