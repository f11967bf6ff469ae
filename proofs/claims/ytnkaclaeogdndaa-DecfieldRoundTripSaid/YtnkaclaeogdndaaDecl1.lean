/-
  DecfieldRoundTrip: a number that fits is read back from its field, which has the width; one that does not fit has no field. For every number, either base, and every width from 1 to 18: no condition.
-/
import Derived.Test.YtnkaclaeogdndaaDeci
import Derived.Test.YtnkaclaeogdndaaLaw
namespace Go.Proofs.Ytnkaclaeogdndaa.RoundTrip
open Go.ChangeShapes Go.WideShapes Go.ChangeAt Go.RowKit Go.Proofs Go.Proofs.Ytnkaclaeogdndaa.Byt Go.Proofs.Ytnkaclaeogdndaa.Dec Go.Proofs.Ytnkaclaeogdndaa.Frame

theorem walk (w : World) (n : Int) (_h1 : -9223372036854775808 ≤ n) (h2 : n < 9223372036854775808) (oct : Bool) (wd : Nat) (_hw : wd < 256) :
    Calls Try.prog 4 #[.int .i64 n, .bool oct, .int .u8 (wd : Int)] w fun e w' => e = .returned (.bool true) ∧ Below w.heap.size w w' := by
  obtain ⟨W, hW⟩ : ∃ W : Nat, 1 + (wd : Int) % 18 = W := ⟨1 + wd % 18, by omega⟩
  have hW1 : 1 ≤ W := by omega
  have hW2 : W ≤ 18 := by omega
  cases oct
  · have h10 : vb 10 = true := rfl
    by_cases hfit : 0 ≤ n ∧ (nd 10 n.toNat : Int) ≤ W
    · obtain ⟨m, rfl⟩ := Int.eq_ofNat_of_zero_le hfit.1
      have hle : nd 10 m ≤ W := by have := hfit.2; simp only [Int.toNat_natCast] at this; omega
      have Hf := hid (format_fit m 10 W (by omega) h10 (by omega) hle)
      have Hp := hid fun A c w' h1 h2 => parse_fit m 10 W h10 (by omega) hle w'.heap.size A c w' h1 h2
      have Hd := hid (digits_some m 10 h10 (by omega))
      have hle' : ((nd 10 m : Nat) : Int) ≤ W := by omega
      clear hfit hle h2
      go_enter Try.func4, Try.ntmps4
      go_wp2_with fail
      refine (awake_any _).mono ?_
      rintro e w1 ⟨rfl, hb1⟩
      go_wp2_with fail
      refine (Hf.out _).mono ?_
      rintro e w2 ⟨A, c, rfl, hown, hrd, hc, hb2⟩
      go_wp2_with fail
      refine (Hd.out _).mono ?_
      rintro e w3 ⟨rfl, rfl⟩
      go_wp2_with fail
      refine (Hp.out _ _ _ hrd hc).mono ?_
      rintro e w3 ⟨rfl, rfl⟩
      go_wp2_with fail
      go_ret
      exact ⟨rfl, hb1.trans (hb2.mono hb1.size)⟩
    · have Hf := hid (format_unfit n 10 W (by omega) h10 (by omega) hfit)
      by_cases hneg : n < 0
      · clear hfit h2
        go_enter Try.func4, Try.ntmps4
        go_wp2_with fail
        refine (awake_any _).mono ?_
        rintro e w1 ⟨rfl, hb1⟩
        go_wp2_with fail
        refine (Hf.out _).mono ?_
        rintro e w2 ⟨A, c, rfl, hown, hb2⟩
        go_wp2_with fail
        go_ret
        exact ⟨rfl, hb1.trans (hb2.mono hb1.size)⟩
      · obtain ⟨m, rfl⟩ := Int.eq_ofNat_of_zero_le (a := n) (by omega)
        have Hd := hid (digits_some m 10 h10 (by omega))
        have hgt : (W : Int) < (nd 10 m : Nat) := by
          have h3 : ¬((nd 10 m : Int) ≤ W) := fun hh => hfit ⟨by omega, by simpa using hh⟩
          omega
        clear hfit h2 hneg
        go_enter Try.func4, Try.ntmps4
        go_wp2_with fail
        refine (awake_any _).mono ?_
        rintro e w1 ⟨rfl, hb1⟩
        go_wp2_with fail
        refine (Hf.out _).mono ?_
        rintro e w2 ⟨A, c, rfl, hown, hb2⟩
        go_wp2_with fail
        refine (Hd.out _).mono ?_
        rintro e w3 ⟨rfl, rfl⟩
        go_wp2_with fail
        go_ret
        exact ⟨rfl, hb1.trans (hb2.mono hb1.size)⟩
  · have h8 : vb 8 = true := rfl
    by_cases hfit : 0 ≤ n ∧ (nd 8 n.toNat : Int) ≤ W
    · obtain ⟨m, rfl⟩ := Int.eq_ofNat_of_zero_le hfit.1
      have hle : nd 8 m ≤ W := by have := hfit.2; simp only [Int.toNat_natCast] at this; omega
      have Hf := hid (format_fit m 8 W (by omega) h8 (by omega) hle)
      have Hp := hid fun A c w' h1 h2 => parse_fit m 8 W h8 (by omega) hle w'.heap.size A c w' h1 h2
      have Hd := hid (digits_some m 8 h8 (by omega))
      have hle' : ((nd 8 m : Nat) : Int) ≤ W := by omega
      clear hfit hle h2
      go_enter Try.func4, Try.ntmps4
      go_wp2_with fail
      refine (awake_any _).mono ?_
      rintro e w1 ⟨rfl, hb1⟩
      go_wp2_with fail
      refine (Hf.out _).mono ?_
      rintro e w2 ⟨A, c, rfl, hown, hrd, hc, hb2⟩
      go_wp2_with fail
      refine (Hd.out _).mono ?_
      rintro e w3 ⟨rfl, rfl⟩
      go_wp2_with fail
      refine (Hp.out _ _ _ hrd hc).mono ?_
      rintro e w3 ⟨rfl, rfl⟩
      go_wp2_with fail
      go_ret
      exact ⟨rfl, hb1.trans (hb2.mono hb1.size)⟩
    · have Hf := hid (format_unfit n 8 W (by omega) h8 (by omega) hfit)
      by_cases hneg : n < 0
      · clear hfit h2
        go_enter Try.func4, Try.ntmps4
        go_wp2_with fail
        refine (awake_any _).mono ?_
        rintro e w1 ⟨rfl, hb1⟩
        go_wp2_with fail
        refine (Hf.out _).mono ?_
        rintro e w2 ⟨A, c, rfl, hown, hb2⟩
        go_wp2_with fail
        go_ret
        exact ⟨rfl, hb1.trans (hb2.mono hb1.size)⟩
      · obtain ⟨m, rfl⟩ := Int.eq_ofNat_of_zero_le (a := n) (by omega)
        have Hd := hid (digits_some m 8 h8 (by omega))
        have hgt : (W : Int) < (nd 8 m : Nat) := by
          have h3 : ¬((nd 8 m : Int) ≤ W) := fun hh => hfit ⟨by omega, by simpa using hh⟩
          omega
        clear hfit h2 hneg
        go_enter Try.func4, Try.ntmps4
        go_wp2_with fail
        refine (awake_any _).mono ?_
        rintro e w1 ⟨rfl, hb1⟩
        go_wp2_with fail
        refine (Hf.out _).mono ?_
        rintro e w2 ⟨A, c, rfl, hown, hb2⟩
        go_wp2_with fail
        refine (Hd.out _).mono ?_
        rintro e w3 ⟨rfl, rfl⟩
        go_wp2_with fail
        go_ret
        exact ⟨rfl, hb1.trans (hb2.mono hb1.size)⟩

set_option maxRecDepth 100000 in
theorem proved : Rows.DecfieldRoundTripSaid :=
  OpenClaim.holds_of_wide 4 Try.f4 rfl rfl rfl rfl rfl rfl rfl ⟨rfl, rfl, rfl, rfl, rfl⟩ rfl rfl rfl rfl rfl (by kernel_rfl) Try.func4 (by kernel_rfl)
    (of_decide_eq_true (by kernel_rfl)) (by unfold Func.isWrapper; rw [if_neg (of_decide_eq_false (by kernel_rfl))]; exact ⟨rfl, rfl⟩)
    (fun os started H enc _ => lifted (started := started) (s := Rows.decfieldRoundTripSpec) rfl
      (fun ds h => by match ds, h with | [_, _, _], _ => rfl) (by kernel_rfl)
      (by kernel_rfl) (by kernel_rfl) Try.func4
      (ChangeSpec.witness6 (enc := enc) (C := Try.checked) false ⟨#[], #[.int .i64 0, .bool false, .int .u8 0], []⟩ 8 (by kernel_rfl) (by kernel_rfl) (by kernel_rfl) (by kernel_rfl))
      (fun W base args ds p h => by
        obtain ⟨hval, hA, _⟩ := h
        rw [show Try.f4.params = #[3, 4, 5] from by kernel_rfl] at hA hval
        obtain ⟨v0, vs0, d0, ds0, p0, q0, hargs, rfl, rfl, k0, r0⟩ := trodAll_cons hA
        obtain ⟨v1, vs1, d1, ds1, p1, q1, rfl, rfl, rfl, k1, r1⟩ := trodAll_cons r0
        obtain ⟨v2, vs2, d2, ds2, p2, q2, rfl, rfl, rfl, k2, r2⟩ := trodAll_cons r1
        obtain ⟨rfl, rfl, rfl⟩ := trodAll_nil r2
        obtain rfl : args = #[v0, v1, v2] := by cases args; simp_all
        obtain ⟨a0, rfl, l0, u0⟩ := open_i64 (hval 0 _ v0 rfl rfl) k0
        obtain ⟨a1, rfl⟩ := open_b (hval 1 _ v1 rfl rfl) k1
        obtain ⟨a2, rfl, u2⟩ := open_u8 (hval 2 _ v2 rfl rfl) k2
        exact walk W a0 l0 u0 a1 a2 u2))
#print axioms proved
end Go.Proofs.Ytnkaclaeogdndaa.RoundTrip
