/-
  DecfieldUnique: a field that is accepted is the field of its number; nothing else is accepted. For every byte slice and either base: no condition.
-/
import Derived.Test.YtnkaclaeogdndaaDeci
import Derived.Test.YtnkaclaeogdndaaLaw
namespace Go.Proofs.Ytnkaclaeogdndaa.Unique
open Go.ChangeShapes Go.WideShapes Go.ChangeAt Go.RowKit Go.Proofs Go.Proofs.Ytnkaclaeogdndaa.Byt Go.Proofs.Ytnkaclaeogdndaa.Dec Go.Proofs.Ytnkaclaeogdndaa.Frame

theorem long (w : World) (A : Option Addr) (n c : Nat) (h : 100 < n) (oct : Bool) :
    Calls Try.prog 5 #[.slice A n c, .bool oct] w fun e w' => e = .returned (.bool true) ∧ Below w.heap.size w w' := by
  go_enter Try.func5, Try.ntmps5
  go_wp2_with fail
  refine (awake_any _).mono ?_
  rintro e w1 ⟨rfl, hb1⟩
  go_wp2_with fail
  refine (awake_any _).mono ?_
  rintro e w2 ⟨rfl, hb2⟩
  go_wp2_with fail
  go_ret
  exact ⟨rfl, hb1.trans (hb2.mono hb1.size)⟩

set_option maxHeartbeats 1000000 in
theorem walk (w : World) (A : Option Addr) (n c : Nat) (l : List UInt8) (hr : Rd w w.heap.size A n l) (hc : n ≤ c) (_ : c ≤ maxLen) (oct : Bool) :
    Calls Try.prog 5 #[.slice A n c, .bool oct] w fun e w' => e = .returned (.bool true) ∧ Below w.heap.size w w' := by
  by_cases h100 : 100 < n
  · exact long w A n c h100 oct
  cases oct
  · have h10 : vb 10 = true := rfl
    by_cases hw : 1 ≤ n ∧ n ≤ 18
    · have hv : vb 10 = true ∧ vw (l.length : Int) = true := ⟨rfl, by rw [hr.1]; exact vw_iff.2 (by omega)⟩
      cases hp : parse 10 l with
      | none =>
        obtain ⟨e1, e2⟩ := perr_3 hv hp
        clear hv hp
        go_enter Try.func5, Try.ntmps5
        go_wp2_with fail
        refine (awake_any _).mono ?_
        rintro e w1 ⟨rfl, hb1⟩
        have hr1 := hr.below hb1
        go_wp2_with fail
        refine (parse_any _ A n c l 10 _ hr1 hc).mono ?_
        rintro e w2 ⟨rfl, rfl⟩
        go_wp2_with fail
        go_ret
        exact ⟨rfl, hb1⟩
      | some m =>
        obtain ⟨e1, e2⟩ := perr_0 hv hp
        obtain ⟨hle, hfield⟩ := parse_some (by omega) (by omega) hp
        rw [hr.1] at hle hfield
        have hm : m < 9223372036854775808 := by
          have h3 := lt_pow (B := 10) (by omega) m
          have h4 : 10 ^ nd 10 m ≤ 10 ^ 18 := Nat.pow_le_pow_right (by omega) (by omega)
          have h5 : 10 ^ 18 ≤ 1000000000000000000 := by decide +kernel
          omega
        have Hf := hid (format_fit m 10 n hm h10 hw hle)
        have Hl := hid hfield
        clear hv hp hfield
        go_enter Try.func5, Try.ntmps5
        go_wp2_with fail
        refine (awake_any _).mono ?_
        rintro e w1 ⟨rfl, hb1⟩
        have hr1 := hr.below hb1
        go_wp2_with fail
        refine (parse_any _ A n c l 10 _ hr1 hc).mono ?_
        rintro e w2 ⟨rfl, rfl⟩
        go_wp2_with fail
        refine (Hf.out _).mono ?_
        rintro e w3 ⟨A3, c3, rfl, hown, hrd, hc3, hb3⟩
        go_wp2_with fail
        refine (same_any _ rfl w3.heap.size _ A3 A n c3 n c _ l w3 hrd (hr1.below (hb3.mono hb1.size)) (by omega)).mono ?_
        rintro e w4 ⟨rfl, k, rfl⟩
        go_wp2_with fail
        go_ret
        exact ⟨ret_bool (by unfold field at *; rw [← Hl.out]; simp), (hb1.trans (hb3.mono hb1.size)).trans (below_drewN _ _)⟩
    · obtain ⟨e1, e2⟩ := perr_13 (l := l) (b := 10) (by rintro ⟨_, h⟩; rw [hr.1] at h; have := vw_iff.1 h; omega)
      by_cases hn0 : n = 0
      · have hn1 : ((n : Int) == 0) = true := by simp; omega
        clear hw hn0
        go_enter Try.func5, Try.ntmps5
        go_wp2_with fail
        refine (awake_any _).mono ?_
        rintro e w1 ⟨rfl, hb1⟩
        have hr1 := hr.below hb1
        go_wp2_with fail
        refine (parse_any _ A n c l 10 _ hr1 hc).mono ?_
        rintro e w2 ⟨rfl, rfl⟩
        go_wp2_with fail
        go_ret
        exact ⟨rfl, hb1⟩
      · have hn1 : ((n : Int) == 0) = false := by simp; omega
        have hn2 : 18 < n := by omega
        clear hw hn0
        go_enter Try.func5, Try.ntmps5
        go_wp2_with fail
        refine (awake_any _).mono ?_
        rintro e w1 ⟨rfl, hb1⟩
        have hr1 := hr.below hb1
        go_wp2_with fail
        refine (parse_any _ A n c l 10 _ hr1 hc).mono ?_
        rintro e w2 ⟨rfl, rfl⟩
        go_wp2_with fail
        go_ret
        exact ⟨ret_bool (decide_eq_true (by omega)), hb1⟩
  · have h8 : vb 8 = true := rfl
    by_cases hw : 1 ≤ n ∧ n ≤ 18
    · have hv : vb 8 = true ∧ vw (l.length : Int) = true := ⟨rfl, by rw [hr.1]; exact vw_iff.2 (by omega)⟩
      cases hp : parse 8 l with
      | none =>
        obtain ⟨e1, e2⟩ := perr_3 hv hp
        clear hv hp
        go_enter Try.func5, Try.ntmps5
        go_wp2_with fail
        refine (awake_any _).mono ?_
        rintro e w1 ⟨rfl, hb1⟩
        have hr1 := hr.below hb1
        go_wp2_with fail
        refine (parse_any _ A n c l 8 _ hr1 hc).mono ?_
        rintro e w2 ⟨rfl, rfl⟩
        go_wp2_with fail
        go_ret
        exact ⟨rfl, hb1⟩
      | some m =>
        obtain ⟨e1, e2⟩ := perr_0 hv hp
        obtain ⟨hle, hfield⟩ := parse_some (by omega) (by omega) hp
        rw [hr.1] at hle hfield
        have hm : m < 9223372036854775808 := by
          have h3 := lt_pow (B := 8) (by omega) m
          have h4 : 8 ^ nd 8 m ≤ 8 ^ 18 := Nat.pow_le_pow_right (by omega) (by omega)
          have h5 : 8 ^ 18 ≤ 1000000000000000000 := by decide +kernel
          omega
        have Hf := hid (format_fit m 8 n hm h8 hw hle)
        have Hl := hid hfield
        clear hv hp hfield
        go_enter Try.func5, Try.ntmps5
        go_wp2_with fail
        refine (awake_any _).mono ?_
        rintro e w1 ⟨rfl, hb1⟩
        have hr1 := hr.below hb1
        go_wp2_with fail
        refine (parse_any _ A n c l 8 _ hr1 hc).mono ?_
        rintro e w2 ⟨rfl, rfl⟩
        go_wp2_with fail
        refine (Hf.out _).mono ?_
        rintro e w3 ⟨A3, c3, rfl, hown, hrd, hc3, hb3⟩
        go_wp2_with fail
        refine (same_any _ rfl w3.heap.size _ A3 A n c3 n c _ l w3 hrd (hr1.below (hb3.mono hb1.size)) (by omega)).mono ?_
        rintro e w4 ⟨rfl, k, rfl⟩
        go_wp2_with fail
        go_ret
        exact ⟨ret_bool (by unfold field at *; rw [← Hl.out]; simp), (hb1.trans (hb3.mono hb1.size)).trans (below_drewN _ _)⟩
    · obtain ⟨e1, e2⟩ := perr_13 (l := l) (b := 8) (by rintro ⟨_, h⟩; rw [hr.1] at h; have := vw_iff.1 h; omega)
      by_cases hn0 : n = 0
      · have hn1 : ((n : Int) == 0) = true := by simp; omega
        clear hw hn0
        go_enter Try.func5, Try.ntmps5
        go_wp2_with fail
        refine (awake_any _).mono ?_
        rintro e w1 ⟨rfl, hb1⟩
        have hr1 := hr.below hb1
        go_wp2_with fail
        refine (parse_any _ A n c l 8 _ hr1 hc).mono ?_
        rintro e w2 ⟨rfl, rfl⟩
        go_wp2_with fail
        go_ret
        exact ⟨rfl, hb1⟩
      · have hn1 : ((n : Int) == 0) = false := by simp; omega
        have hn2 : 18 < n := by omega
        clear hw hn0
        go_enter Try.func5, Try.ntmps5
        go_wp2_with fail
        refine (awake_any _).mono ?_
        rintro e w1 ⟨rfl, hb1⟩
        have hr1 := hr.below hb1
        go_wp2_with fail
        refine (parse_any _ A n c l 8 _ hr1 hc).mono ?_
        rintro e w2 ⟨rfl, rfl⟩
        go_wp2_with fail
        go_ret
        exact ⟨ret_bool (decide_eq_true (by omega)), hb1⟩

set_option maxRecDepth 100000 in
theorem proved : Rows.DecfieldUniqueSaid :=
  OpenClaim.holds_of_wide 5 Try.f5 rfl rfl rfl rfl rfl rfl rfl ⟨rfl, rfl, rfl, rfl, rfl⟩ rfl rfl rfl rfl rfl (by kernel_rfl) Try.func5 (by kernel_rfl)
    (of_decide_eq_true (by kernel_rfl)) (by unfold Func.isWrapper; rw [if_neg (of_decide_eq_false (by kernel_rfl))]; exact ⟨rfl, rfl⟩)
    (fun os started H enc _ => lifted (started := started) (s := Rows.decfieldUniqueSpec) rfl
      (fun ds h => by match ds, h with | [_, _], _ => rfl) (by kernel_rfl)
      (by kernel_rfl) (by kernel_rfl) Try.func5
      (ChangeSpec.witness6 (enc := enc) (C := Try.checked) false ⟨#[], #[.slice none 0 0, .bool false], []⟩ 8 (by kernel_rfl) (by kernel_rfl) (by kernel_rfl) (by kernel_rfl))
      (fun W base args ds p h => by
        obtain ⟨hval, hA, _⟩ := h
        rw [show Try.f5.params = #[22, 4] from by kernel_rfl] at hA hval
        obtain ⟨v0, vs0, d0, ds0, p0, q0, hargs, rfl, rfl, k0, r0⟩ := trodAll_cons hA
        obtain ⟨v1, vs1, d1, ds1, p1, q1, rfl, rfl, rfl, k1, r1⟩ := trodAll_cons r0
        obtain ⟨rfl, rfl, rfl⟩ := trodAll_nil r1
        obtain rfl : args = #[v0, v1] := by cases args; simp_all
        obtain ⟨A0, n0, c0, l0, rfl, h0, m0, g0⟩ := open_bytes (hval 0 _ v0 rfl rfl) k0
        obtain ⟨a1, rfl⟩ := open_b (hval 1 _ v1 rfl rfl) k1
        exact walk W A0 n0 c0 l0 h0 m0 g0 a1))
#print axioms proved
end Go.Proofs.Ytnkaclaeogdndaa.Unique
