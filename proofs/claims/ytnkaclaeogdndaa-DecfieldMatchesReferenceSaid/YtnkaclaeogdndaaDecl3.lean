/-
  DecfieldMatchesReference: for all numbers and bytes, Format, Parse, Digits and Blank return what the reference returns. No condition.
-/
import Derived.Test.YtnkaclaeogdndaaDeci
import Derived.Test.YtnkaclaeogdndaaLaw
namespace Go.Proofs.Ytnkaclaeogdndaa.Matches
open Go.ChangeShapes Go.WideShapes Go.ChangeAt Go.RowKit Go.Proofs Go.Proofs.Ytnkaclaeogdndaa.Byt Go.Proofs.Ytnkaclaeogdndaa.Dec Go.Proofs.Ytnkaclaeogdndaa.Frame

theorem space_next (l : List UInt8) (k : Nat) (h : k < l.length) : spaces (l.take (k + 1)) = (spaces (l.take k) && ((l[k].toNat : Int) == 32)) := by
  unfold spaces
  rw [List.take_succ_eq_append_getElem h, List.all_append, Bool.eq_iff_iff]
  simp [← UInt8.toNat_inj]
  omega

theorem fout_small (a b wd : Int) : (fout a b wd).length ≤ 140737488355328 := by
  unfold fout
  split
  · rename_i h
    unfold ferr at h
    split at h
    · rename_i hv
      split at h
      · rename_i h2
        have := vw_iff.1 hv.2
        rw [field_length (by have := vb_iff.1 hv.1; omega) (by omega)]
        omega
      · omega
    · omega
  · simp

theorem long (w : World) (a b c : Int) (A : Option Addr) (n k : Nat) (h : 100 < n) :
    Calls Try.prog 3 #[.int .i64 a, .int .i64 b, .int .i64 c, .slice A n k] w fun e w' => e = .returned (.bool true) ∧ Below w.heap.size w w' := by
  go_enter Try.func3, Try.ntmps3
  go_wp2_with fail
  refine (awake_any _).mono ?_
  rintro e w1 ⟨rfl, hb1⟩
  go_wp2_with fail
  refine (awake_any _).mono ?_
  rintro e w2 ⟨rfl, hb2⟩
  go_wp2_with fail
  go_ret
  exact ⟨rfl, hb1.trans (hb2.mono hb1.size)⟩

set_option maxHeartbeats 1000000 in
theorem walk (w : World) (a : Int) (_la : -9223372036854775808 ≤ a) (ha : a < 9223372036854775808) (b : Int) (_lb : -9223372036854775808 ≤ b) (_ub : b < 9223372036854775808) (wd : Int) (_lw : -9223372036854775808 ≤ wd) (_uw : wd < 9223372036854775808)
    (A : Option Addr) (n c : Nat) (l : List UInt8) (hr : Rd w w.heap.size A n l) (hc : n ≤ c) (_ : c ≤ maxLen) :
    Calls Try.prog 3 #[.int .i64 a, .int .i64 b, .int .i64 wd, .slice A n c] w fun e w' => e = .returned (.bool true) ∧ Below w.heap.size w w' := by
  by_cases h100 : 100 < n
  · exact long w a b wd A n c h100
  by_cases h0 : a < 0
  · have hdg : dgs a b = 0 := if_neg (by omega)
    have Hf := hid fun w' => format_any a b wd w' ha
    have Hg := hid fun w' => rformat_any a b wd w' ha
    have Hd := hid (digits_any a b ha)
    go_enter Try.func3, Try.ntmps3
    go_wp2_with fail
    refine (awake_any _).mono ?_
    rintro e w1 ⟨rfl, hb1⟩
    go_wp2_with fail
    refine (Hf.out _).mono ?_
    rintro e w2 ⟨v2, rfl, hown2, hb2⟩
    have hb12 := hb1.trans (hb2.mono hb1.size)
    go_wp2_with fail
    refine (Hg.out _).mono ?_
    rintro e w3 ⟨v3, rfl, hown3, hb3⟩
    have hb13 := hb12.trans (hb3.mono hb12.size)
    go_wp2_with fail
    refine (parse_any _ A n c l b _ (hr.below hb13) hc).mono ?_
    rintro e w4 ⟨rfl, rfl⟩
    go_wp2_with fail
    refine (rparse_any w.heap.size A n c l b _ (hr.below hb13) hb13.size).mono ?_
    rintro e w4 ⟨rfl, hb4⟩
    have hb14 := hb13.trans (hb4.mono hb13.size)
    have hr4 := hr.below hb14
    obtain ⟨A2, c2, rfl, hrd2, _, _⟩ := (hown2.below hb3).below hb4 |>.reads
    obtain ⟨A3, c3, rfl, hrd3, _, _⟩ := (hown3.below hb4).reads
    clear hb1 hb2 hb12 hb3 hb13 hb4 hown2 hown3 hr
    go_wp2_with fail
    go_loop [18, 19] (fun s i => ∃ k : Nat, k ≤ n ∧ i = .int .i64 (k : Int) ∧ s = .bool (spaces (l.take k))) (fun _ i => n - (intOf i).toNat)
    case atStart => exact ⟨0, by omega, rfl, by simp [spaces]⟩
    case round =>
      obtain ⟨k, hk, rfl, rfl⟩ := hrel
      by_cases hlt : k < n
      · have hkl : k < l.length := by have := hr4.1; omega
        obtain ⟨b0, o, rfl, _, hcell⟩ := hr4.2 k hkl
        have hnx := hid (space_next l k hkl)
        generalize l[k] = u at *
        cases hs : spaces (l.take k)
        · have Hn := hid (by have := hnx.out; rwa [hs, Bool.false_and] at this : spaces (l.take (k + 1)) = false)
          clear hnx
          go_wp2
          go_round
          case rel => exact ⟨k + 1, by omega, by go_num, by rw [Hn.out]⟩
          case measure => simp [intOf]; omega
        · have Hn := hid (by have := hnx.out; rwa [hs, Bool.true_and] at this : spaces (l.take (k + 1)) = ((u.toNat : Int) == 32))
          clear hnx
          go_wp2
          go_round
          case rel => exact ⟨k + 1, by omega, by go_num, by rw [Hn.out]⟩
          case measure => simp [intOf]; omega
      · obtain rfl : k = n := by omega
        have hall : spaces (l.take k) = spaces l := by rw [take_all hr4.1]
        go_wp2_with fail
        refine (same_any _ rfl w4.heap.size w4.heap.size A2 A3 _ c2 _ c3 _ _ w4 hrd2 hrd3 (fout_small _ _ _)).mono ?_
        rintro e w5 ⟨rfl, m, rfl⟩
        go_wp2_with (go_at_call 17; refine (Hd.out _).mono ?_; rintro e w6 ⟨rfl, rfl⟩)
        refine (blank_any _ A k c l _ (hr4.drewN m) (by omega)).mono ?_
        rintro e w6 ⟨rfl, rfl⟩
        go_wp2_with fail
        go_ret
        exact ⟨ret_bool (by simp), hb14.trans (below_drewN _ _)⟩
  · cases hv : vb b
    · have hdg : dgs a b = 0 := if_neg (by rw [hv]; simp)
      have Hf := hid fun w' => format_any a b wd w' ha
      have Hg := hid fun w' => rformat_any a b wd w' ha
      have Hd := hid (digits_any a b ha)
      go_enter Try.func3, Try.ntmps3
      go_wp2_with fail
      refine (awake_any _).mono ?_
      rintro e w1 ⟨rfl, hb1⟩
      go_wp2_with fail
      refine (Hf.out _).mono ?_
      rintro e w2 ⟨v2, rfl, hown2, hb2⟩
      have hb12 := hb1.trans (hb2.mono hb1.size)
      go_wp2_with fail
      refine (Hg.out _).mono ?_
      rintro e w3 ⟨v3, rfl, hown3, hb3⟩
      have hb13 := hb12.trans (hb3.mono hb12.size)
      go_wp2_with fail
      refine (parse_any _ A n c l b _ (hr.below hb13) hc).mono ?_
      rintro e w4 ⟨rfl, rfl⟩
      go_wp2_with fail
      refine (rparse_any w.heap.size A n c l b _ (hr.below hb13) hb13.size).mono ?_
      rintro e w4 ⟨rfl, hb4⟩
      have hb14 := hb13.trans (hb4.mono hb13.size)
      have hr4 := hr.below hb14
      obtain ⟨A2, c2, rfl, hrd2, _, _⟩ := (hown2.below hb3).below hb4 |>.reads
      obtain ⟨A3, c3, rfl, hrd3, _, _⟩ := (hown3.below hb4).reads
      clear hb1 hb2 hb12 hb3 hb13 hb4 hown2 hown3 hr
      go_wp2_with (go_at_call 14; refine (based_any _ _).mono ?_; rintro e w' ⟨rfl, rfl⟩)
      go_loop [18, 19] (fun s i => ∃ k : Nat, k ≤ n ∧ i = .int .i64 (k : Int) ∧ s = .bool (spaces (l.take k))) (fun _ i => n - (intOf i).toNat)
      case atStart => exact ⟨0, by omega, rfl, by simp [spaces]⟩
      case round =>
        obtain ⟨k, hk, rfl, rfl⟩ := hrel
        by_cases hlt : k < n
        · have hkl : k < l.length := by have := hr4.1; omega
          obtain ⟨b0, o, rfl, _, hcell⟩ := hr4.2 k hkl
          have hnx := hid (space_next l k hkl)
          generalize l[k] = u at *
          cases hs : spaces (l.take k)
          · have Hn := hid (by have := hnx.out; rwa [hs, Bool.false_and] at this : spaces (l.take (k + 1)) = false)
            clear hnx
            go_wp2
            go_round
            case rel => exact ⟨k + 1, by omega, by go_num, by rw [Hn.out]⟩
            case measure => simp [intOf]; omega
          · have Hn := hid (by have := hnx.out; rwa [hs, Bool.true_and] at this : spaces (l.take (k + 1)) = ((u.toNat : Int) == 32))
            clear hnx
            go_wp2
            go_round
            case rel => exact ⟨k + 1, by omega, by go_num, by rw [Hn.out]⟩
            case measure => simp [intOf]; omega
        · obtain rfl : k = n := by omega
          have hall : spaces (l.take k) = spaces l := by rw [take_all hr4.1]
          go_wp2_with fail
          refine (same_any _ rfl w4.heap.size w4.heap.size A2 A3 _ c2 _ c3 _ _ w4 hrd2 hrd3 (fout_small _ _ _)).mono ?_
          rintro e w5 ⟨rfl, m, rfl⟩
          go_wp2_with (go_at_call 17; refine (Hd.out _).mono ?_; rintro e w6 ⟨rfl, rfl⟩)
          refine (blank_any _ A k c l _ (hr4.drewN m) (by omega)).mono ?_
          rintro e w6 ⟨rfl, rfl⟩
          go_wp2_with fail
          go_ret
          exact ⟨ret_bool (by simp), hb14.trans (below_drewN _ _)⟩
    · obtain ⟨b', rfl⟩ := Int.eq_ofNat_of_zero_le (a := b) (by have := vb_iff.1 hv; omega)
      obtain ⟨a', rfl⟩ := Int.eq_ofNat_of_zero_le (a := a) (by omega)
      have hdg : dgs (a' : Int) (b' : Int) = ((tx b' a').length : Int) := by
        unfold dgs
        rw [if_pos ⟨by omega, hv⟩, Int.toNat_natCast, Int.toNat_natCast, tx_length (by have := vb_iff.1 hv; omega)]
      have Ht := hid (text_any b' hv a' (by omega))
      have hlen : (tx b' a').length ≤ 63 := by rw [tx_length (by have := vb_iff.1 hv; omega)]; exact nd_lt_64 (by have := vb_iff.1 hv; omega) (by omega)
      have Hf := hid fun w' => format_any a' b' wd w' ha
      have Hg := hid fun w' => rformat_any a' b' wd w' ha
      have Hd := hid (digits_any a' b' ha)
      clear h0 _la ha _lb _ub
      go_enter Try.func3, Try.ntmps3
      go_wp2_with fail
      refine (awake_any _).mono ?_
      rintro e w1 ⟨rfl, hb1⟩
      go_wp2_with fail
      refine (Hf.out _).mono ?_
      rintro e w2 ⟨v2, rfl, hown2, hb2⟩
      have hb12 := hb1.trans (hb2.mono hb1.size)
      go_wp2_with fail
      refine (Hg.out _).mono ?_
      rintro e w3 ⟨v3, rfl, hown3, hb3⟩
      have hb13 := hb12.trans (hb3.mono hb12.size)
      go_wp2_with fail
      refine (parse_any _ A n c l b' _ (hr.below hb13) hc).mono ?_
      rintro e w4 ⟨rfl, rfl⟩
      go_wp2_with fail
      refine (rparse_any w.heap.size A n c l b' _ (hr.below hb13) hb13.size).mono ?_
      rintro e w4 ⟨rfl, hb4⟩
      have hb14 := hb13.trans (hb4.mono hb13.size)
      have hr4 := hr.below hb14
      obtain ⟨A2, c2, rfl, hrd2, _, _⟩ := (hown2.below hb3).below hb4 |>.reads
      obtain ⟨A3, c3, rfl, hrd3, _, _⟩ := (hown3.below hb4).reads
      clear hb1 hb2 hb12 hb3 hb13 hb4 hown2 hown3 hr
      go_wp2_with (first | (go_at_call 14; refine (based_any _ _).mono ?_; rintro e w' ⟨rfl, rfl⟩) | (go_at_call 15; refine (Ht.out _).mono ?_; rintro e w5 ⟨rfl, m5, rfl⟩))
      have hr4' := hr4
      clear hr4
      have hr4 := hr4'.drewN m5
      have hrd2' := hrd2.drewN m5
      have hrd3' := hrd3.drewN m5
      clear hrd2 hrd3 hr4'
      have hrd2 := hrd2'
      have hrd3 := hrd3'
      clear hrd2' hrd3'
      go_loop [18, 19] (fun s i => ∃ k : Nat, k ≤ n ∧ i = .int .i64 (k : Int) ∧ s = .bool (spaces (l.take k))) (fun _ i => n - (intOf i).toNat)
      case atStart => exact ⟨0, by omega, rfl, by simp [spaces]⟩
      case round =>
        obtain ⟨k, hk, rfl, rfl⟩ := hrel
        by_cases hlt : k < n
        · have hkl : k < l.length := by have := hr4.1; omega
          obtain ⟨b0, o, rfl, _, hcell⟩ := hr4.2 k hkl
          have hnx := hid (space_next l k hkl)
          generalize l[k] = u at *
          cases hs : spaces (l.take k)
          · have Hn := hid (by have := hnx.out; rwa [hs, Bool.false_and] at this : spaces (l.take (k + 1)) = false)
            clear hnx
            go_wp2
            go_round
            case rel => exact ⟨k + 1, by omega, by go_num, by rw [Hn.out]⟩
            case measure => simp [intOf]; omega
          · have Hn := hid (by have := hnx.out; rwa [hs, Bool.true_and] at this : spaces (l.take (k + 1)) = ((u.toNat : Int) == 32))
            clear hnx
            go_wp2
            go_round
            case rel => exact ⟨k + 1, by omega, by go_num, by rw [Hn.out]⟩
            case measure => simp [intOf]; omega
        · obtain rfl : k = n := by omega
          have hall : spaces (l.take k) = spaces l := by rw [take_all hr4.1]
          go_wp2_with fail
          refine (same_any _ rfl _ _ A2 A3 _ c2 _ c3 _ _ _ hrd2 hrd3 (fout_small _ _ _)).mono ?_
          rintro e w5 ⟨rfl, m, rfl⟩
          go_wp2_with (go_at_call 17; refine (Hd.out _).mono ?_; rintro e w6 ⟨rfl, rfl⟩)
          refine (blank_any w.heap.size A k c l (w4.drewN (m5 + m)) (show Rd (w4.drewN (m5 + m)) _ _ _ _ from hr4) (by omega)).mono ?_
          rintro e w6 ⟨rfl, rfl⟩
          go_wp2_with fail
          go_ret
          exact ⟨ret_bool (by simp), hb14.trans (below_drewN _ _)⟩

set_option maxRecDepth 100000 in
theorem proved : Rows.DecfieldMatchesReferenceSaid :=
  OpenClaim.holds_of_wide 3 Try.f3 rfl rfl rfl rfl rfl rfl rfl ⟨rfl, rfl, rfl, rfl, rfl⟩ rfl rfl rfl rfl rfl (by kernel_rfl) Try.func3 (by kernel_rfl)
    (of_decide_eq_true (by kernel_rfl)) (by unfold Func.isWrapper; rw [if_neg (of_decide_eq_false (by kernel_rfl))]; exact ⟨rfl, rfl⟩)
    (fun os started H enc _ => lifted (started := started) (s := Rows.decfieldMatchesReferenceSpec) rfl
      (fun ds h => by match ds, h with | [_, _, _, _], _ => rfl) (by kernel_rfl)
      (by kernel_rfl) (by kernel_rfl) Try.func3
      (ChangeSpec.witness6 (enc := enc) (C := Try.checked) false ⟨#[], #[.int .i64 0, .int .i64 0, .int .i64 0, .slice none 0 0], []⟩ 8 (by kernel_rfl) (by kernel_rfl) (by kernel_rfl) (by kernel_rfl))
      (fun W base args ds p h => by
        obtain ⟨hval, hA, _⟩ := h
        rw [show Try.f3.params = #[3, 3, 3, 22] from by kernel_rfl] at hA hval
        obtain ⟨v0, vs0, d0, ds0, p0, q0, hargs, rfl, rfl, k0, r0⟩ := trodAll_cons hA
        obtain ⟨v1, vs1, d1, ds1, p1, q1, rfl, rfl, rfl, k1, r1⟩ := trodAll_cons r0
        obtain ⟨v2, vs2, d2, ds2, p2, q2, rfl, rfl, rfl, k2, r2⟩ := trodAll_cons r1
        obtain ⟨v3, vs3, d3, ds3, p3, q3, rfl, rfl, rfl, k3, r3⟩ := trodAll_cons r2
        obtain ⟨rfl, rfl, rfl⟩ := trodAll_nil r3
        obtain rfl : args = #[v0, v1, v2, v3] := by cases args; simp_all
        obtain ⟨a0, rfl, l0, u0⟩ := open_i64 (hval 0 _ v0 rfl rfl) k0
        obtain ⟨a1, rfl, l1, u1⟩ := open_i64 (hval 1 _ v1 rfl rfl) k1
        obtain ⟨a2, rfl, l2, u2⟩ := open_i64 (hval 2 _ v2 rfl rfl) k2
        obtain ⟨A3, n3, c3, l3, rfl, h3, m3, g3⟩ := open_bytes (hval 3 _ v3 rfl rfl) k3
        exact walk W a0 l0 u0 a1 l1 u1 a2 l2 u2 A3 n3 c3 l3 h3 m3 g3))
#print axioms proved
end Go.Proofs.Ytnkaclaeogdndaa.Matches
