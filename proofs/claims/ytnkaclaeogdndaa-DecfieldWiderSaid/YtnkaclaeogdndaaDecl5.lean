/-
  DecfieldWider: a wider field has the same digits, followed by more spaces. For every number and every two widths from 1 to 18: no condition.
-/
import Derived.Test.YtnkaclaeogdndaaDeci
import Derived.Test.YtnkaclaeogdndaaLaw
namespace Go.Proofs.Ytnkaclaeogdndaa.Wider
open Go.ChangeShapes Go.WideShapes Go.ChangeAt Go.RowKit Go.Proofs Go.Proofs.Ytnkaclaeogdndaa.Byt Go.Proofs.Ytnkaclaeogdndaa.Dec Go.Proofs.Ytnkaclaeogdndaa.Frame

theorem field_wider {n W V : Nat} (h : nd 10 n ≤ W) (h2 : W ≤ V) : (field 10 n V).take W = field 10 n W ∧ spaces ((field 10 n V).drop W) = true := by
  have hl := tx_length (B := 10) (by omega) n
  have hs : field 10 n V = field 10 n W ++ List.replicate (V - W) 32 := by
    unfold field
    rw [List.append_assoc, List.replicate_append_replicate, show W - nd 10 n + (V - W) = V - nd 10 n by omega]
  have hlen := field_length (B := 10) (by omega) h
  rw [hs]
  constructor
  · rw [List.take_append_of_le_length (by omega), List.take_of_length_le (by omega)]
  · rw [List.drop_append_of_le_length (by omega), List.drop_eq_nil_of_le (by omega), List.nil_append]
    unfold spaces
    rw [List.all_eq_true]
    intro x hx
    rw [List.mem_replicate] at hx
    simp [hx.2]

set_option maxHeartbeats 1000000 in
theorem walk (w : World) (n : Int) (_l : -9223372036854775808 ≤ n) (hn : n < 9223372036854775808) (wd : Nat) (hw : wd < 256) (more : Nat) (hm : more < 256) :
    Calls Try.prog 8 #[.int .i64 n, .int .u8 (wd : Int), .int .u8 (more : Int)] w fun e w' => e = .returned (.bool true) ∧ Below w.heap.size w w' := by
  have h10 : vb 10 = true := rfl
  obtain ⟨W, hW⟩ : ∃ W : Nat, 1 + (wd : Int) % 18 = W := ⟨1 + wd % 18, by omega⟩
  obtain ⟨M, hM⟩ : ∃ M : Nat, (more : Int) % 18 = M := ⟨more % 18, by omega⟩
  have hW1 : 1 ≤ W := by omega
  have hW2 : W ≤ 18 := by omega
  have hM2 : M < 18 := by omega
  by_cases hfit : 0 ≤ n ∧ (nd 10 n.toNat : Int) ≤ W
  · obtain ⟨m, rfl⟩ := Int.eq_ofNat_of_zero_le hfit.1
    have hle : nd 10 m ≤ W := by have := hfit.2; simp only [Int.toNat_natCast] at this; omega
    have hn' : m < 9223372036854775808 := by omega
    have Hf := hid (format_fit m 10 W hn' h10 (by omega) hle)
    clear hfit hn _l
    by_cases hV : W + M ≤ 18
    · obtain ⟨V, hVe⟩ : ∃ V : Nat, (W : Int) + (M : Int) = V := ⟨W + M, by omega⟩
      have hWV : W ≤ V := by omega
      have hV18 : V ≤ 18 := by omega
      have Hg := hid (format_fit m 10 V hn' h10 (by omega) (by omega))
      have Hw := hid (field_wider (n := m) hle hWV)
      have hsame : ((field 10 m V).take W == field 10 m W) = true := by rw [Hw.out.1]; simp
      have hsp : spaces ((field 10 m V).drop W) = true := Hw.out.2
      clear hV
      go_enter Try.func8, Try.ntmps8
      go_wp2_with fail
      refine (awake_any _).mono ?_
      rintro e w1 ⟨rfl, hb1⟩
      go_wp2_with fail
      refine (Hf.out _).mono ?_
      rintro e w2 ⟨A, c, rfl, hown, hrd, hc, hb2⟩
      go_wp2_with fail
      refine (Hg.out _).mono ?_
      rintro e w3 ⟨A3, c3, rfl, hown3, hrd3, hc3, hb3⟩
      have hb13 := (hb1.trans (hb2.mono hb1.size)).trans (hb3.mono (hb1.trans (hb2.mono hb1.size)).size)
      obtain ⟨b0, o0, rfl, _, _⟩ := hrd3.2 0 (by rw [hrd3.1]; omega)
      have hc3' : W ≤ c3 := by omega
      have Hs := hid (same_any _ rfl w3.heap.size w2.heap.size (some ⟨b0, o0, none⟩) A W c3 W c _ _ w3 (hrd3.pre hWV) (hrd.below hb3) (by omega))
      by_cases hcw : c3 = W
      · have hcw' := hcw.symm
        clear hcw
        subst hcw'
        have Hb := hid fun k => blank_any w3.heap.size (some ⟨b0, o0, none⟩) 0 0 [] (w3.drewN k) (Rd.nil _ _ _) (by omega)
        clear hown hown3
        go_wp2_with (first | (go_at_call 16; refine Hs.out.mono ?_; rintro e w4 ⟨rfl, k, rfl⟩) | (go_at_call 18; refine (Hb.out _).mono ?_; rintro e w5 ⟨rfl, rfl⟩))
        go_ret
        exact ⟨rfl, hb13.trans (below_drewN _ _)⟩
      · have Hb := hid fun k => blank_any w3.heap.size (some ⟨b0, o0 + W, none⟩) (V - W) (c3 - W) _ (w3.drewN k) ((hrd3.cut W).drewN k) (by omega)
        clear hown hown3
        go_wp2_with (first | (go_at_call 16; refine Hs.out.mono ?_; rintro e w4 ⟨rfl, k, rfl⟩) | (go_at_call 18; refine (Hb.out _).mono ?_; rintro e w5 ⟨rfl, rfl⟩))
        go_ret
        exact ⟨rfl, hb13.trans (below_drewN _ _)⟩
    · have hV2 : 18 < (W : Int) + (M : Int) := by omega
      have Hg : Hid (∀ w : World, Calls Try.prog 10 #[.int .i64 (m : Int), .int .i64 10, .int .i64 18] w fun e w' =>
        ∃ A c, e = .returned (.tuple #[.slice A 18 c, .int .i64 0]) ∧ Own w' w.heap.size (.slice A 18 c) 18 (field 10 m 18) ∧ Rd w' w'.heap.size A 18 (field 10 m 18) ∧ 18 ≤ c ∧ Below w.heap.size w w') :=
        hid (format_fit m 10 18 hn' h10 (by omega) (by omega))
      have Hw := hid (field_wider (n := m) hle hW2)
      have hsame : ((field 10 m 18).take W == field 10 m W) = true := by rw [Hw.out.1]; simp
      have hsp : spaces ((field 10 m 18).drop W) = true := Hw.out.2
      clear hV
      go_enter Try.func8, Try.ntmps8
      go_wp2_with fail
      refine (awake_any _).mono ?_
      rintro e w1 ⟨rfl, hb1⟩
      go_wp2_with fail
      refine (Hf.out _).mono ?_
      rintro e w2 ⟨A, c, rfl, hown, hrd, hc, hb2⟩
      go_wp2_with fail
      refine (Hg.out _).mono ?_
      rintro e w3 ⟨A3, c3, rfl, hown3, hrd3, hc3, hb3⟩
      have hb13 := (hb1.trans (hb2.mono hb1.size)).trans (hb3.mono (hb1.trans (hb2.mono hb1.size)).size)
      obtain ⟨b0, o0, rfl, _, _⟩ := hrd3.2 0 (by rw [hrd3.1]; omega)
      have hc3' : W ≤ c3 := by omega
      have Hs := hid (same_any _ rfl w3.heap.size w2.heap.size (some ⟨b0, o0, none⟩) A W c3 W c _ _ w3 (hrd3.pre hW2) (hrd.below hb3) (by omega))
      by_cases hcw : c3 = W
      · have hcw' := hcw.symm
        clear hcw
        subst hcw'
        have Hb := hid fun k => blank_any w3.heap.size (some ⟨b0, o0, none⟩) 0 0 [] (w3.drewN k) (Rd.nil _ _ _) (by omega)
        clear hown hown3
        go_wp2_with (first | (go_at_call 16; refine Hs.out.mono ?_; rintro e w4 ⟨rfl, k, rfl⟩) | (go_at_call 18; refine (Hb.out _).mono ?_; rintro e w5 ⟨rfl, rfl⟩))
        go_ret
        exact ⟨rfl, hb13.trans (below_drewN _ _)⟩
      · have Hb := hid fun k => blank_any w3.heap.size (some ⟨b0, o0 + W, none⟩) (18 - W) (c3 - W) _ (w3.drewN k) ((hrd3.cut W).drewN k) (by omega)
        clear hown hown3
        go_wp2_with (first | (go_at_call 16; refine Hs.out.mono ?_; rintro e w4 ⟨rfl, k, rfl⟩) | (go_at_call 18; refine (Hb.out _).mono ?_; rintro e w5 ⟨rfl, rfl⟩))
        go_ret
        exact ⟨rfl, hb13.trans (below_drewN _ _)⟩
  · have Hf := hid (format_unfit n 10 W hn h10 (by omega) hfit)
    clear hfit
    by_cases hV : W + M ≤ 18
    · have hV2 : (W : Int) + (M : Int) ≤ 18 := by omega
      have Hg := hid fun w' => format_any n 10 ((W : Int) + (M : Int)) w' hn
      go_enter Try.func8, Try.ntmps8
      go_wp2_with fail
      refine (awake_any _).mono ?_
      rintro e w1 ⟨rfl, hb1⟩
      go_wp2_with fail
      refine (Hf.out _).mono ?_
      rintro e w2 ⟨A, c, rfl, hown, hb2⟩
      go_wp2_with fail
      refine (Hg.out _).mono ?_
      rintro e w3 ⟨v3, rfl, hown3, hb3⟩
      go_wp2_with fail
      go_ret
      have hb13 := (hb1.trans (hb2.mono hb1.size)).trans (hb3.mono (hb1.trans (hb2.mono hb1.size)).size)
      exact ⟨rfl, hb13⟩
    · have hV2 : 18 < (W : Int) + (M : Int) := by omega
      have Hg := hid fun w' => format_any n 10 18 w' hn
      go_enter Try.func8, Try.ntmps8
      go_wp2_with fail
      refine (awake_any _).mono ?_
      rintro e w1 ⟨rfl, hb1⟩
      go_wp2_with fail
      refine (Hf.out _).mono ?_
      rintro e w2 ⟨A, c, rfl, hown, hb2⟩
      go_wp2_with fail
      refine (Hg.out _).mono ?_
      rintro e w3 ⟨v3, rfl, hown3, hb3⟩
      go_wp2_with fail
      go_ret
      have hb13 := (hb1.trans (hb2.mono hb1.size)).trans (hb3.mono (hb1.trans (hb2.mono hb1.size)).size)
      exact ⟨rfl, hb13⟩

set_option maxRecDepth 100000 in
theorem proved : Rows.DecfieldWiderSaid :=
  OpenClaim.holds_of_wide 8 Try.f8 rfl rfl rfl rfl rfl rfl rfl ⟨rfl, rfl, rfl, rfl, rfl⟩ rfl rfl rfl rfl rfl (by kernel_rfl) Try.func8 (by kernel_rfl)
    (of_decide_eq_true (by kernel_rfl)) (by unfold Func.isWrapper; rw [if_neg (of_decide_eq_false (by kernel_rfl))]; exact ⟨rfl, rfl⟩)
    (fun os started H enc _ => lifted (started := started) (s := Rows.decfieldWiderSpec) rfl
      (fun ds h => by match ds, h with | [_, _, _], _ => rfl) (by kernel_rfl)
      (by kernel_rfl) (by kernel_rfl) Try.func8
      (ChangeSpec.witness6 (enc := enc) (C := Try.checked) false ⟨#[], #[.int .i64 0, .int .u8 0, .int .u8 0], []⟩ 8 (by kernel_rfl) (by kernel_rfl) (by kernel_rfl) (by kernel_rfl))
      (fun W base args ds p h => by
        obtain ⟨hval, hA, _⟩ := h
        rw [show Try.f8.params = #[3, 5, 5] from by kernel_rfl] at hA hval
        obtain ⟨v0, vs0, d0, ds0, p0, q0, hargs, rfl, rfl, k0, r0⟩ := trodAll_cons hA
        obtain ⟨v1, vs1, d1, ds1, p1, q1, rfl, rfl, rfl, k1, r1⟩ := trodAll_cons r0
        obtain ⟨v2, vs2, d2, ds2, p2, q2, rfl, rfl, rfl, k2, r2⟩ := trodAll_cons r1
        obtain ⟨rfl, rfl, rfl⟩ := trodAll_nil r2
        obtain rfl : args = #[v0, v1, v2] := by cases args; simp_all
        obtain ⟨a0, rfl, l0, u0⟩ := open_i64 (hval 0 _ v0 rfl rfl) k0
        obtain ⟨a1, rfl, u1⟩ := open_u8 (hval 1 _ v1 rfl rfl) k1
        obtain ⟨a2, rfl, u2⟩ := open_u8 (hval 2 _ v2 rfl rfl) k2
        exact walk W a0 l0 u0 a1 u1 a2 u2))
#print axioms proved
end Go.Proofs.Ytnkaclaeogdndaa.Wider
