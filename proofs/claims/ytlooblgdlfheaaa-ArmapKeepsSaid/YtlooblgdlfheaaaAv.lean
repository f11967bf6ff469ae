/-
  ArmapKeeps: arguments are not modified, and modifying a result does not change later results. For every list of entries and every byte slice: no condition.
-/
import Derived.Test.YtlooblgdlfheaaaAm
import Derived.Test.YtlooblgdlfheaaaAo
namespace Go.Proofs.Ytlooblgdlfheaaa.KeepsA
open Go.ChangeShapes Go.WideShapes Go.ChangeAt Go.RowKit Go.Proofs Go.Proofs.Ytlooblgdlfheaaa.Byt Go.Proofs.Ytlooblgdlfheaaa.Amp Go.Proofs.Ytlooblgdlfheaaa.Frame

set_option linter.unusedSimpArgs false in
set_option maxRecDepth 100000 in
set_option maxHeartbeats 8000000 in
theorem walk (w : World) (A : Option Addr) (n c : Nat) (xs : List En) (h : RdE w w.heap.size A n xs) (_hnc : n ≤ c) (_hc : c ≤ maxLen) (A' : Option Addr) (n' c' : Nat) (l : List UInt8) (hr : Byt.Rd w w.heap.size A' n' l) (hnc' : n' ≤ c') (hc' : c' ≤ maxLen) :
    Calls Try.prog 6 #[.slice A n c, .slice A' n' c'] w fun e w' => e = .returned (.bool true) ∧ Below w.heap.size w w' := by
  go_enter Try.func6, Try.ntmps6
  go_wp2_with fail
  refine (awake_any _).mono ?_
  rintro e w1 ⟨rfl, B1⟩
  have hK1 := B1.size
  go_wp2_with fail
  refine (rfewE_any w.heap.size A n c xs w1 (h.below B1)).mono ?_
  rintro e w1 ⟨rfl, rfl⟩
  cases hf : fewE xs
  · go_wp2_with fail
    refine (awake_any _).mono ?_
    rintro e w9 ⟨rfl, hb9⟩
    go_wp2_with fail
    go_ret
    exact ⟨rfl, B1.trans (hb9.mono B1.size)⟩
  · obtain ⟨k1, k2⟩ := fewE_iff.1 hf
    have Hl := hid h.1
    have hn100 : n ≤ 100 := by have := Hl.out; omega
    have K2 := hid k2
    have hout : (outA xs).length ≤ 40000 := by
      unfold outA
      split
      · exact encA_few k1 k2
      · simp
    clear hf k1 k2
    by_cases h5 : 5000 < n'
    · have h5i : (5000 : Int) < (n' : Int) := by omega
      go_wp2_with fail
      refine (awake_any _).mono ?_
      rintro e w9 ⟨rfl, hb9⟩
      go_wp2_with fail
      go_ret
      exact ⟨rfl, B1.trans (hb9.mono B1.size)⟩
    · have h5i : ¬ (5000 : Int) < (n' : Int) := by omega
      have hlr := hid hr.1
      have hbe := (Below.refl w1.heap.size w1).alloc (Nat.le_refl _) (.cells #[] 40)
      have hlit := Cel.Own.lit0 40 2 w1 w1.heap.size (Nat.le_refl _)
      have hre := ((h.below B1).below (hbe.mono hK1)).cel
      go_upto_region 4 with (at_builtin; go_must (refine Cel.wpList_app kE _ w1.heap.size _ 0 [] hlit hbe.size A n c w.heap.size (ecells xs) hre (ecells_one xs) (by omega) (by omega) rfl (.tmp 27) (.tmp 28) rfl rfl rfl ?_); intro v2 w2 ho2 hb2 _; rw [Nat.zero_add, List.nil_append] at ho2; obtain ⟨A2, c2, rfl, _⟩ := ho2.reads)
      have B2 := B1.trans ((hbe.trans hb2).mono hK1)
      have r2 := rde_own ho2
      have hK2 := B2.size
      clear hbe hlit hre hb2 ho2
      have hbe := (Below.refl w2.heap.size w2).alloc (Nat.le_refl _) (.cells #[] 5)
      have hlit := Byt.Own.lit0 w2 w2.heap.size (Nat.le_refl _)
      have hre := (hr.below B2).below (hbe.mono hK2)
      go_upto_region 5 with (at_builtin; go_must (refine wpList_app2 _ w2.heap.size _ 0 [] hlit hbe.size A' n' c' w.heap.size l hre (by omega) rfl (.tmp 30) (.tmp 31) rfl rfl rfl ?_); intro v3 w3 ho3 hb3 _; rw [Nat.zero_add, List.nil_append] at ho3; obtain ⟨A3, c3, rfl, r3, _⟩ := ho3.reads)
      have hb23 := hbe.trans hb3
      have B3 := B2.trans (hb23.mono hK2)
      have r2 := r2.below hb23
      have hK3 := B3.size
      have k23 := hb23.size
      clear hbe hlit hre hb3 ho3 hb23
      go_wp2_with fail
      refine (decP_any w.heap.size A' n' c' l w3 (hr.below B3) hK3 hnc' hc' (by omega)).mono ?_
      rintro e w4 hD
      obtain ⟨A4, n4', c4, rfl, hx4, hn4, hy4, hz4, hb4⟩ := hD.reads
      clear hx4 hn4 hy4 hz4
      have B4 := B3.trans (hb4.mono hK3)
      have r2 := r2.below (hb4.mono k23)
      have r3 := r3.below hb4
      have hK4 := B4.size
      have k34 := hb4.size
      clear hD hb4
      generalize decZ l = zd at *
      go_wp2_with fail
      refine (encA_any w2.heap.size A2 n c2 xs w4 r2 (by omega) (by omega) (fun x hx => by have := K2.out x hx; omega)).mono ?_
      rintro e w5 hE
      obtain ⟨A5, n5, c5, rfl, hn5, o5, r5, _, _, hb5⟩ := hE.reads
      have B5 := B4.trans (hb5.mono hK4)
      have r2 := r2.below (hb5.mono (by omega))
      have r3 := r3.below (hb5.mono k34)
      have hK5 := B5.size
      have k45 := hb5.size
      have hn5b : n5 ≤ 40000 := by omega
      obtain ⟨L5, hL5⟩ : ∃ L5, outA xs = L5 := ⟨_, rfl⟩
      rw [hL5] at o5
      obtain ⟨K4, hK4e⟩ : ∃ K4, w4.heap.size = K4 := ⟨_, rfl⟩
      rw [hK4e] at o5 k45 hK4 k34
      clear hE hn5 hb5 hL5 hK4e r5
      go_wp2_with fail
      go_loopw [9] (fun i W => ∃ (k : Nat) (L : List UInt8), i = .int .i64 (k : Int) ∧ k ≤ n5 ∧ Byt.Own W K4 (.slice A5 n5 c5) n5 L ∧ Below K4 w5 W) (fun i _ => n5 - (intOf i).toNat)
      case atStart => exact ⟨0, L5, rfl, by omega, o5, Below.refl _ _⟩
      case round =>
        obtain ⟨k, L, rfl, hk, hO, hb⟩ := hrel
        by_cases hlt : k < n5
        · have hki : (k : Int) < (n5 : Int) := by omega
          obtain ⟨g, cap, e, hg, hc, hf, hset⟩ := hO.at_ (i := k) (by rw [hO.1]; exact hlt)
          injection e with e1 _ e3
          subst e1 e3
          obtain ⟨u, hu⟩ := u8_wrap (((L[k]'(by rw [hO.1]; exact hlt)).toNat : Int) + 1)
          generalize ((L[k]'(by rw [hO.1]; exact hlt)).toNat : Int) = z at *
          have hO2 := hset u
          have hb2 := hb.setCell (p := ⟨g, k, none⟩) hg (.int .u8 (u.toNat : Int))
          clear hset hO hb
          generalize (u.toNat : Int) = uz at *
          go_wp2_with fail
          go_roundw
          all_goals first
            | exact ⟨k + 1, _, by go_num, by omega, hO2, hb2⟩
            | (simp [intOf]; omega)
        · obtain rfl : k = n5 := by omega
          have hki : ¬ (k : Int) < (k : Int) := by omega
          have B6 := B5.trans (hb.mono (by omega))
          have r2 := r2.below (hb.mono (by omega))
          have r3 := r3.below (hb.mono k34)
          have hK6 := B6.size
          have k56 := hb.size
          clear hO hb B5 o5
          go_wp2_with fail
          refine (encA_any w2.heap.size A2 n c2 xs wr r2 (by omega) (by omega) (fun x hx => by have := K2.out x hx; omega)).mono ?_
          rintro e w7 hE
          obtain ⟨A7, n7, c7, rfl, hn7, _, r7, _, _, hb7⟩ := hE.reads
          have B7 := B6.trans (hb7.mono hK6)
          have r2 := r2.below (hb7.mono (by omega))
          have r3 := r3.below (hb7.mono (by omega))
          have hK7 := B7.size
          have k67 := hb7.size
          have hn7b : n7 ≤ 40000 := by omega
          clear hE hn7 hb7
          go_wp2_with fail
          refine (rencA_any w.heap.size A n c xs w7 (h.below B7) hK7 (by omega) (fun x hx => by have := K2.out x hx; omega)).mono ?_
          rintro e w8 hE
          obtain ⟨A8, n8, c8, rfl, hn8, _, r8, _, _, hb8⟩ := hE.reads
          have B8 := B7.trans (hb8.mono hK7)
          have r2 := r2.below (hb8.mono (by omega))
          have r3 := r3.below (hb8.mono (by omega))
          have r7 := r7.below hb8
          have hK8 := B8.size
          have k78 := hb8.size
          clear hE hn8 hb8
          generalize errA xs = ze at *
          go_wp2_with fail
          refine (rsameE_any w2.heap.size A2 A n c2 n c xs xs w8 r2 ((h.below B8).more hK2) (by omega) (by omega)).mono ?_
          rintro e w9 ⟨rfl, hb9⟩
          rw [sameE_eq.2 rfl]
          have B9 := B8.trans (hb9.mono hK8)
          have r3 := r3.below (hb9.mono (by omega))
          have r7 := r7.below (hb9.mono k78)
          have r8 := r8.below hb9
          have k89 := hb9.size
          clear hb9 r2
          go_wp2_with fail
          refine (Dec.same_any 14 rfl w.heap.size w3.heap.size A' A3 n' c' n' c3 l l w9 (hr.below B9) r3 (by omega)).mono ?_
          rintro e wa ⟨rfl, ma, hwa⟩
          rw [beq_self_eq_true]
          have hba : Below w9.heap.size w9 wa := by subst hwa; exact Dec.below_drewN w9 ma
          have Ba := B9.trans (hba.mono B9.size)
          have r7 := r7.below (hba.mono (by omega))
          have r8 := r8.below (hba.mono k89)
          clear hwa hba r3
          go_wp2_with fail
          refine (Dec.same_any 14 rfl w7.heap.size w8.heap.size A7 A8 n7 c7 n8 c8 _ _ wa r7 r8 (by omega)).mono ?_
          rintro e wb ⟨rfl, mb, hwb⟩
          rw [beq_self_eq_true]
          go_wp2_with fail
          go_ret
          exact ⟨rfl, by subst hwb; exact Ba.trans (Dec.below_drewN wa mb)⟩

set_option maxRecDepth 100000 in
theorem proved : Rows.ArmapKeepsSaid :=
  OpenClaim.holds_of_wide 6 Try.f6 rfl rfl rfl rfl rfl rfl rfl ⟨rfl, rfl, rfl, rfl, rfl⟩ rfl rfl rfl rfl rfl (by kernel_rfl) Try.func6 (by kernel_rfl)
    (of_decide_eq_true (by kernel_rfl)) (by unfold Func.isWrapper; rw [if_neg (of_decide_eq_false (by kernel_rfl))]; exact ⟨rfl, rfl⟩)
    (fun os started H enc _ => lifted (started := started) (s := Rows.armapKeepsSpec) rfl
      (fun ds h => by match ds, h with | [_, _], _ => rfl) (by kernel_rfl)
      (by kernel_rfl) (by kernel_rfl) Try.func6
      (ChangeSpec.witness6 (enc := enc) (C := Try.checked) false ⟨#[], #[.slice none 0 0, .slice none 0 0], []⟩ 8 (by kernel_rfl) (by kernel_rfl) (by kernel_rfl) (by kernel_rfl))
      (fun W base args ds p h => by
        obtain ⟨hval, hA, _⟩ := h
        rw [show Try.f6.params = #[22, 23] from by kernel_rfl] at hA hval
        obtain ⟨v0, vs0, d0, ds0, p0, q0, hargs, rfl, rfl, k0, r0⟩ := trodAll_cons hA
        obtain ⟨v1, vs1, d1, ds1, p1, q1, rfl, rfl, rfl, k1, r1⟩ := trodAll_cons r0
        obtain ⟨rfl, rfl, rfl⟩ := trodAll_nil r1
        obtain rfl : args = #[v0, v1] := by cases args; simp_all
        obtain ⟨A0, n0, c0, l0, rfl, h0, m0, g0⟩ := open_ents (hval 0 _ v0 rfl rfl) k0
        obtain ⟨A1, n1, c1, l1, rfl, h1, m1, g1⟩ := open_bytes (hval 1 _ v1 rfl rfl) k1
        exact walk W A0 n0 c0 l0 h0 m0 g0 A1 n1 c1 l1 h1 m1 g1))
#print axioms proved
end Go.Proofs.Ytlooblgdlfheaaa.KeepsA
