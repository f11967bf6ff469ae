/-
  ArwriteKeeps: the arguments are not modified, and modifying a result does not change later results. For every map and list of members: no condition.
-/
import Derived.Test.YteeeongnabpheaaDoorWp
import Derived.Test.YteeeongnabpheaaDoorWs
import Derived.Test.YteeeongnabpheaaDoorCards
namespace Go.Proofs.YteeeongnabpheaaDoor.Keeps5
open Go.ChangeShapes Go.WideShapes Go.ChangeAt Go.RowKit Go.Proofs Go.Proofs.YteeeongnabpheaaDoor.Byt Go.Proofs.YteeeongnabpheaaDoor.Dec Go.Proofs.YteeeongnabpheaaDoor.Lnm Go.Proofs.YteeeongnabpheaaDoor.Hdr Go.Proofs.YteeeongnabpheaaDoor.Arp Go.Proofs.YteeeongnabpheaaDoor.Arw Go.Proofs.YteeeongnabpheaaDoor.Frame

set_option linter.unusedSimpArgs false in
set_option maxRecDepth 100000 in
set_option maxHeartbeats 8000000 in
theorem walk (w : World) (hG : GndP w) (A' : Option Addr) (n' c' : Nat) (l : List UInt8) (hr : Byt.Rd w w.heap.size A' n' l) (_hnc' : n' ≤ c') (_hc' : c' ≤ maxLen) (A : Option Addr) (n c : Nat) (xs : List Mem) (h : RdM0 w w.heap.size A n xs) (_hnc : n ≤ c) (_hc : c ≤ maxLen) (hB : ∀ x ∈ xs, MB x) :
    Calls Tryd.prog 5 #[.slice A' n' c', .slice A n c] w fun e w' => e = .returned (.bool true) ∧ Below w.heap.size w w' := by
  go_enter Tryd.func5, Tryd.ntmps5
  go_wp2_with fail
  refine (awake_any w hG).mono ?_
  rintro e w1 ⟨rfl, hb1⟩
  go_wp2_with fail
  refine (few5_any w.heap.size A n c xs w1 (h.below hb1) hb1.size).mono ?_
  rintro e w2 ⟨rfl, hb2⟩
  have hb02 := hb1.trans (hb2.mono hb1.size)
  have hs2 : w.heap.size ≤ w2.heap.size := hb02.size
  clear hb1 hb2
  cases hf : fewM xs
  · go_wp2_with fail
    refine (awake_any _ (hG.on hb02)).mono ?_
    rintro e w9 ⟨rfl, hb9⟩
    go_wp2_with fail
    go_ret
    exact ⟨rfl, hb02.trans (hb9.mono hb02.size)⟩
  · obtain ⟨k1, _, k3⟩ := fewM_iff.1 hf
    have hl := hid h.1
    have hM := h.to (fun x hx => (k3 x hx).2)
    have hok : ∀ x ∈ xs, MOk x := fun x hx => (hB x hx).ok (k3 x hx).1 (k3 x hx).2
    have hn20 : n ≤ 20 := by have := hl.out; omega
    clear hf k1 k3 h hB
    by_cases h5 : 1000 < n'
    · have h5i : (1000 : Int) < (n' : Int) := by omega
      go_wp2_with fail
      refine (awake_any _ (hG.on hb02)).mono ?_
      rintro e w9 ⟨rfl, hb9⟩
      go_wp2_with fail
      go_ret
      exact ⟨rfl, hb02.trans (hb9.mono hb02.size)⟩
    · have h5i : ¬ (1000 : Int) < (n' : Int) := by omega
      have hlr := hid hr.1
      go_wp2_with fail
      refine (rcopy_any w.heap.size A n c xs w2 (hM.below hb02) hs2 hok hn20).mono ?_
      rintro e w3 ⟨A3, n3, c3, ys, rfl, rM, hcore, hb3⟩
      have Hcore := hid hcore
      have hyl := core_len hcore
      have hoky := core_mok hcore hok
      have hn3 : n3 ≤ 20 := by have := rM.1; have := hl.out; omega
      have hb03 := hb02.trans (hb3.mono hs2)
      have hs3 : w.heap.size ≤ w3.heap.size := hb03.size
      have hbe := (Below.refl w3.heap.size w3).alloc (Nat.le_refl _) (.cells #[] 5)
      have hlit := Byt.Own.lit0 w3 w3.heap.size (Nat.le_refl _)
      have hre := (hr.below hb03).below (hbe.mono hs3)
      clear hb3 hb02 hcore hyl
      go_upto_region 5 with (at_builtin; go_must (refine wpList_app2 _ w3.heap.size _ 0 [] hlit hbe.size A' n' c' w.heap.size l hre (by omega) rfl (.tmp 30) (.tmp 31) rfl rfl rfl ?_); intro v4 w4 ho4 hb4 _; rw [Nat.zero_add, List.nil_append] at ho4; obtain ⟨A4, c4, rfl, hr4, _⟩ := ho4.reads)
      have hb34 := hbe.trans hb4
      have hb04 := hb03.trans (hb34.mono hs3)
      have hs4 : w.heap.size ≤ w4.heap.size := hb04.size
      have hs34 : w3.heap.size ≤ w4.heap.size := hb34.size
      have rM4 := (rM.below hb34).more hs34
      clear hb4 hb34 hbe hlit hre hb03 rM ho4
      go_wp2_with fail
      refine (write_any true A' n' c' l w.heap.size w4.heap.size A3 n3 c3 ys w4 (hG.on hb04) (hr.below hb04) hs4 (by omega) rM4 (Nat.le_refl _) hoky hn3).mono ?_
      rintro e w5 ⟨v5, rfl, o5, hb5⟩
      obtain ⟨A5, c5, rfl, _⟩ := o5.reads
      have hb05 := hb04.trans (hb5.mono hs4)
      have rM5 := rM4.below hb5
      have hr5 := hr4.below hb5
      have hs5 : w4.heap.size ≤ w5.heap.size := hb5.size
      have hwl : (wout true l ys).length ≤ 30000 := by
        have hly : ∀ x ∈ ys, x.data.length = x.len := fun x hx => by obtain ⟨k, hk, rfl⟩ := List.mem_iff_getElem.1 hx; exact (rM4.2 k hk).2.1.1
        unfold wout
        split
        · rename_i hz
          exact arch_len ((fitL_zero 0 ys).1 hz) (by have := rM4.1; omega) hoky hly (by have := hlr.out; omega)
        · simp
      have HW : Hid (wout true l xs = wout true l ys) := hid (by rw [← wout_core true l xs, ← wout_core true l ys, Hcore.out])
      clear hb5 rM4 hr4
      obtain ⟨L5, hL5⟩ : ∃ L, wout true l ys = L := ⟨_, rfl⟩
      have HL5 := hid hL5
      rw [hL5] at o5 hwl ⊢
      obtain ⟨N, hN⟩ : ∃ N, L5.length = N := ⟨_, rfl⟩
      have HN := hid hN
      rw [hN] at o5 hwl ⊢
      clear hL5 hN
      obtain ⟨K4, hK4⟩ : ∃ K4, w4.heap.size = K4 := ⟨_, rfl⟩
      rw [hK4] at o5 rM5 hr5 hs5 hs4
      clear hK4 hb04
      go_wp2_with fail
      go_loopw [9] (fun i W => ∃ (k : Nat) (L : List UInt8), i = .int .i64 (k : Int) ∧ k ≤ N ∧ Byt.Own W K4 (.slice A5 N c5) N L ∧ Below K4 w5 W) (fun i _ => N - (intOf i).toNat)
      case atStart => exact ⟨0, L5, rfl, by omega, o5, Below.refl _ _⟩
      case round =>
        obtain ⟨k, L, rfl, hk, hO, hb⟩ := hrel
        by_cases hlt : k < N
        · have hki : (k : Int) < (N : Int) := by omega
          obtain ⟨g, cap, e, hg, hc, hf, hset⟩ := hO.at_ (i := k) (by rw [hO.1]; exact hlt)
          injection e with e1 _ e3
          subst e1 e3
          obtain ⟨u, hu⟩ := u8_wrap (((L[k]'(by rw [hO.1]; exact hlt)).toNat : Int) + 1)
          generalize ((L[k]'(by rw [hO.1]; exact hlt)).toNat : Int) = z at *
          have hO2 := hset u
          have hb2 := hb.setCell (p := ⟨g, k, none⟩) hg (.int .u8 (u.toNat : Int))
          clear hset hO hb
          generalize (u.toNat : Int) = uz at *
          go_wp2_with fail
          go_roundw
          all_goals first
            | exact ⟨k + 1, _, by go_num, by omega, hO2, hb2⟩
            | (simp [intOf]; omega)
        · obtain rfl : k = N := by omega
          have hb0 := hb05.trans (hb.mono hs4)
          have rM6 := rM5.below hb
          have hr6 := hr5.below hb
          have hsW : K4 ≤ wr.heap.size := Nat.le_trans hs5 hb.size
          have hs0 : w.heap.size ≤ wr.heap.size := hb0.size
          clear hO hb rM5 hr5 hb05
          go_wp2_with fail
          refine (write_any true A' n' c' l w.heap.size K4 A3 n3 c3 ys wr (hG.on hb0) (hr.below hb0) hs0 (by omega) rM6 hsW hoky hn3).mono ?_
          rintro e w7 ⟨v7, rfl, o7, hb7⟩
          obtain ⟨A7, c7, rfl, r7, _⟩ := o7.reads
          have rM7 := rM6.below (hb7.mono hsW)
          have hr7 := hr6.below (hb7.mono hsW)
          have hb07 := hb0.trans (hb7.mono hs0)
          have hs7 : K4 ≤ w7.heap.size := Nat.le_trans hsW hb7.size
          have hs07 : w.heap.size ≤ w7.heap.size := hb07.size
          clear o7 hb7 rM6 hr6 hb0
          go_wp2_with fail
          refine (rwrite_any true A4 n' c4 l K4 w.heap.size A n c xs w7 hr7 hs7 (by omega) (hM.below hb07) hs07 hok hn20).mono ?_
          rintro e w8 ⟨v8, A9, n9, c9, rfl, o8, _, hb8⟩
          obtain ⟨A8, c8, rfl, r8, _⟩ := o8.reads
          have rM8 := rM7.below (hb8.mono hs7)
          have hr8 := hr7.below (hb8.mono hs7)
          have r78 := r7.below hb8
          have hb08 := hb07.trans (hb8.mono hs07)
          have hs8 : K4 ≤ w8.heap.size := Nat.le_trans hs7 hb8.size
          have hs78 : w7.heap.size ≤ w8.heap.size := hb8.size
          clear o8 hb8 rM7 hr7 r7 hb07
          rw [HW.out] at r8 ⊢
          rw [HL5.out] at r8 r78 ⊢
          rw [HN.out] at r8 r78 ⊢
          go_wp2_with fail
          refine (rsamemembers_any K4 A3 A n3 c3 n c ys xs w8 rM8 ((hM.below hb08).more hs4) hs8 (by omega)).mono ?_
          rintro e w9 ⟨rfl, hb9⟩
          rw [same_core Hcore.out]
          have hr9 := hr8.below (hb9.mono hs8)
          have r79 := r78.below (hb9.mono hs78)
          have r89 := r8.below hb9
          have hb09 := hb08.trans (hb9.mono (by omega))
          clear hb9 rM8 hr8 r78 r8 hb08
          go_wp2_with fail
          refine (Dec.same_any 13 rfl _ _ A' A4 n' c' n' c4 l l w9 (hr.below hb09) hr9 (by omega)).mono ?_
          rintro e w10 ⟨rfl, k10, rfl⟩
          rw [beq_self_eq_true]
          go_wp2_with fail
          refine (Dec.same_any 13 rfl _ _ A7 A8 _ c7 _ c8 L5 L5 (w9.drewN k10) (r79.drewN k10) (r89.drewN k10) (by omega)).mono ?_
          rintro e w11 ⟨rfl, k11, rfl⟩
          rw [beq_self_eq_true]
          go_wp2_with fail
          go_ret
          exact ⟨rfl, hb09.trans ⟨rfl, rfl, rfl, Nat.le_refl _, fun _ _ => rfl⟩⟩

set_option maxRecDepth 100000 in
theorem held : Rows.ArwriteKeepsSaid :=
  OpenClaim.holds_of_wide 5 Tryd.f5 rfl rfl rfl rfl rfl rfl rfl ⟨rfl, rfl, rfl, rfl, rfl⟩ rfl rfl rfl rfl rfl (by kernel_rfl) Tryd.func5 (by kernel_rfl)
    (of_decide_eq_true (by kernel_rfl)) (by unfold Func.isWrapper; first | (rw [if_pos (by decide +kernel)]; kernel_rfl) | (rw [if_neg (by decide +kernel)]; exact ⟨rfl, rfl⟩))
    (fun os started H enc _ => liftedG (started := started) (s := Rows.arwriteKeepsSpec) (L := Rows.arwriteKeepsRow.laid) rfl
      (fun ds h => by match ds, h with | [_, _], _ => rfl) (by kernel_rfl)
      (by kernel_rfl) (by kernel_rfl) Tryd.func5
      (ChangeSpec.witness_shaped (enc := enc) (C := Tryd.checked) (os := os) (X := fun w _ => laidMetH Tryd.prog Rows.arwriteKeepsRow.laid w) false (World.laidAll Tryd.prog os Rows.arwriteKeepsRow.laid) #[.slice none 0 0, .slice none 0 0] 8 (World.laidAll_os _ _ _)
        (World.shaped_of_ZipB (by kernel_rfl) (by kernel_rfl)) (by kernel_rfl) (by kernel_rfl) (by kernel_rfl)
        (by rw [MakeChecks.laidMetH_plain _ _ _ (by kernel_rfl)]; exact laidMet_laidAll _ (by kernel_rfl) (by kernel_rfl)))
      gndp_of (fun W base args ds p hG h => by
        obtain ⟨hval, hA, _⟩ := h
        rw [show Tryd.f5.params = #[22, 23] from by kernel_rfl] at hA hval
        obtain ⟨v0, vs0, d0, ds0, p0, q0, hargs, rfl, rfl, k0, r0⟩ := trodAll_cons hA
        obtain ⟨v1, vs1, d1, ds1, p1, q1, rfl, rfl, rfl, k1, r1⟩ := trodAll_cons r0
        obtain ⟨rfl, rfl, rfl⟩ := trodAll_nil r1
        obtain rfl : args = #[v0, v1] := by cases args; simp_all
        obtain ⟨A0, n0, c0, l0, rfl, h0, m0, g0⟩ := open_bytes (hval 0 _ v0 rfl rfl) k0
        obtain ⟨A1, n1, c1, l1, rfl, h1, m1, g1, s1⟩ := open_mems (hval 1 _ v1 rfl rfl) k1
        exact walk W hG A0 n0 c0 l0 h0 m0 g0 A1 n1 c1 l1 h1 m1 g1 s1))
theorem proved : Rows.ArwriteKeepsCardSaid :=
  Claim7.holds_tied_plain_at .later [] [.data, .data, .data] true (true, "e71bdd4a64025239ffe3a50cebeb532569b9d8715588fd984b1edff4121d2f15") false held (fun _ h => by cases h) (by kernel_rfl) (fun _ h => by cases h) arwriteKeeps_row_tie rfl ⟨rfl, rfl⟩ (by kernel_rfl) rfl
    (fun f fn hf hfn => by
      obtain rfl : f = 5 := Option.some.inj ((show Tryd.prog.funcNamed "arlink/arlinklaw05.ArwriteKeeps" = some 5 by kernel_rfl).symm.trans hf) |>.symm
      obtain rfl : fn = Tryd.f5 := (Option.some.inj (Tryd.func5.symm.trans hfn)).symm
      exact ⟨by kernel_rfl, fun j t ht => by
        rw [Tryd.params5] at ht
        have hm : t ∈ [22, 23] := by simpa using Array.mem_of_getElem? ht
        have hall : ([22, 23].all fun u => !Tryd.prog.wantsStandIn u) = true := by kernel_rfl
        exact (show Tryd.prog.wantsStandIn t = false by simpa using List.all_eq_true.1 hall t hm)⟩)
    (by kernel_rfl)
#print axioms proved
end Go.Proofs.YteeeongnabpheaaDoor.Keeps5
