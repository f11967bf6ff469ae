/-
  ArwriteCanonical: what is parsed from any archive can be written, and what is parsed from the result is the same, even if the archive was not written in this form. For every byte slice: no condition.
-/
import Derived.Test.YteeeongnabpheaaGreatDoorWy
import Derived.Test.YteeeongnabpheaaGreatDoorWu
import Derived.Test.YteeeongnabpheaaGreatDoorMn
import Derived.Test.YteeeongnabpheaaGreatDoorCards
namespace Go.Proofs.YteeeongnabpheaaGreatDoor.Canon5
open Go.ChangeShapes Go.WideShapes Go.ChangeAt Go.RowKit Go.Proofs Go.Proofs.YteeeongnabpheaaGreatDoor.Byt Go.Proofs.YteeeongnabpheaaGreatDoor.Dec Go.Proofs.YteeeongnabpheaaGreatDoor.Lnm Go.Proofs.YteeeongnabpheaaGreatDoor.Hdr Go.Proofs.YteeeongnabpheaaGreatDoor.Arp Go.Proofs.YteeeongnabpheaaGreatDoor.Arw Go.Proofs.YteeeongnabpheaaGreatDoor.Frame

set_option linter.unusedSimpArgs false in
set_option maxRecDepth 100000 in
set_option maxHeartbeats 8000000 in
theorem walk (w : World) (hG : GndP w) (A : Option Addr) (n c : Nat) (l : List UInt8) (hr : Byt.Rd w w.heap.size A n l) (hnc : n ≤ c) (_hc : c ≤ maxLen) :
    Calls Tryz.prog 4 #[.slice A n c] w fun e w' => e = .returned (.bool true) ∧ Below w.heap.size w w' := by
  go_enter Tryz.func4, Tryz.ntmps4
  go_wp2_with fail
  refine (awake_any w hG).mono ?_
  rintro e w2 ⟨rfl, hb02⟩
  have hs2 : w.heap.size ≤ w2.heap.size := hb02.size
  by_cases h5 : 10000 < n
  · have h5i : (10000 : Int) < (n : Int) := by omega
    go_wp2_with fail
    refine (awake_any _ (hG.on hb02)).mono ?_
    rintro e w9 ⟨rfl, hb9⟩
    go_wp2_with fail
    go_ret
    exact ⟨rfl, hb02.trans (hb9.mono hb02.size)⟩
  · have h5i : ¬ (10000 : Int) < (n : Int) := by omega
    go_wp2_with fail
    refine (rparse_any A n c l w2 ((hr.below hb02).more hs2) hnc (by omega)).mono ?_
    rintro e w3 ⟨x, rfl, hxis, hxo, hb3⟩
    obtain ⟨t, k, z, har⟩ : ∃ t k z, ar l = (t, k, z) := ⟨_, _, _, rfl⟩
    have HAR := hid har
    rw [har] at hxis ⊢
    obtain ⟨hx1, hx2, hx3, hx4⟩ := hxis
    simp only at hx1 hx2 hx3 hx4
    have HX1 := hid hx1
    have HX2 := hid hx2
    have HX3 := hid hx3
    clear hx1 hx2 hx3 hx4
    have hb03 := hb02.trans (hb3.mono hs2)
    have hxd : ∀ y ∈ x.mems, y.len = y.data.length := fun y hy => (hxo.data y hy).1.symm
    have hxml : x.map.length = x.mn := hxo.map.1
    obtain ⟨rMap, rMem, _, hmnb, hanb, _⟩ := hxo.reads
    have hrow := heap_alloc_new w3 (.cells #[.bool x.hasMap, .slice x.mp x.mn x.mc, .slice x.ap x.an x.ac, .slice x.op x.on x.oc] 41)
    have hb34 := (Below.refl w3.heap.size w3).alloc (Nat.le_refl _) (.cells #[.bool x.hasMap, .slice x.mp x.mn x.mc, .slice x.ap x.an x.ac, .slice x.op x.on x.oc] 41)
    have rMap4 := (rMap.below hb34).more hb34.size
    have rMem4 := (rMem.below hb34).more hb34.size
    have hb04 := hb03.trans (hb34.mono hb03.size)
    have hgl := (Array.getElem?_eq_some_iff.1 hrow).1
    simp only [Arc.val]
    go_upto_region 4 with fail
    clear rMap rMem hb34 hb03 hb3 hb02 hxo har
    generalize w3.alloc (.cells #[.bool x.hasMap, .slice x.mp x.mn x.mc, .slice x.ap x.an x.ac, .slice x.op x.on x.oc] 41) = w4 at *
    generalize w3.heap.size = g at *
    have hs4 : w.heap.size ≤ w4.heap.size := hb04.size
    have q0 := cell_of_row _ g 0 _ _ _ hrow
    have q1 := cell_of_row _ g 1 _ _ _ hrow
    have q2 := cell_of_row _ g 2 _ _ _ hrow
    by_cases hz : z = 0
    · subst hz
      have hpar := fits_parsed HAR.out HX3.out hxd
      have hnom := ar_nomap HAR.out
      go_wp2_with fail
      refine (few5_any w4.heap.size x.ap x.an x.ac x.mems w4 (RdM0.of rMem4) (Nat.le_refl _)).mono ?_
      rintro e w5 ⟨rfl, hb5⟩
      have hb05 := hb04.trans (hb5.mono hs4)
      cases hf : fewM x.mems
      · clear q0 q1 q2
        go_wp2_with fail
        go_ret
        exact ⟨rfl, hb05⟩
      · obtain ⟨k1, _, k3⟩ := fewM_iff.1 hf
        have hrow5 := (hb5.block g hgl).trans hrow
        clear q0 q1 q2
        have q0 := cell_of_row _ g 0 _ _ _ hrow5
        have q1 := cell_of_row _ g 1 _ _ _ hrow5
        have q2 := cell_of_row _ g 2 _ _ _ hrow5
        by_cases h6 : 1000 < x.mn
        · have h6i : (1000 : Int) < (x.mn : Int) := by omega
          go_wp2_with fail
          go_ret
          exact ⟨rfl, hb05⟩
        · have h6i : ¬ (1000 : Int) < (x.mn : Int) := by omega
          have hfit : ∀ y ∈ x.mems, fitsM y = 0 := fun y hy => (hpar y hy).1
          have hok : ∀ y ∈ x.mems, MOk y := fun y hy => by
            obtain ⟨_, h1, h2, h3, h4, h5⟩ := hpar y hy
            exact ⟨by omega, (k3 y hy).2, h2, h3, h4, h5⟩
          have hz := (fitL_zero 0 x.mems).2 hfit
          have hanl : x.mems.length = x.an := rMem4.1
          have hal := arch_len (hm := x.hasMap) (md := x.map) hfit k1 hok (fun y hy => (hxd y hy).symm) (by omega)
          have HAA := hid (ar_arch (hm := x.hasMap) (md := x.map) (xs := x.mems) (by omega) hfit (by omega) hxd)
          have HM : Hid ((if x.hasMap = true then x.map else []) = x.map) := hid (by
            cases hq : x.hasMap
            · rw [HX2.out, hnom (by rw [← HX1.out]; exact hq)]; rfl
            · rfl)
          have hs5 : w4.heap.size ≤ w5.heap.size := hb5.size
          have hs05 : w.heap.size ≤ w5.heap.size := hb05.size
          go_wp2_with fail
          refine (write_any x.hasMap x.mp x.mn x.mc x.map w4.heap.size w4.heap.size x.ap x.an x.ac x.mems w5 (hG.on hb05) (rMap4.below hb5) hs5 (by omega) (rMem4.below hb5) hs5 hok (by omega)).mono ?_
          rintro e w6 ⟨v6, rfl, o6, hb6⟩
          rw [show wout x.hasMap x.map x.mems = arch x.hasMap x.map x.mems from if_pos hz] at o6
          rw [hz]
          generalize arch x.hasMap x.map x.mems = ar at *
          obtain ⟨A6, c6, rfl, r6, hc6, _⟩ := o6.reads
          have hb46 := hb5.trans (hb6.mono hs5)
          have hb06 := hb05.trans (hb6.mono hs05)
          have hs6 : w4.heap.size ≤ w6.heap.size := hb46.size
          clear o6 hb6 hb5 hb05 hrow5 q0 q1 q2 hpar hnom
          go_wp2_with fail
          refine (parse_any A6 ar.length c6 ar w6 (hG.on hb06).1 r6 hc6 (by omega)).mono ?_
          rintro e w7 ⟨y, rfl, hyis, hyo, hb7⟩
          rw [HAA.out] at hyis ⊢
          obtain ⟨hy1, hy2, hy3, _⟩ := hyis
          simp only at hy1 hy2 hy3
          have HY1 := hid hy1
          have HY2 := hid (hy2.trans HM.out)
          clear hy1 hy2
          have hb47 := hb46.trans (hb7.mono hs6)
          have hb07 := hb06.trans (hb7.mono hb06.size)
          obtain ⟨sMap, sMem, _, hymn, hyan, _⟩ := hyo.reads
          have HSM := hid (sameMs_pure hy3)
          have hrowY := heap_alloc_new w7 (.cells #[.bool y.hasMap, .slice y.mp y.mn y.mc, .slice y.ap y.an y.ac, .slice y.op y.on y.oc] 33)
          have hb78 := (Below.refl w7.heap.size w7).alloc (Nat.le_refl _) (.cells #[.bool y.hasMap, .slice y.mp y.mn y.mc, .slice y.ap y.an y.ac, .slice y.op y.on y.oc] 33)
          have sMap8 := (sMap.below hb78).more hb78.size
          have sMem8 := (sMem.below hb78).more hb78.size
          have hb48 := hb47.trans (hb78.mono hb47.size)
          have hb08 := hb07.trans (hb78.mono hb07.size)
          have hgl2 := (Array.getElem?_eq_some_iff.1 hrowY).1
          simp only [Arc.val]
          go_upto_region 8 with fail
          clear sMap sMem hb78 hb47 hb07 hb46 hb06 hb7 hyo r6 hy3 HAA HM
          generalize w7.alloc (.cells #[.bool y.hasMap, .slice y.mp y.mn y.mc, .slice y.ap y.an y.ac, .slice y.op y.on y.oc] 33) = w8 at *
          generalize w7.heap.size = g2 at *
          have hrow8 := (hb48.block g hgl).trans hrow
          have rMap8 := (rMap4.below hb48).more hb48.size
          have rMem8 := (rMem4.below hb48).more hb48.size
          have hs8 : w.heap.size ≤ w8.heap.size := hb08.size
          rw [HY1.out] at hrowY
          rw [HY2.out] at sMap8
          have p0 := cell_of_row _ g2 0 _ _ _ hrowY
          have p1 := cell_of_row _ g2 1 _ _ _ hrowY
          have p2 := cell_of_row _ g2 2 _ _ _ hrowY
          have q0 := cell_of_row _ g 0 _ _ _ hrow8
          have q1 := cell_of_row _ g 1 _ _ _ hrow8
          have q2 := cell_of_row _ g 2 _ _ _ hrow8
          have eself : (x.hasMap == x.hasMap) = true := beq_self_eq_true x.hasMap
          go_wp2_with fail
          refine (Dec.same_any 10 rfl _ _ y.mp x.mp y.mn y.mc x.mn x.mc x.map x.map w8 sMap8 rMap8 hymn).mono ?_
          rintro e w9 ⟨rfl, k9, rfl⟩
          rw [beq_self_eq_true]
          have hb89 : Below w8.heap.size w8 (w8.drewN k9) := ⟨rfl, rfl, rfl, Nat.le_refl _, fun _ _ => rfl⟩
          have p2' : (w8.drewN k9).cell? ⟨g2, 2, none⟩ = _ := p2
          have q2' : (w8.drewN k9).cell? ⟨g, 2, none⟩ = _ := q2
          go_wp2_with fail
          refine (rsamemembers_any w8.heap.size y.ap x.ap y.an y.ac x.an x.ac y.mems x.mems (w8.drewN k9) (sMem8.below hb89) (rMem8.below hb89) (Nat.le_refl _) hyan).mono ?_
          rintro e w10 ⟨rfl, hb10⟩
          rw [HSM.out]
          go_wp2_with fail
          go_ret
          exact ⟨rfl, (hb08.trans (hb89.mono hs8)).trans (hb10.mono hs8)⟩
    · clear q0 q1 q2
      go_wp2_with fail
      go_ret
      exact ⟨rfl, hb04⟩

set_option maxRecDepth 100000 in
theorem held : Rows.ArwriteCanonicalSaid :=
  OpenClaim.holds_of_wide 4 Tryz.f4 rfl rfl rfl rfl rfl rfl rfl ⟨rfl, rfl, rfl, rfl, rfl⟩ rfl rfl rfl rfl rfl (by kernel_rfl) Tryz.func4 (by kernel_rfl)
    (of_decide_eq_true (by kernel_rfl)) (by unfold Func.isWrapper; first | (rw [if_pos (by decide +kernel)]; kernel_rfl) | (rw [if_neg (by decide +kernel)]; exact ⟨rfl, rfl⟩))
    (fun os started H enc _ => liftedG (started := started) (s := Rows.arwriteCanonicalSpec) (L := Rows.arwriteCanonicalRow.laid) rfl
      (fun ds h => by match ds, h with | [_], _ => rfl) (by kernel_rfl)
      (by kernel_rfl) (by kernel_rfl) Tryz.func4
      (ChangeSpec.witness_shaped (enc := enc) (C := Tryz.checked) (os := os) (X := fun w _ => laidMetH Tryz.prog Rows.arwriteCanonicalRow.laid w) false (World.laidAll Tryz.prog os Rows.arwriteCanonicalRow.laid) #[.slice none 0 0] 8 (World.laidAll_os _ _ _)
        (World.shaped_of_ZipB (by kernel_rfl) (by kernel_rfl)) (by kernel_rfl) (by kernel_rfl) (by kernel_rfl)
        (by rw [MakeChecks.laidMetH_plain _ _ _ (by kernel_rfl)]; exact laidMet_laidAll _ (by kernel_rfl) (by kernel_rfl)))
      gndp5_of (fun W base args ds p hG h => by
        obtain ⟨hval, hA, _⟩ := h
        rw [show Tryz.f4.params = #[22] from by kernel_rfl] at hA hval
        obtain ⟨v0, vs0, d0, ds0, p0, q0, hargs, rfl, rfl, k0, r0⟩ := trodAll_cons hA
        obtain ⟨rfl, rfl, rfl⟩ := trodAll_nil r0
        obtain rfl : args = #[v0] := by cases args; simp_all
        obtain ⟨A0, n0, c0, l0, rfl, h0, m0, g0⟩ := open_bytes (hval 0 _ v0 rfl rfl) k0
        exact walk W hG A0 n0 c0 l0 h0 m0 g0))
theorem proved : Rows.ArwriteCanonicalCardSaid :=
  Claim7.holds_tied_plain_at .later [] [.data, .data, .data, .data, .pinned] true (true, "01e07c060bffd787e59266562abec18b0eea3801b8b49561a67441d93869cefd") false held (fun _ h => by cases h) (by kernel_rfl) (fun _ h => by cases h) arwriteCanonical_row_tie rfl ⟨rfl, rfl⟩ (by kernel_rfl) rfl
    (fun f fn hf hfn => by
      obtain rfl : f = 4 := Option.some.inj ((show Tryz.prog.funcNamed "arlink/arlinklaw05.ArwriteCanonical" = some 4 by kernel_rfl).symm.trans hf) |>.symm
      obtain rfl : fn = Tryz.f4 := (Option.some.inj (Tryz.func4.symm.trans hfn)).symm
      exact ⟨by kernel_rfl, fun j t ht => by
        rw [Tryz.params4] at ht
        have hm : t ∈ [22] := by simpa using Array.mem_of_getElem? ht
        have hall : ([22].all fun u => !Tryz.prog.wantsStandIn u) = true := by kernel_rfl
        exact (show Tryz.prog.wantsStandIn t = false by simpa using List.all_eq_true.1 hall t hm)⟩)
    (by kernel_rfl)
#print axioms proved
end Go.Proofs.YteeeongnabpheaaGreatDoor.Canon5
