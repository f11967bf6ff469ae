/-
  ArwriteMatchesReference: for all members and maps, all functions return what the reference implementation returns. For every map, flag and list of members: no condition.
-/
import Derived.Test.YteeeongnabpheaaDoorWn
import Derived.Test.YteeeongnabpheaaDoorWs
import Derived.Test.YteeeongnabpheaaDoorCards
namespace Go.Proofs.YteeeongnabpheaaDoor.Matches
open Go.ChangeShapes Go.WideShapes Go.ChangeAt Go.RowKit Go.Proofs Go.Proofs.YteeeongnabpheaaDoor.Byt Go.Proofs.YteeeongnabpheaaDoor.Dec Go.Proofs.YteeeongnabpheaaDoor.Lnm Go.Proofs.YteeeongnabpheaaDoor.Hdr Go.Proofs.YteeeongnabpheaaDoor.Arp Go.Proofs.YteeeongnabpheaaDoor.Arw Go.Proofs.YteeeongnabpheaaDoor.Frame

theorem wout_len {hm : Bool} {md : List UInt8} {xs : List Mem} (hn : xs.length ≤ 20) (hok : ∀ x ∈ xs, MOk x) (hl : ∀ x ∈ xs, x.data.length = x.len) (hmd : md.length ≤ 1000) : (wout hm md xs).length ≤ 30000 := by
  unfold wout
  split
  · rename_i hz
    exact arch_len ((fitL_zero 0 xs).1 hz) hn hok hl hmd
  · simp

set_option linter.unusedSimpArgs false in
set_option maxRecDepth 100000 in
set_option maxHeartbeats 8000000 in
theorem walk (w : World) (hG : GndP w) (hm : Bool) (A' : Option Addr) (n' c' : Nat) (l : List UInt8) (hr : Byt.Rd w w.heap.size A' n' l) (_hnc' : n' ≤ c') (_hc' : c' ≤ maxLen) (A : Option Addr) (n c : Nat) (xs : List Mem) (h : RdM0 w w.heap.size A n xs) (_hnc : n ≤ c) (_hc : c ≤ maxLen) (hB : ∀ x ∈ xs, MB x) :
    Calls Tryd.prog 3 #[.bool hm, .slice A' n' c', .slice A n c] w fun e w' => e = .returned (.bool true) ∧ Below w.heap.size w w' := by
  go_enter Tryd.func3, Tryd.ntmps3
  go_wp2_with fail
  refine (awake_any w hG).mono ?_
  rintro e w1 ⟨rfl, hb1⟩
  go_wp2_with fail
  refine (few5_any w.heap.size A n c xs w1 (h.below hb1) hb1.size).mono ?_
  rintro e w2 ⟨rfl, hb2⟩
  have hb02 := hb1.trans (hb2.mono hb1.size)
  have hs2 : w.heap.size ≤ w2.heap.size := hb02.size
  clear hb1 hb2
  cases hf : fewM xs
  · go_wp2_with fail
    refine (awake_any _ (hG.on hb02)).mono ?_
    rintro e w9 ⟨rfl, hb9⟩
    go_wp2_with fail
    go_ret
    exact ⟨rfl, hb02.trans (hb9.mono hb02.size)⟩
  · obtain ⟨k1, _, k3⟩ := fewM_iff.1 hf
    have hl := hid h.1
    have hM := h.to (fun x hx => (k3 x hx).2)
    have hok : ∀ x ∈ xs, MOk x := fun x hx => (hB x hx).ok (k3 x hx).1 (k3 x hx).2
    have hn20 : n ≤ 20 := by have := hl.out; omega
    clear hf k1 k3 h hB
    by_cases h5 : 1000 < n'
    · have h5i : (1000 : Int) < (n' : Int) := by omega
      go_wp2_with fail
      refine (awake_any _ (hG.on hb02)).mono ?_
      rintro e w9 ⟨rfl, hb9⟩
      go_wp2_with fail
      go_ret
      exact ⟨rfl, hb02.trans (hb9.mono hb02.size)⟩
    · have h5i : ¬ (1000 : Int) < (n' : Int) := by omega
      have hlr := hid hr.1
      go_wp2_with fail
      refine (write_any hm A' n' c' l w.heap.size w.heap.size A n c xs w2 (hG.on hb02) (hr.below hb02) hs2 (by omega) (hM.below hb02) hs2 hok hn20).mono ?_
      rintro e w3 ⟨v3, rfl, o3, hb3⟩
      obtain ⟨A3, c3, rfl, r3, _⟩ := o3.reads
      have hb03 := hb02.trans (hb3.mono hs2)
      have hs3 : w.heap.size ≤ w3.heap.size := hb03.size
      clear o3 hb3 hb02
      go_wp2_with fail
      refine (rwrite_any hm A' n' c' l w.heap.size w.heap.size A n c xs w3 (hr.below hb03) hs3 (by omega) (hM.below hb03) hs3 hok hn20).mono ?_
      rintro e w4 ⟨v4, A5, n5, c5, rfl, o4, o5, hb4⟩
      obtain ⟨A4, c4, rfl, r4, _⟩ := o4.reads
      have r34 := r3.below hb4
      have HS34 := hid hb4.size
      have r5 := rdI_of o5
      have hb04 := hb03.trans (hb4.mono hs3)
      have hs4 : w.heap.size ≤ w4.heap.size := hb04.size
      clear o4 o5 hb4 hb03 r3
      go_wp2_with fail
      refine (fits5_any w.heap.size A n c xs w4 (hM.below hb04) hs4 hok (by omega)).mono ?_
      rintro e w5 ⟨rfl, hb5⟩
      have hs34 : w3.heap.size ≤ w4.heap.size := HS34.out
      have r35 := r34.below (hb5.mono hs34)
      have hs35 : w3.heap.size ≤ w5.heap.size := Nat.le_trans hs34 hb5.size
      have r45 := r4.below hb5
      have r55 := r5.below hb5
      have hb05 := hb04.trans (hb5.mono hs4)
      have hs5 : w.heap.size ≤ w5.heap.size := hb05.size
      have hs45 : w4.heap.size ≤ w5.heap.size := hb5.size
      clear hb5 hb04 r34 r4 r5
      go_wp2_with fail
      refine (rfits5_any w.heap.size A n c xs w5 (hM.below hb05) hs5 hok (by omega)).mono ?_
      rintro e w6 ⟨rfl, hb6⟩
      have r36 := r35.below (hb6.mono hs35)
      have r46 := r45.below (hb6.mono hs45)
      have r56 := r55.below (hb6.mono hs45)
      have hb06 := hb05.trans (hb6.mono hs5)
      have hs6 : w.heap.size ≤ w6.heap.size := hb06.size
      have hs46 : w4.heap.size ≤ w6.heap.size := Nat.le_trans hs45 hb6.size
      clear hb6 hb05 r35 r45 r55
      have hwl := wout_len (hm := hm) (md := l) (xs := xs) (by have := hl.out; omega) hok (fun x hx => by obtain ⟨k, hk, rfl⟩ := List.mem_iff_getElem.1 hx; exact (hM.2 k hk).2.1.1) (by have := hlr.out; omega)
      generalize wout hm l xs = ar at *
      obtain ⟨f1, f2, hf⟩ : ∃ f1 f2, fitL 0 xs = (f1, f2) := ⟨_, _, rfl⟩
      have HF := hid hf
      rw [hf] at r56 ⊢
      clear hf
      go_wp2_with fail
      refine (Dec.same_any 13 rfl _ _ A3 A4 ar.length c3 ar.length c4 ar ar w6 r36 r46 (by omega)).mono ?_
      rintro e w7 ⟨rfl, k7, rfl⟩
      rw [beq_self_eq_true]
      have hb07 : Below w.heap.size w (w6.drewN k7) := hb06.trans ⟨rfl, rfl, rfl, Nat.le_refl _, fun _ _ => rfl⟩
      have r57 : RdI (w6.drewN k7) w4.heap.size A5 n5 _ := r56
      have hs7 : w.heap.size ≤ (w6.drewN k7).heap.size := hs6
      have hs47 : w4.heap.size ≤ (w6.drewN k7).heap.size := hs46
      clear r36 r46 r56 hb06
      generalize w6.drewN k7 = w7 at *
      have e1 : (f1 == f1) = true := beq_self_eq_true f1
      have e2 : (f2 == f2) = true := beq_self_eq_true f2
      go_wp2_with fail
      refine (offsets_any hm n' w.heap.size A n c xs w7 (hG.on hb07) (hM.below hb07) hs7 hok hn20 (by omega)).mono ?_
      rintro e w8 ⟨A8, n8, c8, rfl, o8, hb8⟩
      have r8 := rdI_of o8
      have r58 := r57.below (hb8.mono hs47)
      rw [HF.out] at r8
      rw [hlr.out] at r58
      have hb08 := hb07.trans (hb8.mono hs7)
      clear o8 r57 hb8 hb07
      have hn8 : n8 ≤ 140737488355328 := by
        have := r8.1
        rw [List.length_map] at this
        split at this
        · unfold offL at this; rw [List.length_map, List.length_range] at this; have := hl.out; omega
        · simp at this; omega
      go_wp2_with fail
      refine (rnumbers_any _ _ A8 A5 n8 c8 n5 c5 _ _ w8 r8 r58 hn8).mono ?_
      rintro e w9 ⟨rfl, k9, rfl⟩
      rw [beq_self_eq_true]
      go_wp2_with fail
      go_ret
      exact ⟨rfl, hb08.trans ⟨rfl, rfl, rfl, Nat.le_refl _, fun _ _ => rfl⟩⟩

set_option maxRecDepth 100000 in
theorem held : Rows.ArwriteMatchesReferenceSaid :=
  OpenClaim.holds_of_wide 3 Tryd.f3 rfl rfl rfl rfl rfl rfl rfl ⟨rfl, rfl, rfl, rfl, rfl⟩ rfl rfl rfl rfl rfl (by kernel_rfl) Tryd.func3 (by kernel_rfl)
    (of_decide_eq_true (by kernel_rfl)) (by unfold Func.isWrapper; first | (rw [if_pos (by decide +kernel)]; kernel_rfl) | (rw [if_neg (by decide +kernel)]; exact ⟨rfl, rfl⟩))
    (fun os started H enc _ => liftedG (started := started) (s := Rows.arwriteMatchesReferenceSpec) (L := Rows.arwriteMatchesReferenceRow.laid) rfl
      (fun ds h => by match ds, h with | [_, _, _], _ => rfl) (by kernel_rfl)
      (by kernel_rfl) (by kernel_rfl) Tryd.func3
      (ChangeSpec.witness_shaped (enc := enc) (C := Tryd.checked) (os := os) (X := fun w _ => laidMetH Tryd.prog Rows.arwriteMatchesReferenceRow.laid w) false (World.laidAll Tryd.prog os Rows.arwriteMatchesReferenceRow.laid) #[.bool false, .slice none 0 0, .slice none 0 0] 8 (World.laidAll_os _ _ _)
        (World.shaped_of_ZipB (by kernel_rfl) (by kernel_rfl)) (by kernel_rfl) (by kernel_rfl) (by kernel_rfl)
        (by rw [MakeChecks.laidMetH_plain _ _ _ (by kernel_rfl)]; exact laidMet_laidAll _ (by kernel_rfl) (by kernel_rfl)))
      gndp_of (fun W base args ds p hG h => by
        obtain ⟨hval, hA, _⟩ := h
        rw [show Tryd.f3.params = #[4, 22, 23] from by kernel_rfl] at hA hval
        obtain ⟨v0, vs0, d0, ds0, p0, q0, hargs, rfl, rfl, k0, r0⟩ := trodAll_cons hA
        obtain ⟨v1, vs1, d1, ds1, p1, q1, rfl, rfl, rfl, k1, r1⟩ := trodAll_cons r0
        obtain ⟨v2, vs2, d2, ds2, p2, q2, rfl, rfl, rfl, k2, r2⟩ := trodAll_cons r1
        obtain ⟨rfl, rfl, rfl⟩ := trodAll_nil r2
        obtain rfl : args = #[v0, v1, v2] := by cases args; simp_all
        obtain ⟨a0, rfl⟩ := open_b (hval 0 _ v0 rfl rfl) k0
        obtain ⟨A1, n1, c1, l1, rfl, h1, m1, g1⟩ := open_bytes (hval 1 _ v1 rfl rfl) k1
        obtain ⟨A2, n2, c2, l2, rfl, h2, m2, g2, s2⟩ := open_mems (hval 2 _ v2 rfl rfl) k2
        exact walk W hG a0 A1 n1 c1 l1 h1 m1 g1 A2 n2 c2 l2 h2 m2 g2 s2))
theorem proved : Rows.ArwriteMatchesReferenceCardSaid :=
  Claim7.holds_tied_plain_at .later [] [.data, .data, .data] true (true, "e71bdd4a64025239ffe3a50cebeb532569b9d8715588fd984b1edff4121d2f15") false held (fun _ h => by cases h) (by kernel_rfl) (fun _ h => by cases h) arwriteMatchesReference_row_tie rfl ⟨rfl, rfl⟩ (by kernel_rfl) rfl
    (fun f fn hf hfn => by
      obtain rfl : f = 3 := Option.some.inj ((show Tryd.prog.funcNamed "arlink/arlinklaw05.ArwriteMatchesReference" = some 3 by kernel_rfl).symm.trans hf) |>.symm
      obtain rfl : fn = Tryd.f3 := (Option.some.inj (Tryd.func3.symm.trans hfn)).symm
      exact ⟨by kernel_rfl, fun j t ht => by
        rw [Tryd.params3] at ht
        have hm : t ∈ [4, 22, 23] := by simpa using Array.mem_of_getElem? ht
        have hall : ([4, 22, 23].all fun u => !Tryd.prog.wantsStandIn u) = true := by kernel_rfl
        exact (show Tryd.prog.wantsStandIn t = false by simpa using List.all_eq_true.1 hall t hm)⟩)
    (by kernel_rfl)
#print axioms proved
end Go.Proofs.YteeeongnabpheaaDoor.Matches
