/-
  SymindexMatchesReference: for all members, data and offsets, all functions return what the reference implementation returns: no condition.
-/
import Derived.Test.YtpedngfmjhpojaaGreatDoorZSe
import Derived.Test.YtpedngfmjhpojaaGreatDoorZSg
import Derived.Test.YtpedngfmjhpojaaGreatDoorZSl
import Derived.Test.YtpedngfmjhpojaaGreatDoorCards
import Derived.BigQuiet
namespace Go.Proofs.YtpedngfmjhpojaaGreatDoor.Match8
open Go.ChangeShapes Go.WideShapes Go.ChangeAt Go.RowKit Go.Proofs Go.Proofs.YtpedngfmjhpojaaGreatDoor.Byt Go.Proofs.YtpedngfmjhpojaaGreatDoor.Six Go.Proofs.YtpedngfmjhpojaaGreatDoor.Frame
open Go.Proofs.YtpedngfmjhpojaaGreatDoor.Lnm (GndP)
open Go.Proofs.YtpedngfmjhpojaaGreatDoor.Arp (Mem RdM)
open Go.Proofs.YtpedngfmjhpojaaGreatDoor.Arw (RdM0 fewM core fitL ints)
open Go.Proofs.YtpedngfmjhpojaaGreatDoor.Amp (En RdE)

theorem any_take {os : List Nat} {p : Nat → Bool} {k : Nat} (hk : k < os.length) : (os.take (k + 1)).any p = ((os.take k).any p || p os[k]) := by
  rw [List.take_succ_eq_append_getElem hk, List.any_append]
  simp

set_option linter.unusedSimpArgs false in
set_option maxRecDepth 100000 in
set_option maxHeartbeats 2000000 in
theorem walk (w : World) (hG : GndP w) (A : Option Addr) (n c : Nat) (xs : List Mem) (h : RdM0 w w.heap.size A n xs) (_hnc : n ≤ c) (_hc : c ≤ maxLen) (hB : ∀ x ∈ xs, MB x) (D : Option Addr) (dn dc : Nat) (l : List UInt8) (hr : Byt.Rd w w.heap.size D dn l) (hdc : dn ≤ dc) (hdm : dc ≤ maxLen) (z : Int) (_lz : -9223372036854775808 ≤ z) (_uz : z < 9223372036854775808) :
    Calls Tryz.prog 3 #[.slice A n c, .slice D dn dc, .int .i64 z] w fun e w' => e = .returned (.bool true) ∧ Below w.heap.size w w' := by
  have HP := hid pc
  have HB := hid hB
  have HR := hid hr
  clear hB hr _lz _uz
  go_enter Tryz.func3, Tryz.ntmps3
  go_wp2_with fail
  refine (awake8_any HP.out w hG).mono ?_
  rintro e w1 ⟨rfl, B1⟩
  have hK1 := B1.size
  go_wp2_with fail
  refine (Arw.few5_any w.heap.size A n c xs w1 (h.below B1) hK1).mono ?_
  rintro e w2 ⟨rfl, hb2⟩
  have B2 := B1.trans (hb2.mono hK1)
  have g2 := hG.on B2
  clear hb2 B1 hK1
  cases hf : fewM xs
  · go_wp2_with fail
    refine (awake8_any HP.out w2 g2).mono ?_
    rintro e w9 ⟨rfl, hb9⟩
    go_wp2_with fail
    go_ret
    exact ⟨rfl, B2.trans (hb9.mono B2.size)⟩
  · by_cases hd5 : 5000 < dn
    · have hd5i : (5000 : Int) < (dn : Int) := by omega
      go_wp2_with fail
      refine (awake8_any HP.out w2 g2).mono ?_
      rintro e w9 ⟨rfl, hb9⟩
      go_wp2_with fail
      go_ret
      exact ⟨rfl, B2.trans (hb9.mono B2.size)⟩
    have hd5i : ¬ (5000 : Int) < (dn : Int) := by omega
    have aL := arg8_of g2 h B2 HB.out hf
    have hn20 := aL.n20
    clear hf g2
    go_wp2_with fail
    refine (rcomplete_any w.heap.size A n c xs w2 aL.rd aL.hK aL.few (fun x hx => (aL.cap x hx).1)).mono ?_
    rintro e w3 hR
    obtain ⟨A3, n3, c3, A4, n4, c4, A5, n5, c5, rfl, hn3, r3, r4, r5, hb3⟩ := hR.reads
    have B3 := B2.trans (hb3.mono B2.size)
    have aL3 := aL.on hb3
    have Hn3 := hid hn3
    have Hc3 := hid aL.few.clen
    have Hi3 := hid aL.few.ilen
    clear hR hb3 B2 aL hn3
    go_wp2_with fail
    refine (HP.out.complete _ A n c xs w3 aL3).mono ?_
    rintro e w4 hC
    obtain ⟨A6, n6, c6, rfl, hx1, hx2, r6, hx3, hx4, hb4⟩ := hC.reads
    clear hx1 hx2 hx3 hx4
    have B4 := B3.trans (hb4.mono B3.size)
    have aL4 := aL3.on hb4
    have r34 := r3.below hb4
    have r44 := r4.below hb4
    have r54 := r5.below hb4
    have k34 := hb4.size
    clear hC hb4 B3 aL3 r3 r4 r5
    go_wp2_with fail
    refine (HP.out.index _ A n c xs w4 aL4).mono ?_
    rintro e w5 hI
    obtain ⟨A7, n7, c7, rfl, hx1, r7, hx3, hx4, hb5⟩ := hI.reads
    clear hx1 hx3 hx4
    have B5 := B4.trans (hb5.mono B4.size)
    have aL5 := aL4.on hb5
    have r35 := r34.below (hb5.mono k34)
    have r45 := r44.below (hb5.mono k34)
    have r55 := r54.below (hb5.mono k34)
    have r65 := r6.below hb5
    have k45 := hb5.size
    clear hI hb5 B4 aL4 r34 r44 r54 r6
    go_wp2_with fail
    refine (HP.out.at_ _ A n c xs z w5 aL5).mono ?_
    rintro e w6 ⟨rfl, hb6⟩
    have HB6 := hid (B5.trans (hb6.mono B5.size))
    have HG6 := hid (aL5.on hb6).g
    have k56 := hb6.size
    have R3 := hid (r35.below (hb6.mono (by omega)))
    have R4 := hid (r45.below (hb6.mono (by omega)))
    have R5 := hid (r55.below (hb6.mono (by omega)))
    have R6 := hid (r65.below (hb6.mono (by omega)))
    have R7 := hid (r7.below hb6)
    have HK3 : Hid (w3.heap.size ≤ w6.heap.size) := hid (by omega)
    have HK4 : Hid (w4.heap.size ≤ w6.heap.size) := hid (by omega)
    have HK5 : Hid (w5.heap.size ≤ w6.heap.size) := hid k56
    have Hl5 : Hid ((oOut xs).length = n5) := hid (by have := r55.1; simpa [ints] using this)
    have hn5 : n5 ≤ 20 := by
      rw [← Hl5.out]
      unfold oOut
      split
      · rw [offF_length]; exact aL5.few.n
      · simp
    have HH : Hid (∀ k (hk : k < (oOut xs).length), (((oOut xs)[k] : Nat) : Int) = z → atI xs z = (k : Int)) := hid fun k hk q => by unfold atI; rw [atO_hit hk q]; rfl
    have HA : Hid (atB xs z = (oOut xs).any fun (o : Nat) => decide ((o : Int) = z)) := hid (atO_any xs z)
    have HN : Hid (atB xs z = false → atI xs z = 0) := hid atO_none
    generalize atI xs z = ai at *
    generalize atB xs z = ab at *
    generalize (fitL 0 xs).2 = ze at *
    clear r35 r45 r55 r65 r7 hb6 B5 aL5 k34 k45 k56
    go_wp2_with fail
    go_loopw [17, 18] (fun fv iv W => ∃ i : Nat, iv = .int .i64 (i : Int) ∧ i ≤ n5 ∧ fv = .bool (((oOut xs).take i).any fun (o : Nat) => decide ((o : Int) = z)) ∧ Below w6.heap.size w6 W) (fun _ iv _ => n5 - (intOf iv).toNat)
    case atStart => exact ⟨0, rfl, by omega, rfl, Below.refl _ _⟩
    case round =>
      obtain ⟨i, rfl, hi, rfl, hb⟩ := hrel
      by_cases hlt : i < n5
      · have hil : i < (oOut xs).length := by have := Hl5.out; omega
        have hii : (i : Int) < (n5 : Int) := by omega
        obtain ⟨b, o, rfl, _, hcell⟩ := (R5.out.below (hb.mono HK3.out)).2 i (by simp [ints]; exact hil)
        have hc' : wr.cell? ⟨b, o + i, none⟩ = some (.int .i64 (((oOut xs)[i] : Nat) : Int)) := by rw [hcell]; simp [ints]
        have HT := hid (any_take (p := fun (o : Nat) => decide ((o : Int) = z)) hil)
        have HHi := hid (HH.out i hil)
        clear hcell
        generalize ((oOut xs).take i).any (fun (o : Nat) => decide ((o : Int) = z)) = fi at *
        obtain ⟨p, hp⟩ : ∃ p : Int, (((oOut xs)[i] : Nat) : Int) = p := ⟨_, rfl⟩
        rw [hp] at hc' HHi
        have HTp : Hid (((oOut xs).take (i + 1)).any (fun (o : Nat) => decide ((o : Int) = z)) = (fi || decide (p = z))) := hid (by rw [HT.out, hp])
        clear hp HT
        cases hq : (p == z)
        · have hd : decide (p = z) = false := by simpa using hq
          have HR2 := hid HTp.out
          rw [hd, Bool.or_false] at HR2
          clear hd
          go_wp2_with fail
          go_roundw
          · exact ⟨i + 1, by go_num, by omega, by rw [HR2.out], hb⟩
          · simp [intOf]; omega
        · have he : p = z := beq_iff_eq.1 hq
          have hd : decide (p = z) = true := by simpa using hq
          have HR2 := hid HTp.out
          rw [hd, Bool.or_true] at HR2
          have hai := HHi.out he
          have hne : (ai != (i : Int)) = false := by rw [hai]; simp
          clear hd he hai
          go_wp2_with fail
          go_roundw
          · exact ⟨i + 1, by go_num, by omega, by rw [HR2.out], hb⟩
          · simp [intOf]; omega
      · obtain rfl : i = n5 := by omega
        have hii : ¬ (i : Int) < (i : Int) := by omega
        have hT : (oOut xs).take i = oOut xs := List.take_of_length_le (by have := Hl5.out; omega)
        rw [hT, ← HA.out]
        have B7 := HB6.out.trans (hb.mono HB6.out.size)
        have g7 := HG6.out.on hb
        have r3 := R3.out.below (hb.mono HK3.out)
        have r6 := R6.out.below (hb.mono HK4.out)
        have hR4 := hid (R4.out.below (hb.mono HK3.out))
        have hR7 := hid (R7.out.below (hb.mono HK5.out))
        have HKr := hid hb.size
        have hn3b : n3 ≤ 140737488355328 := by have := Hn3.out; have := Hc3.out; omega
        clear hT hb
        go_wp2_with fail
        refine (Dec.same_any 13 rfl w3.heap.size w4.heap.size A3 A6 n3 c3 n6 c6 _ _ wr r3 r6 hn3b).mono ?_
        rintro e w8 ⟨rfl, m8, hw8⟩
        rw [beq_self_eq_true]
        have hb8 : Below wr.heap.size wr w8 := by subst hw8; exact Dec.below_drewN wr m8
        have hk8 : w3.heap.size ≤ wr.heap.size := Nat.le_trans HK3.out HKr.out
        have hk8' : w5.heap.size ≤ wr.heap.size := Nat.le_trans HK5.out HKr.out
        have r48 := (hR4.out.below (hb8.mono hk8)).more (Nat.le_trans hk8 hb8.size)
        have r78 := (hR7.out.below (hb8.mono hk8')).more (Nat.le_trans hk8' hb8.size)
        have hn7 : n7 ≤ 140737488355328 := by have h1 := r78.1; have := Hi3.out; omega
        have B8 := B7.trans (hb8.mono B7.size)
        have g8 := g7.on hb8
        clear hw8 r3 r6 hR4 hR7 B7 g7 hb8 hk8 hk8'
        go_wp2_with fail
        refine (Amp.rsameE_any w8.heap.size A7 A4 n7 c7 n4 c4 _ _ w8 r78 r48 (Nat.le_refl _) hn7).mono ?_
        rintro e w9 ⟨rfl, hb9⟩
        rw [Amp.sameE_eq.2 rfl]
        have B9 := B8.trans (hb9.mono B8.size)
        have g9 := g8.on hb9
        have hdr := HR.out.below B9
        have hC := hid (HP.out.defs w.heap.size D dn dc l w9 g9 hdr B9.size hdc hdm (by omega))
        have hC2 := hid fun (W : World) (hW : Below w.heap.size w W) => rdefs_any w.heap.size D dn dc l W (HR.out.below hW) hW.size hdc (by omega)
        clear r78 r48 B8 g8 hb9 hdr
        cases hab : ab
        · have ha0 : ai = 0 := HN.out hab
          subst ha0
          go_wp2_with fail
          refine hC.out.mono ?_
          rintro e wa hD
          obtain ⟨Aa, na, ca, rfl, hna, hx1, ra, hx3, hx4, hba⟩ := hD.reads
          have Hna := hid hna
          clear hx1 hx3 hx4 hna
          have Ba := B9.trans (hba.mono B9.size)
          clear hD hba
          go_wp2_with fail
          refine (hC2.out wa Ba).mono ?_
          rintro e wb hD
          obtain ⟨Ab, nb, cb, rfl, hnb, hx1, rb, hx3, hx4, hbb⟩ := hD.reads
          clear hx1 hx3 hx4 hnb
          have Bb := Ba.trans (hbb.mono Ba.size)
          have rab := ra.below hbb
          have hnab : na ≤ 140737488355328 := by have := defs_len l; have := HR.out.1; have := Hna.out; omega
          clear hD hbb ra
          go_wp2_with fail
          refine (Lnm.texts_any _ _ Aa Ab na ca nb cb _ _ wb rab rb hnab).mono ?_
          rintro e wc ⟨rfl, mc, hwc⟩
          rw [Lnm.eqs_iff.2 rfl]
          go_wp2_with fail
          go_ret
          exact ⟨rfl, by subst hwc; exact Bb.trans (Dec.below_drewN wb mc)⟩
        · go_wp2_with fail
          refine hC.out.mono ?_
          rintro e wa hD
          obtain ⟨Aa, na, ca, rfl, hna, hx1, ra, hx3, hx4, hba⟩ := hD.reads
          have Hna := hid hna
          clear hx1 hx3 hx4 hna
          have Ba := B9.trans (hba.mono B9.size)
          clear hD hba
          go_wp2_with fail
          refine (hC2.out wa Ba).mono ?_
          rintro e wb hD
          obtain ⟨Ab, nb, cb, rfl, hnb, hx1, rb, hx3, hx4, hbb⟩ := hD.reads
          clear hx1 hx3 hx4 hnb
          have Bb := Ba.trans (hbb.mono Ba.size)
          have rab := ra.below hbb
          have hnab : na ≤ 140737488355328 := by have := defs_len l; have := HR.out.1; have := Hna.out; omega
          clear hD hbb ra
          go_wp2_with fail
          refine (Lnm.texts_any _ _ Aa Ab na ca nb cb _ _ wb rab rb hnab).mono ?_
          rintro e wc ⟨rfl, mc, hwc⟩
          rw [Lnm.eqs_iff.2 rfl]
          go_wp2_with fail
          go_ret
          exact ⟨rfl, by subst hwc; exact Bb.trans (Dec.below_drewN wb mc)⟩

set_option maxRecDepth 100000 in
theorem held : Rows.SymindexMatchesReferenceSaid :=
  OpenClaim.holds_of_wide 3 Tryz.f3 rfl rfl rfl rfl rfl rfl rfl ⟨rfl, rfl, rfl, rfl, rfl⟩ rfl rfl rfl rfl rfl (by kernel_rfl) Tryz.func3 (by kernel_rfl)
    (of_decide_eq_true (by kernel_rfl)) (by unfold Func.isWrapper; first | (rw [if_pos (by decide +kernel)]; kernel_rfl) | (rw [if_neg (by decide +kernel)]; exact ⟨rfl, rfl⟩))
    (fun os started H enc _ => liftedG (started := started) (s := Rows.symindexMatchesReferenceSpec) (L := Rows.symindexMatchesReferenceRow.laid) rfl
      (fun ds h => by match ds, h with | [_, _, _], _ => rfl) (by kernel_rfl)
      (by kernel_rfl) (by kernel_rfl) Tryz.func3
      (ChangeSpec.witness_shaped (enc := enc) (C := Tryz.checked) (os := os) (X := fun w _ => laidMetH Tryz.prog Rows.symindexMatchesReferenceRow.laid w) false (World.laidAll Tryz.prog os Rows.symindexMatchesReferenceRow.laid) #[.slice none 0 0, .slice none 0 0, .int .i64 0] 8 (World.laidAll_os _ _ _)
        (World.shaped_of_ZipB (by kernel_rfl) (by kernel_rfl)) (by kernel_rfl) (by kernel_rfl) (by kernel_rfl)
        (by rw [MakeChecks.laidMetH_plain _ _ _ (by kernel_rfl)]; exact laidMet_laidAll _ (by kernel_rfl) (by kernel_rfl)))
      gndp_of (fun W base args ds p hG h => by
        obtain ⟨hval, hA, _⟩ := h
        rw [show Tryz.f3.params = #[22, 23, 3] from by kernel_rfl] at hA hval
        obtain ⟨v0, vs0, d0, ds0, p0, q0, hargs, rfl, rfl, k0, r0⟩ := trodAll_cons hA
        obtain ⟨v1, vs1, d1, ds1, p1, q1, rfl, rfl, rfl, k1, r1⟩ := trodAll_cons r0
        obtain ⟨v2, vs2, d2, ds2, p2, q2, rfl, rfl, rfl, k2, r2⟩ := trodAll_cons r1
        obtain ⟨rfl, rfl, rfl⟩ := trodAll_nil r2
        obtain rfl : args = #[v0, v1, v2] := by cases args; simp_all
        obtain ⟨A0, n0, c0, l0, rfl, h0, m0, g0, s0⟩ := open_mems (hval 0 _ v0 rfl rfl) k0
        obtain ⟨A1, n1, c1, l1, rfl, h1, m1, g1⟩ := open_bytes (hval 1 _ v1 rfl rfl) k1
        obtain ⟨a2, rfl, l2, u2⟩ := open_i64 (hval 2 _ v2 rfl rfl) k2
        exact walk W hG A0 n0 c0 l0 h0 m0 g0 s0 A1 n1 c1 l1 h1 m1 g1 a2 l2 u2))
theorem proved : Rows.SymindexMatchesReferenceCardSaid :=
  Claim7.holds_tied_plain_at .later [] [.data, .data, .data] true (true, "ae1ecf1e86fc5b02924e1b3ccece8f708fc2caf9649942e1bcdfec833af225aa") true held (fun _ h => by cases h) (by kernel_rfl) (fun _ h => by cases h) symindexMatchesReference_row_tie rfl ⟨rfl, rfl⟩ (by kernel_rfl) rfl
    (fun f fn hf hfn => by
      obtain rfl : f = 3 := Option.some.inj ((show Tryz.prog.funcNamed "arlink/arlinklaw08.SymindexMatchesReference" = some 3 by kernel_rfl).symm.trans hf) |>.symm
      obtain rfl : fn = Tryz.f3 := (Option.some.inj (Tryz.func3.symm.trans hfn)).symm
      exact ⟨by kernel_rfl, fun j t ht => by
        rw [Tryz.params3] at ht
        have hm : t ∈ [22, 23, 3] := by simpa using Array.mem_of_getElem? ht
        have hall : ([22, 23, 3].all fun u => !Tryz.prog.wantsStandIn u) = true := by kernel_rfl
        exact (show Tryz.prog.wantsStandIn t = false by simpa using List.all_eq_true.1 hall t hm)⟩)
    (by kernel_rfl)
#print axioms proved
end Go.Proofs.YtpedngfmjhpojaaGreatDoor.Match8
