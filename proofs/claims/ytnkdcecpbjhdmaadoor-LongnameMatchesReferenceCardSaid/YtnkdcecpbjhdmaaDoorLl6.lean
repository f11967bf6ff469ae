/-
  LongnameMatchesReference: for all names, bytes and fields, all functions return what the reference implementation returns. No condition.
-/
import Derived.Test.YtnkdcecpbjhdmaaDoorLnl
import Derived.Test.YtnkdcecpbjhdmaaDoorLwg
import Derived.Test.YtnkdcecpbjhdmaaDoorCards
namespace Go.Proofs.YtnkdcecpbjhdmaaDoor.Matches
open Go.ChangeShapes Go.WideShapes Go.ChangeAt Go.RowKit Go.Proofs Go.Proofs.YtnkdcecpbjhdmaaDoor.Byt Go.Proofs.YtnkdcecpbjhdmaaDoor.Str3 Go.Proofs.YtnkdcecpbjhdmaaDoor.Dec Go.Proofs.YtnkdcecpbjhdmaaDoor.Lnm Go.Proofs.YtnkdcecpbjhdmaaDoor.Frame

set_option maxRecDepth 100000 in
set_option maxHeartbeats 2000000 in
theorem big (w : World) (hg : Gnd w) (A : Option Addr) (n c : Nat) (ns : List ByteArray) (hr : Sls.Rd w w.heap.size A n ns) (B : Option Addr) (m d : Nat) (fi na : ByteArray)
    (hf : few ns = false ∨ (few ns = true ∧ (1000 < m ∨ (¬ 1000 < m ∧ (100 < fi.size ∨ (¬ 100 < fi.size ∧ 1000 < na.size)))))) :
    Calls Tryd.prog 3 #[.slice A n c, .slice B m d, .string fi, .string na] w fun e w' => e = .returned (.bool true) ∧ Below w.heap.size w w' := by
  have Hg := hid hg
  rcases hf with hf | ⟨hf, hf2 | ⟨hf2, hf3 | ⟨hf3, hf4⟩⟩⟩
  all_goals
    have Hf := hid hf
    clear hf
    go_enter Tryd.func3, Tryd.ntmps3
    go_wp2_with fail
    refine (awake_any _ Hg.out).mono ?_
    rintro e w1 ⟨rfl, hb1⟩
    go_wp2_with fail
    refine (few_any _ A n c ns w1 (hr.below hb1)).mono ?_
    rintro e w2 ⟨rfl, rfl⟩
    rw [Hf.out]
    go_wp2_with fail
    refine (awake_any _ (Hg.out.on hb1)).mono ?_
    rintro e w2 ⟨rfl, hb2⟩
    go_wp2_with fail
    go_ret
    exact ⟨rfl, hb1.trans (hb2.mono hb1.size)⟩

set_option maxRecDepth 100000 in
set_option maxHeartbeats 8000000 in
theorem few_ (w : World) (hg : Gnd w) (A : Option Addr) (n c : Nat) (ns : List ByteArray) (hr : Sls.Rd w w.heap.size A n ns) (B : Option Addr) (m d : Nat) (l : List UInt8) (hr' : Rd w w.heap.size B m l) (hmd : m ≤ d) (fi na : ByteArray)
    (hf : few ns = true) (hm : ¬ 1000 < m) (hfi : ¬ 100 < fi.size) (hna : ¬ 1000 < na.size) :
    Calls Tryd.prog 3 #[.slice A n c, .slice B m d, .string fi, .string na] w fun e w' => e = .returned (.bool true) ∧ Below w.heap.size w w' := by
  obtain ⟨f1, f2, f3⟩ := few_small hf
  have hl := hr.1
  have Hf := hid hf
  have h100 : n ≤ 100 := by omega
  have F3 := hid f3
  have Hl := hid hr'.1
  have hbo : (bo ns).length ≤ 40 * 257 := by
    unfold bo
    split
    · rename_i h; exact tabl_len h f1
    · simp
  have hfo : (fo ns).length ≤ 40 := by
    unfold fo
    split
    · rw [flds_length]; exact f1
    · simp
  have heo : (entsO l).length ≤ 1001 := by
    unfold entsO
    split
    · have := seq_length l; have := hr'.1; omega
    · simp
  clear hf f1 f2 f3 hl
  go_enter Tryd.func3, Tryd.ntmps3
  go_wp2_with fail
  refine (awake_any _ hg).mono ?_
  rintro e w1 ⟨rfl, hb1⟩
  go_wp2_with fail
  refine (few_any _ A n c ns w1 (hr.below hb1)).mono ?_
  rintro e w2 ⟨rfl, rfl⟩
  rw [Hf.out]
  go_wp2_with fail
  refine (build_any _ A n c ns w1 (hg.on hb1) (hr.below hb1) hb1.size h100 F3.out).mono ?_
  rintro e w2 ⟨v2, v3, rfl, ho2, ho3, hb2⟩
  obtain ⟨A2, c2, rfl, hr2, hc2, _⟩ := ho2.reads
  obtain ⟨A3, c3, rfl, hr3, hc3, _⟩ := ho3.reads
  have hb02 := hb1.trans (hb2.mono hb1.size)
  clear hb1 hb2 ho2 ho3
  go_wp2_with fail
  refine (rbuild_any _ A n c ns w2 (hr.below hb02) hb02.size h100 F3.out).mono ?_
  rintro e w3 ⟨v4, v5, rfl, ho4, ho5, hb3⟩
  obtain ⟨A4, c4, rfl, hr4, hc4, _⟩ := ho4.reads
  obtain ⟨A5, c5, rfl, hr5, hc5, _⟩ := ho5.reads
  have hb03 := hb02.trans (hb3.mono hb02.size)
  have hr23 := hr2.below hb3
  have hr33 := hr3.below hb3
  have hK := hb3.size
  clear hb02 hb3 ho4 ho5 hr2 hr3
  go_wp2_with fail
  refine (entries_any _ B m d l w3 (hg.on hb03) (hr'.below hb03) hb03.size hmd (by omega)).mono ?_
  rintro e w4 ⟨v6, rfl, ho6, hb4⟩
  obtain ⟨A6, c6, rfl, hr6, hc6, _⟩ := ho6.reads
  have hb04 := hb03.trans (hb4.mono hb03.size)
  have hr24 := (hr23.more hK).below hb4
  have hr34 := (hr33.more hK).below hb4
  have hr44 := hr4.below hb4
  have hr54 := hr5.below hb4
  have hK4 := hb4.size
  clear hb03 hb4 ho6 hr23 hr33 hr4 hr5 hK
  go_wp2_with fail
  refine (rentries_any _ B m d l w4 (hr'.below hb04) hb04.size hmd (by omega)).mono ?_
  rintro e w5 ⟨v7, rfl, ho7, hb5⟩
  obtain ⟨A7, c7, rfl, hr7, hc7, _⟩ := ho7.reads
  have hb05 := hb04.trans (hb5.mono hb04.size)
  have H2 := hid ((hr24.more hK4).below hb5)
  have H3 := hid ((hr34.more hK4).below hb5)
  have H4 := hid ((hr44.more hK4).below hb5)
  have H5 := hid ((hr54.more hK4).below hb5)
  have H6 := hid (hr6.below hb5)
  have H7 := hid hr7
  have HL := hid (hr'.below hb05)
  have HG := hid (hg.on hb05)
  have HB := hid hb05
  have hK5 := hb5.size
  have hK05 := hb05.size
  clear hb04 hb5 hb05 ho7 hr24 hr34 hr44 hr54 hr6 hr7
  have Hs := hid (same_any _ rfl _ _ A2 A4 _ c2 _ c4 (bo ns) (bo ns) w5 H2.out H4.out (by omega))
  have hs1 : (bo ns == bo ns) = true := by simp
  rw [hs1] at Hs
  clear hs1
  go_wp2_with fail
  refine Hs.out.mono ?_
  rintro e w6 ⟨rfl, m6, rfl⟩
  have hbd6 : Below w5.heap.size w5 (w5.drewN m6) := below_drewN w5 m6
  have hKd6 : w5.heap.size ≤ (w5.drewN m6).heap.size := Nat.le_refl _
  generalize w5.drewN m6 = w6 at *
  have Ht := hid (texts_any _ _ A3 A5 _ c3 _ c5 (fo ns) (fo ns) w6 ((H3.out.more hK5).below hbd6) ((H5.out.more hK5).below hbd6) (by omega))
  rw [eqs_iff.2 rfl] at Ht
  go_wp2_with fail
  refine Ht.out.mono ?_
  rintro e w7 ⟨rfl, m7, rfl⟩
  have hbd7 := hbd6.trans (below_drewN (K := w5.heap.size) w6 m7)
  generalize w6.drewN m7 = w7 at *
  have Hu := hid (texts_any _ _ A6 A7 _ c6 _ c7 (entsO l) (entsO l) w7 ((H6.out.more hK5).below hbd7) (H7.out.below hbd7) (by omega))
  rw [eqs_iff.2 rfl] at Hu
  clear hbd6 hKd6
  go_wp2_with fail
  refine Hu.out.mono ?_
  rintro e w8 ⟨rfl, m8, rfl⟩
  have hbd8 := hbd7.trans (below_drewN (K := w5.heap.size) w7 m8)
  generalize w7.drewN m8 = w8 at *
  clear hbd7
  go_wp2_with fail
  refine (valid_any na w8 (by omega)).mono ?_
  rintro e w9 ⟨rfl, hb9⟩
  have hbd9 := hbd8.trans (hb9.mono hbd8.size)
  clear hb9 hbd8
  go_wp2_with fail
  refine (rvalid_any na w9 (by omega)).mono ?_
  rintro e w10 ⟨rfl, m10, rfl⟩
  have hbd10 := hbd9.trans (below_drewN (K := w5.heap.size) w9 m10)
  generalize w9.drewN m10 = w10 at *
  clear hbd9
  go_wp2_with fail
  refine (short_any na w10 (by omega)).mono ?_
  rintro e w11 ⟨rfl, hb11⟩
  have hbd11 := hbd10.trans (hb11.mono hbd10.size)
  clear hb11 hbd10
  go_wp2_with fail
  refine (rshort_any na w11 (by omega)).mono ?_
  rintro e w12 ⟨rfl, m12, rfl⟩
  have hbd12 := hbd11.trans (below_drewN (K := w5.heap.size) w11 m12)
  generalize w11.drewN m12 = w12 at *
  clear hbd11
  have HbF := hid (HB.out.trans (hbd12.mono HB.out.size))
  have HG12 := hid (HG.out.on hbd12)
  have HL12 := hid ((HL.out.more hK05).below hbd12)
  have hK12 := hbd12.size
  clear hbd12
  cases hgd : good l
  · have hE : entsE l = 7 := if_neg (by rw [hgd]; simp)
    rw [hE]
    clear hE hgd
    go_wp2_with fail
    go_ret
    exact ⟨rfl, HbF.out⟩
  · have hE : entsE l = 0 := if_pos hgd
    have Hgd := hid hgd
    rw [hE]
    clear hE hgd
    go_wp2_with fail
    refine (resolve_any _ B m d l fi w12 HG12.out HL12.out hK12 hmd (by omega) (by omega)).mono ?_
    rintro e w13 ⟨rfl, hb13⟩
    have HL13 := hid ((HL12.out.more hK12).below hb13)
    have HbF13 := hid (HbF.out.trans (hb13.mono HbF.out.size))
    have hK13 := hb13.size
    clear hb13
    go_wp2_with fail
    refine (rresolve_any _ B m d l fi w13 HL13.out hK13 hmd (by omega) (by omega) Hgd.out).mono ?_
    rintro e w14 ⟨rfl, hb14⟩
    have HbF14 := hid (HbF13.out.trans (hb14.mono HbF13.out.size))
    clear hb14
    generalize rs (resv (bts fi) l) = R at *
    generalize re (resv (bts fi) l) = R' at *
    go_wp2_with fail
    go_ret
    exact ⟨ret_bool (by simp), HbF14.out⟩

theorem walk (w : World) (hg : Gnd w) (A : Option Addr) (n c : Nat) (ns : List ByteArray) (hr : Sls.Rd w w.heap.size A n ns) (_ : n ≤ c) (_ : c ≤ maxLen) (_ : ∀ s ∈ ns, s.size ≤ maxLen)
    (B : Option Addr) (m d : Nat) (l : List UInt8) (hr' : Rd w w.heap.size B m l) (hmd : m ≤ d) (_ : d ≤ maxLen) (fi : ByteArray) (_ : fi.size ≤ maxLen) (na : ByteArray) (_ : na.size ≤ maxLen) :
    Calls Tryd.prog 3 #[.slice A n c, .slice B m d, .string fi, .string na] w fun e w' => e = .returned (.bool true) ∧ Below w.heap.size w w' := by
  cases hf : few ns
  · exact big w hg A n c ns hr B m d fi na (.inl hf)
  · by_cases h1 : 1000 < m
    · exact big w hg A n c ns hr B m d fi na (.inr ⟨hf, .inl h1⟩)
    · by_cases h2 : 100 < fi.size
      · exact big w hg A n c ns hr B m d fi na (.inr ⟨hf, .inr ⟨h1, .inl h2⟩⟩)
      · by_cases h3 : 1000 < na.size
        · exact big w hg A n c ns hr B m d fi na (.inr ⟨hf, .inr ⟨h1, .inr ⟨h2, h3⟩⟩⟩)
        · exact few_ w hg A n c ns hr B m d l hr' hmd fi na hf h1 h2 h3

set_option maxRecDepth 100000 in
theorem held : Rows.LongnameMatchesReferenceSaid :=
  OpenClaim.holds_of_wide 3 Tryd.f3 rfl rfl rfl rfl rfl rfl rfl ⟨rfl, rfl, rfl, rfl, rfl⟩ rfl rfl rfl rfl rfl (by kernel_rfl) Tryd.func3 (by kernel_rfl)
    (of_decide_eq_true (by kernel_rfl)) (by unfold Func.isWrapper; first | (rw [if_pos (by decide +kernel)]; kernel_rfl) | (rw [if_neg (by decide +kernel)]; exact ⟨rfl, rfl⟩))
    (fun os started H enc _ => liftedG (started := started) (s := Rows.longnameMatchesReferenceSpec) (L := Rows.longnameMatchesReferenceRow.laid) rfl
      (fun ds h => by match ds, h with | [_, _, _, _], _ => rfl) (by kernel_rfl)
      (by kernel_rfl) (by kernel_rfl) Tryd.func3
      (ChangeSpec.witness_shaped (enc := enc) (C := Tryd.checked) (os := os) (X := fun w _ => laidMetH Tryd.prog Rows.longnameMatchesReferenceRow.laid w) false (World.laidAll Tryd.prog os Rows.longnameMatchesReferenceRow.laid) #[.slice none 0 0, .slice none 0 0, .string ⟨#[]⟩, .string ⟨#[]⟩] 8 (World.laidAll_os _ _ _)
        (World.shaped_of_ZipB (by kernel_rfl) (by kernel_rfl)) (by kernel_rfl) (by kernel_rfl) (by kernel_rfl)
        (by rw [MakeChecks.laidMetH_plain _ _ _ (by kernel_rfl)]; exact laidMet_laidAll _ (by kernel_rfl) (by kernel_rfl)))
      gnd_of (fun W base args ds p hG h => by
        obtain ⟨hval, hA, _⟩ := h
        rw [show Tryd.f3.params = #[22, 23, 9, 9] from by kernel_rfl] at hA hval
        obtain ⟨v0, vs0, d0, ds0, p0, q0, hargs, rfl, rfl, k0, r0⟩ := trodAll_cons hA
        obtain ⟨v1, vs1, d1, ds1, p1, q1, rfl, rfl, rfl, k1, r1⟩ := trodAll_cons r0
        obtain ⟨v2, vs2, d2, ds2, p2, q2, rfl, rfl, rfl, k2, r2⟩ := trodAll_cons r1
        obtain ⟨v3, vs3, d3, ds3, p3, q3, rfl, rfl, rfl, k3, r3⟩ := trodAll_cons r2
        obtain ⟨rfl, rfl, rfl⟩ := trodAll_nil r3
        obtain rfl : args = #[v0, v1, v2, v3] := by cases args; simp_all
        obtain ⟨A0, n0, c0, l0, rfl, h0, m0, g0, s0⟩ := open_strs (hval 0 _ v0 rfl rfl) k0
        obtain ⟨A1, n1, c1, l1, rfl, h1, m1, g1⟩ := open_bytes (hval 1 _ v1 rfl rfl) k1
        obtain ⟨a2, rfl, u2⟩ := open_str (hval 2 _ v2 rfl rfl) k2
        obtain ⟨a3, rfl, u3⟩ := open_str (hval 3 _ v3 rfl rfl) k3
        exact walk W hG A0 n0 c0 l0 h0 m0 g0 s0 A1 n1 c1 l1 h1 m1 g1 a2 u2 a3 u3))
theorem proved : Rows.LongnameMatchesReferenceCardSaid :=
  Claim7.holds_tied_plain_at .later [] [.data, .data, .data] true (true, "633020f8cc6583ae8bfd4f07bdf20992a0d614bdae9f021f4599b06dde0a5ae5") false held (fun _ h => by cases h) (by kernel_rfl) (fun _ h => by cases h) longnameMatchesReference_row_tie rfl ⟨rfl, rfl⟩ (by kernel_rfl) rfl
    (fun f fn hf hfn => by
      obtain rfl : f = 3 := Option.some.inj ((show Tryd.prog.funcNamed "arlink/arlinklaw03.LongnameMatchesReference" = some 3 by kernel_rfl).symm.trans hf) |>.symm
      obtain rfl : fn = Tryd.f3 := (Option.some.inj (Tryd.func3.symm.trans hfn)).symm
      exact ⟨by kernel_rfl, fun j t ht => by
        rw [Tryd.params3] at ht
        have hm : t ∈ [22, 23, 9, 9] := by simpa using Array.mem_of_getElem? ht
        have hall : ([22, 23, 9, 9].all fun u => !Tryd.prog.wantsStandIn u) = true := by kernel_rfl
        exact (show Tryd.prog.wantsStandIn t = false by simpa using List.all_eq_true.1 hall t hm)⟩)
    (by kernel_rfl)
#print axioms proved
end Go.Proofs.YtnkdcecpbjhdmaaDoor.Matches
