/-
  LongnameRoundTrip: the fields of all names are resolved to the names with the table, which has exactly the long ones as entries. For every slice of strings: no condition.
-/
import Derived.Test.YtnkdcecpbjhdmaaDoorLnl
import Derived.Test.YtnkdcecpbjhdmaaDoorLwg
import Derived.Test.YtnkdcecpbjhdmaaDoorCards
namespace Go.Proofs.YtnkdcecpbjhdmaaDoor.RoundTrip
open Go.ChangeShapes Go.WideShapes Go.ChangeAt Go.RowKit Go.Proofs Go.Proofs.YtnkdcecpbjhdmaaDoor.Byt Go.Proofs.YtnkdcecpbjhdmaaDoor.Str3 Go.Proofs.YtnkdcecpbjhdmaaDoor.Dec Go.Proofs.YtnkdcecpbjhdmaaDoor.Lnm Go.Proofs.YtnkdcecpbjhdmaaDoor.Frame

set_option maxRecDepth 100000 in
set_option maxHeartbeats 1000000 in
theorem many (w : World) (hg : Gnd w) (A : Option Addr) (n c : Nat) (ns : List ByteArray) (hr : Sls.Rd w w.heap.size A n ns) (hf : few ns = false) :
    Calls Tryd.prog 4 #[.slice A n c] w fun e w' => e = .returned (.bool true) ∧ Below w.heap.size w w' := by
  have Hg := hid hg
  have Hf := hid hf
  clear hf
  go_enter Tryd.func4, Tryd.ntmps4
  go_wp2_with fail
  refine (awake_any _ Hg.out).mono ?_
  rintro e w1 ⟨rfl, hb1⟩
  go_wp2_with fail
  refine (few_any _ A n c ns w1 (hr.below hb1)).mono ?_
  rintro e w2 ⟨rfl, rfl⟩
  rw [Hf.out]
  go_wp2_with fail
  refine (awake_any _ (Hg.out.on hb1)).mono ?_
  rintro e w2 ⟨rfl, hb2⟩
  go_wp2_with fail
  go_ret
  exact ⟨rfl, hb1.trans (hb2.mono hb1.size)⟩

set_option maxRecDepth 100000 in
set_option maxHeartbeats 1000000 in
theorem bad_ (w : World) (hg : Gnd w) (A : Option Addr) (n c : Nat) (ns : List ByteArray) (hr : Sls.Rd w w.heap.size A n ns) (hf : few ns = true) (hv : allV ns = false) :
    Calls Tryd.prog 4 #[.slice A n c] w fun e w' => e = .returned (.bool true) ∧ Below w.heap.size w w' := by
  obtain ⟨f1, _, f3⟩ := few_small hf
  have hl := hr.1
  have Hf := hid hf
  have Hb : Hid (bo ns = [] ∧ fo ns = [] ∧ be ns = 6) := hid ⟨if_neg (by rw [hv]; simp), if_neg (by rw [hv]; simp), if_neg (by rw [hv]; simp)⟩
  have h40 : n ≤ 100 := by omega
  clear hf hv f1 hl
  go_enter Tryd.func4, Tryd.ntmps4
  go_wp2_with fail
  refine (awake_any _ hg).mono ?_
  rintro e w1 ⟨rfl, hb1⟩
  go_wp2_with fail
  refine (few_any _ A n c ns w1 (hr.below hb1)).mono ?_
  rintro e w2 ⟨rfl, rfl⟩
  rw [Hf.out]
  go_wp2_with fail
  refine (build_any _ A n c ns w1 (hg.on hb1) (hr.below hb1) hb1.size h40 f3).mono ?_
  rintro e w2 ⟨v2, v3, rfl, ho2, ho3, hb2⟩
  rw [Hb.out.1] at ho2
  rw [Hb.out.2.1] at ho3
  rw [Hb.out.2.2]
  obtain ⟨A2, c2, rfl, _⟩ := ho2.reads
  obtain ⟨A3, c3, rfl, _⟩ := ho3.reads
  have Hb2 := hid (hb1.trans (hb2.mono hb1.size))
  clear hb1 hb2 ho2 ho3
  have hl0 : ([] : List ByteArray).length = 0 := rfl
  have hl1 : ([] : List UInt8).length = 0 := rfl
  rw [hl0, hl1]
  clear hl0 hl1
  go_wp2_with fail
  go_ret
  exact ⟨rfl, Hb2.out⟩

set_option maxRecDepth 100000 in
set_option maxHeartbeats 4000000 in
theorem good_ (w : World) (hg : Gnd w) (A : Option Addr) (n c : Nat) (ns : List ByteArray) (hr : Sls.Rd w w.heap.size A n ns) (hf : few ns = true) (hv : allV ns = true) :
    Calls Tryd.prog 4 #[.slice A n c] w fun e w' => e = .returned (.bool true) ∧ Below w.heap.size w w' := by
  obtain ⟨f1, f2, f3⟩ := few_small hf
  have hl := hr.1
  have Hf := hid hf
  have Hb : Hid (bo ns = tab (longs ns) ∧ fo ns = flds [] ns ∧ be ns = 0) := hid ⟨if_pos hv, if_pos hv, if_pos hv⟩
  have h40 : n ≤ 100 := by omega
  have htl := tabl_len (ns := ns) (k := 40) hv (by omega)
  have Hres := hid fun i (hi : i < ns.length) => resv_field hv hi (by omega)
  have Hent : Hid (entsO (tab (longs ns)) = longs ns ∧ entsE (tab (longs ns)) = 0) := hid (by
    have h := good_of_tab (longs_allV hv)
    exact ⟨by unfold entsO; rw [if_pos h.1, h.2], if_pos h.1⟩)
  have Hfl := hid fun i (hi : i < ns.length) => flds_at [] ns i hi
  have Hlf : Hid ((flds [] ns).length = n) := hid (by rw [flds_length]; exact hl)
  have Hl := hid hl
  have F2 := hid f2
  clear hf hv f1 f2 hl
  go_enter Tryd.func4, Tryd.ntmps4
  go_wp2_with fail
  refine (awake_any _ hg).mono ?_
  rintro e w1 ⟨rfl, hb1⟩
  go_wp2_with fail
  refine (few_any _ A n c ns w1 (hr.below hb1)).mono ?_
  rintro e w2 ⟨rfl, rfl⟩
  rw [Hf.out]
  go_wp2_with fail
  refine (build_any _ A n c ns w1 (hg.on hb1) (hr.below hb1) hb1.size h40 f3).mono ?_
  rintro e w2 ⟨v2, v3, rfl, ho2, ho3, hb2⟩
  rw [Hb.out.1] at ho2
  rw [Hb.out.2.1, Hlf.out] at ho3
  rw [Hb.out.2.2]
  obtain ⟨A2, c2, rfl, hr2, hc2, _⟩ := ho2.reads
  obtain ⟨A3, c3, rfl, hr3, hc3, _⟩ := ho3.reads
  have hb02 := hb1.trans (hb2.mono hb1.size)
  have Hg2 := hid (hg.on hb02)
  have Hr2 := hid hr2
  have Hr3 := hid hr3
  have HrN := hid (hr.below hb02)
  have Hb2 := hid hb02
  clear hb1 hb2 ho2 ho3 hr2 hr3
  have hself : ((n : Int) != (n : Int)) = false := by simp
  have hKw := hb02.size
  clear hb02
  go_wp2_with fail
  go_loopw [6, 7] (fun v i W => ∃ k : Nat, i = .int .i64 (k : Int) ∧ k ≤ n ∧ Sls.Own W w2.heap.size v (longs (ns.take k)).length (longs (ns.take k)) ∧ Below w2.heap.size w2 W) (fun _ i _ => n - (intOf i).toNat)
  case atStart => exact ⟨0, rfl, by omega, Sls.Own.nil _ _, Below.refl _ _⟩
  case round =>
    obtain ⟨k, rfl, hk, ho, hb⟩ := hrel
    by_cases hlt : k < n
    · have hkl : k < ns.length := by have := Hl.out; omega
      have hkf : k < (flds [] ns).length := by rw [Hlf.out]; exact hlt
      obtain ⟨b, o, rfl, hbK, hcell⟩ := HrN.out.2 k hkl
      obtain ⟨b3, o3, rfl, hbK3, hcell3⟩ := Hr3.out.2 k hkf
      obtain ⟨s, hss⟩ : ∃ s, ns[k] = s := ⟨_, rfl⟩
      obtain ⟨F, hF⟩ : ∃ F, fld (ns.take k) s = F := ⟨_, rfl⟩
      have hFk : (flds [] ns)[k] = F := by
        have := Hfl.out k hkl
        rw [List.getElem?_eq_getElem hkf, List.nil_append, hss, hF] at this
        injection this
      have hres := Hres.out k hkl
      rw [hss, hF] at hres
      have hsz : s.size ≤ 300 := by rw [← hss]; exact F2.out _ (List.getElem_mem hkl)
      have HR := hid hres.1
      have hF16 := hres.2
      have Hat : Hid (ns[k]? = some s) := hid (by rw [List.getElem?_eq_getElem hkl, hss])
      rw [hss] at hcell
      rw [hFk] at hcell3
      have hcx : ∀ W, Below w2.heap.size w2 W → W.cell? ⟨b, o + k, none⟩ = some (.string s) ∧ W.cell? ⟨b3, o3 + k, none⟩ = some (.string F) := fun W hW =>
        ⟨by rw [hW.cell (p := ⟨b, o + k, none⟩) (by show b < _; omega), hcell], by rw [hW.cell (p := ⟨b3, o3 + k, none⟩) (by show b3 < _; omega), hcell3]⟩
      have Hcx := hid hcx
      have hlen := longs_len (ns.take k)
      have htk : (ns.take k).length ≤ k := by rw [List.length_take]; omega
      clear hss hF hFk hres hcell hcell3 hcx
      have Ho := hid ho
      have Hbk := hid hb
      obtain ⟨q1, q2⟩ := Hcx.out _ hb
      have Hresolve := hid (resolve_any w2.heap.size A2 _ c2 (tab (longs ns)) F wr (Hg2.out.on hb) (Hr2.out.below hb) hb.size hc2 (by omega) (by omega))
      clear ho hb
      cases hsh : sht (bts s)
      · have Hlk : Hid (longs (ns.take (k + 1)) = longs (ns.take k) ++ [s]) := hid (by rw [take_next Hat.out, longs_long hsh])
        go_wp2_with fail
        refine Hresolve.out.mono ?_
        rintro e w3 ⟨rfl, hb3⟩
        rw [HR.out]
        have hb23 := Hbk.out.trans (hb3.mono Hbk.out.size)
        have ho3 := Ho.out.below hb3
        obtain ⟨q3, q4⟩ := Hcx.out _ hb23
        clear hb3 q1 q2
        have er : rs (some s) = s := rfl
        have ee : re (some s) = 0 := rfl
        rw [er, ee]
        clear er ee
        go_wp2_with fail
        refine (short_any s _ (by omega)).mono ?_
        rintro e w4 ⟨rfl, hb4⟩
        rw [hsh]
        have hb24 := hb23.trans (hb4.mono hb23.size)
        have ho4 := ho3.below hb4
        obtain ⟨q5, q6⟩ := Hcx.out _ hb24
        clear hb4 q3 q4 ho3 hb23
        go_wp2_with (at_builtin; refine Sls.wpList_push _ w2.heap.size _ _ _ _ ho4 hb24.size (by omega) rfl (.tmp 84) (.tmp 89) rfl rfl rfl ?_; intro f5 w5 hf5 hb45 _ _)
        go_roundw
        case rel =>
          refine ⟨k + 1, by go_num, by omega, ?_, hb24.trans hb45⟩
          rw [Hlk.out, List.length_append]
          exact hf5
        case measure => simp [intOf]; omega
      · have Hlk : Hid (longs (ns.take (k + 1)) = longs (ns.take k)) := hid (by rw [take_next Hat.out, longs_short hsh])
        go_wp2_with fail
        refine Hresolve.out.mono ?_
        rintro e w3 ⟨rfl, hb3⟩
        rw [HR.out]
        have hb23 := Hbk.out.trans (hb3.mono Hbk.out.size)
        have ho3 := Ho.out.below hb3
        obtain ⟨q3, q4⟩ := Hcx.out _ hb23
        clear hb3 q1 q2
        have er : rs (some s) = s := rfl
        have ee : re (some s) = 0 := rfl
        rw [er, ee]
        clear er ee
        go_wp2_with fail
        refine (short_any s _ (by omega)).mono ?_
        rintro e w4 ⟨rfl, hb4⟩
        rw [hsh]
        have hb24 := hb23.trans (hb4.mono hb23.size)
        have ho4 := ho3.below hb4
        clear hb4 q3 q4 ho3 hb23
        go_wp2_with fail
        go_roundw
        case rel =>
          refine ⟨k + 1, by go_num, by omega, ?_, hb24⟩
          rw [Hlk.out]
          exact ho4
        case measure => simp [intOf]; omega
    · obtain rfl : k = n := by omega
      have hfull : ns.take k = ns := take_all Hl.out
      rw [hfull] at ho
      clear hfull
      obtain ⟨A5, c5, rfl, hr5, hc5, _⟩ := ho.reads
      have Hr5 := hid hr5
      have hlL := longs_len ns
      have hln : ns.length = k := Hl.out
      have hL100 : (longs ns).length ≤ 100 := by omega
      have hb05 := Hb2.out.trans (hb.mono Hb2.out.size)
      have Hb5 := hid hb05
      clear ho hr5 hlL hln hb05
      have Hen := hid (entries_any w2.heap.size A2 _ c2 (tab (longs ns)) wr (Hg2.out.on hb) (Hr2.out.below hb) hb.size hc2 (by omega))
      clear hb
      go_wp2_with fail
      refine Hen.out.mono ?_
      rintro e w6 ⟨v6, rfl, ho6, hb6⟩
      rw [Hent.out.1] at ho6
      rw [Hent.out.2]
      obtain ⟨A6, c6, rfl, hr6, hc6, _⟩ := ho6.reads
      have Ht := hid (texts_any _ _ A6 A5 _ c6 _ c5 (longs ns) (longs ns) w6 hr6 (Hr5.out.below hb6) (by omega))
      have Hb6 := hid (Hb5.out.trans (hb6.mono Hb5.out.size))
      clear ho6 hr6 hb6
      go_wp2_with fail
      refine Ht.out.mono ?_
      rintro e w7 ⟨rfl, m7, rfl⟩
      rw [eqs_iff.2 rfl]
      go_wp2_with fail
      go_ret
      exact ⟨rfl, Hb6.out.trans (below_drewN _ _)⟩

theorem walk (w : World) (hg : Gnd w) (A : Option Addr) (n c : Nat) (ns : List ByteArray) (hr : Sls.Rd w w.heap.size A n ns) (_ : n ≤ c) (_ : c ≤ maxLen) (_ : ∀ s ∈ ns, s.size ≤ maxLen) :
    Calls Tryd.prog 4 #[.slice A n c] w fun e w' => e = .returned (.bool true) ∧ Below w.heap.size w w' := by
  cases hf : few ns
  · exact many w hg A n c ns hr hf
  · cases hv : allV ns
    · exact bad_ w hg A n c ns hr hf hv
    · exact good_ w hg A n c ns hr hf hv

set_option maxRecDepth 100000 in
theorem held : Rows.LongnameRoundTripSaid :=
  OpenClaim.holds_of_wide 4 Tryd.f4 rfl rfl rfl rfl rfl rfl rfl ⟨rfl, rfl, rfl, rfl, rfl⟩ rfl rfl rfl rfl rfl (by kernel_rfl) Tryd.func4 (by kernel_rfl)
    (of_decide_eq_true (by kernel_rfl)) (by unfold Func.isWrapper; first | (rw [if_pos (by decide +kernel)]; kernel_rfl) | (rw [if_neg (by decide +kernel)]; exact ⟨rfl, rfl⟩))
    (fun os started H enc _ => liftedG (started := started) (s := Rows.longnameRoundTripSpec) (L := Rows.longnameRoundTripRow.laid) rfl
      (fun ds h => by match ds, h with | [_], _ => rfl) (by kernel_rfl)
      (by kernel_rfl) (by kernel_rfl) Tryd.func4
      (ChangeSpec.witness_shaped (enc := enc) (C := Tryd.checked) (os := os) (X := fun w _ => laidMetH Tryd.prog Rows.longnameRoundTripRow.laid w) false (World.laidAll Tryd.prog os Rows.longnameRoundTripRow.laid) #[.slice none 0 0] 8 (World.laidAll_os _ _ _)
        (World.shaped_of_ZipB (by kernel_rfl) (by kernel_rfl)) (by kernel_rfl) (by kernel_rfl) (by kernel_rfl)
        (by rw [MakeChecks.laidMetH_plain _ _ _ (by kernel_rfl)]; exact laidMet_laidAll _ (by kernel_rfl) (by kernel_rfl)))
      gnd_of (fun W base args ds p hG h => by
        obtain ⟨hval, hA, _⟩ := h
        rw [show Tryd.f4.params = #[22] from by kernel_rfl] at hA hval
        obtain ⟨v0, vs0, d0, ds0, p0, q0, hargs, rfl, rfl, k0, r0⟩ := trodAll_cons hA
        obtain ⟨rfl, rfl, rfl⟩ := trodAll_nil r0
        obtain rfl : args = #[v0] := by cases args; simp_all
        obtain ⟨A0, n0, c0, l0, rfl, h0, m0, g0, s0⟩ := open_strs (hval 0 _ v0 rfl rfl) k0
        exact walk W hG A0 n0 c0 l0 h0 m0 g0 s0))
theorem proved : Rows.LongnameRoundTripCardSaid :=
  Claim7.holds_tied_plain_at .later [] [.data, .data, .data] true (true, "633020f8cc6583ae8bfd4f07bdf20992a0d614bdae9f021f4599b06dde0a5ae5") false held (fun _ h => by cases h) (by kernel_rfl) (fun _ h => by cases h) longnameRoundTrip_row_tie rfl ⟨rfl, rfl⟩ (by kernel_rfl) rfl
    (fun f fn hf hfn => by
      obtain rfl : f = 4 := Option.some.inj ((show Tryd.prog.funcNamed "arlink/arlinklaw03.LongnameRoundTrip" = some 4 by kernel_rfl).symm.trans hf) |>.symm
      obtain rfl : fn = Tryd.f4 := (Option.some.inj (Tryd.func4.symm.trans hfn)).symm
      exact ⟨by kernel_rfl, fun j t ht => by
        rw [Tryd.params4] at ht
        have hm : t ∈ [22] := by simpa using Array.mem_of_getElem? ht
        have hall : ([22].all fun u => !Tryd.prog.wantsStandIn u) = true := by kernel_rfl
        exact (show Tryd.prog.wantsStandIn t = false by simpa using List.all_eq_true.1 hall t hm)⟩)
    (by kernel_rfl)
#print axioms proved
end Go.Proofs.YtnkdcecpbjhdmaaDoor.RoundTrip
