/-
  LongnameKeeps: the arguments are not modified, and modifying a result does not change later results. For every slice of strings and every byte slice: no condition.
-/
import Derived.Test.YtnkdcecpbjhdmaaDoorLnl
import Derived.Test.YtnkdcecpbjhdmaaDoorLwg
import Derived.Test.YtnkdcecpbjhdmaaDoorCards
namespace Go.Proofs.YtnkdcecpbjhdmaaDoor.Keeps
open Go.ChangeShapes Go.WideShapes Go.ChangeAt Go.RowKit Go.Proofs Go.Proofs.YtnkdcecpbjhdmaaDoor.Byt Go.Proofs.YtnkdcecpbjhdmaaDoor.Str3 Go.Proofs.YtnkdcecpbjhdmaaDoor.Dec Go.Proofs.YtnkdcecpbjhdmaaDoor.Lnm Go.Proofs.YtnkdcecpbjhdmaaDoor.Frame

set_option maxRecDepth 100000 in
set_option maxHeartbeats 2000000 in
theorem big (w : World) (hg : Gnd w) (A : Option Addr) (n c : Nat) (ns : List ByteArray) (hr : Sls.Rd w w.heap.size A n ns) (B : Option Addr) (m d : Nat)
    (hf : few ns = false ∨ (few ns = true ∧ 1000 < m)) :
    Calls Tryd.prog 7 #[.slice A n c, .slice B m d] w fun e w' => e = .returned (.bool true) ∧ Below w.heap.size w w' := by
  have Hg := hid hg
  rcases hf with hf | ⟨hf, hf2⟩
  all_goals
    have Hf := hid hf
    clear hf
    go_enter Tryd.func7, Tryd.ntmps7
    go_wp2_with fail
    refine (awake_any _ Hg.out).mono ?_
    rintro e w1 ⟨rfl, hb1⟩
    go_wp2_with fail
    refine (few_any _ A n c ns w1 (hr.below hb1)).mono ?_
    rintro e w2 ⟨rfl, rfl⟩
    rw [Hf.out]
    go_wp2_with fail
    refine (awake_any _ (Hg.out.on hb1)).mono ?_
    rintro e w2 ⟨rfl, hb2⟩
    go_wp2_with fail
    go_ret
    exact ⟨rfl, hb1.trans (hb2.mono hb1.size)⟩

/-- The row behind a byte of the call's own. -/
theorem own_row {w : World} {K n : Nat} {v : Value} {l : List UInt8} (h : Byt.Own w K v n l) {i : Nat} (hi : i < l.length) : ∃ g cap cur m, v = .slice (some ⟨g, 0, none⟩) n cap ∧ w.heap[g]? = some (.cells cur 5 m) := by
  have hl := h.1
  rcases h.2 with ⟨rfl, rfl⟩ | ⟨g, cap, cur, m, rfl, hg, hh, _⟩
  · omega
  · exact ⟨g, cap, cur, m, rfl, hh⟩
theorem sls_setc {W : World} {K n : Nat} {v : Value} {l : List ByteArray} {g : Nat} {cs : Array Value} {t : TypeId} {m : Nat × Nat} (h : Sls.Own W K v n l) (hb : W.heap[g]? = some (.cells cs t m)) (ht : t ≠ 9) (i : Nat) (y : Value) : Sls.Own (W.setCell ⟨g, i, none⟩ y) K v n l := by
  refine ⟨h.1, ?_⟩
  rcases h.2 with h | ⟨g', cap, cur, m', hv, hgk, hh, r⟩
  · exact .inl h
  · refine .inr ⟨g', cap, cur, m', hv, hgk, (Below.heap_setCell W ⟨g, i, none⟩ y g' ?_).trans hh, r⟩
    intro e
    have e' : g' = g := e
    rw [e', hb] at hh
    injection hh with hh
    injection hh with _ e2
    exact ht e2

set_option maxRecDepth 100000 in
set_option maxHeartbeats 8000000 in
theorem few_ (w : World) (hg : Gnd w) (A : Option Addr) (n c : Nat) (ns : List ByteArray) (hr : Sls.Rd w w.heap.size A n ns) (B : Option Addr) (m d : Nat) (l : List UInt8) (hr' : Rd w w.heap.size B m l) (hmd : m ≤ d)
    (hf : few ns = true) (hm : ¬ 1000 < m) :
    Calls Tryd.prog 7 #[.slice A n c, .slice B m d] w fun e w' => e = .returned (.bool true) ∧ Below w.heap.size w w' := by
  obtain ⟨f1, f2, f3⟩ := few_small hf
  have hl := hr.1
  have Hf := hid hf
  have h100 : n ≤ 100 := by omega
  have F3 := hid f3
  have hbo : (bo ns).length ≤ 40 * 257 := by
    unfold bo
    split
    · rename_i h; exact tabl_len h f1
    · simp
  have hfo : (fo ns).length ≤ 40 := by
    unfold fo
    split
    · rw [flds_length]; exact f1
    · simp
  clear hf f1 f2 f3 hl
  go_enter Tryd.func7, Tryd.ntmps7
  go_wp2_with fail
  refine (awake_any _ hg).mono ?_
  rintro e w1 ⟨rfl, hb1⟩
  go_wp2_with fail
  refine (few_any _ A n c ns w1 (hr.below hb1)).mono ?_
  rintro e w2 ⟨rfl, rfl⟩
  rw [Hf.out]
  have HN1 := hid (hr.below hb1)
  have HT1 := hid (hr'.below hb1)
  have Hb1 := hid hb1
  have hK1 := hb1.size
  have Hbl := hid ((Below.refl w1.heap.size w1).alloc (Nat.le_refl _) (.cells #[] 9))
  clear hb1
  go_wp2_with (first
    | (at_builtin; refine Sls.wpList_app _ w1.heap.size _ 0 [] (Sls.Own.lit0 w1 w1.heap.size (Nat.le_refl _)) (by simp) A n c _ ns (HN1.out.below (Hbl.out.mono hK1)) (by omega) rfl (.tmp 31) (.tmp 32) rfl rfl rfl ?_; intro v2 w2 ho2 hb2 _ _; rw [Nat.zero_add, List.nil_append] at ho2; have hb12 := Hbl.out.trans hb2; obtain ⟨A2, c2, rfl, hr2, hc2, _⟩ := ho2.reads)
    | (at_builtin; refine wpList_app2 _ w2.heap.size _ 0 [] (Own.lit0 w2 w2.heap.size (Nat.le_refl _)) (by simp) B m d _ l ((HT1.out.below (hb12.mono hK1)).below ((Below.refl _ w2).alloc (by have := hb12.size; omega) _)) (by omega) rfl (.tmp 34) (.tmp 35) rfl rfl rfl ?_; intro v3 w3 ho3 hb3 _; rw [Nat.zero_add, List.nil_append] at ho3; obtain ⟨A3, c3, rfl, hr3, hc3, _⟩ := ho3.reads; have hb23 := ((Below.refl w2.heap.size w2).alloc (Nat.le_refl _) _).trans hb3))
  have hb13 := hb12.trans (hb23.mono hb12.size)
  have hr23 := hr2.below hb23
  have hK23 := hb23.size
  have HN3 := hid (HN1.out.below (hb13.mono hK1))
  have HT3 := hid (HT1.out.below (hb13.mono hK1))
  have Hb3 := hid (Hb1.out.trans (hb13.mono hK1))
  have hK13 := hb13.size
  have HG3 := hid (hg.on Hb3.out)
  clear hb12 hb23 hb13 hb2 hb3 ho2 ho3 hr2 HN1 HT1 Hb1 Hbl
  refine (entries_any _ B m d l w3 HG3.out HT3.out (Nat.le_trans hK1 hK13) hmd (by omega)).mono ?_
  rintro e w4 ⟨v4, rfl, _, hb4⟩
  have hr24 := (hr23.more hK23).below hb4
  have hr34 := hr3.below hb4
  have hKn : w.heap.size ≤ w3.heap.size := Nat.le_trans hK1 hK13
  have HN4 := hid ((HN3.out.more hKn).below hb4)
  have HT4 := hid ((HT3.out.more hKn).below hb4)
  have Hb4 := hid (Hb3.out.trans (hb4.mono Hb3.out.size))
  have HG4 := hid (HG3.out.on hb4)
  have hK4 := hb4.size
  clear hb4 hr23 hr3 HN3 HT3 Hb3 HG3
  go_wp2_with fail
  refine (build_any _ A2 n c2 ns w4 HG4.out hr24 hK4 h100 F3.out).mono ?_
  rintro e w5 ⟨v5, f5, rfl, ho5, hf5, hb5⟩
  obtain ⟨A5, c5, rfl, _⟩ := ho5.reads
  obtain ⟨A6, c6, rfl, _⟩ := hf5.reads
  have hK5 := hb5.size
  generalize hX : bo ns = X at *
  generalize hY : fo ns = Y at *
  have HX := hid hX
  have HY := hid hY
  clear hX hY
  generalize hLX : X.length = LX at *
  generalize hLY : Y.length = LY at *
  have Ho5 := hid ho5
  have Hf5 := hid hf5
  have Hb5 := hid hb5
  have HR2 := hid hr24
  have HR3 := hid hr34
  clear ho5 hf5 hb5 hr24 hr34
  go_wp2_with fail
  go_loopw [10] (fun i W => ∃ (k : Nat) (Z : List UInt8), k ≤ LX ∧ i = .int .i64 (k : Int) ∧ Byt.Own W w4.heap.size (.slice A5 LX c5) LX Z ∧ Sls.Own W w4.heap.size (.slice A6 LY c6) LY Y ∧ Below w4.heap.size w4 W) (fun i _ => LX - (intOf i).toNat)
  case atStart => exact ⟨0, X, by omega, rfl, Ho5.out, Hf5.out, Hb5.out⟩
  case round =>
    clear Ho5 Hf5 Hb5
    obtain ⟨k, Z, hk, rfl, hown, hfown, hb⟩ := hrel
    by_cases hlt : k < LX
    · have hkl : k < Z.length := by have := hown.1; omega
      obtain ⟨g1, cap1, cur1, m1, e1, hrow⟩ := own_row hown hkl
      obtain ⟨g', cap, e, hg', hcell, hfz, hset⟩ := hown.at_ (i := k) hkl
      injection e with e2 e3 e4
      subst e2
      subst e4
      injection e1 with e2 e3 e4
      injection e2 with e2
      injection e2 with e2
      subst e2
      have Hset := hid (hset 0)
      have Hfo := hid (sls_setc hfown hrow (by decide) k (.int .u8 0))
      have Hb := hid hb
      clear hset hrow hown hfown hb e4 e3
      generalize Z[k] = z at *
      go_wp2_with fail
      go_roundw
      case rel => exact ⟨k + 1, _, by omega, by go_num, Hset.out, Hfo.out, Hb.out.setCell (p := ⟨g', k, none⟩) hg' _⟩
      case measure => simp [intOf]; omega
    · obtain rfl : k = LX := by omega
      have Hf := hid hfown
      have Hb := hid hb
      clear hown hfown hb
      go_wp2_with fail
      go_loopw [11] (fun i W => ∃ (k : Nat) (Z : List ByteArray), k ≤ LY ∧ i = .int .i64 (k : Int) ∧ Sls.Own W w4.heap.size (.slice A6 LY c6) LY Z ∧ Below w4.heap.size w4 W) (fun i _ => LY - (intOf i).toNat)
      case atStart => exact ⟨0, Y, by omega, rfl, Hf.out, Hb.out⟩
      case round =>
        clear Hf Hb
        obtain ⟨j, Z, hj, rfl, hown, hb⟩ := hrel
        by_cases hlt2 : j < LY
        · have hjl : j < Z.length := by have := hown.1; omega
          obtain ⟨g', cap, e, hg', hcell, hfz, hset⟩ := hown.at_ (i := j) hjl
          injection e with e2 e3 e4
          subst e2
          subst e4
          have Hset := hid (hset ⟨#[]⟩)
          have Hb := hid hb
          clear hset hown hb
          generalize Z[j] = z at *
          go_wp2_with fail
          go_roundw
          case rel => exact ⟨j + 1, _, by omega, by go_num, Hset.out, Hb.out.setCell (p := ⟨g', j, none⟩) hg' _⟩
          case measure => simp [intOf]; omega
        · obtain rfl : j = LY := by omega
          have HR2w := hid (HR2.out.below (hb.mono hK4))
          have HR3w := hid (HR3.out.below (hb.mono hK4))
          have HNw := hid (HN4.out.below (hb.mono hK4))
          have HTw := hid (HT4.out.below (hb.mono hK4))
          have HGw := hid (HG4.out.on hb)
          have HBw := hid (Hb4.out.trans (hb.mono Hb4.out.size))
          have hKw := Nat.le_trans hK4 hb.size
          have hbo2 : (bo ns).length ≤ 40 * 257 := by rw [HX.out, hLX]; exact hbo
          have hfo2 : (fo ns).length ≤ 40 := by rw [HY.out, hLY]; exact hfo
          clear hown hb HR2 HR3 HN4 HT4 HG4 Hb4
          go_wp2_with fail
          refine (build_any w3.heap.size A2 n c2 ns wr HGw.out HR2w.out hKw h100 F3.out).mono ?_
          rintro e w6 ⟨v6, f6, rfl, ho6, hf6, hb6⟩
          obtain ⟨A7, c7, rfl, hr7, hc7, _⟩ := ho6.reads
          obtain ⟨A8, c8, rfl, hr8, hc8, _⟩ := hf6.reads
          have HR6 := hid ((HR2w.out.more hKw).below hb6)
          have HW6 := hid ((HR3w.out.more hKw).below hb6)
          have HN6 := hid ((HNw.out.more hKw).below hb6)
          have HT6 := hid ((HTw.out.more hKw).below hb6)
          have HB6 := hid (HBw.out.trans (hb6.mono HBw.out.size))
          have hK6 := hb6.size
          clear ho6 hf6 hb6 HR2w HR3w HNw HTw HBw HGw
          go_wp2_with fail
          refine (rbuild_any wr.heap.size A n c ns w6 HN6.out hK6 h100 F3.out).mono ?_
          rintro e w7 ⟨v7, f7, rfl, ho7, hf7, hb7⟩
          obtain ⟨A9, c9, rfl, hr9, hc9, _⟩ := ho7.reads
          obtain ⟨A10, c10, rfl, hr10, hc10, _⟩ := hf7.reads
          have HR7 := hid ((HR6.out.more hK6).below hb7)
          have HW7 := hid ((HW6.out.more hK6).below hb7)
          have HN7 := hid ((HN6.out.more hK6).below hb7)
          have HT7 := hid ((HT6.out.more hK6).below hb7)
          have H7 := hid (hr7.below hb7)
          have H8 := hid (hr8.below hb7)
          have H9 := hid hr9
          have H10 := hid hr10
          have HB7 := hid (HB6.out.trans (hb7.mono HB6.out.size))
          have hK7 := hb7.size
          clear ho7 hf7 hb7 HR6 HW6 HN6 HT6 HB6 hr7 hr8 hr9 hr10
          have Ht := hid (texts_any _ _ A2 A n c2 n c ns ns w7 HR7.out HN7.out (by omega))
          rw [eqs_iff.2 rfl] at Ht
          go_wp2_with fail
          refine Ht.out.mono ?_
          rintro e w8 ⟨rfl, m8, rfl⟩
          have hbd8 : Below w7.heap.size w7 (w7.drewN m8) := below_drewN w7 m8
          generalize w7.drewN m8 = w8 at *
          have Hs := hid (same_any _ rfl _ _ B A3 m d m c3 l l w8 ((HT7.out.more hK7).below hbd8) ((HW7.out.more hK7).below hbd8) (by omega))
          have hs1 : (l == l) = true := by simp
          rw [hs1] at Hs
          clear hs1
          go_wp2_with fail
          refine Hs.out.mono ?_
          rintro e w9 ⟨rfl, m9, rfl⟩
          have hbd9 := hbd8.trans (below_drewN (K := w7.heap.size) w8 m9)
          generalize w8.drewN m9 = w9 at *
          clear hbd8
          have Hu := hid (same_any _ rfl _ _ A7 A9 _ c7 _ c9 (bo ns) (bo ns) w9 ((H7.out.more hK7).below hbd9) (H9.out.below hbd9) (by omega))
          have hs2 : (bo ns == bo ns) = true := by simp
          rw [hs2] at Hu
          clear hs2
          go_wp2_with fail
          refine Hu.out.mono ?_
          rintro e w10 ⟨rfl, m10, rfl⟩
          have hbd10 := hbd9.trans (below_drewN (K := w7.heap.size) w9 m10)
          generalize w9.drewN m10 = w10 at *
          clear hbd9
          have Hv := hid (texts_any _ _ A8 A10 _ c8 _ c10 (fo ns) (fo ns) w10 ((H8.out.more hK7).below hbd10) (H10.out.below hbd10) (by omega))
          rw [eqs_iff.2 rfl] at Hv
          go_wp2_with fail
          refine Hv.out.mono ?_
          rintro e w11 ⟨rfl, m11, rfl⟩
          have hbd11 := hbd10.trans (below_drewN (K := w7.heap.size) w10 m11)
          generalize w10.drewN m11 = w11 at *
          clear hbd10
          go_wp2_with fail
          go_ret
          exact ⟨rfl, HB7.out.trans (hbd11.mono HB7.out.size)⟩

theorem walk (w : World) (hg : Gnd w) (A : Option Addr) (n c : Nat) (ns : List ByteArray) (hr : Sls.Rd w w.heap.size A n ns) (_ : n ≤ c) (_ : c ≤ maxLen) (_ : ∀ s ∈ ns, s.size ≤ maxLen)
    (B : Option Addr) (m d : Nat) (l : List UInt8) (hr' : Rd w w.heap.size B m l) (hmd : m ≤ d) (_ : d ≤ maxLen) :
    Calls Tryd.prog 7 #[.slice A n c, .slice B m d] w fun e w' => e = .returned (.bool true) ∧ Below w.heap.size w w' := by
  cases hf : few ns
  · exact big w hg A n c ns hr B m d (.inl hf)
  · by_cases h1 : 1000 < m
    · exact big w hg A n c ns hr B m d (.inr ⟨hf, h1⟩)
    · exact few_ w hg A n c ns hr B m d l hr' hmd hf h1

set_option maxRecDepth 100000 in
theorem held : Rows.LongnameKeepsSaid :=
  OpenClaim.holds_of_wide 7 Tryd.f7 rfl rfl rfl rfl rfl rfl rfl ⟨rfl, rfl, rfl, rfl, rfl⟩ rfl rfl rfl rfl rfl (by kernel_rfl) Tryd.func7 (by kernel_rfl)
    (of_decide_eq_true (by kernel_rfl)) (by unfold Func.isWrapper; first | (rw [if_pos (by decide +kernel)]; kernel_rfl) | (rw [if_neg (by decide +kernel)]; exact ⟨rfl, rfl⟩))
    (fun os started H enc _ => liftedG (started := started) (s := Rows.longnameKeepsSpec) (L := Rows.longnameKeepsRow.laid) rfl
      (fun ds h => by match ds, h with | [_, _], _ => rfl) (by kernel_rfl)
      (by kernel_rfl) (by kernel_rfl) Tryd.func7
      (ChangeSpec.witness_shaped (enc := enc) (C := Tryd.checked) (os := os) (X := fun w _ => laidMetH Tryd.prog Rows.longnameKeepsRow.laid w) false (World.laidAll Tryd.prog os Rows.longnameKeepsRow.laid) #[.slice none 0 0, .slice none 0 0] 8 (World.laidAll_os _ _ _)
        (World.shaped_of_ZipB (by kernel_rfl) (by kernel_rfl)) (by kernel_rfl) (by kernel_rfl) (by kernel_rfl)
        (by rw [MakeChecks.laidMetH_plain _ _ _ (by kernel_rfl)]; exact laidMet_laidAll _ (by kernel_rfl) (by kernel_rfl)))
      gnd_of (fun W base args ds p hG h => by
        obtain ⟨hval, hA, _⟩ := h
        rw [show Tryd.f7.params = #[22, 23] from by kernel_rfl] at hA hval
        obtain ⟨v0, vs0, d0, ds0, p0, q0, hargs, rfl, rfl, k0, r0⟩ := trodAll_cons hA
        obtain ⟨v1, vs1, d1, ds1, p1, q1, rfl, rfl, rfl, k1, r1⟩ := trodAll_cons r0
        obtain ⟨rfl, rfl, rfl⟩ := trodAll_nil r1
        obtain rfl : args = #[v0, v1] := by cases args; simp_all
        obtain ⟨A0, n0, c0, l0, rfl, h0, m0, g0, s0⟩ := open_strs (hval 0 _ v0 rfl rfl) k0
        obtain ⟨A1, n1, c1, l1, rfl, h1, m1, g1⟩ := open_bytes (hval 1 _ v1 rfl rfl) k1
        exact walk W hG A0 n0 c0 l0 h0 m0 g0 s0 A1 n1 c1 l1 h1 m1 g1))
theorem proved : Rows.LongnameKeepsCardSaid :=
  Claim7.holds_tied_plain_at .later [] [.data, .data, .data] true (true, "633020f8cc6583ae8bfd4f07bdf20992a0d614bdae9f021f4599b06dde0a5ae5") false held (fun _ h => by cases h) (by kernel_rfl) (fun _ h => by cases h) longnameKeeps_row_tie rfl ⟨rfl, rfl⟩ (by kernel_rfl) rfl
    (fun f fn hf hfn => by
      obtain rfl : f = 7 := Option.some.inj ((show Tryd.prog.funcNamed "arlink/arlinklaw03.LongnameKeeps" = some 7 by kernel_rfl).symm.trans hf) |>.symm
      obtain rfl : fn = Tryd.f7 := (Option.some.inj (Tryd.func7.symm.trans hfn)).symm
      exact ⟨by kernel_rfl, fun j t ht => by
        rw [Tryd.params7] at ht
        have hm : t ∈ [22, 23] := by simpa using Array.mem_of_getElem? ht
        have hall : ([22, 23].all fun u => !Tryd.prog.wantsStandIn u) = true := by kernel_rfl
        exact (show Tryd.prog.wantsStandIn t = false by simpa using List.all_eq_true.1 hall t hm)⟩)
    (by kernel_rfl)
#print axioms proved
end Go.Proofs.YtnkdcecpbjhdmaaDoor.Keeps
