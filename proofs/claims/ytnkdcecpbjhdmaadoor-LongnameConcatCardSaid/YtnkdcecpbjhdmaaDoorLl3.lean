/-
  LongnameConcat: the table of two lists of names is that of the first followed by that of the second; the fields of the first list are unchanged. For all slices of strings: no condition.
-/
import Derived.Test.YtnkdcecpbjhdmaaDoorLnl
import Derived.Test.YtnkdcecpbjhdmaaDoorAdd
import Derived.Test.YtnkdcecpbjhdmaaDoorLwg
import Derived.Test.YtnkdcecpbjhdmaaDoorCards
namespace Go.Proofs.YtnkdcecpbjhdmaaDoor.Concat
open Go.ChangeShapes Go.WideShapes Go.ChangeAt Go.RowKit Go.Proofs Go.Proofs.YtnkdcecpbjhdmaaDoor.Byt Go.Proofs.YtnkdcecpbjhdmaaDoor.Str3 Go.Proofs.YtnkdcecpbjhdmaaDoor.Dec Go.Proofs.YtnkdcecpbjhdmaaDoor.Lnm Go.Proofs.YtnkdcecpbjhdmaaDoor.Frame

set_option maxRecDepth 100000 in
set_option maxHeartbeats 1000000 in
theorem many (w : World) (hg : Gnd w) (A : Option Addr) (n c : Nat) (xs : List ByteArray) (hr : Sls.Rd w w.heap.size A n xs) (B : Option Addr) (m d : Nat) (ys : List ByteArray) (hr' : Sls.Rd w w.heap.size B m ys) (hf : few xs = false ∨ (few xs = true ∧ few ys = false)) :
    Calls Tryd.prog 8 #[.slice A n c, .slice B m d] w fun e w' => e = .returned (.bool true) ∧ Below w.heap.size w w' := by
  have Hg := hid hg
  rcases hf with hf | ⟨hf, hf'⟩
  · have Hf := hid hf
    clear hf
    go_enter Tryd.func8, Tryd.ntmps8
    go_wp2_with fail
    refine (awake_any _ Hg.out).mono ?_
    rintro e w1 ⟨rfl, hb1⟩
    go_wp2_with fail
    refine (few_any _ A n c xs w1 (hr.below hb1)).mono ?_
    rintro e w2 ⟨rfl, rfl⟩
    rw [Hf.out]
    go_wp2_with fail
    refine (awake_any _ (Hg.out.on hb1)).mono ?_
    rintro e w2 ⟨rfl, hb2⟩
    go_wp2_with fail
    go_ret
    exact ⟨rfl, hb1.trans (hb2.mono hb1.size)⟩
  · have Hf := hid hf
    have Hf' := hid hf'
    clear hf hf'
    go_enter Tryd.func8, Tryd.ntmps8
    go_wp2_with fail
    refine (awake_any _ Hg.out).mono ?_
    rintro e w1 ⟨rfl, hb1⟩
    go_wp2_with fail
    refine (few_any _ A n c xs w1 (hr.below hb1)).mono ?_
    rintro e w2 ⟨rfl, rfl⟩
    rw [Hf.out]
    go_wp2_with fail
    refine (few_any _ B m d ys w1 (hr'.below hb1)).mono ?_
    rintro e w2 ⟨rfl, rfl⟩
    rw [Hf'.out]
    go_wp2_with fail
    refine (awake_any _ (Hg.out.on hb1)).mono ?_
    rintro e w2 ⟨rfl, hb2⟩
    go_wp2_with fail
    go_ret
    exact ⟨rfl, hb1.trans (hb2.mono hb1.size)⟩

set_option maxRecDepth 100000 in
set_option maxHeartbeats 4000000 in
theorem few_ (w : World) (hg : Gnd w) (A : Option Addr) (n c : Nat) (xs : List ByteArray) (hr : Sls.Rd w w.heap.size A n xs) (B : Option Addr) (m d : Nat) (ys : List ByteArray) (hr' : Sls.Rd w w.heap.size B m ys) (hf : few xs = true) (hf' : few ys = true) :
    Calls Tryd.prog 8 #[.slice A n c, .slice B m d] w fun e w' => e = .returned (.bool true) ∧ Below w.heap.size w w' := by
  obtain ⟨f1, _, f3⟩ := few_small hf
  obtain ⟨f4, _, f6⟩ := few_small hf'
  have hl := hr.1
  have hl' := hr'.1
  have Hf := hid hf
  have Hf' := hid hf'
  have h40 : n ≤ 40 := by omega
  have h40' : m ≤ 40 := by omega
  have F3 := hid f3
  have F6 := hid f6
  have Hl := hid (And.intro hl hl')
  have Hcase : Hid ((be xs = 6 ∧ be (xs ++ ys) = 6) ∨ (be xs = 0 ∧ be ys = 6 ∧ be (xs ++ ys) = 6) ∨ (be xs = 0 ∧ be ys = 0 ∧ be (xs ++ ys) = 0 ∧ allV xs = true ∧ allV ys = true)) := hid (by
    cases h1 : allV xs
    · refine .inl ⟨if_neg (by rw [h1]; simp), if_neg fun h => ?_⟩
      rw [(allV_append.1 h).1] at h1; cases h1
    · cases h2 : allV ys
      · refine .inr (.inl ⟨if_pos h1, if_neg (by rw [h2]; simp), if_neg fun h => ?_⟩)
        rw [(allV_append.1 h).2] at h2; cases h2
      · exact .inr (.inr ⟨if_pos h1, if_pos h2, if_pos (allV_append.2 ⟨h1, h2⟩), rfl, rfl⟩))
  have FA : Hid (∀ s ∈ xs ++ ys, s.size ≤ 1000) := hid fun s hs => by
    rcases List.mem_append.1 hs with h | h
    · exact f3 s h
    · exact f6 s h
  clear hf hf' f1 f3 f4 f6 hl hl'
  go_enter Tryd.func8, Tryd.ntmps8
  go_wp2_with fail
  refine (awake_any _ hg).mono ?_
  rintro e w1 ⟨rfl, hb1⟩
  go_wp2_with fail
  refine (few_any _ A n c xs w1 (hr.below hb1)).mono ?_
  rintro e w2 ⟨rfl, rfl⟩
  rw [Hf.out]
  go_wp2_with fail
  refine (few_any _ B m d ys w1 (hr'.below hb1)).mono ?_
  rintro e w2 ⟨rfl, rfl⟩
  rw [Hf'.out]
  go_wp2_with fail
  refine (build_any _ A n c xs w1 (hg.on hb1) (hr.below hb1) hb1.size (by omega) F3.out).mono ?_
  rintro e w2 ⟨v2, v3, rfl, ho2, ho3, hb2⟩
  obtain ⟨A2, c2, rfl, hr2, hc2, _⟩ := ho2.reads
  obtain ⟨A3, c3, rfl, hr3, hc3, _⟩ := ho3.reads
  have hb02 := hb1.trans (hb2.mono hb1.size)
  clear hb1 hb2 ho2 ho3
  go_wp2_with fail
  refine (build_any _ B m d ys w2 (hg.on hb02) (hr'.below hb02) hb02.size (by omega) F6.out).mono ?_
  rintro e w3 ⟨v4, v5, rfl, ho4, ho5, hb3⟩
  obtain ⟨A4, c4, rfl, hr4, hc4, _⟩ := ho4.reads
  obtain ⟨A5, c5, rfl, hr5, hc5, _⟩ := ho5.reads
  have hr23 := hr2.below hb3
  have hr33 := hr3.below hb3
  have hK23 := hb3.size
  have hb03 := hb02.trans (hb3.mono hb02.size)
  clear hb02 hb3 ho4 ho5 hr2 hr3
  have hbl := (Below.refl w3.heap.size w3).alloc (Nat.le_refl _) (.cells #[] 9)
  have HA := hid ((hr.below hb03).below (hbl.mono hb03.size))
  have HB := hid ((hr'.below hb03).below (hbl.mono hb03.size))
  have hsz := hb03.size
  have Hbl := hid hbl
  clear hbl
  go_wp2_with (first
    | (at_builtin; refine Sls.wpList_app _ w3.heap.size _ 0 [] (Sls.Own.lit0 w3 w3.heap.size (Nat.le_refl _)) (by simp) A n c _ xs HA.out (by omega) rfl (.tmp 40) (.tmp 41) rfl rfl rfl ?_; intro v6 w6 ho6 hb6 _ _; rw [Nat.zero_add, List.nil_append] at ho6; have hb36 := Hbl.out.trans hb6)
    | (at_builtin; refine Sls.wpList_app _ w3.heap.size _ _ _ ho6 hb36.size B m d _ ys (HB.out.below (hb6.mono hsz)) (by omega) rfl (.tmp 42) (.tmp 43) rfl rfl rfl ?_; intro v7 w7 ho7 hb7 _ _; have hb37 := hb36.trans hb7; obtain ⟨A7, c7, rfl, hr7, hc7, _⟩ := ho7.reads))
  have hb07 := hb03.trans (hb37.mono hb03.size)
  have hr27 := (hr23.more hK23).below hb37
  have hr37 := (hr33.more hK23).below hb37
  have hr47 := hr4.below hb37
  have hr57 := hr5.below hb37
  have hK37 := hb37.size
  clear hb37 hb36 hb6 hb7 hr23 hr33 hr4 hr5 hb03 ho6 ho7 HA HB Hbl hsz hK23
  refine (build_any w7.heap.size A7 (n + m) c7 (xs ++ ys) w7 (hg.on hb07) hr7 (Nat.le_refl _) (by omega) FA.out).mono ?_
  rintro e w8 ⟨v8, v9, rfl, ho8, ho9, hb8⟩
  obtain ⟨A8, c8, rfl, hr8, hc8, _⟩ := ho8.reads
  obtain ⟨A9, c9, rfl, hr9, hc9, _⟩ := ho9.reads
  have hb08 := hb07.trans (hb8.mono hb07.size)
  have H2 := hid ((hr27.more hK37).below hb8)
  have H3 := hid ((hr37.more hK37).below hb8)
  have H4 := hid ((hr47.more hK37).below hb8)
  have H5 := hid ((hr57.more hK37).below hb8)
  have H8 := hid hr8
  have H9 := hid hr9
  have Hb := hid hb08
  have HK := hid hb8.size
  clear hr27 hr37 hr47 hr57 hr8 hr9 hb8 hb08 hb07 ho8 ho9 hr7 hc7 hK37
  generalize hi1 : be xs = i1 at *
  generalize hi2 : be ys = i2 at *
  generalize hi3 : be (xs ++ ys) = i3 at *
  clear hi1 hi2 hi3
  rcases Hcase.out with ⟨rfl, rfl⟩ | ⟨rfl, rfl, rfl⟩ | ⟨rfl, rfl, rfl, h1, h2⟩
  · clear Hcase
    go_wp2_with fail
    go_ret
    exact ⟨rfl, Hb.out⟩
  · clear Hcase
    go_wp2_with fail
    go_ret
    exact ⟨rfl, Hb.out⟩
  · have q1 : bo (xs ++ ys) = bo xs ++ bo ys := by
      unfold bo
      rw [if_pos h1, if_pos h2, if_pos (allV_append.2 ⟨h1, h2⟩), longs_append, tab_append]
    have q3 : (fo xs).length = n := by unfold fo; rw [if_pos h1, flds_length]; exact Hl.out.1
    have q5 : (fo ys).length = m := by unfold fo; rw [if_pos h2, flds_length]; exact Hl.out.2
    have q9 : fo (xs ++ ys) = fo xs ++ flds xs ys := by
      unfold fo
      rw [if_pos h1, if_pos (allV_append.2 ⟨h1, h2⟩), flds_append]
      rfl
    have q9l : (fo (xs ++ ys)).length = n + m := by rw [q9, List.length_append, q3, flds_length, Hl.out.2]
    have q9t : (fo (xs ++ ys)).take n = fo xs := by rw [q9, ← q3, List.take_left]
    have b2 : (bo xs).length ≤ 40 * 257 := by unfold bo; rw [if_pos h1]; exact tabl_len h1 (by rw [Hl.out.1]; exact h40)
    have b4 : (bo ys).length ≤ 40 * 257 := by unfold bo; rw [if_pos h2]; exact tabl_len h2 (by rw [Hl.out.2]; exact h40')
    have Q1 := hid q1
    have Q9t := hid q9t
    rw [q3] at H3 hc3 ⊢
    rw [q5] at H5 hc5 ⊢
    rw [q9l] at H9 hc9 ⊢
    have hlen : (((n + m : Nat) : Int) == (n : Int) + (m : Int)) = true := by simp
    clear q1 q9 q9l q9t q3 q5 h1 h2 Hcase
    have Hadd := hid (add_any _ _ A2 A4 _ c2 _ c4 (bo xs) (bo ys) w8 H2.out H4.out HK.out HK.out (by omega) (by omega))
    go_wp2_with fail
    refine Hadd.out.mono ?_
    rintro e w9 ⟨v10, rfl, ho10, hb9⟩
    obtain ⟨A10, c10, rfl, hr10, hc10, _⟩ := ho10.reads
    have Hs := hid (same_any _ rfl _ _ A8 A10 _ c8 _ c10 (bo (xs ++ ys)) (bo xs ++ bo ys) w9 (H8.out.below hb9) hr10 (by rw [Q1.out, List.length_append]; omega))
    have H39 := hid ((H3.out.more HK.out).below hb9)
    have H99 := hid (H9.out.below hb9)
    have Hb9 := hid (Hb.out.trans (hb9.mono Hb.out.size))
    clear ho10 hr10 hb9
    go_wp2_with fail
    refine Hs.out.mono ?_
    rintro e w10 ⟨rfl, m10, rfl⟩
    have hself : (bo (xs ++ ys) == bo xs ++ bo ys) = true := by rw [Q1.out]; simp
    rw [hself]
    have Ht := hid (texts_any _ _ A9 A3 n c9 n c3 _ (fo xs) (w9.drewN m10) ((H99.out.pre (m := n) (by omega)).drewN m10) (H39.out.drewN m10) (by omega))
    rw [Q9t.out] at Ht
    clear hself
    go_wp2_with fail
    refine Ht.out.mono ?_
    rintro e w11 ⟨rfl, m11, rfl⟩
    rw [eqs_iff.2 rfl]
    go_wp2_with fail
    go_ret
    exact ⟨rfl, Hb9.out.trans (below_drewN _ _)⟩

theorem walk (w : World) (hg : Gnd w) (A : Option Addr) (n c : Nat) (xs : List ByteArray) (hr : Sls.Rd w w.heap.size A n xs) (_ : n ≤ c) (_ : c ≤ maxLen) (_ : ∀ s ∈ xs, s.size ≤ maxLen)
    (B : Option Addr) (m d : Nat) (ys : List ByteArray) (hr' : Sls.Rd w w.heap.size B m ys) (_ : m ≤ d) (_ : d ≤ maxLen) (_ : ∀ s ∈ ys, s.size ≤ maxLen) :
    Calls Tryd.prog 8 #[.slice A n c, .slice B m d] w fun e w' => e = .returned (.bool true) ∧ Below w.heap.size w w' := by
  cases hf : few xs
  · exact many w hg A n c xs hr B m d ys hr' (.inl hf)
  · cases hf' : few ys
    · exact many w hg A n c xs hr B m d ys hr' (.inr ⟨hf, hf'⟩)
    · exact few_ w hg A n c xs hr B m d ys hr' hf hf'

set_option maxRecDepth 100000 in
theorem held : Rows.LongnameConcatSaid :=
  OpenClaim.holds_of_wide 8 Tryd.f8 rfl rfl rfl rfl rfl rfl rfl ⟨rfl, rfl, rfl, rfl, rfl⟩ rfl rfl rfl rfl rfl (by kernel_rfl) Tryd.func8 (by kernel_rfl)
    (of_decide_eq_true (by kernel_rfl)) (by unfold Func.isWrapper; first | (rw [if_pos (by decide +kernel)]; kernel_rfl) | (rw [if_neg (by decide +kernel)]; exact ⟨rfl, rfl⟩))
    (fun os started H enc _ => liftedG (started := started) (s := Rows.longnameConcatSpec) (L := Rows.longnameConcatRow.laid) rfl
      (fun ds h => by match ds, h with | [_, _], _ => rfl) (by kernel_rfl)
      (by kernel_rfl) (by kernel_rfl) Tryd.func8
      (ChangeSpec.witness_shaped (enc := enc) (C := Tryd.checked) (os := os) (X := fun w _ => laidMetH Tryd.prog Rows.longnameConcatRow.laid w) false (World.laidAll Tryd.prog os Rows.longnameConcatRow.laid) #[.slice none 0 0, .slice none 0 0] 8 (World.laidAll_os _ _ _)
        (World.shaped_of_ZipB (by kernel_rfl) (by kernel_rfl)) (by kernel_rfl) (by kernel_rfl) (by kernel_rfl)
        (by rw [MakeChecks.laidMetH_plain _ _ _ (by kernel_rfl)]; exact laidMet_laidAll _ (by kernel_rfl) (by kernel_rfl)))
      gnd_of (fun W base args ds p hG h => by
        obtain ⟨hval, hA, _⟩ := h
        rw [show Tryd.f8.params = #[22, 22] from by kernel_rfl] at hA hval
        obtain ⟨v0, vs0, d0, ds0, p0, q0, hargs, rfl, rfl, k0, r0⟩ := trodAll_cons hA
        obtain ⟨v1, vs1, d1, ds1, p1, q1, rfl, rfl, rfl, k1, r1⟩ := trodAll_cons r0
        obtain ⟨rfl, rfl, rfl⟩ := trodAll_nil r1
        obtain rfl : args = #[v0, v1] := by cases args; simp_all
        obtain ⟨A0, n0, c0, l0, rfl, h0, m0, g0, s0⟩ := open_strs (hval 0 _ v0 rfl rfl) k0
        obtain ⟨A1, n1, c1, l1, rfl, h1, m1, g1, s1⟩ := open_strs (hval 1 _ v1 rfl rfl) k1
        exact walk W hG A0 n0 c0 l0 h0 m0 g0 s0 A1 n1 c1 l1 h1 m1 g1 s1))
theorem proved : Rows.LongnameConcatCardSaid :=
  Claim7.holds_tied_plain_at .later [] [.data, .data, .data] true (true, "633020f8cc6583ae8bfd4f07bdf20992a0d614bdae9f021f4599b06dde0a5ae5") false held (fun _ h => by cases h) (by kernel_rfl) (fun _ h => by cases h) longnameConcat_row_tie rfl ⟨rfl, rfl⟩ (by kernel_rfl) rfl
    (fun f fn hf hfn => by
      obtain rfl : f = 8 := Option.some.inj ((show Tryd.prog.funcNamed "arlink/arlinklaw03.LongnameConcat" = some 8 by kernel_rfl).symm.trans hf) |>.symm
      obtain rfl : fn = Tryd.f8 := (Option.some.inj (Tryd.func8.symm.trans hfn)).symm
      exact ⟨by kernel_rfl, fun j t ht => by
        rw [Tryd.params8] at ht
        have hm : t ∈ [22, 22] := by simpa using Array.mem_of_getElem? ht
        have hall : ([22, 22].all fun u => !Tryd.prog.wantsStandIn u) = true := by kernel_rfl
        exact (show Tryd.prog.wantsStandIn t = false by simpa using List.all_eq_true.1 hall t hm)⟩)
    (by kernel_rfl)
#print axioms proved
end Go.Proofs.YtnkdcecpbjhdmaaDoor.Concat
