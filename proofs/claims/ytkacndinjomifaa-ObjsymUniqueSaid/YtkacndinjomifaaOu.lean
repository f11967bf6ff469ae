/-
  ObjsymUnique: an object that is decoded is valid, and its encoding is the bytes that were read; an object that is encoded is decoded from its encoding. For every object and every byte slice: no condition.
-/
import Derived.Test.YtkacndinjomifaaOr
import Derived.Test.YtkacndinjomifaaOs
namespace Go.Proofs.Ytkacndinjomifaa.Unique
open Go.ChangeShapes Go.WideShapes Go.ChangeAt Go.RowKit Go.Proofs Go.Proofs.Ytkacndinjomifaa.Byt Go.Proofs.Ytkacndinjomifaa.Obj Go.Proofs.Ytkacndinjomifaa.Frame

set_option linter.unusedSimpArgs false in
set_option maxRecDepth 100000 in
set_option maxHeartbeats 8000000 in
theorem walk (w : World) (A : Option Addr) (n c : Nat) (B : Option Addr) (m d : Nat) (xs : List Sy) (body : List UInt8) (h : RdS w w.heap.size A n xs) (hB : Byt.Rd w w.heap.size B m body) (hnc : n ≤ c) (_hc : c ≤ maxLen) (_hmd : m ≤ d) (_hd : d ≤ maxLen) (A' : Option Addr) (n' c' : Nat) (l : List UInt8) (hr : Byt.Rd w w.heap.size A' n' l) (hnc' : n' ≤ c') (hc' : c' ≤ maxLen) :
    Calls Try.prog 4 #[.agg #[.slice A n c, .slice B m d], .slice A' n' c'] w fun e w' => e = .returned (.bool true) ∧ Below w.heap.size w w' := by
  have i0 := In.start w A n c B m d
  go_enter Try.func4, Try.ntmps4
  go_wp2_with fail
  refine (awake_any _).mono ?_
  rintro e w1 ⟨rfl, hb1⟩
  have i1 := i0.on hb1
  have q0 := i1.c0
  have q1 := i1.c1
  clear hb1 i0
  go_wp2_with fail
  refine (rfew_any w.heap.size A B n c m d xs w1 (h.below i1.b) i1.b.size).mono ?_
  rintro e w2 ⟨rfl, hb2⟩
  have i2 := i1.on hb2
  clear q0 q1 hb2 i1
  cases hf : fewO xs m
  · go_wp2_with fail
    refine (awake_any _).mono ?_
    rintro e w9 ⟨rfl, hb9⟩
    go_wp2_with fail
    go_ret
    exact ⟨rfl, (i2.on hb9).b⟩
  · obtain ⟨k1, k2, k3⟩ := fewO_iff.1 hf
    have hl := hid h.1
    have hlB := hid hB.1
    have hn60 : n ≤ 60 := by have := hl.out; omega
    clear hf
    by_cases h5 : 5000 < n'
    · have h5i : (5000 : Int) < (n' : Int) := by omega
      go_wp2_with fail
      refine (awake_any _).mono ?_
      rintro e w9 ⟨rfl, hb9⟩
      go_wp2_with fail
      go_ret
      exact ⟨rfl, (i2.on hb9).b⟩
    · have h5i : ¬ (5000 : Int) < (n' : Int) := by omega
      have q0 := i2.c0
      have q1 := i2.c1
      go_wp2_with fail
      refine (encode_any w.heap.size A B n c m d xs body w2 (h.below i2.b) (hB.below i2.b) i2.b.size (by omega)).mono ?_
      rintro e w3 hE
      cases hv : validO xs
      · obtain ⟨rfl, hb3⟩ := hE.no hv
        have i3 := i2.on hb3
        clear hE hb3 i2 q0 q1
        have q0 := i3.c0
        have q1 := i3.c1
        go_wp2_with fail
        refine (rvalid_any w.heap.size A B n c m d xs w3 (h.below i3.b) i3.b.size (by omega) hnc).mono ?_
        rintro e wz ⟨rfl, hb4⟩
        rw [hv]
        have iz := i3.on hb4
        clear hb4 i3 q0 q1
        go_wp2_with fail
        refine (decode_any w.heap.size A' n' c' l wz (hr.below iz.b) iz.b.size hnc' hc' (by omega)).mono ?_
        rintro e w5 hD
        obtain ⟨A5, n5, c5, B5, m5, d5, rfl, hs5, hB5, hnc5, hn5, hm5, _, _, hb5⟩ := hD.reads
        have hlr := hid hr.1
        have i5 := iz.on hb5
        have hrow6 := heap_alloc_new w5 (.cells #[.slice A5 n5 c5, .slice B5 m5 d5] 25)
        have hb56 := (Below.refl w5.heap.size w5).alloc (Nat.le_refl _) (.cells #[.slice A5 n5 c5, .slice B5 m5 d5] 25)
        have i6 := i5.on hb56
        have hs6 := hs5.below hb56
        have hB6 := hB5.below hb56
        have hsz6 : w5.heap.size ≤ (w5.alloc (.cells #[.slice A5 n5 c5, .slice B5 m5 d5] 25)).heap.size := hb56.size
        clear hD hb5 iz i5 hs5 hB5 hb56
        obtain ⟨z, hz⟩ : ∃ z, (decO l).1 = z := ⟨_, rfl⟩
        rw [hz]
        go_upto_region 11 with fail
        generalize w5.alloc (.cells #[.slice A5 n5 c5, .slice B5 m5 d5] 25) = w6 at *
        generalize w5.heap.size = g at *
        have p0 := cell_of_row w6 g 0 _ _ _ hrow6
        have p1 := cell_of_row w6 g 1 _ _ _ hrow6
        by_cases hz0 : z = 0
        · subst hz0
          have hk := enc_decO l (decO l).2.1 (decO l).2.2 (by rw [← hz])
          have hgl : g < w6.heap.size := (Array.getElem?_eq_some_iff.1 hrow6).1
          go_wp2_with fail
          refine (encode_any g A5 B5 n5 c5 m5 d5 (decO l).2.1 (decO l).2.2 w6 hs6 hB6 hsz6 (by have := hlr.out; omega)).mono ?_
          rintro e w7 hE
          obtain ⟨A7, n7, c7, rfl, hn7, _, hr7, hc7, _, hb7⟩ := hE.ok hk.1
          rw [hk.2] at hr7
          clear hn7
          have hrow7 := (hb7.block g hgl).trans hrow6
          have i7 := i6.on hb7
          have hs7 := hs6.below (hb7.mono hsz6)
          have p0 := cell_of_row w7 g 0 _ _ _ hrow7
          have p1 := cell_of_row w7 g 1 _ _ _ hrow7
          have hg7 : g ≤ w7.heap.size := Nat.le_trans hsz6 hb7.size
          clear hE hb7 hrow6 hrow7 i6
          go_wp2_with fail
          refine (rvalid_any g A5 B5 n5 c5 m5 d5 (decO l).2.1 w7 hs7 hg7 (by omega) hnc5).mono ?_
          rintro e w8 ⟨rfl, hb8⟩
          rw [hk.1]
          have i8 := i7.on hb8
          have hr8 := hr7.below hb8
          clear hb8 i7 hr7 p0 p1
          go_wp2_with fail
          refine (Dec.same_any 15 rfl w7.heap.size w.heap.size A7 A' n7 c7 n' c' l l w8 hr8 (hr.below i8.b) (by have := hlr.out; have := hr8.1; omega)).mono ?_
          rintro e w9 ⟨rfl, mm, hw9⟩
          rw [beq_self_eq_true]
          go_wp2_with fail
          go_ret
          exact ⟨rfl, by subst hw9; exact i8.b.trans (Obj.below_drewN w8 mm)⟩
        · have hbad := decO_bad l (by rw [hz]; exact hz0)
          rw [hbad] at hs6 hB6
          have hq := hs6.1
          obtain rfl : n5 = 0 := hs6.1.symm
          obtain rfl : m5 = 0 := hB6.1.symm
          go_wp2_with fail
          refine (rsame_any g A5 B5 none none 0 c5 0 d5 0 0 0 0 [] [] [] [] w6 hs6 (RdS.nil _ _ _) hB6 (Byt.Rd.nil _ _ _) hsz6 (by omega) (by omega)).mono ?_
          rintro e w7 ⟨rfl, hb7⟩
          go_wp2_with fail
          go_ret
          exact ⟨rfl, (i6.on hb7).b⟩
      · obtain ⟨A1, n1, c1, rfl, hn1, _, hr1, hc1, hm1, hb3⟩ := hE.ok hv
        have i3 := i2.on hb3
        have hlen := encO_len (body := body) hv
        have hd1 := decO_enc xs body hv
        clear hE hb3 i2 q0 q1
        have q0 := i3.c0
        have q1 := i3.c1
        have Hn1 := hid hn1
        clear hn1
        go_wp2_with fail
        refine (decode_any w3.heap.size A1 n1 c1 (encO xs body) w3 hr1 (Nat.le_refl _) hc1 hm1 (by have := hl.out; have := hlB.out; have := Hn1.out; omega)).mono ?_
        rintro e w4 hD
        obtain ⟨A4, n4, c4, B4, m4, d4, rfl, hs4, hB4, hnc4, hn4, hm4, _, _, hb4⟩ := hD.reads
        simp only [hd1] at hs4 hB4 ⊢
        have i4 := i3.on hb4
        have hgw := i4.b.size
        have hrow5 := heap_alloc_new w4 (.cells #[.slice A4 n4 c4, .slice B4 m4 d4] 25)
        have hb45 := (Below.refl w4.heap.size w4).alloc (Nat.le_refl _) (.cells #[.slice A4 n4 c4, .slice B4 m4 d4] 25)
        have i5 := i4.on hb45
        have hs5 := hs4.below hb45
        have hB5 := hB4.below hb45
        have hsz5 : w4.heap.size ≤ (w4.alloc (.cells #[.slice A4 n4 c4, .slice B4 m4 d4] 25)).heap.size := hb45.size
        have him : Hid (m4 = m) := hid (by have := hB4.1; have := hlB.out; omega)
        clear hD hb4 i4 hs4 hB4 hb45 q0 q1 i3 hr1
        go_upto_region 6 with fail
        generalize w4.alloc (.cells #[.slice A4 n4 c4, .slice B4 m4 d4] 25) = w5 at *
        have hg : w.heap.size ≤ w4.heap.size := hgw
        generalize w4.heap.size = g at *
        have q0 := i5.c0
        have q1 := i5.c1
        have p0 := cell_of_row w5 g 0 _ _ _ hrow5
        have p1 := cell_of_row w5 g 1 _ _ _ hrow5
        go_wp2_with fail
        refine (rsame_any g A4 B4 A B n4 c4 m4 d4 n c m d xs xs body body w5 hs5 ((h.below i5.b).more hg) hB5 ((hB.below i5.b).more hg) hsz5 (by omega) (by have := him.out; omega)).mono ?_
        rintro e wz ⟨rfl, hbz⟩
        rw [sameS_eq.2 rfl, beq_self_eq_true]
        have iz := i5.on hbz
        clear hbz i5 q0 q1 p0 p1 hrow5 hs5 hB5
        go_wp2_with fail
        refine (decode_any w.heap.size A' n' c' l wz (hr.below iz.b) iz.b.size hnc' hc' (by omega)).mono ?_
        rintro e w5 hD
        obtain ⟨A5, n5, c5, B5, m5, d5, rfl, hs5, hB5, hnc5, hn5, hm5, _, _, hb5⟩ := hD.reads
        have hlr := hid hr.1
        have i5 := iz.on hb5
        have hrow6 := heap_alloc_new w5 (.cells #[.slice A5 n5 c5, .slice B5 m5 d5] 25)
        have hb56 := (Below.refl w5.heap.size w5).alloc (Nat.le_refl _) (.cells #[.slice A5 n5 c5, .slice B5 m5 d5] 25)
        have i6 := i5.on hb56
        have hs6 := hs5.below hb56
        have hB6 := hB5.below hb56
        have hsz6 : w5.heap.size ≤ (w5.alloc (.cells #[.slice A5 n5 c5, .slice B5 m5 d5] 25)).heap.size := hb56.size
        clear hD hb5 iz i5 hs5 hB5 hb56
        obtain ⟨z, hz⟩ : ∃ z, (decO l).1 = z := ⟨_, rfl⟩
        rw [hz]
        go_upto_region 11 with fail
        generalize w5.alloc (.cells #[.slice A5 n5 c5, .slice B5 m5 d5] 25) = w6 at *
        generalize w5.heap.size = g at *
        have p0 := cell_of_row w6 g 0 _ _ _ hrow6
        have p1 := cell_of_row w6 g 1 _ _ _ hrow6
        by_cases hz0 : z = 0
        · subst hz0
          have hk := enc_decO l (decO l).2.1 (decO l).2.2 (by rw [← hz])
          have hgl : g < w6.heap.size := (Array.getElem?_eq_some_iff.1 hrow6).1
          go_wp2_with fail
          refine (encode_any g A5 B5 n5 c5 m5 d5 (decO l).2.1 (decO l).2.2 w6 hs6 hB6 hsz6 (by have := hlr.out; omega)).mono ?_
          rintro e w7 hE
          obtain ⟨A7, n7, c7, rfl, hn7, _, hr7, hc7, _, hb7⟩ := hE.ok hk.1
          rw [hk.2] at hr7
          clear hn7
          have hrow7 := (hb7.block g hgl).trans hrow6
          have i7 := i6.on hb7
          have hs7 := hs6.below (hb7.mono hsz6)
          have p0 := cell_of_row w7 g 0 _ _ _ hrow7
          have p1 := cell_of_row w7 g 1 _ _ _ hrow7
          have hg7 : g ≤ w7.heap.size := Nat.le_trans hsz6 hb7.size
          clear hE hb7 hrow6 hrow7 i6
          go_wp2_with fail
          refine (rvalid_any g A5 B5 n5 c5 m5 d5 (decO l).2.1 w7 hs7 hg7 (by omega) hnc5).mono ?_
          rintro e w8 ⟨rfl, hb8⟩
          rw [hk.1]
          have i8 := i7.on hb8
          have hr8 := hr7.below hb8
          clear hb8 i7 hr7 p0 p1
          go_wp2_with fail
          refine (Dec.same_any 15 rfl w7.heap.size w.heap.size A7 A' n7 c7 n' c' l l w8 hr8 (hr.below i8.b) (by have := hlr.out; have := hr8.1; omega)).mono ?_
          rintro e w9 ⟨rfl, mm, hw9⟩
          rw [beq_self_eq_true]
          go_wp2_with fail
          go_ret
          exact ⟨rfl, by subst hw9; exact i8.b.trans (Obj.below_drewN w8 mm)⟩
        · have hbad := decO_bad l (by rw [hz]; exact hz0)
          rw [hbad] at hs6 hB6
          have hq := hs6.1
          obtain rfl : n5 = 0 := hs6.1.symm
          obtain rfl : m5 = 0 := hB6.1.symm
          go_wp2_with fail
          refine (rsame_any g A5 B5 none none 0 c5 0 d5 0 0 0 0 [] [] [] [] w6 hs6 (RdS.nil _ _ _) hB6 (Byt.Rd.nil _ _ _) hsz6 (by omega) (by omega)).mono ?_
          rintro e w7 ⟨rfl, hb7⟩
          go_wp2_with fail
          go_ret
          exact ⟨rfl, (i6.on hb7).b⟩

set_option maxRecDepth 100000 in
theorem proved : Rows.ObjsymUniqueSaid :=
  OpenClaim.holds_of_wide 4 Try.f4 rfl rfl rfl rfl rfl rfl rfl ⟨rfl, rfl, rfl, rfl, rfl⟩ rfl rfl rfl rfl rfl (by kernel_rfl) Try.func4 (by kernel_rfl)
    (of_decide_eq_true (by kernel_rfl)) (by unfold Func.isWrapper; rw [if_neg (of_decide_eq_false (by kernel_rfl))]; exact ⟨rfl, rfl⟩)
    (fun os started H enc _ => lifted (started := started) (s := Rows.objsymUniqueSpec) rfl
      (fun ds h => by match ds, h with | [_, _], _ => rfl) (by kernel_rfl)
      (by kernel_rfl) (by kernel_rfl) Try.func4
      (ChangeSpec.witness6 (enc := enc) (C := Try.checked) false ⟨#[], #[.agg #[.slice none 0 0, .slice none 0 0], .slice none 0 0], []⟩ 8 (by kernel_rfl) (by kernel_rfl) (by kernel_rfl) (by kernel_rfl))
      (fun W base args ds p h => by
        obtain ⟨hval, hA, _⟩ := h
        rw [show Try.f4.params = #[25, 23] from by kernel_rfl] at hA hval
        obtain ⟨v0, vs0, d0, ds0, p0, q0, hargs, rfl, rfl, k0, r0⟩ := trodAll_cons hA
        obtain ⟨v1, vs1, d1, ds1, p1, q1, rfl, rfl, rfl, k1, r1⟩ := trodAll_cons r0
        obtain ⟨rfl, rfl, rfl⟩ := trodAll_nil r1
        obtain rfl : args = #[v0, v1] := by cases args; simp_all
        obtain ⟨A0, n0, c0, B0, m0, e0, l0, b0, rfl, h0, g0, i0, j0, s0, t0⟩ := open_obj (hval 0 _ v0 rfl rfl) k0
        obtain ⟨A1, n1, c1, l1, rfl, h1, m1, g1⟩ := open_bytes (hval 1 _ v1 rfl rfl) k1
        exact walk W A0 n0 c0 B0 m0 e0 l0 b0 h0 g0 i0 j0 s0 t0 A1 n1 c1 l1 h1 m1 g1))
#print axioms proved
end Go.Proofs.Ytkacndinjomifaa.Unique
