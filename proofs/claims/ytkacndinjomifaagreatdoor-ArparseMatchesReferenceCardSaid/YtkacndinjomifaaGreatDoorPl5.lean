/-
  ArparseMatchesReference: for every byte slice, the archive, the offset and the error are those of the reference implementation. No condition.
-/
import Derived.Test.YtkacndinjomifaaGreatDoorMn
import Derived.Test.YtkacndinjomifaaGreatDoorMk
import Derived.Test.YtkacndinjomifaaGreatDoorP5a
import Derived.Test.YtkacndinjomifaaGreatDoorMo
import Derived.Test.YtkacndinjomifaaGreatDoorCards
import Derived.BigQuiet
import Derived.Deep.CutRange
namespace Go.Proofs.YtkacndinjomifaaGreatDoor.Matches
open Go.ChangeShapes Go.WideShapes Go.ChangeAt Go.RowKit Go.Proofs Go.Proofs.YtkacndinjomifaaGreatDoor.Byt Go.Proofs.YtkacndinjomifaaGreatDoor.Dec Go.Proofs.YtkacndinjomifaaGreatDoor.Lnm Go.Proofs.YtkacndinjomifaaGreatDoor.Hdr Go.Proofs.YtkacndinjomifaaGreatDoor.Arp Go.Proofs.YtkacndinjomifaaGreatDoor.Frame

theorem rparse_any (A : Option Addr) (n c : Nat) (l : List UInt8) (w : World) (hr : Rd w w.heap.size A n l) (hnc : n ≤ c) (hn : n < 100000) :
    Calls Tryz.prog 6 #[.slice A n c] w (Parses l w) := by
  by_cases h8 : n < 8
  · exact rparse_2 A n c l w hr h8
  · cases hi : isAr l
    · exact rparse_1 A n c l w hr hnc h8 hi
    · obtain ⟨b, o, rfl, _⟩ := Rd_where hr (by omega)
      exact rparse_go b o n c l w hr hnc hn hi

set_option maxRecDepth 100000 in
set_option maxHeartbeats 2000000 in
theorem big (w : World) (hg : Gnd w) (A : Option Addr) (n c : Nat) (hn : 20000 < n) :
    Calls Tryz.prog 3 #[.slice A n c] w fun e w' => e = .returned (.bool true) ∧ Below w.heap.size w w' := by
  have hni : (20000 : Int) < (n : Int) := by omega
  go_enter Tryz.func3, Tryz.ntmps3
  go_wp2_with fail
  refine (awake_any _ hg).mono ?_
  rintro e w1 ⟨rfl, hb1⟩
  go_wp2_with fail
  refine (awake_any _ (hg.on hb1)).mono ?_
  rintro e w2 ⟨rfl, hb2⟩
  go_wp2_with fail
  go_ret
  exact ⟨rfl, hb1.trans (hb2.mono hb1.size)⟩

set_option maxRecDepth 100000 in
theorem archive_any (x : Arc) (w : World) : Calls Tryz.prog 8 #[x.val] w fun e w' => e = .returned x.val ∧ Below w.heap.size w w' := by
  obtain ⟨x0, x1, x2, x3, x4, x5, x6, x7, x8, x9, x10, x11, x12⟩ := x
  have hb := ((Below.refl w.heap.size w).alloc (Nat.le_refl _) (.cells #[.bool x0, .slice x1 x2 x3, .slice x5 x6 x7, .slice x9 x10 x11] 27)).alloc (by simp) (.cells #[.bool x0, .slice x1 x2 x3, .slice x5 x6 x7, .slice x9 x10 x11] 31)
  have hrow := heap_alloc_new (w.alloc (.cells #[.bool x0, .slice x1 x2 x3, .slice x5 x6 x7, .slice x9 x10 x11] 27)) (.cells #[.bool x0, .slice x1 x2 x3, .slice x5 x6 x7, .slice x9 x10 x11] 31)
  rw [World.size_alloc] at hrow
  have hl := load_four _ _ _ hrow rfl
  clear hrow
  simp only [Arc.val]
  go_enter Tryz.func8, Tryz.ntmps8
  go_wp2_with fail
  exact bodyPost_ret (v := .agg #[.bool x0, .slice x1 x2 x3, .slice x5 x6 x7, .slice x9 x10 x11]) (by simp [results, Tryz.results8, asAddr, hl]) rfl ⟨rfl, hb⟩

theorem cell_keep {W W1 : World} {p : Addr} {v : Value} (hb : Below W.heap.size W W1) (h : W.cell? p = some v) : W1.cell? p = some v := by
  rw [hb.cell (World.block_lt_of_cell? W p h)]; exact h
theorem keep_all {V W W1 : World} {B C : Nat} {v0 v1 v2 v3 u0 u1 u2 u3 : Value} (h : W.cell? ⟨B, 0, none⟩ = some v0 ∧ W.cell? ⟨B, 1, none⟩ = some v1 ∧ W.cell? ⟨B, 2, none⟩ = some v2 ∧ W.cell? ⟨B, 3, none⟩ = some v3 ∧ W.cell? ⟨C, 0, none⟩ = some u0 ∧ W.cell? ⟨C, 1, none⟩ = some u1 ∧ W.cell? ⟨C, 2, none⟩ = some u2 ∧ W.cell? ⟨C, 3, none⟩ = some u3 ∧ Below V.heap.size V W) (hb : Below W.heap.size W W1) :
    W1.cell? ⟨B, 0, none⟩ = some v0 ∧ W1.cell? ⟨B, 1, none⟩ = some v1 ∧ W1.cell? ⟨B, 2, none⟩ = some v2 ∧ W1.cell? ⟨B, 3, none⟩ = some v3 ∧ W1.cell? ⟨C, 0, none⟩ = some u0 ∧ W1.cell? ⟨C, 1, none⟩ = some u1 ∧ W1.cell? ⟨C, 2, none⟩ = some u2 ∧ W1.cell? ⟨C, 3, none⟩ = some u3 ∧ Below V.heap.size V W1 := by
  obtain ⟨h0, h1, h2, h3, h4, h5, h6, h7, h8⟩ := h
  exact ⟨cell_keep hb h0, cell_keep hb h1, cell_keep hb h2, cell_keep hb h3, cell_keep hb h4, cell_keep hb h5, cell_keep hb h6, cell_keep hb h7, h8.trans (hb.mono h8.size)⟩
theorem held_below {V W : World} {B C : Nat} {v0 v1 v2 v3 u0 u1 u2 u3 : Value} (h : W.cell? ⟨B, 0, none⟩ = some v0 ∧ W.cell? ⟨B, 1, none⟩ = some v1 ∧ W.cell? ⟨B, 2, none⟩ = some v2 ∧ W.cell? ⟨B, 3, none⟩ = some v3 ∧ W.cell? ⟨C, 0, none⟩ = some u0 ∧ W.cell? ⟨C, 1, none⟩ = some u1 ∧ W.cell? ⟨C, 2, none⟩ = some u2 ∧ W.cell? ⟨C, 3, none⟩ = some u3 ∧ Below V.heap.size V W) : Below V.heap.size V W := by
  obtain ⟨_, _, _, _, _, _, _, _, h8⟩ := h
  exact h8

set_option maxRecDepth 100000 in
set_option maxHeartbeats 4000000 in
theorem small (w : World) (hg : Gnd w) (A : Option Addr) (n c : Nat) (l : List UInt8) (hr : Rd w w.heap.size A n l) (hnc : n ≤ c) (hn : ¬ 20000 < n) :
    Calls Tryz.prog 3 #[.slice A n c] w fun e w' => e = .returned (.bool true) ∧ Below w.heap.size w w' := by
  have hni : ¬ (20000 : Int) < (n : Int) := by omega
  obtain ⟨t, k, z, har⟩ : ∃ t k z, ar l = (t, k, z) := ⟨_, _, _, rfl⟩
  have Har := hid har
  have Hg := hid hg
  clear hg har
  go_enter Tryz.func3, Tryz.ntmps3
  go_wp2_with fail
  refine (awake_any _ Hg.out).mono ?_
  rintro e w1 ⟨rfl, hb1⟩
  go_wp2_with fail
  refine (parse_at A n c l w1 (Hg.out.on hb1) ((hr.below hb1).more hb1.size) hnc (by omega) t k z Har.out).mono ?_
  rintro e w2 ⟨X, rfl, hx, ho, hb2⟩
  obtain ⟨x0, x1, x2, x3, x4, x5, x6, x7, x8, x9, x10, x11, x12⟩ := X
  simp only [Arc.val]
  have hb02 := hb1.trans (hb2.mono hb1.size)
  have hb23 := (Below.refl w2.heap.size w2).alloc (Nat.le_refl _) (.cells #[.bool x0, .slice x1 x2 x3, .slice x5 x6 x7, .slice x9 x10 x11] 27)
  have hb03 := hb02.trans (hb23.mono hb02.size)
  have hrow3 := heap_alloc_new w2 (.cells #[.bool x0, .slice x1 x2 x3, .slice x5 x6 x7, .slice x9 x10 x11] 27)
  have hx3 := ho.reads.below hb23
  have HX := hid hx
  clear hx ho
  go_wp2_with fail
  generalize w2.alloc (.cells #[.bool x0, .slice x1 x2 x3, .slice x5 x6 x7, .slice x9 x10 x11] 27) = w3 at *
  have h23 := hb23.size
  refine (rparse_any A n c l w3 ((hr.below hb03).more hb03.size) hnc (by omega)).mono ?_
  rintro e w4 ⟨Y, rfl, hy, ho, hb4⟩
  rw [Har.out] at hy ⊢
  obtain ⟨y0, y1, y2, y3, y4, y5, y6, y7, y8, y9, y10, y11, y12⟩ := Y
  simp only [Arc.val]
  have hb45 := (Below.refl w4.heap.size w4).alloc (Nat.le_refl _) (.cells #[.bool y0, .slice y1 y2 y3, .slice y5 y6 y7, .slice y9 y10 y11] 31)
  have hrow5 := heap_alloc_new w4 (.cells #[.bool y0, .slice y1 y2 y3, .slice y5 y6 y7, .slice y9 y10 y11] 31)
  have hb35 := hb4.trans (hb45.mono hb4.size)
  have hy5 := ho.reads.below hb45
  have hx5 := hx3.below (hb35.mono h23)
  have hrow35 := (hb35.block w2.heap.size (Array.getElem?_eq_some_iff.1 hrow3).1).trans hrow3
  have hb05 := hb03.trans (hb35.mono hb03.size)
  have hsame := Arc.is_same HX.out hy
  have Hsame := hid hsame
  have hr5 := (hr.below hb05).more hb05.size
  have h45 := hb45.size
  have h35 := hb35.size
  clear hy ho hx3 hrow3 hsame hb1 hb2 hb23 hb02 hb03 hb4 hb45 hr
  go_upto_region 5 with fail
  generalize w4.alloc (.cells #[.bool y0, .slice y1 y2 y3, .slice y5 y6 y7, .slice y9 y10 y11] 31) = V at *
  have a0 := cell_of_row V w2.heap.size 0 _ _ _ hrow35
  have a1 := cell_of_row V w2.heap.size 1 _ _ _ hrow35
  have a2 := cell_of_row V w2.heap.size 2 _ _ _ hrow35
  have a3 := cell_of_row V w2.heap.size 3 _ _ _ hrow35
  have c0 := cell_of_row V w4.heap.size 0 _ _ _ hrow5
  have c1 := cell_of_row V w4.heap.size 1 _ _ _ hrow5
  have c2 := cell_of_row V w4.heap.size 2 _ _ _ hrow5
  have c3 := cell_of_row V w4.heap.size 3 _ _ _ hrow5
  have HS : Hid (∀ W, Below V.heap.size V W → Calls Tryz.prog 7 #[.agg #[.bool x0, .slice x1 x2 x3, .slice x5 x6 x7, .slice x9 x10 x11], .agg #[.bool y0, .slice y1 y2 y3, .slice y5 y6 y7, .slice y9 y10 y11]] W fun e W' => e = .returned (.bool true) ∧ Below W.heap.size W W') := hid fun W hW => by
    rw [← Hsame.out]
    exact rsame_any _ _ V.heap.size W ((hx5.more (by omega)).below hW) ((hy5.more h45).below hW) hW.size
  have HI : Hid (∀ W, Below V.heap.size V W → Calls Tryz.prog 9 #[.slice A n c] W fun e W' => e = .returned (.bool (isAr l)) ∧ Below W.heap.size W W') := hid fun W hW => is_any V.heap.size A n c l W (hr5.below hW) hW.size hnc
  have HJ : Hid (∀ W, Below V.heap.size V W → Calls Tryz.prog 10 #[.slice A n c] W fun e W' => e = .returned (.bool (isAr l)) ∧ Below W.heap.size W W') := hid fun W hW => ris_any V.heap.size A n c l W (hr5.below hW) hW.size hnc
  have HA : Hid (∀ W, Calls Tryz.prog 8 #[.agg #[.bool x0, .slice x1 x2 x3, .slice x5 x6 x7, .slice x9 x10 x11]] W fun e W' => e = .returned (.agg #[.bool x0, .slice x1 x2 x3, .slice x5 x6 x7, .slice x9 x10 x11]) ∧ Below W.heap.size W W') := hid fun W => archive_any ⟨x0, x1, x2, x3, x4, x5, x6, x7, x8, x9, x10, x11, x12⟩ W
  have hbX0 : Below V.heap.size V V.drew := (Below.refl _ _).drew
  have HF := hid hb05
  clear hrow35 hrow5 hx5 hy5 hr5 hb05 hb35 HX Hsame
  go_cut [2, 49] from 29 to 49 (fun s2 _ wx => s2 = .bool true ∧ Below V.heap.size V wx)
  case first =>
    go_region_held3 (fun W' => W'.cell? ⟨w2.heap.size, 0, none⟩ = some (.bool x0) ∧ W'.cell? ⟨w2.heap.size, 1, none⟩ = some (.slice x1 x2 x3) ∧ W'.cell? ⟨w2.heap.size, 2, none⟩ = some (.slice x5 x6 x7) ∧ W'.cell? ⟨w2.heap.size, 3, none⟩ = some (.slice x9 x10 x11) ∧ W'.cell? ⟨w4.heap.size, 0, none⟩ = some (.bool y0) ∧ W'.cell? ⟨w4.heap.size, 1, none⟩ = some (.slice y1 y2 y3) ∧ W'.cell? ⟨w4.heap.size, 2, none⟩ = some (.slice y5 y6 y7) ∧ W'.cell? ⟨w4.heap.size, 3, none⟩ = some (.slice y9 y10 y11) ∧ Below V.heap.size V W')
      (first | exact ⟨a0, a1, a2, a3, c0, c1, c2, c3, hbX0⟩ | exact keep_all (by assumption) hbX)
      (first
        | (go_at_call 8; refine (HA.out _).mono ?_; rintro e w' ⟨rfl, hbX⟩)
        | (go_at_call 7; refine (HS.out _ (by first | assumption | exact held_below (by assumption))).mono ?_; rintro e w' ⟨rfl, hbX⟩)
        | (go_at_call 9; refine (HI.out _ (by first | assumption | exact held_below (by assumption))).mono ?_; rintro e w' ⟨rfl, hbX⟩)
        | (go_at_call 10; refine (HJ.out _ (by first | assumption | exact held_below (by assumption))).mono ?_; rintro e w' ⟨rfl, hbX⟩)
        | fail)
    rename_i hh
    have hZ := held_below hh
    clear hh
    go_wp2_with fail
    go_meet
    exact ⟨by first | rfl | simp, hZ⟩
  case rest =>
    obtain ⟨rfl, hbc⟩ := hcut
    have hF := HF.out.trans (hbc.mono HF.out.size)
    clear hbc
    go_wp2_with fail
    go_ret
    exact ⟨rfl, hF⟩

theorem walk (w : World) (hg : Gnd w) (A : Option Addr) (n c : Nat) (l : List UInt8) (hr : Rd w w.heap.size A n l) (hnc : n ≤ c) (_ : c ≤ maxLen) :
    Calls Tryz.prog 3 #[.slice A n c] w fun e w' => e = .returned (.bool true) ∧ Below w.heap.size w w' := by
  by_cases h : 20000 < n
  · exact big w hg A n c h
  · exact small w hg A n c l hr hnc h

set_option maxRecDepth 100000 in
theorem held : Rows.ArparseMatchesReferenceSaid :=
  OpenClaim.holds_of_wide 3 Tryz.f3 rfl rfl rfl rfl rfl rfl rfl ⟨rfl, rfl, rfl, rfl, rfl⟩ rfl rfl rfl rfl rfl (by kernel_rfl) Tryz.func3 (by kernel_rfl)
    (of_decide_eq_true (by kernel_rfl)) (by unfold Func.isWrapper; first | (rw [if_pos (by decide +kernel)]; kernel_rfl) | (rw [if_neg (by decide +kernel)]; exact ⟨rfl, rfl⟩))
    (fun os started H enc _ => liftedG (started := started) (s := Rows.arparseMatchesReferenceSpec) (L := Rows.arparseMatchesReferenceRow.laid) rfl
      (fun ds h => by match ds, h with | [_], _ => rfl) (by kernel_rfl)
      (by kernel_rfl) (by kernel_rfl) Tryz.func3
      (ChangeSpec.witness_shaped (enc := enc) (C := Tryz.checked) (os := os) (X := fun w _ => laidMetH Tryz.prog Rows.arparseMatchesReferenceRow.laid w) false (World.laidAll Tryz.prog os Rows.arparseMatchesReferenceRow.laid) #[.slice none 0 0] 8 (World.laidAll_os _ _ _)
        (World.shaped_of_ZipB (by kernel_rfl) (by kernel_rfl)) (by kernel_rfl) (by kernel_rfl) (by kernel_rfl)
        (by rw [MakeChecks.laidMetH_plain _ _ _ (by kernel_rfl)]; exact laidMet_laidAll _ (by kernel_rfl) (by kernel_rfl)))
      gnd_of (fun W base args ds p hG h => by
        obtain ⟨hval, hA, _⟩ := h
        rw [show Tryz.f3.params = #[22] from by kernel_rfl] at hA hval
        obtain ⟨v0, vs0, d0, ds0, p0, q0, hargs, rfl, rfl, k0, r0⟩ := trodAll_cons hA
        obtain ⟨rfl, rfl, rfl⟩ := trodAll_nil r0
        obtain rfl : args = #[v0] := by cases args; simp_all
        obtain ⟨A0, n0, c0, l0, rfl, h0, m0, g0⟩ := open_bytes (hval 0 _ v0 rfl rfl) k0
        exact walk W hG A0 n0 c0 l0 h0 m0 g0))
theorem proved : Rows.ArparseMatchesReferenceCardSaid :=
  Claim7.holds_tied_plain_at .later [] [.data, .pinned] true (true, "d7a31397d9f45f2d45ff0bd3f5c50a8f64938cb1f74537a77333328c05ff54aa") false held (fun _ h => by cases h) (by kernel_rfl) (fun _ h => by cases h) arparseMatchesReference_row_tie rfl ⟨rfl, rfl⟩ (by kernel_rfl) rfl
    (fun f fn hf hfn => by
      obtain rfl : f = 3 := Option.some.inj ((show Tryz.prog.funcNamed "arlink/arlinklaw04.ArparseMatchesReference" = some 3 by kernel_rfl).symm.trans hf) |>.symm
      obtain rfl : fn = Tryz.f3 := (Option.some.inj (Tryz.func3.symm.trans hfn)).symm
      exact ⟨by kernel_rfl, fun j t ht => by
        rw [Tryz.params3] at ht
        have hm : t ∈ [22] := by simpa using Array.mem_of_getElem? ht
        have hall : ([22].all fun u => !Tryz.prog.wantsStandIn u) = true := by kernel_rfl
        exact (show Tryz.prog.wantsStandIn t = false by simpa using List.all_eq_true.1 hall t hm)⟩)
    (by kernel_rfl)
#print axioms proved
end Go.Proofs.YtkacndinjomifaaGreatDoor.Matches
