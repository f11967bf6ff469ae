/-
  ArwriteOffsets: offsets are even and ascending, with room for a header and the data in between; a map moves all of them by the same number. For every size of a map and every list of members: no condition.
-/
import Derived.Test.YteeeongnabpheaaDoorWn
import Derived.BigQuiet
import Derived.Test.YteeeongnabpheaaDoorWs
import Derived.Test.YteeeongnabpheaaDoorCards
namespace Go.Proofs.YteeeongnabpheaaDoor.Offs5
open Go.ChangeShapes Go.WideShapes Go.ChangeAt Go.RowKit Go.Proofs Go.Proofs.YteeeongnabpheaaDoor.Byt Go.Proofs.YteeeongnabpheaaDoor.Dec Go.Proofs.YteeeongnabpheaaDoor.Lnm Go.Proofs.YteeeongnabpheaaDoor.Hdr Go.Proofs.YteeeongnabpheaaDoor.Arp Go.Proofs.YteeeongnabpheaaDoor.Arw Go.Proofs.YteeeongnabpheaaDoor.Frame

theorem pz_even (n : Nat) : pz n % 2 = 0 := by unfold pz; omega
theorem base_even (hm : Bool) (ms : Nat) (xs : List Mem) : base hm ms xs % 2 = 0 := by
  unfold base
  have h1 := pz_even ms
  have h2 := pz_even (bo (nms xs)).length
  split <;> split <;> omega
theorem offAt_even {o : Nat} {xs : List Mem} (ho : o % 2 = 0) : ∀ k, k ≤ xs.length → offAt o xs k % 2 = 0
  | 0, _ => by simpa [offAt] using ho
  | k + 1, h => by
    rw [offAt_succ (show k < xs.length by omega)]
    have h1 := offAt_even (xs := xs) ho k (by omega)
    have h2 := pz_even (xs[k]'(show k < xs.length by omega)).len
    omega
theorem offAt_shift {o d : Nat} {xs : List Mem} (k : Nat) : offAt (o + d) xs k = offAt o xs k + d := by unfold offAt; omega
theorem base_shift (ms : Nat) (xs : List Mem) : base true ms xs = base false 0 xs + pz ms := by
  unfold base
  have h1 : (if (true : Bool) = true then pz ms else 0) = pz ms := rfl
  have h2 : (if (false : Bool) = true then pz 0 else 0) = 0 := rfl
  rw [h1, h2]
  omega
theorem offL_at {o : Nat} {xs : List Mem} {w : World} {K n : Nat} {A : Option Addr} (h : RdI w K A n ((offL o xs).map fun (x : Nat) => (x : Int))) {k : Nat} (hk : k < xs.length) : ∃ b p, A = some ⟨b, p, none⟩ ∧ b < K ∧ w.cell? ⟨b, p + k, none⟩ = some (.int .i64 (offAt o xs k : Int)) := by
  have hl : k < ((offL o xs).map fun (x : Nat) => (x : Int)).length := by rw [List.length_map]; unfold offL; rw [List.length_map, List.length_range]; exact hk
  obtain ⟨b, p, e, hb, hc⟩ := h.2 k hl
  refine ⟨b, p, e, hb, ?_⟩
  rw [hc]
  simp [offL]

set_option linter.unusedSimpArgs false in
set_option maxRecDepth 100000 in
set_option maxHeartbeats 8000000 in
theorem walk (w : World) (hG : GndP w) (ms : Nat) (hms : ms < 65536) (A : Option Addr) (n c : Nat) (xs : List Mem) (h : RdM0 w w.heap.size A n xs) (_hnc : n ≤ c) (_hc : c ≤ maxLen) (hB : ∀ x ∈ xs, MB x) :
    Calls Tryd.prog 6 #[.int .u16 (ms : Int), .slice A n c] w fun e w' => e = .returned (.bool true) ∧ Below w.heap.size w w' := by
  go_enter Tryd.func6, Tryd.ntmps6
  go_wp2_with fail
  refine (awake_any w hG).mono ?_
  rintro e w1 ⟨rfl, hb1⟩
  go_wp2_with fail
  refine (few5_any w.heap.size A n c xs w1 (h.below hb1) hb1.size).mono ?_
  rintro e w2 ⟨rfl, hb2⟩
  have hb02 := hb1.trans (hb2.mono hb1.size)
  have hs2 : w.heap.size ≤ w2.heap.size := hb02.size
  clear hb1 hb2
  cases hf : fewM xs
  · go_wp2_with fail
    refine (awake_any _ (hG.on hb02)).mono ?_
    rintro e w9 ⟨rfl, hb9⟩
    go_wp2_with fail
    go_ret
    exact ⟨rfl, hb02.trans (hb9.mono hb02.size)⟩
  · obtain ⟨k1, _, k3⟩ := fewM_iff.1 hf
    have hl := hid h.1
    have hM := h.to (fun x hx => (k3 x hx).2)
    have hok : ∀ x ∈ xs, MOk x := fun x hx => (hB x hx).ok (k3 x hx).1 (k3 x hx).2
    have hn20 : n ≤ 20 := by have := hl.out; omega
    clear hf k1 k3 h hB
    go_wp2_with fail
    refine (offsets_any false 0 w.heap.size A n c xs w2 (hG.on hb02) (hM.below hb02) hs2 hok hn20 (by omega)).mono ?_
    rintro e w3 ⟨A3, n3, c3, rfl, o3, hb3⟩
    have r3 := rdI_of o3
    have hb03 := hb02.trans (hb3.mono hs2)
    have hs3 : w.heap.size ≤ w3.heap.size := hb03.size
    clear hb3 hb02 o3
    have hcv : IntKind.i64.wrap (ms : Int) = (ms : Int) := by rw [IntKind.wrap_i64]; omega
    go_wp2_with fail
    refine (offsets_any true ms w.heap.size A n c xs w3 (hG.on hb03) (hM.below hb03) hs3 hok hn20 (by omega)).mono ?_
    rintro e w4 ⟨A4, n4, c4, rfl, o4, hb4⟩
    have r4 := rdI_of o4
    have r34 := r3.below hb4
    have hb04 := hb03.trans (hb4.mono hs3)
    have hs4 : w.heap.size ≤ w4.heap.size := hb04.size
    have hs34 : w3.heap.size ≤ w4.heap.size := hb4.size
    clear hb4 hb03 o4 r3
    go_wp2_with fail
    refine (rfits5_any w.heap.size A n c xs w4 (hM.below hb04) hs4 hok (by omega)).mono ?_
    rintro e w5 ⟨rfl, hb5⟩
    have r35 := (r34.more hs34).below hb5
    have r45 := r4.below hb5
    have hb05 := hb04.trans (hb5.mono hs4)
    have hs5 : w.heap.size ≤ w5.heap.size := hb05.size
    have hs45 : w4.heap.size ≤ w5.heap.size := hb5.size
    clear hb5 hb04 r34 r4
    obtain ⟨f1, f2, hf⟩ : ∃ f1 f2, fitL 0 xs = (f1, f2) := ⟨_, _, rfl⟩
    rw [hf] at r35 r45 ⊢
    by_cases hz : f2 = 0
    · subst hz
      rw [if_pos rfl] at r35 r45
      have hn3 : n3 = n := by have := r35.1; rw [List.length_map] at this; unfold offL at this; rw [List.length_map, List.length_range] at this; have := hl.out; omega
      have hn4 : n4 = n := by have := r45.1; rw [List.length_map] at this; unfold offL at this; rw [List.length_map, List.length_range] at this; have := hl.out; omega
      subst n3 n4
      have HA := hid fun (k : Nat) (hk : k < xs.length) => offL_at r35 hk
      have HB := hid fun (k : Nat) (hk : k < xs.length) => offL_at r45 hk
      have HE := hid fun (k : Nat) (hk : k ≤ xs.length) => offAt_even (xs := xs) (base_even false 0 xs) k hk
      have HS := hid fun (k : Nat) => (show offAt (base true ms xs) xs k = offAt (base false 0 xs) xs k + pz ms by rw [base_shift, offAt_shift])
      have HL := hid fun (k : Nat) (hk : k ≤ xs.length) => offAt_le (o := base false 0 xs) hok k hk
      have HX := hid (base_le (hm := false) (ms := 0) (xs := xs) (by omega) (by have := hl.out; omega))
      generalize base false 0 xs = oa at *
      generalize base true ms xs = ob at *
      clear r35 r45 hf
      go_wp2_with fail
      go_loopw [9] (fun i W => ∃ (k : Nat), i = .int .i64 (k : Int) ∧ k ≤ n ∧ Below w5.heap.size w5 W) (fun i _ => n - (intOf i).toNat)
      case atStart => exact ⟨0, rfl, by omega, Below.refl _ _⟩
      case round =>
        obtain ⟨k, rfl, hk, hb⟩ := hrel
        have hbq := hid (hb05.trans (hb.mono hs5))
        by_cases hlt : k < n
        · have hkl : k < xs.length := by have := hl.out; omega
          have hki : (k : Int) < (n : Int) := by omega
          obtain ⟨ba, pa, rfl, hba, ca⟩ := HA.out k hkl
          obtain ⟨bb, pb, rfl, hbb, cb⟩ := HB.out k hkl
          replace ca := (cell_eq (o := pa + k) (hb.block ba (by omega))).trans ca
          replace cb := (cell_eq (o := pb + k) (hb.block bb (by omega))).trans cb
          have he := HE.out k (by omega)
          have hs := HS.out k
          have hle := HL.out k (by omega)
          have hx := HX.out
          rw [hs] at cb
          have g1 : ((offAt oa xs k : Nat) : Int).tmod 2 = 0 := by have : ((offAt oa xs k : Nat) : Int).tmod 2 = ((offAt oa xs k % 2 : Nat) : Int) := rfl; rw [this, he]; rfl
          have g2 : IntKind.i64.wrap (((offAt oa xs k + pz ms : Nat) : Int) - ((offAt oa xs k : Nat) : Int)) = ((pz ms : Nat) : Int) := by rw [IntKind.wrap_i64]; unfold pz; omega
          have g3 : IntKind.i64.wrap (60 + (ms : Int)) = 60 + (ms : Int) := by rw [IntKind.wrap_i64]; omega
          have g4 : (ms : Int).tmod 2 = ((ms % 2 : Nat) : Int) := rfl
          have g5 : IntKind.i64.wrap ((ms % 2 : Nat) : Int) = ((ms % 2 : Nat) : Int) := by rw [IntKind.wrap_i64]; omega
          have g6 : IntKind.i64.wrap (60 + (ms : Int) + ((ms % 2 : Nat) : Int)) = ((pz ms : Nat) : Int) := by rw [IntKind.wrap_i64]; unfold pz; omega
          have g0 : IntKind.i64.wrap 0 = 0 := by decide
          generalize ((ms % 2 : Nat) : Int) = q1 at *
          generalize ((pz ms : Nat) : Int) = p1 at *
          by_cases hk0 : k = 0
          · have hk0i : decide ((0 : Int) < (k : Int)) = false := decide_eq_false (by omega)
            have hk0n : decide (0 < k) = false := decide_eq_false (by omega)
            generalize ((offAt oa xs k + pz ms : Nat) : Int) = vb at *
            generalize ((offAt oa xs k : Nat) : Int) = va at *
            clear he hs hle hx HA HB HE HS HL HX hk0
            go_wp2_with fail
            go_quiet (fail)
            go_wp2_with fail
            go_roundw
            all_goals first
              | exact ⟨k + 1, by go_num, by omega, hb.trans ⟨rfl, rfl, rfl, Nat.le_refl _, fun _ _ => rfl⟩⟩
              | (simp [intOf]; omega)
          · obtain ⟨j, hj⟩ : ∃ j, k = j + 1 := ⟨k - 1, by omega⟩
            have hk0i : decide ((0 : Int) < (k : Int)) = true := decide_eq_true (by omega)
            have hk0n : decide (0 < k) = true := decide_eq_true (by omega)
            have hjl : j < xs.length := by omega
            have hji : (j : Int) < (n : Int) := by omega
            have hw : IntKind.i64.wrap ((k : Int) - 1) = (j : Int) := by rw [IntKind.wrap_i64]; omega
            obtain ⟨ba', pa', ea, _, cj⟩ := HA.out j hjl
            cases ea
            replace cj := (cell_eq (o := pa + j) (hb.block ba (by omega))).trans cj
            obtain ⟨⟨bm, om, rfl, hbm, hmc⟩, _, _⟩ := (hM.below hbq.out).2 j hjl
            have hN : offAt oa xs k = offAt oa xs j + pz xs[j].len := by rw [hj, offAt_succ hjl]
            have hx2 := (hok xs[j] (List.getElem_mem hjl)).len
            generalize xs[j] = x at *
            obtain ⟨x0, x1, x2, x3, x4, x5, x6, x7, x8⟩ := x
            obtain ⟨_, _, _, _, _, m5⟩ := hmc
            simp only at *
            have g7 : IntKind.i64.wrap (((offAt oa xs k : Nat) : Int) - ((offAt oa xs j : Nat) : Int)) = ((pz x6 : Nat) : Int) := by rw [IntKind.wrap_i64, hN]; unfold pz; omega
            have g8 : IntKind.i64.wrap (60 + (x6 : Int)) = 60 + (x6 : Int) := by rw [IntKind.wrap_i64]; omega
            have g9 : (x6 : Int).tmod 2 = ((x6 % 2 : Nat) : Int) := rfl
            have g10 : IntKind.i64.wrap ((x6 % 2 : Nat) : Int) = ((x6 % 2 : Nat) : Int) := by rw [IntKind.wrap_i64]; omega
            have g11 : IntKind.i64.wrap (60 + (x6 : Int) + ((x6 % 2 : Nat) : Int)) = ((pz x6 : Nat) : Int) := by rw [IntKind.wrap_i64]; unfold pz; omega
            generalize ((x6 % 2 : Nat) : Int) = q2 at *
            generalize ((pz x6 : Nat) : Int) = p2 at *
            generalize ((offAt oa xs k + pz ms : Nat) : Int) = vb at *
            clear hN he hs hle hx hx2 hj
            generalize ((offAt oa xs k : Nat) : Int) = va at *
            generalize ((offAt oa xs j : Nat) : Int) = vp at *
            clear HA HB HE HS HL HX
            go_wp2_with fail
            go_quiet (fail)
            go_wp2_with fail
            go_roundw
            all_goals first
              | exact ⟨k + 1, by go_num, by omega, hb.trans ⟨rfl, rfl, rfl, Nat.le_refl _, fun _ _ => rfl⟩⟩
              | (simp [intOf]; omega)
        · obtain rfl : k = n := by omega
          go_wp2_with fail
          go_ret
          exact ⟨rfl, hbq.out⟩
    · rw [if_neg hz] at r35 r45
      have hn3 : n3 = 0 := r35.1.symm
      have hn4 : n4 = 0 := r45.1.symm
      subst hn3 hn4
      clear r35 r45 hf
      go_wp2_with fail
      go_ret
      exact ⟨rfl, hb05⟩

set_option maxRecDepth 100000 in
theorem held : Rows.ArwriteOffsetsSaid :=
  OpenClaim.holds_of_wide 6 Tryd.f6 rfl rfl rfl rfl rfl rfl rfl ⟨rfl, rfl, rfl, rfl, rfl⟩ rfl rfl rfl rfl rfl (by kernel_rfl) Tryd.func6 (by kernel_rfl)
    (of_decide_eq_true (by kernel_rfl)) (by unfold Func.isWrapper; first | (rw [if_pos (by decide +kernel)]; kernel_rfl) | (rw [if_neg (by decide +kernel)]; exact ⟨rfl, rfl⟩))
    (fun os started H enc _ => liftedG (started := started) (s := Rows.arwriteOffsetsSpec) (L := Rows.arwriteOffsetsRow.laid) rfl
      (fun ds h => by match ds, h with | [_, _], _ => rfl) (by kernel_rfl)
      (by kernel_rfl) (by kernel_rfl) Tryd.func6
      (ChangeSpec.witness_shaped (enc := enc) (C := Tryd.checked) (os := os) (X := fun w _ => laidMetH Tryd.prog Rows.arwriteOffsetsRow.laid w) false (World.laidAll Tryd.prog os Rows.arwriteOffsetsRow.laid) #[.int .u16 0, .slice none 0 0] 8 (World.laidAll_os _ _ _)
        (World.shaped_of_ZipB (by kernel_rfl) (by kernel_rfl)) (by kernel_rfl) (by kernel_rfl) (by kernel_rfl)
        (by rw [MakeChecks.laidMetH_plain _ _ _ (by kernel_rfl)]; exact laidMet_laidAll _ (by kernel_rfl) (by kernel_rfl)))
      gndp_of (fun W base args ds p hG h => by
        obtain ⟨hval, hA, _⟩ := h
        rw [show Tryd.f6.params = #[43, 23] from by kernel_rfl] at hA hval
        obtain ⟨v0, vs0, d0, ds0, p0, q0, hargs, rfl, rfl, k0, r0⟩ := trodAll_cons hA
        obtain ⟨v1, vs1, d1, ds1, p1, q1, rfl, rfl, rfl, k1, r1⟩ := trodAll_cons r0
        obtain ⟨rfl, rfl, rfl⟩ := trodAll_nil r1
        obtain rfl : args = #[v0, v1] := by cases args; simp_all
        obtain ⟨a0, rfl, u0⟩ := open_u16 (hval 0 _ v0 rfl rfl) k0
        obtain ⟨A1, n1, c1, l1, rfl, h1, m1, g1, s1⟩ := open_mems (hval 1 _ v1 rfl rfl) k1
        exact walk W hG a0 u0 A1 n1 c1 l1 h1 m1 g1 s1))
theorem proved : Rows.ArwriteOffsetsCardSaid :=
  Claim7.holds_tied_plain_at .later [] [.data, .data, .data] true (true, "e71bdd4a64025239ffe3a50cebeb532569b9d8715588fd984b1edff4121d2f15") false held (fun _ h => by cases h) (by kernel_rfl) (fun _ h => by cases h) arwriteOffsets_row_tie rfl ⟨rfl, rfl⟩ (by kernel_rfl) rfl
    (fun f fn hf hfn => by
      obtain rfl : f = 6 := Option.some.inj ((show Tryd.prog.funcNamed "arlink/arlinklaw05.ArwriteOffsets" = some 6 by kernel_rfl).symm.trans hf) |>.symm
      obtain rfl : fn = Tryd.f6 := (Option.some.inj (Tryd.func6.symm.trans hfn)).symm
      exact ⟨by kernel_rfl, fun j t ht => by
        rw [Tryd.params6] at ht
        have hm : t ∈ [43, 23] := by simpa using Array.mem_of_getElem? ht
        have hall : ([43, 23].all fun u => !Tryd.prog.wantsStandIn u) = true := by kernel_rfl
        exact (show Tryd.prog.wantsStandIn t = false by simpa using List.all_eq_true.1 hall t hm)⟩)
    (by kernel_rfl)
#print axioms proved
end Go.Proofs.YteeeongnabpheaaDoor.Offs5
