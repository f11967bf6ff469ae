/-
  ArmapSize: the size is the number of bytes of the encoding, whatever the offsets are, and an encoding with a byte more or less is not one. For every list of entries: no condition.
-/
import Derived.Test.YtlooblgdlfheaaaAm
import Derived.Test.YtlooblgdlfheaaaAo
namespace Go.Proofs.Ytlooblgdlfheaaa.SizeA
open Go.ChangeShapes Go.WideShapes Go.ChangeAt Go.RowKit Go.Proofs Go.Proofs.Ytlooblgdlfheaaa.Byt Go.Proofs.Ytlooblgdlfheaaa.Amp Go.Proofs.Ytlooblgdlfheaaa.Frame

set_option linter.unusedSimpArgs false in
set_option maxRecDepth 100000 in
set_option maxHeartbeats 8000000 in
theorem walk (w : World) (A : Option Addr) (n c : Nat) (xs : List En) (h : RdE w w.heap.size A n xs) (_hnc : n ≤ c) (_hc : c ≤ maxLen) :
    Calls Try.prog 5 #[.slice A n c] w fun e w' => e = .returned (.bool true) ∧ Below w.heap.size w w' := by
  go_enter Try.func5, Try.ntmps5
  go_wp2_with fail
  refine (awake_any _).mono ?_
  rintro e w1 ⟨rfl, B1⟩
  have hK1 := B1.size
  go_wp2_with fail
  refine (rfewE_any w.heap.size A n c xs w1 (h.below B1)).mono ?_
  rintro e w1 ⟨rfl, rfl⟩
  cases hf : fewE xs
  · go_wp2_with fail
    refine (awake_any _).mono ?_
    rintro e w9 ⟨rfl, hb9⟩
    go_wp2_with fail
    go_ret
    exact ⟨rfl, B1.trans (hb9.mono B1.size)⟩
  · obtain ⟨k1, k2⟩ := fewE_iff.1 hf
    have Hl := hid h.1
    have hn100 : n ≤ 100 := by have := Hl.out; omega
    have K2 := hid k2
    have hfew := encA_few k1 k2
    clear hf k1 k2
    go_wp2_with fail
    go_loopw [3, 4] (fun v i W => ∃ (k : Nat) (A1 : Option Addr) (c1 : Nat), i = .int .i64 (k : Int) ∧ v = .slice A1 k c1 ∧ k ≤ n ∧ Cel.Own 9 1 W w.heap.size (.slice A1 k c1) k (ncells ((xs.take k).map (·.name))) ∧ Below w.heap.size w W) (fun _ i _ => n - (intOf i).toNat)
    case atStart => exact ⟨0, none, 0, rfl, rfl, by omega, Cel.Own.nil _ _ _ _, B1⟩
    case round =>
      obtain ⟨k, A1, c1, rfl, rfl, hk, hO, hb⟩ := hrel
      by_cases hlt : k < n
      · have hkl : k < xs.length := by have := Hl.out; omega
        have hki : (k : Int) < (n : Int) := by omega
        obtain ⟨b, o, rfl, hbK, hcell⟩ := (h.below hb).2 k hkl
        have HT : Hid (ncells ((xs.take (k + 1)).map (·.name)) = ncells ((xs.take k).map (·.name)) ++ [.string xs[k].name]) := hid (by
          rw [List.take_succ_eq_append_getElem hkl, List.map_append]
          simp [ncells])
        generalize xs[k] = x at *
        obtain ⟨x0, x1⟩ := x
        obtain ⟨p0, p1⟩ := hcell
        simp only at *
        have hs0 := hb.size
        clear p1
        go_wp2_with (at_builtin; go_must (refine Cel.wpList_push kStr wr w.heap.size (.slice A1 k c1) k _ hO hs0 1 1 #[.string x0] (0, 0) rfl (by simp [Value.oneCell']) (by omega) (by omega) rfl (.tmp 25) (.tmp 31) rfl rfl rfl ?_); intro v6 w6 ho6 hb6 _ _; obtain ⟨A6, c6, rfl, _⟩ := ho6.reads)
        have ho6' : Cel.Own 9 1 w6 w.heap.size (.slice A6 (k + 1) c6) (k + 1) (ncells ((xs.take (k + 1)).map (·.name))) := by rw [HT.out]; exact ho6
        have hb06 := hb.trans hb6
        clear ho6 hb6 hO hb p0
        go_roundw
        · exact ⟨k + 1, A6, c6, by go_num, by go_num, by omega, ho6', hb06⟩
        · simp [intOf]; omega
      · obtain rfl : k = n := by omega
        have hT : xs.take k = xs := List.take_of_length_le (by have := Hl.out; omega)
        rw [hT] at hO
        have hki : ¬ (k : Int) < (k : Int) := by omega
        have hKr := hb.size
        obtain ⟨A1', c1', e1, rn, _, _⟩ := hO.reads
        injection e1 with e11 _ e13
        subst e11 e13
        clear hO B1 hK1 hT
        go_wp2_with fail
        refine (rencA_any w.heap.size A k c xs wr (h.below hb) hKr (by omega) (fun x hx => by have := K2.out x hx; omega)).mono ?_
        rintro e w3 hE
        cases hv : fitA xs
        · obtain ⟨A3, c3, rfl, _, hb3⟩ := hE.no hv
          have B3 := hb.trans (hb3.mono hKr)
          clear hE
          go_wp2_with fail
          go_ret
          exact ⟨rfl, B3⟩
        · obtain ⟨A3, n3, c3, rfl, hn3, _, r3, hc3, hm3, hb3⟩ := hE.ok hv
          have B3 := hb.trans (hb3.mono hKr)
          have Hn3 := hid hn3
          have hn3b : n3 ≤ 40000 := by omega
          have hn3p : 0 < n3 := by rw [hn3, encA_length]; omega
          obtain ⟨j, hj⟩ : ∃ j, n3 = j + 1 := ⟨n3 - 1, by omega⟩
          have hless := (dec_none (decA_less xs hv (by have := Hl.out; omega))).1
          rw [← hn3] at hless
          have hmore := (dec_none (decA_more xs hv (by have := Hl.out; omega) 120)).1
          have hsz0 := szS_enc xs
          rw [← hn3] at hsz0
          have hsz := hid hsz0
          have hjn : j ≤ n3 := by omega
          have hw1 : IntKind.i64.wrap ((n3 : Int) - 1) = (j : Int) := by rw [IntKind.wrap_i64]; omega
          have hcut := fun W => upto_bytes A3 n3 c3 j (by omega) hc3 (j : Int) rfl W
          have rj := r3.pre (m := j) (by omega)
          have ej : n3 - 1 = j := by omega
          rw [ej] at hless
          have rn3 := rn.below hb3
          have hKr3 := hb3.size
          clear hE hn3 hb3 hj ej hn3p hsz0
          go_wp2_with fail
          refine (decP_any w3.heap.size A3 j c3 ((encA xs).take j) w3 rj (Nat.le_refl _) (by omega) hm3 (by omega)).mono ?_
          rintro e w4 hD
          obtain ⟨A4, n4', c4, rfl, hx4, hn4, hy4, hz4, hb4⟩ := hD.reads
          clear hx4 hn4 hy4 hz4
          rw [hless]
          have B4 := B3.trans (hb4.mono B3.size)
          have r4 := r3.below hb4
          have rn4 := rn3.below (hb4.mono hKr3)
          have hs4 := hb4.size
          have hbe := (Below.refl w4.heap.size w4).alloc (Nat.le_refl _) (.cells #[] 5)
          have hlit := Byt.Own.lit0 w4 w4.heap.size (Nat.le_refl _)
          have hre := r4.below (hbe.mono hs4)
          clear hD hb4 hless hcut rj r3 rn3 rn hw1
          go_wp2_with (first
            | (at_builtin; refine wpList_app2 _ w4.heap.size _ 0 [] hlit hbe.size A3 n3 c3 w3.heap.size (encA xs) hre (by omega) rfl (.tmp 50) (.tmp 51) rfl rfl rfl ?_; intro v5 w5 ho5 hb5 _; rw [Nat.zero_add, List.nil_append] at ho5; obtain ⟨A5, c5, rfl, _⟩ := ho5.reads; have hb45 := hbe.trans hb5)
            | (at_builtin; refine wpList_push2 w5 w4.heap.size _ n3 (encA xs) 120 _ rfl ho5 hb45.size (by omega) rfl (.tmp 52) (.tmp 53) rfl rfl rfl ?_; intro v6 w6 ho6 hb6 _; obtain ⟨A6, c6, rfl, r6, hc6, hm6⟩ := ho6.reads)
            | fail)
          have hb46 := hb45.trans hb6
          have B6 := B4.trans (hb46.mono B4.size)
          have rn6 := rn4.below (hb46.mono (by omega))
          have hs6 := hb46.size
          refine (decP_any w6.heap.size A6 (n3 + 1) c6 (encA xs ++ [120]) w6 r6 (Nat.le_refl _) hc6 hm6 (by omega)).mono ?_
          rintro e w7 hD
          obtain ⟨A7, n7, c7, rfl, hx7, hn7, hy7, hz7, hb7⟩ := hD.reads
          clear hx7 hn7 hy7 hz7
          rw [hmore]
          have B7 := B6.trans (hb7.mono B6.size)
          have rn7 := rn6.below (hb7.mono (by omega))
          clear hD hb7 hmore r6 ho6 hb6 ho5 hb5 hb45 hb46 hbe hlit hre r4 rn4 rn6
          go_wp2_with fail
          refine (size_any _ A1 k c1 (xs.map (·.name)) w7 rn7 (by omega) (fun s hs => by
            obtain ⟨x, hx, rfl⟩ := List.mem_map.1 hs
            have := K2.out x hx
            omega)).mono ?_
          rintro e w8 ⟨rfl, rfl⟩
          rw [hsz.out]
          go_wp2_with fail
          go_ret
          exact ⟨rfl, B7⟩

set_option maxRecDepth 100000 in
theorem proved : Rows.ArmapSizeSaid :=
  OpenClaim.holds_of_wide 5 Try.f5 rfl rfl rfl rfl rfl rfl rfl ⟨rfl, rfl, rfl, rfl, rfl⟩ rfl rfl rfl rfl rfl (by kernel_rfl) Try.func5 (by kernel_rfl)
    (of_decide_eq_true (by kernel_rfl)) (by unfold Func.isWrapper; rw [if_neg (of_decide_eq_false (by kernel_rfl))]; exact ⟨rfl, rfl⟩)
    (fun os started H enc _ => lifted (started := started) (s := Rows.armapSizeSpec) rfl
      (fun ds h => by match ds, h with | [_], _ => rfl) (by kernel_rfl)
      (by kernel_rfl) (by kernel_rfl) Try.func5
      (ChangeSpec.witness6 (enc := enc) (C := Try.checked) false ⟨#[], #[.slice none 0 0], []⟩ 8 (by kernel_rfl) (by kernel_rfl) (by kernel_rfl) (by kernel_rfl))
      (fun W base args ds p h => by
        obtain ⟨hval, hA, _⟩ := h
        rw [show Try.f5.params = #[22] from by kernel_rfl] at hA hval
        obtain ⟨v0, vs0, d0, ds0, p0, q0, hargs, rfl, rfl, k0, r0⟩ := trodAll_cons hA
        obtain ⟨rfl, rfl, rfl⟩ := trodAll_nil r0
        obtain rfl : args = #[v0] := by cases args; simp_all
        obtain ⟨A0, n0, c0, l0, rfl, h0, m0, g0⟩ := open_ents (hval 0 _ v0 rfl rfl) k0
        exact walk W A0 n0 c0 l0 h0 m0 g0))
#print axioms proved
end Go.Proofs.Ytlooblgdlfheaaa.SizeA
