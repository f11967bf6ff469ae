/-
  ArmapConcat: the encoding of two lists has the bytes of both together, without one of the numbers of entries. For every two lists of entries: no condition.
-/
import Derived.Test.YtlooblgdlfheaaaAm
import Derived.Test.YtlooblgdlfheaaaAo
namespace Go.Proofs.Ytlooblgdlfheaaa.ConcatA
open Go.ChangeShapes Go.WideShapes Go.ChangeAt Go.RowKit Go.Proofs Go.Proofs.Ytlooblgdlfheaaa.Byt Go.Proofs.Ytlooblgdlfheaaa.Amp Go.Proofs.Ytlooblgdlfheaaa.Frame

set_option linter.unusedSimpArgs false in
set_option maxRecDepth 100000 in
set_option maxHeartbeats 8000000 in
theorem walk (w : World) (A : Option Addr) (n c : Nat) (xs : List En) (h : RdE w w.heap.size A n xs) (_hnc : n ≤ c) (_hc : c ≤ maxLen) (A' : Option Addr) (n' c' : Nat) (ys : List En) (h' : RdE w w.heap.size A' n' ys) (_hnc' : n' ≤ c') (_hc' : c' ≤ maxLen) :
    Calls Try.prog 7 #[.slice A n c, .slice A' n' c'] w fun e w' => e = .returned (.bool true) ∧ Below w.heap.size w w' := by
  go_enter Try.func7, Try.ntmps7
  go_wp2_with fail
  refine (awake_any _).mono ?_
  rintro e w1 ⟨rfl, B1⟩
  have hK1 := B1.size
  go_wp2_with fail
  refine (rfewE_any w.heap.size A n c xs w1 (h.below B1)).mono ?_
  rintro e w1 ⟨rfl, rfl⟩
  cases hf : fewE xs
  · go_wp2_with fail
    refine (awake_any _).mono ?_
    rintro e w9 ⟨rfl, hb9⟩
    go_wp2_with fail
    go_ret
    exact ⟨rfl, B1.trans (hb9.mono B1.size)⟩
  · go_wp2_with fail
    refine (rfewE_any w.heap.size A' n' c' ys w1 (h'.below B1)).mono ?_
    rintro e w1 ⟨rfl, rfl⟩
    cases hf' : fewE ys
    · go_wp2_with fail
      refine (awake_any _).mono ?_
      rintro e w9 ⟨rfl, hb9⟩
      go_wp2_with fail
      go_ret
      exact ⟨rfl, B1.trans (hb9.mono B1.size)⟩
    · obtain ⟨k1, k2⟩ := fewE_iff.1 hf
      obtain ⟨k1', k2'⟩ := fewE_iff.1 hf'
      have Hl := hid h.1
      have Hl' := hid h'.1
      have hn100 : n ≤ 100 := by have := Hl.out; omega
      have hn100' : n' ≤ 100 := by have := Hl'.out; omega
      have K2 := hid k2
      have K2' := hid k2'
      have hfew := encA_few k1 k2
      have hfew' := encA_few k1' k2'
      clear hf hf' k1 k2 k1' k2'
      go_wp2_with fail
      refine (encA_any w.heap.size A n c xs w1 (h.below B1) hK1 (by omega) (fun x hx => by have := K2.out x hx; omega)).mono ?_
      rintro e w2 hE
      obtain ⟨A2, n2, c2, rfl, hn2, _, r2, _, _, hb2⟩ := hE.reads
      have B2 := B1.trans (hb2.mono hK1)
      have Hn2 := hid hn2
      have hK2 := B2.size
      clear hE hn2 hb2 r2
      go_wp2_with fail
      refine (encA_any w.heap.size A' n' c' ys w2 (h'.below B2) hK2 (by omega) (fun x hx => by have := K2'.out x hx; omega)).mono ?_
      rintro e w3 hE
      obtain ⟨A3, n3, c3, rfl, hn3, _, r3, _, _, hb3⟩ := hE.reads
      have B3 := B2.trans (hb3.mono hK2)
      have Hn3 := hid hn3
      have hK3 := B3.size
      clear hE hn3 hb3 r3
      have hbe := (Below.refl w3.heap.size w3).alloc (Nat.le_refl _) (.cells #[] 40)
      have hlit := Cel.Own.lit0 40 2 w3 w3.heap.size (Nat.le_refl _)
      have hre := ((h.below B3).below (hbe.mono hK3)).cel
      have hre' := (h'.below B3).below (hbe.mono hK3)
      go_wp2_with (first
        | (at_builtin; refine Cel.wpList_app kE _ w3.heap.size _ 0 [] hlit hbe.size A n c w.heap.size (ecells xs) hre (ecells_one xs) (by omega) (by omega) rfl (.tmp 37) (.tmp 38) rfl rfl rfl ?_; intro v4 w4 ho4 hb4 _; rw [Nat.zero_add, List.nil_append] at ho4; obtain ⟨A4, c4, rfl, _⟩ := ho4.reads; have hre4 := (hre'.below (hb4.mono hK3)).cel; have hb34 := hbe.trans hb4)
        | (at_builtin; refine Cel.wpList_app kE _ w3.heap.size _ n (ecells xs) ho4 hb34.size A' n' c' w.heap.size (ecells ys) hre4 (ecells_one ys) (by omega) (by omega) rfl (.tmp 39) (.tmp 40) rfl rfl rfl ?_; intro v4' w4' ho4' hb4' _; rw [← ecells_append] at ho4'; obtain ⟨A4', c4', rfl, _⟩ := ho4'.reads)
        | fail)
      have hb34' := hb34.trans hb4'
      have B4 := B3.trans (hb34'.mono hK3)
      have r4 := rde_own ho4'
      have hK4 := B4.size
      clear hbe hlit hre hre' hb4 hb4' ho4 ho4' hre4 hb34 hb34'
      refine (encA_any w4'.heap.size A4' (n + n') c4' (xs ++ ys) w4' r4 (Nat.le_refl _) (by omega) (fun x hx => by
        rcases List.mem_append.1 hx with q | q
        · have := K2.out x q; omega
        · have := K2'.out x q; omega)).mono ?_
      rintro e w5 hE
      obtain ⟨A5, n5, c5, rfl, hn5, _, r5, hc5, hm5, hb5⟩ := hE.reads
      have B5 := B4.trans (hb5.mono hK4)
      have Hn5 := hid hn5
      clear hE hn5 hb5 r4
      cases hv : fitA xs
      · have hx9 : errA xs = 9 := if_neg (by rw [hv]; simp)
        rw [hx9]
        have Hbad := hid (fitA_append xs ys)
        have hbz : errA (xs ++ ys) = 9 := if_neg (by rw [Hbad.out, hv]; simp)
        rw [hbz]
        go_wp2_with fail
        go_ret
        exact ⟨rfl, B5⟩
      · cases hv' : fitA ys
        · have hx0 : errA xs = 0 := if_pos hv
          have hx9 : errA ys = 9 := if_neg (by rw [hv']; simp)
          have Hbad := hid (fitA_append xs ys)
          have hbz : errA (xs ++ ys) = 9 := if_neg (by rw [Hbad.out, hv']; simp)
          rw [hbz, hx0, hx9]
          go_wp2_with fail
          go_ret
          exact ⟨rfl, B5⟩
        · have hx0 : errA xs = 0 := if_pos hv
          have hx0' : errA ys = 0 := if_pos hv'
          have hfa : fitA (xs ++ ys) = true := by rw [fitA_append, hv, hv']; rfl
          have hbz : errA (xs ++ ys) = 0 := if_pos hfa
          have ho2 : outA xs = encA xs := if_pos hv
          have ho3 : outA ys = encA ys := if_pos hv'
          have ho5 : outA (xs ++ ys) = encA (xs ++ ys) := if_pos hfa
          have hcat := encA_concat xs ys
          have hn2 := Hn2.out
          have hn3 := Hn3.out
          have hn5 := Hn5.out
          rw [ho2] at hn2
          rw [ho3] at hn3
          rw [ho5] at hn5 r5
          have hlen : (xs ++ ys).length = n + n' := by rw [List.length_append, Hl.out, Hl'.out]
          have hde := dec_enc hfa (by omega)
          have hn2b : n2 ≤ 40000 := by omega
          have hn3b : n3 ≤ 40000 := by omega
          have hn5b : n5 ≤ 80000 := by omega
          have hw1 : IntKind.i64.wrap ((n2 : Int) + (n3 : Int)) = (n2 : Int) + (n3 : Int) := by rw [IntKind.wrap_i64]; omega
          have hw2 : IntKind.i64.wrap ((n2 : Int) + (n3 : Int) - 4) = (n5 : Int) := by rw [IntKind.wrap_i64]; omega
          obtain ⟨N, hN⟩ : ∃ N, n + n' = N := ⟨_, rfl⟩
          have hw3 : IntKind.i64.wrap ((n : Int) + (n' : Int)) = (N : Int) := by rw [IntKind.wrap_i64]; omega
          have hnN : n ≤ N := by omega
          have hN200 : N ≤ 200 := by omega
          have Htk : Hid ((xs ++ ys).take n = xs) := hid (by rw [← Hl.out, List.take_left'] <;> rfl)
          rw [hN] at hlen
          have Hlen := hid hlen
          rw [hbz, hx0, hx0']
          clear hbz hx0 hx0' ho2 ho3 ho5 hcat hn2 hn3 hn5 hv hv' hfew hfew' hN hlen
          go_wp2_with fail
          refine (decP_any w5.heap.size A5 n5 c5 (encA (xs ++ ys)) w5 r5 (Nat.le_refl _) hc5 hm5 (by omega)).mono ?_
          rintro e w6 hD
          obtain ⟨A6, n6, c6, rfl, r6, hn6, hc6, _, hb6⟩ := hD.reads
          rw [hde.1] at r6
          rw [hde.2]
          have B6 := B5.trans (hb6.mono B5.size)
          obtain rfl : N = n6 := by have := r6.1; have := Hlen.out; omega
          have hcut := fun W => upto_ents A6 N c6 n hnN hc6 W
          have r6' := r6.pre hnN
          rw [Htk.out] at r6'
          clear hD hn6 hde hb6 r6 r5
          go_wp2_with fail
          refine (rsameE_any w6.heap.size A6 A n c6 n c xs xs w6 r6' ((h.below B6).more B6.size) (Nat.le_refl _) (by omega)).mono ?_
          rintro e w7 ⟨rfl, hb7⟩
          rw [sameE_eq.2 rfl]
          have B7 := B6.trans (hb7.mono B6.size)
          clear hb7 r6' hcut
          go_wp2_with fail
          go_ret
          exact ⟨rfl, B7⟩

set_option maxRecDepth 100000 in
theorem proved : Rows.ArmapConcatSaid :=
  OpenClaim.holds_of_wide 7 Try.f7 rfl rfl rfl rfl rfl rfl rfl ⟨rfl, rfl, rfl, rfl, rfl⟩ rfl rfl rfl rfl rfl (by kernel_rfl) Try.func7 (by kernel_rfl)
    (of_decide_eq_true (by kernel_rfl)) (by unfold Func.isWrapper; rw [if_neg (of_decide_eq_false (by kernel_rfl))]; exact ⟨rfl, rfl⟩)
    (fun os started H enc _ => lifted (started := started) (s := Rows.armapConcatSpec) rfl
      (fun ds h => by match ds, h with | [_, _], _ => rfl) (by kernel_rfl)
      (by kernel_rfl) (by kernel_rfl) Try.func7
      (ChangeSpec.witness6 (enc := enc) (C := Try.checked) false ⟨#[], #[.slice none 0 0, .slice none 0 0], []⟩ 8 (by kernel_rfl) (by kernel_rfl) (by kernel_rfl) (by kernel_rfl))
      (fun W base args ds p h => by
        obtain ⟨hval, hA, _⟩ := h
        rw [show Try.f7.params = #[22, 22] from by kernel_rfl] at hA hval
        obtain ⟨v0, vs0, d0, ds0, p0, q0, hargs, rfl, rfl, k0, r0⟩ := trodAll_cons hA
        obtain ⟨v1, vs1, d1, ds1, p1, q1, rfl, rfl, rfl, k1, r1⟩ := trodAll_cons r0
        obtain ⟨rfl, rfl, rfl⟩ := trodAll_nil r1
        obtain rfl : args = #[v0, v1] := by cases args; simp_all
        obtain ⟨A0, n0, c0, l0, rfl, h0, m0, g0⟩ := open_ents (hval 0 _ v0 rfl rfl) k0
        obtain ⟨A1, n1, c1, l1, rfl, h1, m1, g1⟩ := open_ents (hval 1 _ v1 rfl rfl) k1
        exact walk W A0 n0 c0 l0 h0 m0 g0 A1 n1 c1 l1 h1 m1 g1))
#print axioms proved
end Go.Proofs.Ytlooblgdlfheaaa.ConcatA
