/-
  ArmapMatchesReference: both functions return what the reference implementation returns. For every list of entries and every byte slice: no condition.
-/
import Derived.Test.YtlooblgdlfheaaaAm
import Derived.Test.YtlooblgdlfheaaaAn
namespace Go.Proofs.Ytlooblgdlfheaaa.MatchesA
open Go.ChangeShapes Go.WideShapes Go.ChangeAt Go.RowKit Go.Proofs Go.Proofs.Ytlooblgdlfheaaa.Byt Go.Proofs.Ytlooblgdlfheaaa.Amp Go.Proofs.Ytlooblgdlfheaaa.Frame

set_option linter.unusedSimpArgs false in
set_option maxRecDepth 100000 in
set_option maxHeartbeats 8000000 in
theorem walk (w : World) (A : Option Addr) (n c : Nat) (xs : List En) (h : RdE w w.heap.size A n xs) (_hnc : n ≤ c) (_hc : c ≤ maxLen) (A' : Option Addr) (n' c' : Nat) (l : List UInt8) (hr : Byt.Rd w w.heap.size A' n' l) (hnc' : n' ≤ c') (hc' : c' ≤ maxLen) :
    Calls Try.prog 3 #[.slice A n c, .slice A' n' c'] w fun e w' => e = .returned (.bool true) ∧ Below w.heap.size w w' := by
  go_enter Try.func3, Try.ntmps3
  go_wp2_with fail
  refine (awake_any _).mono ?_
  rintro e w1 ⟨rfl, B1⟩
  have hK1 := B1.size
  go_wp2_with fail
  refine (rfewE_any w.heap.size A n c xs w1 (h.below B1)).mono ?_
  rintro e w1 ⟨rfl, rfl⟩
  cases hf : fewE xs
  · go_wp2_with fail
    refine (awake_any _).mono ?_
    rintro e w9 ⟨rfl, hb9⟩
    go_wp2_with fail
    go_ret
    exact ⟨rfl, B1.trans (hb9.mono B1.size)⟩
  · obtain ⟨k1, k2⟩ := fewE_iff.1 hf
    have Hl := hid h.1
    have hn100 : n ≤ 100 := by have := Hl.out; omega
    clear hf
    by_cases h5 : 5000 < n'
    · have h5i : (5000 : Int) < (n' : Int) := by omega
      go_wp2_with fail
      refine (awake_any _).mono ?_
      rintro e w9 ⟨rfl, hb9⟩
      go_wp2_with fail
      go_ret
      exact ⟨rfl, B1.trans (hb9.mono B1.size)⟩
    · have h5i : ¬ (5000 : Int) < (n' : Int) := by omega
      have hout : (outA xs).length ≤ 40000 := by
        unfold outA
        split
        · exact encA_few k1 k2
        · simp
      go_wp2_with fail
      refine (encA_any w.heap.size A n c xs w1 (h.below B1) hK1 (by omega) (fun x hx => by have := k2 x hx; omega)).mono ?_
      rintro e w2 hE
      obtain ⟨A2, n2, c2, rfl, hn2, _, r2, _, _, hb2⟩ := hE.reads
      have B2 := B1.trans (hb2.mono hK1)
      have hn2b : n2 ≤ 40000 := by omega
      have hK2 := B2.size
      clear hE hn2 hout
      go_wp2_with fail
      refine (rencA_any w.heap.size A n c xs w2 (h.below B2) hK2 (by omega) (fun x hx => by have := k2 x hx; omega)).mono ?_
      rintro e w3 hE
      obtain ⟨A3, n3, c3, rfl, hn3, _, r3, _, _, hb3⟩ := hE.reads
      have B3 := B2.trans (hb3.mono hK2)
      have r2 := r2.below hb3
      have hK3 := B3.size
      have k23 := hb3.size
      clear hE hn3 hb3
      generalize errA xs = ze at *
      go_wp2_with fail
      refine (decP_any w.heap.size A' n' c' l w3 (hr.below B3) hK3 hnc' hc' (by omega)).mono ?_
      rintro e w4 hD
      obtain ⟨A4, n4', c4, rfl, r4, hn4, _, _, hb4⟩ := hD.reads
      have B4 := B3.trans (hb4.mono hK3)
      have r2 := r2.below (hb4.mono k23)
      have r3 := r3.below hb4
      have hK4 := B4.size
      have k34 := hb4.size
      have hn4b : n4' ≤ 5000 := by
        have hlr := hr.1
        rcases dec_known l with ⟨_, hq⟩ | ⟨_, _, _, hl4, _⟩
        · rw [hn4, hq]; simp
        · omega
      clear hD hn4 hb4
      go_wp2_with fail
      refine (rdecA_any w.heap.size A' n' c' l w4 (hr.below B4) hK4 hnc' (by omega)).mono ?_
      rintro e w5 hD
      obtain ⟨A5, n5, c5, rfl, r5, hn5, _, _, hb5⟩ := hD.reads
      have B5 := B4.trans (hb5.mono hK4)
      have r2 := r2.below (hb5.mono (by omega))
      have r3 := r3.below (hb5.mono k34)
      have r4 := r4.below hb5
      have k45 := hb5.size
      clear hD hn5 hb5
      generalize decZ l = zd at *
      go_wp2_with fail
      refine (Dec.same_any 14 rfl w2.heap.size w3.heap.size A2 A3 n2 c2 n3 c3 _ _ w5 r2 r3 (by omega)).mono ?_
      rintro e w6 ⟨rfl, m6, hw6⟩
      rw [beq_self_eq_true]
      have hb6 : Below w5.heap.size w5 w6 := by subst hw6; exact Dec.below_drewN w5 m6
      have B6 := B5.trans (hb6.mono B5.size)
      have r4 := r4.below (hb6.mono k45)
      have r5 := r5.below hb6
      have k56 := hb6.size
      clear hw6 hb6 r2 r3
      have hze : (ze == ze) = true := beq_self_eq_true ze
      have hzd : (zd == zd) = true := beq_self_eq_true zd
      go_wp2_with fail
      refine (rsameE_any w5.heap.size A4 A5 n4' c4 n5 c5 _ _ w6 (r4.more k45) r5 k56 (by omega)).mono ?_
      rintro e w7 ⟨rfl, hb7⟩
      rw [sameE_eq.2 rfl]
      have B7 := B6.trans (hb7.mono B6.size)
      go_wp2_with fail
      go_ret
      exact ⟨rfl, B7⟩

set_option maxRecDepth 100000 in
theorem proved : Rows.ArmapMatchesReferenceSaid :=
  OpenClaim.holds_of_wide 3 Try.f3 rfl rfl rfl rfl rfl rfl rfl ⟨rfl, rfl, rfl, rfl, rfl⟩ rfl rfl rfl rfl rfl (by kernel_rfl) Try.func3 (by kernel_rfl)
    (of_decide_eq_true (by kernel_rfl)) (by unfold Func.isWrapper; rw [if_neg (of_decide_eq_false (by kernel_rfl))]; exact ⟨rfl, rfl⟩)
    (fun os started H enc _ => lifted (started := started) (s := Rows.armapMatchesReferenceSpec) rfl
      (fun ds h => by match ds, h with | [_, _], _ => rfl) (by kernel_rfl)
      (by kernel_rfl) (by kernel_rfl) Try.func3
      (ChangeSpec.witness6 (enc := enc) (C := Try.checked) false ⟨#[], #[.slice none 0 0, .slice none 0 0], []⟩ 8 (by kernel_rfl) (by kernel_rfl) (by kernel_rfl) (by kernel_rfl))
      (fun W base args ds p h => by
        obtain ⟨hval, hA, _⟩ := h
        rw [show Try.f3.params = #[22, 23] from by kernel_rfl] at hA hval
        obtain ⟨v0, vs0, d0, ds0, p0, q0, hargs, rfl, rfl, k0, r0⟩ := trodAll_cons hA
        obtain ⟨v1, vs1, d1, ds1, p1, q1, rfl, rfl, rfl, k1, r1⟩ := trodAll_cons r0
        obtain ⟨rfl, rfl, rfl⟩ := trodAll_nil r1
        obtain rfl : args = #[v0, v1] := by cases args; simp_all
        obtain ⟨A0, n0, c0, l0, rfl, h0, m0, g0⟩ := open_ents (hval 0 _ v0 rfl rfl) k0
        obtain ⟨A1, n1, c1, l1, rfl, h1, m1, g1⟩ := open_bytes (hval 1 _ v1 rfl rfl) k1
        exact walk W A0 n0 c0 l0 h0 m0 g0 A1 n1 c1 l1 h1 m1 g1))
#print axioms proved
end Go.Proofs.Ytlooblgdlfheaaa.MatchesA
