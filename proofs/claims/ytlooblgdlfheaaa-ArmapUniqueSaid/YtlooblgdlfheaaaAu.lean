/-
  ArmapUnique: entries that fit are decoded from their encoding, and what is decoded has the bytes that were read as its encoding. For every list of entries and every byte slice: no condition.
-/
import Derived.Test.YtlooblgdlfheaaaAm
import Derived.Test.YtlooblgdlfheaaaAn
namespace Go.Proofs.Ytlooblgdlfheaaa.UniqueA
open Go.ChangeShapes Go.WideShapes Go.ChangeAt Go.RowKit Go.Proofs Go.Proofs.Ytlooblgdlfheaaa.Byt Go.Proofs.Ytlooblgdlfheaaa.Amp Go.Proofs.Ytlooblgdlfheaaa.Frame

set_option linter.unusedSimpArgs false in
set_option maxRecDepth 100000 in
set_option maxHeartbeats 8000000 in
theorem walk (w : World) (A : Option Addr) (n c : Nat) (xs : List En) (h : RdE w w.heap.size A n xs) (_hnc : n ≤ c) (_hc : c ≤ maxLen) (A' : Option Addr) (n' c' : Nat) (l : List UInt8) (hr : Byt.Rd w w.heap.size A' n' l) (hnc' : n' ≤ c') (hc' : c' ≤ maxLen) :
    Calls Try.prog 4 #[.slice A n c, .slice A' n' c'] w fun e w' => e = .returned (.bool true) ∧ Below w.heap.size w w' := by
  go_enter Try.func4, Try.ntmps4
  go_wp2_with fail
  refine (awake_any _).mono ?_
  rintro e w1 ⟨rfl, B1⟩
  have hK1 := B1.size
  go_wp2_with fail
  refine (rfewE_any w.heap.size A n c xs w1 (h.below B1)).mono ?_
  rintro e w1 ⟨rfl, rfl⟩
  cases hf : fewE xs
  · go_wp2_with fail
    refine (awake_any _).mono ?_
    rintro e w9 ⟨rfl, hb9⟩
    go_wp2_with fail
    go_ret
    exact ⟨rfl, B1.trans (hb9.mono B1.size)⟩
  · obtain ⟨k1, k2⟩ := fewE_iff.1 hf
    have Hl := hid h.1
    have hn100 : n ≤ 100 := by have := Hl.out; omega
    clear hf
    by_cases h5 : 5000 < n'
    · have h5i : (5000 : Int) < (n' : Int) := by omega
      go_wp2_with fail
      refine (awake_any _).mono ?_
      rintro e w9 ⟨rfl, hb9⟩
      go_wp2_with fail
      go_ret
      exact ⟨rfl, B1.trans (hb9.mono B1.size)⟩
    · have h5i : ¬ (5000 : Int) < (n' : Int) := by omega
      go_wp2_with fail
      refine (encA_any w.heap.size A n c xs w1 (h.below B1) hK1 (by omega) (fun x hx => by have := k2 x hx; omega)).mono ?_
      rintro e w2 hE
      cases hv : fitA xs
      · obtain ⟨A2, c2, rfl, _, hb2⟩ := hE.no hv
        obtain ⟨w3, hw3⟩ : ∃ w3, w2 = w3 := ⟨_, rfl⟩
        subst hw3
        have B3 := B1.trans (hb2.mono hK1)
        clear hE
        have hK3 := B3.size
        go_wp2_with fail
        refine (decP_any w.heap.size A' n' c' l w2 (hr.below B3) hK3 hnc' hc' (by omega)).mono ?_
        rintro e w4 hD
        obtain ⟨A4, n4', c4, rfl, r4, hn4, hc4, _, hb4⟩ := hD.reads
        have B4 := B3.trans (hb4.mono hK3)
        rcases dec_known l with ⟨hz, hq⟩ | ⟨hz, hf4, he4, hl4, hx4⟩
        · rw [hz]
          have hq0 : n4' = 0 := by rw [hn4, hq]; rfl
          subst hq0
          clear hD hn4 r4 hq hz
          go_wp2_with fail
          go_ret
          exact ⟨rfl, B4⟩
        · rw [hz]
          have hlr := hid hr.1
          have hn4b : n4' ≤ 5000 := by rw [hn4]; have := hlr.out; omega
          have H4 := hid (encA_any w4.heap.size A4 n4' c4 (decE l) w4 r4 (Nat.le_refl _) (by omega) (fun x hx => by have := hx4 x hx; have := hlr.out; omega))
          clear hD hn4 hz hl4 hx4
          go_wp2_with fail
          refine H4.out.mono ?_
          rintro e w5 hE
          obtain ⟨A5, n5, c5, rfl, hn5, _, r5, hc5, _, hb5⟩ := hE.ok hf4
          rw [he4] at r5 hn5
          have B5 := B4.trans (hb5.mono B4.size)
          have hn5b : n5 ≤ 5000 := by rw [hn5, hlr.out]; omega
          clear hE hn5 H4 he4 hf4
          go_wp2_with fail
          refine (Dec.same_any 14 rfl w5.heap.size w.heap.size A5 A' n5 c5 n' c' l l w5 r5 (hr.below B5) (by omega)).mono ?_
          rintro e w6 ⟨rfl, m6, hw6⟩
          rw [beq_self_eq_true]
          go_wp2_with fail
          go_ret
          exact ⟨rfl, by subst hw6; exact B5.trans (Dec.below_drewN w5 m6)⟩
      · obtain ⟨A2, n2, c2, rfl, hn2, _, r2, hc2, hm2, hb2⟩ := hE.ok hv
        have B2 := B1.trans (hb2.mono hK1)
        have hn2b : n2 ≤ 100000 := by rw [hn2]; have := encA_few k1 k2; omega
        have hdz := dec_enc hv (by omega)
        clear hE hn2
        go_wp2_with fail
        refine (decP_any w2.heap.size A2 n2 c2 (encA xs) w2 r2 (Nat.le_refl _) hc2 hm2 (by omega)).mono ?_
        rintro e wz hD
        obtain ⟨Az, nz, cz, rfl, rz, hnz, hcz, _, hbz⟩ := hD.reads
        rw [hdz.1] at rz
        rw [hdz.2]
        have Bz := B2.trans (hbz.mono B2.size)
        have hnz' : nz ≤ 1000 := by have := rz.1; omega
        clear hD hnz hdz r2
        go_wp2_with fail
        refine (rsameE_any wz.heap.size Az A nz cz n c xs xs wz rz ((h.below Bz).more Bz.size) (Nat.le_refl _) (by omega)).mono ?_
        rintro e w3 ⟨rfl, hb3⟩
        rw [sameE_eq.2 rfl]
        have B3 := Bz.trans (hb3.mono Bz.size)
        clear rz hb3 hbz
        have hK3 := B3.size
        go_wp2_with fail
        refine (decP_any w.heap.size A' n' c' l w3 (hr.below B3) hK3 hnc' hc' (by omega)).mono ?_
        rintro e w4 hD
        obtain ⟨A4, n4', c4, rfl, r4, hn4, hc4, _, hb4⟩ := hD.reads
        have B4 := B3.trans (hb4.mono hK3)
        rcases dec_known l with ⟨hz, hq⟩ | ⟨hz, hf4, he4, hl4, hx4⟩
        · rw [hz]
          have hq0 : n4' = 0 := by rw [hn4, hq]; rfl
          subst hq0
          clear hD hn4 r4 hq hz
          go_wp2_with fail
          go_ret
          exact ⟨rfl, B4⟩
        · rw [hz]
          have hlr := hid hr.1
          have hn4b : n4' ≤ 5000 := by rw [hn4]; have := hlr.out; omega
          have H4 := hid (encA_any w4.heap.size A4 n4' c4 (decE l) w4 r4 (Nat.le_refl _) (by omega) (fun x hx => by have := hx4 x hx; have := hlr.out; omega))
          clear hD hn4 hz hl4 hx4
          go_wp2_with fail
          refine H4.out.mono ?_
          rintro e w5 hE
          obtain ⟨A5, n5, c5, rfl, hn5, _, r5, hc5, _, hb5⟩ := hE.ok hf4
          rw [he4] at r5 hn5
          have B5 := B4.trans (hb5.mono B4.size)
          have hn5b : n5 ≤ 5000 := by rw [hn5, hlr.out]; omega
          clear hE hn5 H4 he4 hf4
          go_wp2_with fail
          refine (Dec.same_any 14 rfl w5.heap.size w.heap.size A5 A' n5 c5 n' c' l l w5 r5 (hr.below B5) (by omega)).mono ?_
          rintro e w6 ⟨rfl, m6, hw6⟩
          rw [beq_self_eq_true]
          go_wp2_with fail
          go_ret
          exact ⟨rfl, by subst hw6; exact B5.trans (Dec.below_drewN w5 m6)⟩

set_option maxRecDepth 100000 in
theorem proved : Rows.ArmapUniqueSaid :=
  OpenClaim.holds_of_wide 4 Try.f4 rfl rfl rfl rfl rfl rfl rfl ⟨rfl, rfl, rfl, rfl, rfl⟩ rfl rfl rfl rfl rfl (by kernel_rfl) Try.func4 (by kernel_rfl)
    (of_decide_eq_true (by kernel_rfl)) (by unfold Func.isWrapper; rw [if_neg (of_decide_eq_false (by kernel_rfl))]; exact ⟨rfl, rfl⟩)
    (fun os started H enc _ => lifted (started := started) (s := Rows.armapUniqueSpec) rfl
      (fun ds h => by match ds, h with | [_, _], _ => rfl) (by kernel_rfl)
      (by kernel_rfl) (by kernel_rfl) Try.func4
      (ChangeSpec.witness6 (enc := enc) (C := Try.checked) false ⟨#[], #[.slice none 0 0, .slice none 0 0], []⟩ 8 (by kernel_rfl) (by kernel_rfl) (by kernel_rfl) (by kernel_rfl))
      (fun W base args ds p h => by
        obtain ⟨hval, hA, _⟩ := h
        rw [show Try.f4.params = #[22, 23] from by kernel_rfl] at hA hval
        obtain ⟨v0, vs0, d0, ds0, p0, q0, hargs, rfl, rfl, k0, r0⟩ := trodAll_cons hA
        obtain ⟨v1, vs1, d1, ds1, p1, q1, rfl, rfl, rfl, k1, r1⟩ := trodAll_cons r0
        obtain ⟨rfl, rfl, rfl⟩ := trodAll_nil r1
        obtain rfl : args = #[v0, v1] := by cases args; simp_all
        obtain ⟨A0, n0, c0, l0, rfl, h0, m0, g0⟩ := open_ents (hval 0 _ v0 rfl rfl) k0
        obtain ⟨A1, n1, c1, l1, rfl, h1, m1, g1⟩ := open_bytes (hval 1 _ v1 rfl rfl) k1
        exact walk W A0 n0 c0 l0 h0 m0 g0 A1 n1 c1 l1 h1 m1 g1))
#print axioms proved
end Go.Proofs.Ytlooblgdlfheaaa.UniqueA
