/-
  armap: Encode and Decode in the forms that callers take; the laws' awake.
-/
import Derived.Test.YtlooblgdlfheaaaAj
namespace Go.Proofs.Ytlooblgdlfheaaa.Amp
open Go.RowKit Go.Proofs Go.Proofs.Ytlooblgdlfheaaa.Byt
open Go.Proofs.Ytlooblgdlfheaaa.Sls (Oth Fr blk)

theorem EncsA.ok {xs : List En} {w w' : World} {e : Ending} (h : EncsA xs w e w') (hf : fitA xs = true) :
    ∃ A n c, e = .returned (.tuple #[.slice A n c, .int .i64 0]) ∧ n = (encA xs).length ∧ Byt.Own w' w.heap.size (.slice A n c) n (encA xs) ∧ Byt.Rd w' w'.heap.size A n (encA xs) ∧ n ≤ c ∧ c ≤ maxLen ∧ Below w.heap.size w w' := by
  obtain ⟨v, rfl, ho, hb⟩ := h
  have h1 : outA xs = encA xs := if_pos hf
  have h2 : errA xs = 0 := if_pos hf
  rw [h1] at ho
  rw [h2]
  obtain ⟨A, c, rfl, hr, hnc, hc⟩ := ho.reads
  exact ⟨A, _, c, rfl, rfl, ho, hr, hnc, hc, hb⟩
theorem EncsA.no {xs : List En} {w w' : World} {e : Ending} (h : EncsA xs w e w') (hf : fitA xs = false) :
    ∃ A c, e = .returned (.tuple #[.slice A 0 c, .int .i64 9]) ∧ Byt.Rd w' w'.heap.size A 0 [] ∧ Below w.heap.size w w' := by
  obtain ⟨v, rfl, ho, hb⟩ := h
  have h1 : outA xs = [] := if_neg (by rw [hf]; simp)
  have h2 : errA xs = 9 := if_neg (by rw [hf]; simp)
  rw [h1] at ho
  rw [h2]
  obtain ⟨A, c, rfl, hr, hnc, hc⟩ := ho.reads
  exact ⟨A, c, rfl, hr, hb⟩
theorem EncsA.reads {xs : List En} {w w' : World} {e : Ending} (h : EncsA xs w e w') :
    ∃ A n c, e = .returned (.tuple #[.slice A n c, .int .i64 (errA xs)]) ∧ n = (outA xs).length ∧ Byt.Own w' w.heap.size (.slice A n c) n (outA xs) ∧ Byt.Rd w' w'.heap.size A n (outA xs) ∧ n ≤ c ∧ c ≤ maxLen ∧ Below w.heap.size w w' := by
  obtain ⟨v, rfl, ho, hb⟩ := h
  obtain ⟨A, c, rfl, hr, hnc, hc⟩ := ho.reads
  exact ⟨A, _, c, rfl, rfl, ho, hr, hnc, hc, hb⟩
theorem DecsA.reads {l : List UInt8} {w w' : World} {e : Ending} (h : DecsA l w e w') :
    ∃ A n c, e = .returned (.tuple #[.slice A n c, .int .i64 (decZ l)]) ∧ RdE w' w'.heap.size A n (decE l) ∧ n = (decE l).length ∧ n ≤ c ∧ c ≤ maxLen ∧ Below w.heap.size w w' := by
  obtain ⟨A, n, c, rfl, ho, hb⟩ := h
  obtain ⟨A', c', e1, hr, hnc, hc⟩ := ho.reads
  injection e1 with e11 _ e13
  subst e11 e13
  have := rde_own ho
  exact ⟨A, n, c, rfl, this, this.1.symm, hnc, hc, hb⟩
theorem RdE.lit1 (w : World) (x0 : ByteArray) (x1 : Int) : RdE (w.alloc (.cells #[.string x0, .int .i64 x1] 40)) (w.heap.size + 1) (some ⟨w.heap.size, 0, none⟩) 1 [⟨x0, x1⟩] := by
  have hrow := heap_alloc_new w (.cells #[.string x0, .int .i64 x1] 40)
  refine ⟨rfl, fun k hk => ?_⟩
  obtain rfl : k = 0 := by simp at hk; omega
  exact ⟨w.heap.size, 0, rfl, by omega, cell_of_row _ w.heap.size 0 _ _ _ hrow, cell_of_row _ w.heap.size 1 _ _ _ hrow⟩

def fE : En := ⟨⟨#[102]⟩, 258⟩
def zE : En := ⟨⟨#[]⟩, 0⟩
def awB : List UInt8 := [0, 0, 0, 1, 0, 0, 1, 2, 102, 0]
theorem aw_enc0 : encA [] = [0, 0, 0, 0] := by decide +kernel
theorem aw_enc : encA [fE] = awB := by decide +kernel
theorem aw_fit : fitA [fE] = true := by decide +kernel
theorem aw_bad : fitA [zE] = false := by decide +kernel
theorem aw_dec : decE awB = [fE] ∧ decZ awB = 0 := by
  have := decA_enc [fE] aw_fit (by decide)
  rw [aw_enc] at this
  unfold decE decZ
  rw [this]
  exact ⟨rfl, rfl⟩
theorem aw_cut : decZ (awB.take 5) = 8 := by
  have : decA (awB.take 5) = none := decA_big (.inr (by decide +kernel))
  unfold decZ
  rw [this]
  rfl
theorem aw_size : szS [⟨#[102]⟩] = 10 := by decide +kernel

set_option linter.unusedSimpArgs false in
set_option maxRecDepth 100000 in
set_option maxHeartbeats 8000000 in
theorem awake_any (w : World) : Calls Try.prog 8 #[] w fun e w' => e = .returned (.bool true) ∧ Below w.heap.size w w' := by
  have H1 := hid (encA_any 0 none 0 0 [] w (RdE.nil _ _ _) (Nat.zero_le _) (by omega) (by simp))
  go_enter Try.func8, Try.ntmps8
  go_wp2_with fail
  refine H1.out.mono ?_
  rintro e w1 hE
  obtain ⟨A1, n1, c1, rfl, hn1, _, r1, hc1, _, hb1⟩ := hE.ok rfl
  rw [aw_enc0] at r1
  obtain rfl : n1 = 4 := r1.1.symm
  clear H1 hE hn1
  have l2 := RdE.lit1 w1 ⟨#[102]⟩ 258
  have ha2 := (Below.refl w1.heap.size w1).alloc (Nat.le_refl _) (.cells #[.string ⟨#[102]⟩, .int .i64 258] 40)
  have hs2 : (w1.alloc (.cells #[.string ⟨#[102]⟩, .int .i64 258] 40)).heap.size = w1.heap.size + 1 := World.size_alloc _ _
  have H2 := hid (encA_any (w1.heap.size + 1) _ 1 1 [fE] _ l2 (by omega) (by omega) (by intro x hx; simp at hx; subst hx; decide))
  go_wp2_with fail
  refine H2.out.mono ?_
  rintro e w2 hE
  obtain ⟨A2, n2, c2, rfl, hn2, _, r2, hc2, hm2, hb2⟩ := hE.ok aw_fit
  rw [aw_enc] at r2
  obtain rfl : n2 = 10 := r2.1.symm
  have hb12 := ha2.trans (hb2.mono (by omega))
  have hb02 := hb1.trans (hb12.mono hb1.size)
  have r1 := r1.below hb12
  have hk12 := hb12.size
  clear H2 hE hn2 l2 ha2 hs2 hb2 hb12
  go_wp2_with fail
  refine (decP_any w2.heap.size A2 10 c2 awB w2 r2 (Nat.le_refl _) hc2 hm2 (by omega)).mono ?_
  rintro e w3 hD
  obtain ⟨A3, n3, c3, rfl, r3, hn3, hc3, _, hb3⟩ := hD.reads
  clear hn3
  rw [aw_dec.1] at r3
  rw [aw_dec.2]
  obtain rfl : n3 = 1 := r3.1.symm
  have hb03 := hb02.trans (hb3.mono hb02.size)
  have r1 := r1.below (hb3.mono hk12)
  have r2 := r2.below hb3
  have hk23 := hb3.size
  have h5 : (5 : Int) ≤ (c2 : Int) := by omega
  clear hD hb3 hb02
  go_wp2_with fail
  refine (decP_any w2.heap.size A2 5 c2 (awB.take 5) w3 (r2.pre (by omega)) hk23 (by omega) hm2 (by omega)).mono ?_
  rintro e w4 hD
  obtain ⟨A4, n4, c4, rfl, hx4, hn4, hy4, hz4, hb4⟩ := hD.reads
  clear hx4 hn4 hy4 hz4
  rw [aw_cut]
  have hb04 := hb03.trans (hb4.mono hb03.size)
  have r1 := r1.below (hb4.mono (by omega))
  have r2 := r2.below (hb4.mono hk23)
  have r3 := r3.below hb4
  have hk34 := hb4.size
  have l5 := RdE.lit1 w4 ⟨#[]⟩ 0
  have ha5 := (Below.refl w4.heap.size w4).alloc (Nat.le_refl _) (.cells #[.string ⟨#[]⟩, .int .i64 0] 40)
  have hs5 : (w4.alloc (.cells #[.string ⟨#[]⟩, .int .i64 0] 40)).heap.size = w4.heap.size + 1 := World.size_alloc _ _
  have H5 := hid (encA_any (w4.heap.size + 1) _ 1 1 [zE] _ l5 (by omega) (by omega) (by intro x hx; simp at hx; subst hx; decide))
  clear hD hb4 hb03 h5
  go_wp2_with fail
  refine H5.out.mono ?_
  rintro e w5 hE
  obtain ⟨A5, c5, rfl, _, hb5⟩ := hE.no aw_bad
  have hb45 := ha5.trans (hb5.mono (by omega))
  have hb05 := hb04.trans (hb45.mono hb04.size)
  have r1 := r1.below (hb45.mono (by omega))
  have r2 := r2.below (hb45.mono (by omega))
  have r3 := r3.below (hb45.mono hk34)
  have hk45 := hb45.size
  have s6 := Rd.lit w5 [0, 0, 0, 0] #[.int .u8 0, .int .u8 0, .int .u8 0, .int .u8 0] rfl 4 rfl
  have ha6 := (Below.refl w5.heap.size w5).alloc (Nat.le_refl _) (.cells #[.int .u8 0, .int .u8 0, .int .u8 0, .int .u8 0] 5)
  have hs6 : (w5.alloc (.cells #[.int .u8 0, .int .u8 0, .int .u8 0, .int .u8 0] 5)).heap.size = w5.heap.size + 1 := World.size_alloc _ _
  have H6 := hid (Dec.same_any 14 rfl w1.heap.size _ A1 _ 4 c1 4 4 [0, 0, 0, 0] [0, 0, 0, 0] _ (r1.below (ha6.mono (by omega))) s6 (by omega))
  clear hE l5 ha5 hs5 hb5 hb45 H5 hb04
  go_wp2_with fail
  refine H6.out.mono ?_
  rintro e w6 ⟨rfl, m6, hw6⟩
  rw [beq_self_eq_true]
  have hb56 : Below w5.heap.size w5 w6 := by subst hw6; exact ha6.trans (Dec.below_drewN _ m6)
  have hb06 := hb05.trans (hb56.mono hb05.size)
  have r2 := r2.below (hb56.mono (by omega))
  have r3 := r3.below (hb56.mono (by omega))
  have hk56 := hb56.size
  have s7 := Rd.lit w6 awB #[.int .u8 0, .int .u8 0, .int .u8 0, .int .u8 1, .int .u8 0, .int .u8 0, .int .u8 1, .int .u8 2, .int .u8 102, .int .u8 0] rfl 10 rfl
  have ha7 := (Below.refl w6.heap.size w6).alloc (Nat.le_refl _) (.cells #[.int .u8 0, .int .u8 0, .int .u8 0, .int .u8 1, .int .u8 0, .int .u8 0, .int .u8 1, .int .u8 2, .int .u8 102, .int .u8 0] 5)
  have H7 := hid (Dec.same_any 14 rfl w2.heap.size _ A2 _ 10 c2 10 10 awB awB _ (r2.below (ha7.mono (by omega))) s7 (by omega))
  clear hw6 s6 ha6 hs6 H6 hb56 hb05 r1
  go_wp2_with fail
  refine H7.out.mono ?_
  rintro e w7 ⟨rfl, m7, hw7⟩
  rw [beq_self_eq_true]
  have hb67 : Below w6.heap.size w6 w7 := by subst hw7; exact ha7.trans (Dec.below_drewN _ m7)
  have hb07 := hb06.trans (hb67.mono hb06.size)
  have r3 := r3.below (hb67.mono (by omega))
  have hk67 := hb67.size
  have l8 := RdE.lit1 w7 ⟨#[102]⟩ 258
  have ha8 := (Below.refl w7.heap.size w7).alloc (Nat.le_refl _) (.cells #[.string ⟨#[102]⟩, .int .i64 258] 40)
  have hs8 : (w7.alloc (.cells #[.string ⟨#[102]⟩, .int .i64 258] 40)).heap.size = w7.heap.size + 1 := World.size_alloc _ _
  have H8 := hid (rsameE_any (w7.heap.size + 1) A3 _ 1 c3 1 1 [fE] [fE] _ ((r3.below (ha8.mono (by omega))).more (by omega)) l8 (by omega) (by omega))
  clear hw7 s7 ha7 H7 hb67 hb06 r2 r3
  go_wp2_with fail
  refine H8.out.mono ?_
  rintro e w8 ⟨rfl, hb8⟩
  rw [sameE_eq.2 rfl]
  have hb78 := ha8.trans (hb8.mono (by omega))
  have hb08 := hb07.trans (hb78.mono hb07.size)
  have ha9 := (Below.refl w8.heap.size w8).alloc (Nat.le_refl _) (.cells #[.string ⟨#[102]⟩] 9)
  have hrow9 := heap_alloc_new w8 (.cells #[.string ⟨#[102]⟩] 9)
  have H9 := hid (size_any (w8.heap.size + 1) (some ⟨w8.heap.size, 0, none⟩) 1 1 [⟨#[102]⟩] _ ⟨rfl, fun k hk => ⟨w8.heap.size, 0, rfl, by omega, by
    obtain rfl : k = 0 := by simp [ncells] at hk; omega
    exact cell_of_row _ w8.heap.size 0 _ _ _ hrow9⟩⟩ (by omega) (by intro s hs; simp at hs; subst hs; decide))
  rw [aw_size] at H9
  clear l8 ha8 hs8 H8 hb8 hb78 hb07 hrow9
  go_wp2_with fail
  refine H9.out.mono ?_
  rintro e w9 ⟨rfl, rfl⟩
  have hb09 := hb08.trans (ha9.mono hb08.size)
  clear H9 ha9 hb08
  go_wp2_with fail
  go_ret
  exact ⟨rfl, hb09⟩
end Go.Proofs.Ytlooblgdlfheaaa.Amp
