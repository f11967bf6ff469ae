/-
  bind: the program's single and Merge.
-/
import Derived.Test.YtbcjbembhajgcaaDoorZBe
namespace Go.Proofs.YtbcjbembhajgcaaDoor.Bnd
open Go.RowKit Go.Proofs Go.Proofs.YtbcjbembhajgcaaDoor.Byt
open Go.Proofs.YtbcjbembhajgcaaDoor.Obj (Sy)
open Go.Proofs.YtbcjbembhajgcaaDoor.Arp (RdI)

/-- Two variables laid at once. -/
theorem two_new (w : World) (x y : Obj) : ∃ W, (w.alloc x).alloc y = W ∧ Below w.heap.size w W ∧ W.heap[w.heap.size]? = some x ∧ W.heap[w.heap.size + 1]? = some y ∧ W.heap.size = w.heap.size + 1 + 1 := by
  have s1 := World.size_alloc w x
  have b1 := Below.heap_alloc (w.alloc x) y w.heap.size (by omega)
  have n1 := heap_alloc_new w x
  have n2 := heap_alloc_new (w.alloc x) y
  rw [s1] at n2
  exact ⟨_, rfl, ((Below.refl _ _).alloc (Nat.le_refl _) _).alloc (by omega) _, b1.trans n1, n2, by rw [World.size_alloc, s1]⟩
theorem own_one {w : World} {n : Int} (K : Nat) (hK : K ≤ w.heap.size) : OwnI (w.alloc (.cells #[.int .i64 n] 3)) K (.slice (some ⟨w.heap.size, 0, none⟩) 1 1) [n] :=
  ⟨rfl, .inr ⟨w.heap.size, 1, _, (0, 0), rfl, hK, heap_alloc_new w _, Nat.le_refl _, by unfold maxLen; omega, rfl, rfl, fun j _ => by rintro ⟨_, h⟩; exact absurd h (Nat.not_lt_zero _)⟩⟩
set_option maxRecDepth 100000 in
set_option maxHeartbeats 4000000 in
theorem single_any (x : Us) (w : World) (hP : Prec w) (h1 : 1 ≤ x.s.bind) (h5 : x.s.bind ≤ 5) :
    Calls Tryd.prog 30 #[x.s.val, .int .i64 x.u] w (StP (sgl x) w) := by
  obtain ⟨⟨nm, b, z, a⟩, n⟩ := x
  simp only at h1 h5
  unfold Sy.val
  obtain ⟨W, hW, hbW, hR0, hR1, hs⟩ := two_new w (.cells #[.string nm, .int .i64 b, .int .i64 z, .int .i64 a] 54) (.cells (row ⟨0, 0, 0, 0, false, false, false, []⟩ (.slice none 0 0)) 57)
  have HE := hid (empty_any W)
  unfold St.val emp at HE
  simp only [row] at *
  have HP := hid (hP.on hbW)
  obtain ⟨g, hg⟩ : ∃ g, w.heap.size = g := ⟨_, rfl⟩
  have HC := hid fun (V : World) (h : Below (g + 1 + 1) W V) => (⟨(h.block g (by omega)).trans (hg ▸ hR0), (h.block (g + 1) (by omega)).trans (hg ▸ hR1)⟩ : _ ∧ _)
  have HbW := hid hbW
  have HS : Hid (W.heap.size = g + 1 + 1) := hid (by omega)
  clear hbW hR0 hR1 hs hP
  go_enter Tryd.func30, Tryd.ntmps30
  go_upto_region 1 with fail
  clear hW
  have HG := hid hg
  clear hg
  go_upto_region 2 with (first | (go_at_call 32; refine HE.out.mono ?_; rintro e w1 ⟨rfl, hb1⟩) | (refine stS rfl _ _ rfl _ _ rfl rfl _ (heap_alloc_new _ _) rfl rfl rfl ?_; rw [World.setRow_alloc_new]))
  clear HE
  have hn1 := heap_alloc_new w1 (.cells #[.int .i64 0, .int .i64 0, .int .i64 0, .int .i64 (-1), .bool false, .bool false, .bool false, .slice none 0 0] 57)
  have hs1 := World.size_alloc w1 (.cells #[.int .i64 0, .int .i64 0, .int .i64 0, .int .i64 (-1), .bool false, .bool false, .bool false, .slice none 0 0] 57)
  have hq1 := hb1.alloc hb1.size (.cells #[.int .i64 0, .int .i64 0, .int .i64 0, .int .i64 (-1), .bool false, .bool false, .bool false, .slice none 0 0] 57)
  have hu : g + 1 + 1 ≤ w1.heap.size := by have := hb1.size; have := HS.out; omega
  generalize w1.alloc (.cells #[.int .i64 0, .int .i64 0, .int .i64 0, .int .i64 (-1), .bool false, .bool false, .bool false, .slice none 0 0] 57) = V at *
  obtain ⟨u, hue⟩ : ∃ u, w1.heap.size = u := ⟨_, rfl⟩
  rw [hue] at hn1 hs1 hu
  rw [hue]
  have Hq := hid hq1
  have Hn := hid hn1
  have Hs := hid hs1
  clear hq1 hn1 hs1 hue hb1
  have hu2 : W.heap.size ≤ u := by rw [HS.out]; exact hu
  have hgu0 : g ≠ u := by omega
  have hgu1 : g + 1 ≠ u := by omega
  have HCV := hid (HC.out V (Hq.out.mono (by rw [HS.out]; omega)))
  have HPV := hid (HP.out.on Hq.out)
  have c01 := cell_of_row _ g 1 _ _ _ HCV.out.1
  have c02 := cell_of_row _ g 2 _ _ _ HCV.out.1
  have c03 := cell_of_row _ g 3 _ _ _ HCV.out.1
  have fu := fun o => frozen_of_row V u o _ _ Hn.out
  have cu := fun o => cell_of_row V u o _ _ _ Hn.out
  have cu0 := cu 0
  have cu1 := cu 1
  have cu3 := cu 3
  clear cu
  rcases (show b = 1 ∨ b = 2 ∨ b = 3 ∨ b = 4 ∨ b = 5 by omega) with rfl | rfl | rfl | rfl | rfl
  case inl =>
    have r1 : rnk 1 = 3 := rfl
    go_upto_region 3 with (go_at_call 41; refine (rank_any _ _ HPV.out).mono ?_; rintro e w' ⟨rfl, rfl⟩)
    go_region
    have h3 := heap_setCell_same _ u 3 _ _ (.int .i64 n) (heap_setCell_same _ u 1 _ _ (.int .i64 z) (heap_setCell_same V u 0 _ _ (.int .i64 1) Hn.out))
    have k3 := hid (((Hq.out.setCell (p := ⟨u, 0, none⟩) hu2 (.int .i64 1)).setCell (p := ⟨u, 1, none⟩) hu2 (.int .i64 z)).setCell (p := ⟨u, 3, none⟩) hu2 (.int .i64 n)).drew
    have s3 : Hid ((((V.setCell ⟨u, 0, none⟩ (.int .i64 1)).setCell ⟨u, 1, none⟩ (.int .i64 z)).setCell ⟨u, 3, none⟩ (.int .i64 n)).drew.heap.size = u + 1) := hid (by simp [Hs.out])
    have H3 : Hid ((((V.setCell ⟨u, 0, none⟩ (.int .i64 1)).setCell ⟨u, 1, none⟩ (.int .i64 z)).setCell ⟨u, 3, none⟩ (.int .i64 n)).drew.heap[u]? = some (.cells #[.int .i64 1, .int .i64 z, .int .i64 0, .int .i64 n, .bool false, .bool false, .bool false, .slice none 0 0] 57 (0, 0))) := hid h3
    generalize (((V.setCell ⟨u, 0, none⟩ (.int .i64 1)).setCell ⟨u, 1, none⟩ (.int .i64 z)).setCell ⟨u, 3, none⟩ (.int .i64 n)).drew = V3 at *
    clear h3 c01 c02 c03 cu0 cu1 cu3 fu HCV
    have HC3 := hid (HC.out V3 (k3.out.mono (by rw [HS.out]; omega)))
    have c01 := cell_of_row _ g 1 _ _ _ HC3.out.1
    have c03 := cell_of_row _ g 3 _ _ _ HC3.out.1
    have fu := fun o => frozen_of_row V3 u o _ _ H3.out
    have cu2 := cell_of_row _ u 2 _ _ _ H3.out
    have cu4 := cell_of_row _ u 4 _ _ _ H3.out
    have cu7 := cell_of_row _ u 7 _ _ _ H3.out
    go_upto_region 6 with fail
    obtain ⟨q, hq⟩ : ∃ q, V3.heap.size = q := ⟨_, rfl⟩
    obtain ⟨V4, hV4⟩ : ∃ V4, V3.alloc (.cells #[.int .i64 n] 3) = V4 := ⟨_, rfl⟩
    have hqu : u < q := by rw [← hq, s3.out]; omega
    have c44 : V4.cell? ⟨u, 4, none⟩ = some (.bool false) := by rw [← hV4]; exact cell_of_row _ u 4 _ _ _ ((Below.heap_alloc V3 _ u (by omega)).trans H3.out)
    have c47 : V4.cell? ⟨u, 7, none⟩ = some (.slice none 0 0) := by rw [← hV4]; exact cell_of_row _ u 7 _ _ _ ((Below.heap_alloc V3 _ u (by omega)).trans H3.out)
    have f4 : ∀ o, V4.frozen? ⟨u, o, none⟩ = false := by rw [← hV4]; exact fun o => frozen_of_row _ u o _ _ ((Below.heap_alloc V3 _ u (by omega)).trans H3.out)
    clear fu cu2 cu4 cu7 c01 c03
    go_upto_region 15 with fail
    have HR6 := hid (heap_setCell_same _ u 7 _ _ (.slice (some ⟨q, 0, none⟩) 1 1) (heap_setCell_same V4 u 4 _ _ (.bool true) (hV4 ▸ (Below.heap_alloc V3 _ u (by omega)).trans H3.out)))
    have HT6 := hid ((Below.heap_setCell (V4.setCell ⟨u, 4, none⟩ (.bool true)) ⟨u, 7, none⟩ (.slice (some ⟨q, 0, none⟩) 1 1) (g + 1) hgu1).trans ((Below.heap_setCell V4 ⟨u, 4, none⟩ (.bool true) (g + 1) hgu1).trans (hV4 ▸ (Below.heap_alloc V3 _ (g + 1) (by omega)).trans HC3.out.2)))
    have HX6 := hid (HbW.out.trans ((((hV4 ▸ k3.out.alloc k3.out.size _ : Below W.heap.size W V4).setCell (p := ⟨u, 4, none⟩) hu2 (.bool true)).setCell (p := ⟨u, 7, none⟩) hu2 (.slice (some ⟨q, 0, none⟩) 1 1)).mono HbW.out.size))
    have HK6 : Hid (OwnI ((V4.setCell ⟨u, 4, none⟩ (.bool true)).setCell ⟨u, 7, none⟩ (.slice (some ⟨q, 0, none⟩) 1 1)) (u + 1) (.slice (some ⟨q, 0, none⟩) 1 1) [n]) := hid (by
      have h0 := own_one (w := V3) (n := n) (u + 1) (by omega)
      rw [hV4, hq] at h0
      exact h0.keep fun k hk _ => (Below.heap_setCell _ ⟨u, 7, none⟩ _ k (by show k ≠ u; omega)).trans (Below.heap_setCell _ ⟨u, 4, none⟩ _ k (by show k ≠ u; omega)))
    generalize (V4.setCell ⟨u, 4, none⟩ (.bool true)).setCell ⟨u, 7, none⟩ (.slice (some ⟨q, 0, none⟩) 1 1) = V6 at *
    clear hV4 hq c44 c47 f4
    go_wp2_with (first | (refine ldS rfl _ rfl u rfl _ HR6.out rfl ?_) | (refine stS rfl _ _ rfl (g + 1) _ rfl rfl _ HT6.out rfl rfl (row_one (s := ⟨_, _, _, _, _, _, _, []⟩) rfl) ?_))
    exact retS (g := g + 1) rfl rfl rfl (setRow_heap _ _ _ _ _ _ HT6.out) rfl ⟨_, rfl, (OwnI.keep HK6.out fun k hk _ => setRow_other _ _ _ _ (by omega)).more (by have := HG.out; omega), below_setRow' HX6.out (by have := HG.out; omega) _⟩
  case inr.inl =>
    have r1 : rnk 2 = 1 := rfl
    go_upto_region 3 with (go_at_call 41; refine (rank_any _ _ HPV.out).mono ?_; rintro e w' ⟨rfl, rfl⟩)
    go_region
    have h3 := heap_setCell_same _ u 3 _ _ (.int .i64 n) (heap_setCell_same _ u 1 _ _ (.int .i64 z) (heap_setCell_same V u 0 _ _ (.int .i64 2) Hn.out))
    have k3 := hid (((Hq.out.setCell (p := ⟨u, 0, none⟩) hu2 (.int .i64 2)).setCell (p := ⟨u, 1, none⟩) hu2 (.int .i64 z)).setCell (p := ⟨u, 3, none⟩) hu2 (.int .i64 n)).drew
    have s3 : Hid ((((V.setCell ⟨u, 0, none⟩ (.int .i64 2)).setCell ⟨u, 1, none⟩ (.int .i64 z)).setCell ⟨u, 3, none⟩ (.int .i64 n)).drew.heap.size = u + 1) := hid (by simp [Hs.out])
    have H3 : Hid ((((V.setCell ⟨u, 0, none⟩ (.int .i64 2)).setCell ⟨u, 1, none⟩ (.int .i64 z)).setCell ⟨u, 3, none⟩ (.int .i64 n)).drew.heap[u]? = some (.cells #[.int .i64 2, .int .i64 z, .int .i64 0, .int .i64 n, .bool false, .bool false, .bool false, .slice none 0 0] 57 (0, 0))) := hid h3
    generalize (((V.setCell ⟨u, 0, none⟩ (.int .i64 2)).setCell ⟨u, 1, none⟩ (.int .i64 z)).setCell ⟨u, 3, none⟩ (.int .i64 n)).drew = V3 at *
    clear h3 c01 c02 c03 cu0 cu1 cu3 fu HCV
    have HC3 := hid (HC.out V3 (k3.out.mono (by rw [HS.out]; omega)))
    have c01 := cell_of_row _ g 1 _ _ _ HC3.out.1
    have c03 := cell_of_row _ g 3 _ _ _ HC3.out.1
    have fu := fun o => frozen_of_row V3 u o _ _ H3.out
    have cu2 := cell_of_row _ u 2 _ _ _ H3.out
    have cu4 := cell_of_row _ u 4 _ _ _ H3.out
    have cu7 := cell_of_row _ u 7 _ _ _ H3.out
    go_upto_region 15 with fail
    have HR6 := hid (heap_setCell_same V3 u 4 _ _ (.bool true) H3.out)
    have HT6 := hid ((Below.heap_setCell V3 ⟨u, 4, none⟩ (.bool true) (g + 1) hgu1).trans HC3.out.2)
    have HX6 := hid (HbW.out.trans ((k3.out.setCell (p := ⟨u, 4, none⟩) hu2 (.bool true)).mono HbW.out.size))
    have HK6 := hid (OwnI.nil (V3.setCell ⟨u, 4, none⟩ (.bool true)) (u + 1))
    generalize V3.setCell ⟨u, 4, none⟩ (.bool true) = V6 at *
    clear cu2 cu4 cu7 fu c01 c03
    go_wp2_with (first | (refine ldS rfl _ rfl u rfl _ HR6.out rfl ?_) | (refine stS rfl _ _ rfl (g + 1) _ rfl rfl _ HT6.out rfl rfl (row_one (s := ⟨_, _, _, _, _, _, _, []⟩) rfl) ?_))
    exact retS (g := g + 1) rfl rfl rfl (setRow_heap _ _ _ _ _ _ HT6.out) rfl ⟨_, rfl, (OwnI.keep HK6.out fun k hk _ => setRow_other _ _ _ _ (by omega)).more (by have := HG.out; omega), below_setRow' HX6.out (by have := HG.out; omega) _⟩
  case inr.inr.inl =>
    have r1 : rnk 3 = 2 := rfl
    go_upto_region 3 with (go_at_call 41; refine (rank_any _ _ HPV.out).mono ?_; rintro e w' ⟨rfl, rfl⟩)
    go_region
    have h3 := heap_setCell_same _ u 3 _ _ (.int .i64 n) (heap_setCell_same _ u 1 _ _ (.int .i64 z) (heap_setCell_same V u 0 _ _ (.int .i64 3) Hn.out))
    have k3 := hid (((Hq.out.setCell (p := ⟨u, 0, none⟩) hu2 (.int .i64 3)).setCell (p := ⟨u, 1, none⟩) hu2 (.int .i64 z)).setCell (p := ⟨u, 3, none⟩) hu2 (.int .i64 n)).drew
    have s3 : Hid ((((V.setCell ⟨u, 0, none⟩ (.int .i64 3)).setCell ⟨u, 1, none⟩ (.int .i64 z)).setCell ⟨u, 3, none⟩ (.int .i64 n)).drew.heap.size = u + 1) := hid (by simp [Hs.out])
    have H3 : Hid ((((V.setCell ⟨u, 0, none⟩ (.int .i64 3)).setCell ⟨u, 1, none⟩ (.int .i64 z)).setCell ⟨u, 3, none⟩ (.int .i64 n)).drew.heap[u]? = some (.cells #[.int .i64 3, .int .i64 z, .int .i64 0, .int .i64 n, .bool false, .bool false, .bool false, .slice none 0 0] 57 (0, 0))) := hid h3
    generalize (((V.setCell ⟨u, 0, none⟩ (.int .i64 3)).setCell ⟨u, 1, none⟩ (.int .i64 z)).setCell ⟨u, 3, none⟩ (.int .i64 n)).drew = V3 at *
    clear h3 c01 c02 c03 cu0 cu1 cu3 fu HCV
    have HC3 := hid (HC.out V3 (k3.out.mono (by rw [HS.out]; omega)))
    have c01 := cell_of_row _ g 1 _ _ _ HC3.out.1
    have c03 := cell_of_row _ g 3 _ _ _ HC3.out.1
    have fu := fun o => frozen_of_row V3 u o _ _ H3.out
    have cu2 := cell_of_row _ u 2 _ _ _ H3.out
    have cu4 := cell_of_row _ u 4 _ _ _ H3.out
    have cu7 := cell_of_row _ u 7 _ _ _ H3.out
    go_upto_region 15 with fail
    have HR6 := hid (heap_setCell_same V3 u 2 _ _ (.int .i64 a) H3.out)
    have HT6 := hid ((Below.heap_setCell V3 ⟨u, 2, none⟩ (.int .i64 a) (g + 1) hgu1).trans HC3.out.2)
    have HX6 := hid (HbW.out.trans ((k3.out.setCell (p := ⟨u, 2, none⟩) hu2 (.int .i64 a)).mono HbW.out.size))
    have HK6 := hid (OwnI.nil (V3.setCell ⟨u, 2, none⟩ (.int .i64 a)) (u + 1))
    generalize V3.setCell ⟨u, 2, none⟩ (.int .i64 a) = V6 at *
    clear cu2 cu4 cu7 fu c01 c03
    go_wp2_with (first | (refine ldS rfl _ rfl u rfl _ HR6.out rfl ?_) | (refine stS rfl _ _ rfl (g + 1) _ rfl rfl _ HT6.out rfl rfl (row_one (s := ⟨_, _, _, _, _, _, _, []⟩) rfl) ?_))
    exact retS (g := g + 1) rfl rfl rfl (setRow_heap _ _ _ _ _ _ HT6.out) rfl ⟨_, rfl, (OwnI.keep HK6.out fun k hk _ => setRow_other _ _ _ _ (by omega)).more (by have := HG.out; omega), below_setRow' HX6.out (by have := HG.out; omega) _⟩
  case inr.inr.inr.inl =>
    have r1 : rnk 4 = 0 := rfl
    have cu5 := cell_of_row _ u 5 _ _ _ Hn.out
    go_upto_region 15 with (go_at_call 41; refine (rank_any _ _ HPV.out).mono ?_; rintro e w' ⟨rfl, rfl⟩)
    have HR6 := hid (heap_setCell_same V u 5 _ _ (.bool true) Hn.out)
    have HT6 := hid ((Below.heap_setCell V ⟨u, 5, none⟩ (.bool true) (g + 1) hgu1).trans HCV.out.2)
    have HX6 := hid (HbW.out.trans ((Hq.out.setCell (p := ⟨u, 5, none⟩) hu2 (.bool true)).mono HbW.out.size))
    have HK6 := hid (OwnI.nil (V.setCell ⟨u, 5, none⟩ (.bool true)) (u + 1))
    generalize V.setCell ⟨u, 5, none⟩ (.bool true) = V6 at *
    clear cu0 cu1 cu3 fu c01 c02 c03
    go_wp2_with (first | (refine ldS rfl _ rfl u rfl _ HR6.out rfl ?_) | (refine stS rfl _ _ rfl (g + 1) _ rfl rfl _ HT6.out rfl rfl (row_one (s := ⟨_, _, _, _, _, _, _, []⟩) rfl) ?_))
    exact retS (g := g + 1) rfl rfl rfl (setRow_heap _ _ _ _ _ _ HT6.out) rfl ⟨_, rfl, (OwnI.keep HK6.out fun k hk _ => setRow_other _ _ _ _ (by omega)).more (by have := HG.out; omega), below_setRow' HX6.out (by have := HG.out; omega) _⟩
  case inr.inr.inr.inr =>
    have r1 : rnk 5 = 0 := rfl
    have cu6 := cell_of_row _ u 6 _ _ _ Hn.out
    go_upto_region 15 with (go_at_call 41; refine (rank_any _ _ HPV.out).mono ?_; rintro e w' ⟨rfl, rfl⟩)
    have HR6 := hid (heap_setCell_same V u 6 _ _ (.bool true) Hn.out)
    have HT6 := hid ((Below.heap_setCell V ⟨u, 6, none⟩ (.bool true) (g + 1) hgu1).trans HCV.out.2)
    have HX6 := hid (HbW.out.trans ((Hq.out.setCell (p := ⟨u, 6, none⟩) hu2 (.bool true)).mono HbW.out.size))
    have HK6 := hid (OwnI.nil (V.setCell ⟨u, 6, none⟩ (.bool true)) (u + 1))
    generalize V.setCell ⟨u, 6, none⟩ (.bool true) = V6 at *
    clear cu0 cu1 cu3 fu c01 c02 c03
    go_wp2_with (first | (refine ldS rfl _ rfl u rfl _ HR6.out rfl ?_) | (refine stS rfl _ _ rfl (g + 1) _ rfl rfl _ HT6.out rfl rfl (row_one (s := ⟨_, _, _, _, _, _, _, []⟩) rfl) ?_))
    exact retS (g := g + 1) rfl rfl rfl (setRow_heap _ _ _ _ _ _ HT6.out) rfl ⟨_, rfl, (OwnI.keep HK6.out fun k hk _ => setRow_other _ _ _ _ (by omega)).more (by have := HG.out; omega), below_setRow' HX6.out (by have := HG.out; omega) _⟩
/-- Rows of a call of Merge. -/
def MgS (g : Nat) (s x : Array Value) (W : World) : Prop := W.heap[g]? = some (.cells s 57 (0, 0)) ∧ W.heap[g + 1]? = some (.cells x 54 (0, 0))
theorem sgl_len (x : Us) : (sgl x).strongs.length ≤ 1 := by
  unfold sgl
  simp only
  split <;> simp
set_option linter.unusedSimpArgs false in
set_option maxRecDepth 100000 in
set_option maxHeartbeats 4000000 in
theorem merge_any (K : Nat) (s : St) (v : Value) (x : Us) (w : World) (hP : Prec w) (hs : Pl w K v s.strongs) (hK : K ≤ w.heap.size) (hl : s.strongs.length ≤ 100000) (h1 : 1 ≤ x.s.bind) (h5 : x.s.bind ≤ 5) :
    Calls Tryd.prog 18 #[s.val v, x.s.val, .int .i64 x.u] w (StP (joi s (sgl x)) w) := by
  obtain ⟨W, hW, hbW, hR0, hR1, hR2, hz⟩ := three_new w (.cells (row s v) 57) (.cells #[.string x.s.name, .int .i64 x.s.bind, .int .i64 x.s.size, .int .i64 x.s.align] 54) (.cells (row ⟨0, 0, 0, 0, false, false, false, []⟩ (.slice none 0 0)) 57)
  have HSg := hid fun (V : World) (h : Below W.heap.size W V) => single_any x V ((hP.on hbW).on h) h1 h5
  have HJo := hid fun (V : World) (v1 : Value) (h : Below W.heap.size W V) (hv1 : Pl V V.heap.size v1 (sgl x).strongs) => join_any V.heap.size s (sgl x) v v1 V ((hP.on hbW).on h) ((hs.below ((hbW.trans (h.mono hbW.size)).mono hK)).more (by have := hbW.size; have := h.size; omega)) hv1 (Nat.le_refl _) hl (by have := sgl_len x; omega)
  have hv1 := pl_slice hs
  have HO := hid fun (q : Value) (hq : q.oneCell' = true) => row_one (s := joi s (sgl x)) hq
  unfold St.val Sy.val at *
  generalize joi s (sgl x) = j at *
  generalize sgl x = y at *
  obtain ⟨s0, s1, s2, s3, s4, s5, s6, sl⟩ := s
  obtain ⟨⟨nm, b, z, al⟩, n⟩ := x
  simp only [row] at *
  obtain ⟨g, hg⟩ : ∃ g, w.heap.size = g := ⟨_, rfl⟩
  have HC := hid fun (V : World) (h : Below (g + 1 + 1 + 1) W V) => (⟨(h.block g (by omega)).trans (hg ▸ hR0), (h.block (g + 1) (by omega)).trans (hg ▸ hR1)⟩ : MgS g #[.int .i64 s0, .int .i64 s1, .int .i64 s2, .int .i64 s3, .bool s4, .bool s5, .bool s6, v] #[.string nm, .int .i64 b, .int .i64 z, .int .i64 al] V)
  have HZ := hid fun (V : World) (h : Below (g + 1 + 1 + 1) W V) => (h.block (g + 1 + 1) (by omega)).trans (hg ▸ hR2)
  have HbW := hid hbW
  have HS : Hid (W.heap.size = g + 1 + 1 + 1) := hid (by omega)
  clear hbW hR0 hR1 hR2 hz hP hs
  go_enter Tryd.func18, Tryd.ntmps18
  go_upto_region 1 with fail
  clear hW
  have HG := hid hg
  clear hg
  refine Ord.Till.begin (MgS g #[.int .i64 s0, .int .i64 s1, .int .i64 s2, .int .i64 s3, .bool s4, .bool s5, .bool s6, v] #[.string nm, .int .i64 b, .int .i64 z, .int .i64 al]) 60 (by kernel_rfl) ?_
  have hbd : Below W.heap.size W W.drew := (Below.refl _ _).drew
  have hS := HC.out W.drew (hbd.mono (by rw [HS.out]; omega))
  generalize W.drew = wd at *
  refine Ord.Till.take' 0 (some 7) (oi := _) (x := .agg #[.int .i64 s0, .int .i64 s1, .int .i64 s2, .int .i64 s3, .bool s4, .bool s5, .bool s6, v]) rfl rfl (by kernel_rfl) (by kernel_rfl) (by kernel_rfl) (by kernel_rfl) (fun _ _ _ h => h) (by kernel_rfl) (fun v hv => exec_ld 57 _ Tryd.underlying57 rfl _ rfl g 0 rfl _ (by kernel_rfl) (range_row hv.1)) hS ?_
  try simp only [List.getElem_toArray, List.getElem_cons_zero, List.getElem_cons_succ, Act.put, List.setIfInBounds_toArray, List.set_cons_zero, List.set_cons_succ]
  refine Ord.Till.take' 1 (some 8) (oi := _) (x := .agg #[.string nm, .int .i64 b, .int .i64 z, .int .i64 al]) rfl rfl (by kernel_rfl) (by kernel_rfl) (by kernel_rfl) (by kernel_rfl) (fun _ _ _ h => h) (by kernel_rfl) (fun v hv => exec_ld 54 _ Tryd.underlying54 rfl _ rfl (g + 1) 0 rfl _ (by kernel_rfl) (range_row hv.2)) hS ?_
  try simp only [List.getElem_toArray, List.getElem_cons_zero, List.getElem_cons_succ, Act.put, List.setIfInBounds_toArray, List.set_cons_zero, List.set_cons_succ]
  refine Ord.Till.take' 2 (some 9) (oi := _) (x := .int .i64 n) rfl rfl (by kernel_rfl) (by kernel_rfl) (by kernel_rfl) (by kernel_rfl) (fun _ _ _ h => h) (by kernel_rfl) (fun v hv => by go_simp) hS ?_
  try simp only [List.getElem_toArray, List.getElem_cons_zero, List.getElem_cons_succ, Act.put, List.setIfInBounds_toArray, List.set_cons_zero, List.set_cons_succ]
  refine Ord.Till.step 3 (by kernel_rfl) rfl (fun C hC => ?_)
  go_simp
  go_at_call 30
  refine (HSg.out wd hbd).mono ?_
  rintro e w1 ⟨v1, rfl, ho1, hb1⟩
  have hb01 := hbd.trans (hb1.mono hbd.size)
  clear hS hb1
  have hS := HC.out w1 (hb01.mono (by rw [HS.out]; omega))
  have HJ := hid (HJo.out w1 v1 hb01 ho1.pl)
  clear HSg HJo ho1
  go_wp2_with fail
  refine hC.out _ _ (fun _ => hS) ?_
  clear hC C
  try simp only [List.getElem_toArray, List.getElem_cons_zero, List.getElem_cons_succ, Act.put, List.setIfInBounds_toArray, List.set_cons_zero, List.set_cons_succ]
  refine Ord.Till.step 4 (by kernel_rfl) rfl (fun C hC => ?_)
  go_simp
  go_at_call 29
  refine HJ.out.mono ?_
  rintro e w2 ⟨v2, rfl, ho2, hb2⟩
  have hb02 := hb01.trans (hb2.mono hb01.size)
  have hz1 := hb01.size
  clear hS hb2 hb01
  have hS := HC.out w2 (hb02.mono (by rw [HS.out]; omega))
  clear HJ
  go_wp2_with fail
  refine hC.out _ _ (fun _ => hS) ?_
  clear hC C
  try simp only [List.getElem_toArray, List.getElem_cons_zero, List.getElem_cons_succ, Act.put, List.setIfInBounds_toArray, List.set_cons_zero, List.set_cons_succ]
  have HT := hid (HZ.out w2 (hb02.mono (by rw [HS.out]; omega)))
  have hv2 := pl_slice ho2.pl
  refine Ord.Till.step 5 (by kernel_rfl) rfl (fun C hC => ?_)
  rw [if_pos (by kernel_rfl)]
  refine wp_store_row 57 _ _ rfl (g + 1 + 1) #[.int .i64 j.bind, .int .i64 j.size, .int .i64 j.align, .int .i64 j.unit, .bool j.dfd, .bool j.sr, .bool j.wr, v2] rfl rfl 57 _ HT.out (by kernel_rfl) rfl (HO.out v2 hv2) ?_
  refine hC.out _ _ (fun _ => ⟨(setRow_other _ _ _ _ (by omega)).trans hS.1, (setRow_other _ _ _ _ (by omega)).trans hS.2⟩) ?_
  clear hC C
  try simp only [List.getElem_toArray, List.getElem_cons_zero, List.getElem_cons_succ, Act.put, List.setIfInBounds_toArray, List.set_cons_zero, List.set_cons_succ]
  refine Ord.Till.done (by kernel_rfl) ?_ _
  clear hS
  go_wp2_with fail
  exact retS (g := g + 1 + 1) rfl rfl rfl (setRow_heap _ _ _ _ _ _ HT.out) rfl ⟨v2, rfl, (OwnI.keep ho2 fun k hk _ => setRow_other _ _ _ _ (by have := HS.out; omega)).more (by have := HbW.out.size; have := HS.out; omega), below_setRow' (HbW.out.trans (hb02.mono HbW.out.size)) (by have := HG.out; omega) _⟩
end Go.Proofs.YtbcjbembhajgcaaDoor.Bnd
