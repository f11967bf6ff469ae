/-
  bind: the program's prevailing.
-/
import Derived.Test.YtbcjbembhajgcaaDoorZBc
namespace Go.Proofs.YtbcjbembhajgcaaDoor.Bnd
open Go.RowKit Go.Proofs Go.Proofs.YtbcjbembhajgcaaDoor.Byt
open Go.Proofs.YtbcjbembhajgcaaDoor.Obj (Sy)
open Go.Proofs.YtbcjbembhajgcaaDoor.Arp (RdI)

/-- Three variables laid at once. -/
theorem three_new (w : World) (x y z : Obj) : ∃ W, ((w.alloc x).alloc y).alloc z = W ∧ Below w.heap.size w W ∧ W.heap[w.heap.size]? = some x ∧ W.heap[w.heap.size + 1]? = some y ∧ W.heap[w.heap.size + 1 + 1]? = some z ∧ W.heap.size = w.heap.size + 3 := by
  have s1 := World.size_alloc w x
  have s2 := World.size_alloc (w.alloc x) y
  have b1 := Below.heap_alloc (w.alloc x) y w.heap.size (by omega)
  have b2 := Below.heap_alloc ((w.alloc x).alloc y) z w.heap.size (by omega)
  have b3 := Below.heap_alloc ((w.alloc x).alloc y) z (w.heap.size + 1) (by omega)
  have n1 := heap_alloc_new w x
  have n2 := heap_alloc_new (w.alloc x) y
  have n3 := heap_alloc_new ((w.alloc x).alloc y) z
  rw [s1] at n2
  rw [s2, s1] at n3
  refine ⟨_, rfl, (((Below.refl _ _).alloc (Nat.le_refl _) _).alloc (by omega) _).alloc (by omega) _, b2.trans (b1.trans n1), b3.trans n2, n3, ?_⟩
  rw [World.size_alloc, s2, s1]

/-- What prevailing gives. -/
def PrvP (a b : St) (va vb : Value) (w : World) (e : Ending) (w' : World) : Prop :=
  e = .returned ((prv a b).val (if rnk a.bind < rnk b.bind then vb else va)) ∧ Below w.heap.size w w'
set_option maxRecDepth 100000 in
set_option maxHeartbeats 2000000 in
theorem prevailing_any (a b : St) (va vb : Value) (w : World) (hP : Prec w) (h1 : va.oneCell' = true) (h2 : vb.oneCell' = true) :
    Calls Tryd.prog 39 #[a.val va, b.val vb] w (PrvP a b va vb w) := by
  have hoA := row_one (s := a) h1
  have hoB := row_one (s := b) h2
  obtain ⟨W, hW, hb, hR0, hR1, hR2, hs⟩ := three_new w (.cells (row a va) 57) (.cells (row b vb) 57) (.cells (row ⟨0, 0, 0, 0, false, false, false, []⟩ (.slice none 0 0)) 57)
  obtain ⟨a0, a1, a2, a3, a4, a5, a6, a7⟩ := a
  obtain ⟨b0, b1, b2, b3, b4, b5, b6, b7⟩ := b
  have HP := hid (hP.on hb)
  unfold St.val
  simp only [row] at *
  have c00 := cell_of_row _ w.heap.size 0 _ _ _ hR0
  have c01 := cell_of_row _ w.heap.size 1 _ _ _ hR0
  have c02 := cell_of_row _ w.heap.size 2 _ _ _ hR0
  have c10 := cell_of_row _ (w.heap.size + 1) 0 _ _ _ hR1
  have c11 := cell_of_row _ (w.heap.size + 1) 1 _ _ _ hR1
  have c12 := cell_of_row _ (w.heap.size + 1) 2 _ _ _ hR1
  have f0 := fun o => frozen_of_row W w.heap.size o _ _ hR0
  have HB := hid hb
  have HS := hid hs
  have H0 := hid hR0
  have H1 := hid hR1
  have H2 := hid hR2
  clear hb hs hR0 hR1 hR2 hP
  by_cases hr : rnk a0 < rnk b0
  · have HX : Hid (PrvP ⟨a0, a1, a2, a3, a4, a5, a6, a7⟩ ⟨b0, b1, b2, b3, b4, b5, b6, b7⟩ va vb w = fun e w' => e = .returned (.agg #[.int .i64 b0, .int .i64 b1, .int .i64 b2, .int .i64 b3, .bool b4, .bool b5, .bool b6, vb]) ∧ Below w.heap.size w w') := hid (by
      funext e w'
      unfold PrvP prv
      rw [if_pos hr, if_pos hr]
      rfl)
    rw [HX.out]
    go_enter Tryd.func39, Tryd.ntmps39
    go_upto_region 1 with fail
    clear hW
    go_quiet ((go_at_call 41; refine Calls.quiet_of_same (rank_q _ _ HP.out)))
    go_wp2_with (first | (refine ldS rfl _ rfl (w.heap.size + 1) rfl _ H1.out rfl ?_) | (refine stS rfl _ _ rfl (w.heap.size + 1 + 1) _ rfl rfl _ H2.out rfl rfl hoB ?_))
    exact retS (g := w.heap.size + 1 + 1) rfl rfl rfl (setRow_heap _ _ _ _ _ _ H2.out) rfl ⟨rfl, below_setRow' (bdr HB.out nq) (by omega) _⟩
  · have hr' : decide (rnk a0 < rnk b0) = false := by simpa using hr
    by_cases h3 : a0 = 3 ∧ b0 = 3
    · obtain ⟨rfl, rfl⟩ := h3
      have HX : Hid (PrvP ⟨3, a1, a2, a3, a4, a5, a6, a7⟩ ⟨3, b1, b2, b3, b4, b5, b6, b7⟩ va vb w = fun e w' => e = .returned (.agg #[.int .i64 3, .int .i64 (max a1 b1), .int .i64 (max a2 b2), .int .i64 a3, .bool a4, .bool a5, .bool a6, va]) ∧ Below w.heap.size w w') := hid (by
        funext e w'
        unfold PrvP prv
        rw [if_neg hr, if_neg hr, if_pos ⟨rfl, rfl⟩]
        rfl)
      rw [HX.out]
      clear HX hr
      go_enter Tryd.func39, Tryd.ntmps39
      go_upto_region 1 with fail
      clear hW
      go_quiet ((go_at_call 41; refine Calls.quiet_of_same (rank_q _ _ HP.out)))
      go_upto_region 6 with fail
      have HR0 := hid (heap_setCell_same _ w.heap.size 2 _ _ (.int .i64 (max a2 b2)) (heap_setCell_same (W.drewN nq) w.heap.size 1 _ _ (.int .i64 (max a1 b1)) H0.out))
      have HR2 := hid ((Below.heap_setCell ((W.drewN nq).setCell ⟨w.heap.size, 1, none⟩ (.int .i64 (max a1 b1))) ⟨w.heap.size, 2, none⟩ (.int .i64 (max a2 b2)) (w.heap.size + 1 + 1) (by show _ ≠ w.heap.size; omega)).trans ((Below.heap_setCell (W.drewN nq) ⟨w.heap.size, 1, none⟩ (.int .i64 (max a1 b1)) (w.heap.size + 1 + 1) (by show _ ≠ w.heap.size; omega)).trans H2.out))
      have HBB := hid (((bdr HB.out nq).setCell (p := ⟨w.heap.size, 1, none⟩) (Nat.le_refl _) (.int .i64 (max a1 b1))).setCell (p := ⟨w.heap.size, 2, none⟩) (Nat.le_refl _) (.int .i64 (max a2 b2)))
      generalize ((W.drewN nq).setCell ⟨w.heap.size, 1, none⟩ (.int .i64 (max a1 b1))).setCell ⟨w.heap.size, 2, none⟩ (.int .i64 (max a2 b2)) = V at *
      have hoC : ((#[.int .i64 3, .int .i64 a1, .int .i64 a2, .int .i64 a3, .bool a4, .bool a5, .bool a6, va] : Array Value).setIfInBounds 1 (.int .i64 (max a1 b1))).setIfInBounds 2 (.int .i64 (max a2 b2)) = #[.int .i64 3, .int .i64 (max a1 b1), .int .i64 (max a2 b2), .int .i64 a3, .bool a4, .bool a5, .bool a6, va] := rfl
      have HO := hid (row_one (s := ⟨3, max a1 b1, max a2 b2, a3, a4, a5, a6, a7⟩) h1)
      unfold row at HO
      rw [hoC] at HR0
      clear hoC f0 c00 c01 c02 c10 c11 c12
      go_wp2_with (first | (refine ldS rfl _ rfl (w.heap.size) rfl _ HR0.out rfl ?_) | (refine stS rfl _ _ rfl (w.heap.size + 1 + 1) _ rfl rfl _ HR2.out rfl rfl HO.out ?_))
      exact retS (g := w.heap.size + 1 + 1) rfl rfl rfl (setRow_heap _ _ _ _ _ _ HR2.out) rfl ⟨rfl, below_setRow' HBB.out (by omega) _⟩
    · have HX : Hid (PrvP ⟨a0, a1, a2, a3, a4, a5, a6, a7⟩ ⟨b0, b1, b2, b3, b4, b5, b6, b7⟩ va vb w = fun e w' => e = .returned (.agg #[.int .i64 a0, .int .i64 a1, .int .i64 a2, .int .i64 a3, .bool a4, .bool a5, .bool a6, va]) ∧ Below w.heap.size w w') := hid (by
        funext e w'
        unfold PrvP prv
        rw [if_neg hr, if_neg hr, if_neg h3]
        rfl)
      rw [HX.out]
      clear HX hr
      by_cases ha : a0 = 3
      · have hb : (b0 == 3) = false := by simpa [ha] using h3
        subst ha
        clear h3
        go_enter Tryd.func39, Tryd.ntmps39
        go_upto_region 1 with fail
        clear hW
        go_quiet ((go_at_call 41; refine Calls.quiet_of_same (rank_q _ _ HP.out)))
        go_wp2_with (first | (refine ldS rfl _ rfl (w.heap.size) rfl _ H0.out rfl ?_) | (refine stS rfl _ _ rfl (w.heap.size + 1 + 1) _ rfl rfl _ H2.out rfl rfl hoA ?_))
        exact retS (g := w.heap.size + 1 + 1) rfl rfl rfl (setRow_heap _ _ _ _ _ _ H2.out) rfl ⟨rfl, below_setRow' (bdr HB.out nq) (by omega) _⟩
      · have ha' : (a0 == 3) = false := by simpa using ha
        clear h3 ha
        go_enter Tryd.func39, Tryd.ntmps39
        go_upto_region 1 with fail
        clear hW
        go_quiet ((go_at_call 41; refine Calls.quiet_of_same (rank_q _ _ HP.out)))
        go_wp2_with (first | (refine ldS rfl _ rfl (w.heap.size) rfl _ H0.out rfl ?_) | (refine stS rfl _ _ rfl (w.heap.size + 1 + 1) _ rfl rfl _ H2.out rfl rfl hoA ?_))
        exact retS (g := w.heap.size + 1 + 1) rfl rfl rfl (setRow_heap _ _ _ _ _ _ H2.out) rfl ⟨rfl, below_setRow' (bdr HB.out nq) (by omega) _⟩
end Go.Proofs.YtbcjbembhajgcaaDoor.Bnd
