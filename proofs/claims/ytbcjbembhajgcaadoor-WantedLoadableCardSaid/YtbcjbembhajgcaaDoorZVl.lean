/-
  symtab: the program's State.
-/
import Derived.Test.YtbcjbembhajgcaaDoorZVj
import Derived.WalkSpells
namespace Go.Proofs.YtbcjbembhajgcaaDoor.Tab
open Go.RowKit Go.Proofs Go.Proofs.YtbcjbembhajgcaaDoor.Byt
open Go.Proofs.YtbcjbembhajgcaaDoor.Bnd

set_option linter.unusedSimpArgs false in
set_option maxRecDepth 100000 in
/-- A copy of numbers. -/
theorem iclone_any (K : Nat) (v : Value) (l : List Int) (w : World) (h : Pl w K v l) (hK : K ≤ w.heap.size) (hn : l.length ≤ 100000) :
    Calls Tryd.prog 33 #[v] w fun e w' => ∃ v', e = .returned v' ∧ OwnI w' w.heap.size v' l ∧ Below w.heap.size w w' := by
  obtain ⟨A, n, c, rfl, hr, _, _⟩ := h
  have hl := hr.1
  rcases A with _ | a
  · have h0 : l = [] := by
      rcases l with _ | ⟨u, r⟩
      · rfl
      · obtain ⟨_, _, e, _⟩ := hr.2 0 (by simp)
        cases e
    subst h0
    obtain rfl : n = 0 := hl.symm
    clear hr
    have hq : (binOp .eql 55 (.slice none 0 c) (.slice none 0 0)).run Tryd.prog w = .ok (.bool true) w := Lib.run_eql_slice_nil w _ _ none 0 c 0 0 Tryd.underlying55
    go_enter Tryd.func33, Tryd.ntmps33
    go_wp2_with fail
    go_ret
    exact ⟨_, rfl, OwnI.nil _ _, Below.refl _ _⟩
  · have hb := (Below.refl w.heap.size w).alloc (Nat.le_refl _) (.cells #[] 3)
    have hlit := Cel.Own.lit0 3 1 w w.heap.size (Nat.le_refl _)
    have hM := Arp.RdI.cells.1 (hr.below (hb.mono hK))
    have hm : n ≤ 100000 := by omega
    have HL := hid hl
    clear hr hl
    have hq : (binOp .eql 55 (.slice (some a) n c) (.slice none 0 0)).run Tryd.prog w = .ok (.bool false) w := Lib.run_eql_slice_nil w _ _ (some a) n c 0 0 Tryd.underlying55
    go_enter Tryd.func33, Tryd.ntmps33
    go_wp2_with (at_builtin; go_must (refine Cel.wpList_rd kI _ w.heap.size K _ 0 [] hlit hb.size (some a) n c (ints l) hM ints_one (by omega) (by omega) rfl (.tmp 5) (.tmp 6) rfl rfl rfl ?_); intro v4 w4 ho4 hb4; obtain ⟨A4, c4, rfl, _⟩ := ho4.reads)
    go_ret
    rw [Nat.zero_add, List.nil_append] at ho4
    exact ⟨_, rfl, (by unfold OwnI; rw [HL.out]; exact ho4), hb.trans hb4⟩
set_option linter.unusedSimpArgs false in
set_option maxRecDepth 100000 in
set_option maxHeartbeats 4000000 in
theorem state_any (K : Nat) (r : Option Addr) (mo : Option Nat) (U : ByteArray → List Us) (nm : ByteArray) (w : World) (hA : AllOf w r mo) (hM : MapOf w K mo U) (hlen : (allL (U nm)).strongs.length ≤ 100000) :
    Calls Tryd.prog 20 #[.pointer r, .string nm] w (StP (allL (U nm)) w) := by
  have hbW := (Below.refl w.heap.size w).alloc (Nat.le_refl _) (.cells zS8 57)
  have hnW := heap_alloc_new w (.cells zS8 57)
  have hzW := World.size_alloc w (.cells zS8 57)
  unfold zS8 at hbW hnW hzW
  go_enter Tryd.func20, Tryd.ntmps20
  go_wp2_with fail
  generalize w.alloc (.cells #[.int .i64 0, .int .i64 0, .int .i64 0, .int .i64 0, .bool false, .bool false, .bool false, .slice none 0 0] 57) = W0 at *
  refine (kept_any K r mo U nm W0 (hA.below hbW) (hM.below hbW)).mono ?_
  rintro e w1 ⟨v, rfl, o1, hb1⟩
  generalize allL (U nm) = t at *
  obtain ⟨g, hg⟩ : ∃ g, w.heap.size = g := ⟨_, rfl⟩
  rw [hg] at hnW hzW
  rw [hg]
  have hg1 := (hb1.block g (by omega)).trans hnW
  have HB1 := hbW.trans (hb1.mono (Nat.le_trans (by omega) hbW.size))
  rw [hg] at HB1
  have hgu : g < w1.heap.size := by have := hb1.size; omega
  have hbX := (Below.refl w1.heap.size w1).alloc (Nat.le_refl _) (.cells zS8 57)
  have hnX := heap_alloc_new w1 (.cells zS8 57)
  unfold zS8 at hbX hnX
  have o2 := o1.below hbX
  have hg2 := (hbX.block g hgu).trans hg1
  have HB2 := HB1.trans (hbX.mono (Nat.le_of_lt hgu))
  obtain ⟨W2, hW2⟩ : ∃ W2, w1.alloc (.cells #[.int .i64 0, .int .i64 0, .int .i64 0, .int .i64 0, .bool false, .bool false, .bool false, .slice none 0 0] 57) = W2 := ⟨_, rfl⟩
  rw [hW2] at hnX o2 hg2 HB2
  obtain ⟨u, hu⟩ : ∃ u, w1.heap.size = u := ⟨_, rfl⟩
  rw [hu] at hnX hgu
  obtain ⟨A, n, c, rfl, _⟩ := id o1.pl
  have HO := row_one (s := t) (v := .slice A n c) rfl
  have hg3 := (setRow_other W2 u g (row t (.slice A n c)) (by omega)).trans hg2
  have hu3 := setRow_heap W2 u _ (row t (.slice A n c)) _ _ hnX
  have HB3 := below_setRow' HB2 (g := u) (by omega) (row t (.slice A n c))
  have o3 := o2.setRow hnX (row t (.slice A n c))
  have hlt3 : u < (W2.setRow u (row t (.slice A n c))).heap.size := (Array.getElem?_eq_some_iff.1 hu3).1
  have c7 := cell_of_row _ u 7 _ _ _ hu3
  have HX := hid hnX
  have Hg := hid hg
  clear hbX hg2 HB2 o2 o1 hb1 hg1 HB1 hA hM hnW hzW hbW hnX hg
  obtain ⟨t0, t1, t2, t3, t4, t5, t6, tl⟩ := t
  simp only [row, St.val] at *
  have Hgu := hid hgu
  have Hg3 := hid hg3
  have Hu3 := hid hu3
  clear hgu hg3 hu3
  go_wp2_with (refine stS rfl _ _ rfl u _ rfl rfl _ HX.out rfl rfl HO ?_)
  generalize W2.setRow u #[.int .i64 t0, .int .i64 t1, .int .i64 t2, .int .i64 t3, .bool t4, .bool t5, .bool t6, .slice A n c] = W3 at *
  refine (iclone_any W3.heap.size (.slice A n c) tl W3 o3.pl (Nat.le_refl _) hlen).mono ?_
  rintro e w4 ⟨v4, rfl, o4, hb4⟩
  have hle := hb4.size
  obtain ⟨A4, n4, c4, rfl, _⟩ := id o4.pl
  have hu4 := (hb4.block u hlt3).trans Hu3.out
  have hg4 := (hb4.block g (by have := Hgu.out; omega)).trans Hg3.out
  have f4 : ∀ o, w4.frozen? ⟨u, o, none⟩ = false := fun o => frozen_of_row w4 u o _ _ hu4
  have c74 := cell_of_row _ u 7 _ _ _ hu4
  have hu5 := heap_setCell_same w4 u 7 _ _ (.slice A4 n4 c4) hu4
  have hg5 := (heap_setCell_other w4 ⟨u, 7, none⟩ g (.slice A4 n4 c4) (by have := Hgu.out; show g ≠ u; omega)).trans hg4
  have HB4 := HB3.trans (hb4.mono (by have := Hgu.out; omega))
  have HB5 := HB4.setCell (p := ⟨u, 7, none⟩) (Nat.le_of_lt Hgu.out) (.slice A4 n4 c4)
  have o5 := o4.keep (w' := w4.setCell ⟨u, 7, none⟩ (.slice A4 n4 c4)) fun q hq _ => heap_setCell_other w4 ⟨u, 7, none⟩ q (.slice A4 n4 c4) (by show q ≠ u; omega)
  have HO5 := row_one (s := ⟨t0, t1, t2, t3, t4, t5, t6, tl⟩) (v := .slice A4 n4 c4) rfl
  simp only [row] at HO5
  have Hu5 := hid hu5
  have Hg5 := hid hg5
  have hgw : g ≤ W3.heap.size := by have := Hgu.out; omega
  clear HB4 hb4 o4 hu4 hg4 o3 hlt3 c7 hu5 hg5 hle Hu3 Hg3 HX HB3
  go_wp2_with (first | (refine ldS rfl _ rfl u rfl _ Hu5.out rfl ?_) | (refine stS rfl _ _ rfl g _ rfl rfl _ Hg5.out rfl rfl HO5 ?_))
  exact retS (g := g) rfl rfl rfl (setRow_heap _ _ _ _ _ _ Hg5.out) rfl ⟨_, rfl, (o5.setRow Hg5.out _).more (by rw [Hg.out]; exact hgw), (below_setRow' HB5 (Nat.le_refl _) _).mono (Nat.le_of_eq Hg.out)⟩
end Go.Proofs.YtbcjbembhajgcaaDoor.Tab
