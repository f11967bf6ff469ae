/-
  objsym: reading a symbol.
-/
import Derived.Test.YtkacndinjomifaaOf
namespace Go.Proofs.Ytkacndinjomifaa.Obj
open Go.RowKit Go.Proofs Go.Proofs.Ytkacndinjomifaa.Byt
open Go.Proofs.Ytkacndinjomifaa.Sls (Oth)

theorem Rdr.below {w w' : World} {R K : Nat} {l : List UInt8} (h : Rdr w R K l) (hb : Below w.heap.size w w') (hK : K ≤ w.heap.size) : Rdr w' R K l := by
  obtain ⟨b, o, m, c, hrow, hr, hm, hc⟩ := h
  exact ⟨b, o, m, c, (hb.block R (Array.getElem?_eq_some_iff.1 hrow).1).trans hrow, hr.below (hb.mono hK), hm, hc⟩
theorem Rdr.set {w : World} {R K g : Nat} {l : List UInt8} (h : Rdr w R K l) (hne : R ≠ g) (hg : K ≤ g) (i : Nat) (v : Value) : Rdr (w.setCell ⟨g, i, none⟩ v) R K l := by
  obtain ⟨b, o, m, c, hrow, hr, hm, hc⟩ := h
  exact ⟨b, o, m, c, (Below.heap_setCell w ⟨g, i, none⟩ v R hne).trans hrow, hr.below ((Below.refl K w).setCell (p := ⟨g, i, none⟩) hg v), hm, hc⟩
theorem Rdr.lt {w : World} {R K : Nat} {l : List UInt8} (h : Rdr w R K l) : R < w.heap.size := by
  obtain ⟨b, o, m, c, hrow, _⟩ := h
  exact (Array.getElem?_eq_some_iff.1 hrow).1
theorem grown_set {w W : World} {R g : Nat} (h : w.grownBy W (some R)) (hg : w.heap.size ≤ g) (i : Nat) (v : Value) : w.grownBy (W.setCell ⟨g, i, none⟩ v) (some R) :=
  ⟨h.os, h.tape, h.output, by have := h.size; simpa using this, fun k hk hne => (Below.heap_setCell W ⟨g, i, none⟩ v k (by show k ≠ g; omega)).trans (h.block k hk hne)⟩
theorem grown_of {w w' : World} {R : Nat} (h : Below w.heap.size w w') : w.grownBy w' (some R) := ⟨h.os, h.tape, h.output, h.size, fun k hk _ => h.block k hk⟩

/-- What readSym gives. -/
def ReadsSym (R K : Nat) (l : List UInt8) (w : World) (e : Ending) (w' : World) : Prop :=
  w.grownBy w' (some R) ∧ ((cutS l ∧ e = fails 2) ∨ (¬ cutS l ∧ e = .returned (rdS l).val ∧ Rdr w' R K (l.drop (10 + kS l))))

set_option maxRecDepth 100000 in
set_option maxHeartbeats 4000000 in
theorem readSym_any (w : World) (R K : Nat) (l : List UInt8) (h : Rdr w R K l) (hKR : K ≤ R) :
    Calls Try.prog 32 #[.pointer (some ⟨R, 0, none⟩)] w (ReadsSym R K l w) := by
  have hRw := h.lt
  have hb0 := ((Below.refl w.heap.size w).alloc (Nat.le_refl _) (.cells #[.string ⟨#[]⟩, .int .i64 0, .int .i64 0, .int .i64 0] 38)).alloc (by simp) (.cells #[.string ⟨#[]⟩, .int .i64 0, .int .i64 0, .int .i64 0] 38)
  have hN := (Below.heap_alloc (w.alloc (.cells #[.string ⟨#[]⟩, .int .i64 0, .int .i64 0, .int .i64 0] 38)) (.cells #[.string ⟨#[]⟩, .int .i64 0, .int .i64 0, .int .i64 0] 38) w.heap.size (by simp)).trans (heap_alloc_new w _)
  have hM := heap_alloc_new (w.alloc (.cells #[.string ⟨#[]⟩, .int .i64 0, .int .i64 0, .int .i64 0] 38)) (.cells #[.string ⟨#[]⟩, .int .i64 0, .int .i64 0, .int .i64 0] 38)
  rw [World.size_alloc] at hM
  have hR1 := h.below hb0 (by omega)
  have hG1 := grown_of (R := R) hb0
  go_enter Try.func32, Try.ntmps32
  go_wp2_with fail
  generalize (w.alloc (.cells #[.string ⟨#[]⟩, .int .i64 0, .int .i64 0, .int .i64 0] 38)).alloc (.cells #[.string ⟨#[]⟩, .int .i64 0, .int .i64 0, .int .i64 0] 38) = w0 at *
  clear hb0 h
  by_cases h1 : l.length < 1
  · refine (readByte_fail w0 R K l hR1 (by omega)).mono ?_
    rintro e w1 ⟨rfl, rfl⟩
    exact ⟨rfl, hG1, .inl ⟨by unfold cutS; omega, rfl⟩⟩
  refine (readByte_ok w0 R K l hR1 hKR (by omega)).mono ?_
  rintro e w1 ⟨rfl, hRa, hga⟩
  rw [show l.drop 1 = l.drop 1 from rfl] at hRa
  obtain ⟨v1, hv⟩ : ∃ v : Nat, v = (l.getD 0 0).toNat := ⟨_, rfl⟩
  rw [← hv]
  have Hv1 := hid hv
  have hGa := hG1.trans hga
  have hNa := (hga.block w.heap.size (Array.getElem?_eq_some_iff.1 hN).1 (fun e => by injection e with e; omega)).trans hN
  have hMa := (hga.block (w.heap.size + 1) (Array.getElem?_eq_some_iff.1 hM).1 (fun e => by injection e with e; omega)).trans hM
  clear hN hM hga hG1 hR1 hv
  have hM := heap_setCell_same w1 (w.heap.size + 1) 1 _ _ (.int .i64 (v1 : Int)) hMa
  have hN := (Below.heap_setCell w1 ⟨w.heap.size + 1, 1, none⟩ (.int .i64 (v1 : Int)) w.heap.size (by show w.heap.size ≠ w.heap.size + 1; omega)).trans hNa
  have hR2 := hRa.set (g := w.heap.size + 1) (by omega) (by omega) 1 (.int .i64 (v1 : Int))
  have hG2 := grown_set hGa (g := w.heap.size + 1) (by omega) 1 (.int .i64 (v1 : Int))
  have qa := cell_of_row w1 (w.heap.size + 1) 1 _ _ _ hMa
  have fa := fun o => frozen_of_row w1 (w.heap.size + 1) o _ _ hMa
  clear hRa hGa hNa hMa
  go_wp2_with fail
  generalize w1.setCell ⟨w.heap.size + 1, 1, none⟩ (.int .i64 (v1 : Int)) = W2 at *
  clear qa fa
  by_cases h2 : l.length < 5
  · refine (readNumber_fail W2 R K (l.drop 1) hR2 (by rw [List.length_drop]; omega)).mono ?_
    rintro e w1 ⟨rfl, rfl⟩
    exact ⟨rfl, hG2, .inl ⟨by unfold cutS; omega, rfl⟩⟩
  refine (readNumber_ok W2 R K (l.drop 1) hR2 hKR (by rw [List.length_drop]; omega)).mono ?_
  rintro e w2 ⟨rfl, hRa, hga⟩
  rw [List.drop_drop] at hRa
  obtain ⟨v2, hv⟩ : ∃ v : Nat, v = n4 (l.drop 1) := ⟨_, rfl⟩
  rw [← hv]
  have Hv2 := hid hv
  have hGa := hG2.trans hga
  have hNa := (hga.block w.heap.size (Array.getElem?_eq_some_iff.1 hN).1 (fun e => by injection e with e; omega)).trans hN
  have hMa := (hga.block (w.heap.size + 1) (Array.getElem?_eq_some_iff.1 hM).1 (fun e => by injection e with e; omega)).trans hM
  clear hN hM hga hG2 hR2 hv
  have hM := heap_setCell_same w2 (w.heap.size + 1) 2 _ _ (.int .i64 (v2 : Int)) hMa
  have hN := (Below.heap_setCell w2 ⟨w.heap.size + 1, 2, none⟩ (.int .i64 (v2 : Int)) w.heap.size (by show w.heap.size ≠ w.heap.size + 1; omega)).trans hNa
  have hR3 := hRa.set (g := w.heap.size + 1) (by omega) (by omega) 2 (.int .i64 (v2 : Int))
  have hG3 := grown_set hGa (g := w.heap.size + 1) (by omega) 2 (.int .i64 (v2 : Int))
  have qa := cell_of_row w2 (w.heap.size + 1) 2 _ _ _ hMa
  have fa := fun o => frozen_of_row w2 (w.heap.size + 1) o _ _ hMa
  clear hRa hGa hNa hMa
  go_wp2_with fail
  generalize w2.setCell ⟨w.heap.size + 1, 2, none⟩ (.int .i64 (v2 : Int)) = W3 at *
  clear qa fa
  by_cases h3 : l.length < 9
  · refine (readNumber_fail W3 R K (l.drop (1 + 4)) hR3 (by rw [List.length_drop]; omega)).mono ?_
    rintro e w1 ⟨rfl, rfl⟩
    exact ⟨rfl, hG3, .inl ⟨by unfold cutS; omega, rfl⟩⟩
  refine (readNumber_ok W3 R K (l.drop (1 + 4)) hR3 hKR (by rw [List.length_drop]; omega)).mono ?_
  rintro e w3 ⟨rfl, hRa, hga⟩
  rw [List.drop_drop] at hRa
  obtain ⟨v3, hv⟩ : ∃ v : Nat, v = n4 (l.drop (1 + 4)) := ⟨_, rfl⟩
  rw [← hv]
  have Hv3 := hid hv
  have hGa := hG3.trans hga
  have hNa := (hga.block w.heap.size (Array.getElem?_eq_some_iff.1 hN).1 (fun e => by injection e with e; omega)).trans hN
  have hMa := (hga.block (w.heap.size + 1) (Array.getElem?_eq_some_iff.1 hM).1 (fun e => by injection e with e; omega)).trans hM
  clear hN hM hga hG3 hR3 hv
  have hM := heap_setCell_same w3 (w.heap.size + 1) 3 _ _ (.int .i64 (v3 : Int)) hMa
  have hN := (Below.heap_setCell w3 ⟨w.heap.size + 1, 3, none⟩ (.int .i64 (v3 : Int)) w.heap.size (by show w.heap.size ≠ w.heap.size + 1; omega)).trans hNa
  have hR4 := hRa.set (g := w.heap.size + 1) (by omega) (by omega) 3 (.int .i64 (v3 : Int))
  have hG4 := grown_set hGa (g := w.heap.size + 1) (by omega) 3 (.int .i64 (v3 : Int))
  have qa := cell_of_row w3 (w.heap.size + 1) 3 _ _ _ hMa
  have fa := fun o => frozen_of_row w3 (w.heap.size + 1) o _ _ hMa
  clear hRa hGa hNa hMa
  go_wp2_with fail
  generalize w3.setCell ⟨w.heap.size + 1, 3, none⟩ (.int .i64 (v3 : Int)) = W4 at *
  clear qa fa
  by_cases h4 : l.length < 10
  · refine (readByte_fail W4 R K (l.drop (1 + 4 + 4)) hR4 (by rw [List.length_drop]; omega)).mono ?_
    rintro e w1 ⟨rfl, rfl⟩
    exact ⟨rfl, hG4, .inl ⟨by unfold cutS; omega, rfl⟩⟩
  refine (readByte_ok W4 R K (l.drop (1 + 4 + 4)) hR4 hKR (by rw [List.length_drop]; omega)).mono ?_
  rintro e w4 ⟨rfl, hRa, hga⟩
  rw [List.drop_drop] at hRa
  obtain ⟨v4, hv⟩ : ∃ v : Nat, v = ((l.drop (1 + 4 + 4)).getD 0 0).toNat := ⟨_, rfl⟩
  rw [← hv]
  have Hv4 := hid hv
  have hGa := hG4.trans hga
  have hNa := (hga.block w.heap.size (Array.getElem?_eq_some_iff.1 hN).1 (fun e => by injection e with e; omega)).trans hN
  have hMa := (hga.block (w.heap.size + 1) (Array.getElem?_eq_some_iff.1 hM).1 (fun e => by injection e with e; omega)).trans hM
  clear hN hM hga hG4 hR4 hv
  have hk : kS l = v4 := by
    rw [Hv4.out]
    unfold kS
    rw [List.getD_eq_getElem?_getD, List.getD_eq_getElem?_getD, List.getElem?_drop]
  have Hk := hid hk
  have hM := hMa
  have hN := hNa
  have hR5 := hRa
  have hG5 := hGa
  clear hRa hGa hNa hMa hk
  go_wp2_with fail
  by_cases h5 : l.length < 10 + v4
  · refine (take_fail w4 R K (l.drop (1 + 4 + 4 + 1)) hR5 v4 (by rw [List.length_drop]; omega)).mono ?_
    rintro e w1 ⟨rfl, rfl⟩
    exact ⟨rfl, hG5, .inl ⟨by unfold cutS; rw [Hk.out]; omega, rfl⟩⟩
  refine (take_ok w4 R K (l.drop (1 + 4 + 4 + 1)) hR5 hKR v4 (by rw [List.length_drop]; omega)).mono ?_
  rintro e w5 ⟨b, o, c, rfl, hrd, hvc, hRa, hga⟩
  have hGa := hG5.trans hga
  have hNa := (hga.block w.heap.size (Array.getElem?_eq_some_iff.1 hN).1 (fun e => by injection e with e; omega)).trans hN
  have hMa := (hga.block (w.heap.size + 1) (Array.getElem?_eq_some_iff.1 hM).1 (fun e => by injection e with e; omega)).trans hM
  clear hN hM hga hG5 hR5
  have e10 : 1 + 4 + 4 + 1 = 10 := rfl
  rw [e10] at hrd hRa
  rw [List.drop_drop] at hRa
  obtain ⟨ls, hls⟩ : ∃ ls, ls = (l.drop 10).take v4 := ⟨_, rfl⟩
  rw [← hls] at hrd
  have hx : rdS l = ⟨⟨ls.toArray⟩, (v1 : Int), (v2 : Int), (v3 : Int)⟩ := by
    unfold rdS
    rw [Hk.out, Hv1.out, Hv2.out, Hv3.out, hls]
    rfl
  have Hx := hid hx
  have hN6 := (Below.heap_setCell w5 ⟨w.heap.size + 1, 0, none⟩ (.string ⟨ls.toArray⟩) w.heap.size (by show w.heap.size ≠ w.heap.size + 1; omega)).trans hNa
  have hM6 := heap_setCell_same w5 (w.heap.size + 1) 0 _ _ (.string ⟨ls.toArray⟩) hMa
  have hl := load4 _ _ _ (put4_row hN6 (.string ⟨ls.toArray⟩) (.int .i64 (v1 : Int)) (.int .i64 (v2 : Int)) (.int .i64 (v3 : Int))) rfl
  have hRz := ((((hRa.set (g := w.heap.size + 1) (by omega) (by omega) 0 (.string ⟨ls.toArray⟩)).set (g := w.heap.size) (by omega) (by omega) 0 (.string ⟨ls.toArray⟩)).set (g := w.heap.size) (by omega) (by omega) 1 (.int .i64 (v1 : Int))).set (g := w.heap.size) (by omega) (by omega) 2 (.int .i64 (v2 : Int))).set (g := w.heap.size) (by omega) (by omega) 3 (.int .i64 (v3 : Int))
  have hGz := grown_set (grown_set (grown_set (grown_set (grown_set hGa (g := w.heap.size + 1) (by omega) 0 (.string ⟨ls.toArray⟩)) (g := w.heap.size) (by omega) 0 (.string ⟨ls.toArray⟩)) (g := w.heap.size) (by omega) 1 (.int .i64 (v1 : Int))) (g := w.heap.size) (by omega) 2 (.int .i64 (v2 : Int))) (g := w.heap.size) (by omega) 3 (.int .i64 (v3 : Int))
  have m0 := cell_of_row w5 (w.heap.size + 1) 0 _ _ _ hMa
  have mf := fun o => frozen_of_row w5 (w.heap.size + 1) o _ _ hMa
  have Hrd := hid hrd
  have g0 := cell_of_row _ w.heap.size 0 _ _ _ hN6
  have g1 := cell_of_row _ w.heap.size 1 _ _ _ hN6
  have g2 := cell_of_row _ w.heap.size 2 _ _ _ hN6
  have g3 := cell_of_row _ w.heap.size 3 _ _ _ hN6
  have gf := fun o => frozen_of_row _ w.heap.size o _ _ hN6
  have k0 := cell_of_row _ (w.heap.size + 1) 0 _ _ _ hM6
  have k1 := cell_of_row _ (w.heap.size + 1) 1 _ _ _ hM6
  have k2 := cell_of_row _ (w.heap.size + 1) 2 _ _ _ hM6
  have k3 := cell_of_row _ (w.heap.size + 1) 3 _ _ _ hM6
  have Hz := hid (And.intro hRz hGz)
  unfold put4 at hl
  clear hrd hls hx hRa hGa hNa hMa hN6 hM6 hRz hGz
  go_wp2_with (first | (refine wpList_str _ _ _ _ _ _ Hrd.out rfl (.tmp 16) rfl rfl ?_))
  refine bodyPost_ret (v := .agg #[.string ⟨ls.toArray⟩, .int .i64 (v1 : Int), .int .i64 (v2 : Int), .int .i64 (v3 : Int)]) (by simp [results, Try.results32, asAddr, hl]) rfl ⟨Hz.out.2, .inr ⟨by unfold cutS; rw [Hk.out]; omega, by rw [Hx.out]; rfl, by rw [Hk.out]; exact Hz.out.1⟩⟩
end Go.Proofs.Ytkacndinjomifaa.Obj
