/-
  objsym: reading a symbol.
  objsym: the magic number, the symbols; Decode.
  objsym: Decode.
  objsym's reference: powers, symbols, lists of symbols, numbers.
-/
import Derived.Test.YtjobmkodgodloaaGreatDoorYOb
namespace Go.Proofs.YtjobmkodgodloaaGreatDoor.Obj
open Go.RowKit Go.Proofs Go.Proofs.YtjobmkodgodloaaGreatDoor.Byt
open Go.Proofs.YtjobmkodgodloaaGreatDoor.Sls (Oth)

theorem Rdr.below {w w' : World} {R K : Nat} {l : List UInt8} (h : Rdr w R K l) (hb : Below w.heap.size w w') (hK : K ≤ w.heap.size) : Rdr w' R K l := by
 obtain ⟨b, o, m, c, hrow, hr, hm, hc⟩ := h
 exact ⟨b, o, m, c, (hb.block R (Array.getElem?_eq_some_iff.1 hrow).1).trans hrow, hr.below (hb.mono hK), hm, hc⟩
theorem Rdr.set {w : World} {R K g : Nat} {l : List UInt8} (h : Rdr w R K l) (hne : R ≠ g) (hg : K ≤ g) (i : Nat) (v : Value) : Rdr (w.setCell ⟨g, i, none⟩ v) R K l := by
 obtain ⟨b, o, m, c, hrow, hr, hm, hc⟩ := h
 exact ⟨b, o, m, c, (Below.heap_setCell w ⟨g, i, none⟩ v R hne).trans hrow, hr.below ((Below.refl K w).setCell (p := ⟨g, i, none⟩) hg v), hm, hc⟩
theorem Rdr.lt {w : World} {R K : Nat} {l : List UInt8} (h : Rdr w R K l) : R < w.heap.size := by
 obtain ⟨b, o, m, c, hrow, _⟩ := h
 exact (Array.getElem?_eq_some_iff.1 hrow).1
theorem grown_set {w W : World} {R g : Nat} (h : w.grownBy W (some R)) (hg : w.heap.size ≤ g) (i : Nat) (v : Value) : w.grownBy (W.setCell ⟨g, i, none⟩ v) (some R) :=
 ⟨h.os, h.tape, h.output, by have := h.size; simpa using this, fun k hk hne => (Below.heap_setCell W ⟨g, i, none⟩ v k (by show k ≠ g; omega)).trans (h.block k hk hne)⟩
theorem grown_of {w w' : World} {R : Nat} (h : Below w.heap.size w w') : w.grownBy w' (some R) := ⟨h.os, h.tape, h.output, h.size, fun k hk _ => h.block k hk⟩

def ReadsSym (R K : Nat) (l : List UInt8) (w : World) (e : Ending) (w' : World) : Prop :=
 w.grownBy w' (some R) ∧ ((cutS l ∧ e = fails 2) ∨ (¬ cutS l ∧ e = .returned (rdS l).val ∧ Rdr w' R K (l.drop (10 + kS l))))

set_option maxRecDepth 100000 in
set_option maxHeartbeats 4000000 in
theorem readSym_any (w : World) (R K : Nat) (l : List UInt8) (h : Rdr w R K l) (hKR : K ≤ R) :
   Calls Tryz.prog 130 #[.pointer (some ⟨R, 0, none⟩)] w (ReadsSym R K l w) := by
 have hRw := h.lt
 have hb0 := ((Below.refl w.heap.size w).alloc (Nat.le_refl _) (.cells #[.string ⟨#[]⟩, .int .i64 0, .int .i64 0, .int .i64 0] 69)).alloc (by simp) (.cells #[.string ⟨#[]⟩, .int .i64 0, .int .i64 0, .int .i64 0] 69)
 have hN := (Below.heap_alloc (w.alloc (.cells #[.string ⟨#[]⟩, .int .i64 0, .int .i64 0, .int .i64 0] 69)) (.cells #[.string ⟨#[]⟩, .int .i64 0, .int .i64 0, .int .i64 0] 69) w.heap.size (by simp)).trans (heap_alloc_new w _)
 have hM := heap_alloc_new (w.alloc (.cells #[.string ⟨#[]⟩, .int .i64 0, .int .i64 0, .int .i64 0] 69)) (.cells #[.string ⟨#[]⟩, .int .i64 0, .int .i64 0, .int .i64 0] 69)
 rw [World.size_alloc] at hM
 have hR1 := h.below hb0 (by omega)
 have hG1 := grown_of (R := R) hb0
 go_enter Tryz.func130, Tryz.ntmps130
 go_wp2_with fail
 generalize (w.alloc (.cells #[.string ⟨#[]⟩, .int .i64 0, .int .i64 0, .int .i64 0] 69)).alloc (.cells #[.string ⟨#[]⟩, .int .i64 0, .int .i64 0, .int .i64 0] 69) = w0 at *
 clear hb0 h
 by_cases h1 : l.length < 1
 · refine (readByte_fail w0 R K l hR1 (by omega)).mono ?_
   rintro e w1 ⟨rfl, rfl⟩
   exact ⟨rfl, hG1, .inl ⟨by unfold cutS; omega, rfl⟩⟩
 refine (readByte_ok w0 R K l hR1 hKR (by omega)).mono ?_
 rintro e w1 ⟨rfl, hRa, hga⟩
 rw [show l.drop 1 = l.drop 1 from rfl] at hRa
 obtain ⟨v1, hv⟩ : ∃ v : Nat, v = (l.getD 0 0).toNat := ⟨_, rfl⟩
 rw [← hv]
 have Hv1 := hid hv
 have hGa := hG1.trans hga
 have hNa := (hga.block w.heap.size (Array.getElem?_eq_some_iff.1 hN).1 (fun e => by injection e with e; omega)).trans hN
 have hMa := (hga.block (w.heap.size + 1) (Array.getElem?_eq_some_iff.1 hM).1 (fun e => by injection e with e; omega)).trans hM
 clear hN hM hga hG1 hR1 hv
 have hM := heap_setCell_same w1 (w.heap.size + 1) 1 _ _ (.int .i64 (v1 : Int)) hMa
 have hN := (Below.heap_setCell w1 ⟨w.heap.size + 1, 1, none⟩ (.int .i64 (v1 : Int)) w.heap.size (by show w.heap.size ≠ w.heap.size + 1; omega)).trans hNa
 have hR2 := hRa.set (g := w.heap.size + 1) (by omega) (by omega) 1 (.int .i64 (v1 : Int))
 have hG2 := grown_set hGa (g := w.heap.size + 1) (by omega) 1 (.int .i64 (v1 : Int))
 have qa := cell_of_row w1 (w.heap.size + 1) 1 _ _ _ hMa
 have fa := fun o => frozen_of_row w1 (w.heap.size + 1) o _ _ hMa
 clear hRa hGa hNa hMa
 go_wp2_with fail
 generalize w1.setCell ⟨w.heap.size + 1, 1, none⟩ (.int .i64 (v1 : Int)) = W2 at *
 clear qa fa
 by_cases h2 : l.length < 5
 · refine (readNumber_fail W2 R K (l.drop 1) hR2 (by rw [List.length_drop]; omega)).mono ?_
   rintro e w1 ⟨rfl, rfl⟩
   exact ⟨rfl, hG2, .inl ⟨by unfold cutS; omega, rfl⟩⟩
 refine (readNumber_ok W2 R K (l.drop 1) hR2 hKR (by rw [List.length_drop]; omega)).mono ?_
 rintro e w2 ⟨rfl, hRa, hga⟩
 rw [List.drop_drop] at hRa
 obtain ⟨v2, hv⟩ : ∃ v : Nat, v = n4 (l.drop 1) := ⟨_, rfl⟩
 rw [← hv]
 have Hv2 := hid hv
 have hGa := hG2.trans hga
 have hNa := (hga.block w.heap.size (Array.getElem?_eq_some_iff.1 hN).1 (fun e => by injection e with e; omega)).trans hN
 have hMa := (hga.block (w.heap.size + 1) (Array.getElem?_eq_some_iff.1 hM).1 (fun e => by injection e with e; omega)).trans hM
 clear hN hM hga hG2 hR2 hv
 have hM := heap_setCell_same w2 (w.heap.size + 1) 2 _ _ (.int .i64 (v2 : Int)) hMa
 have hN := (Below.heap_setCell w2 ⟨w.heap.size + 1, 2, none⟩ (.int .i64 (v2 : Int)) w.heap.size (by show w.heap.size ≠ w.heap.size + 1; omega)).trans hNa
 have hR3 := hRa.set (g := w.heap.size + 1) (by omega) (by omega) 2 (.int .i64 (v2 : Int))
 have hG3 := grown_set hGa (g := w.heap.size + 1) (by omega) 2 (.int .i64 (v2 : Int))
 have qa := cell_of_row w2 (w.heap.size + 1) 2 _ _ _ hMa
 have fa := fun o => frozen_of_row w2 (w.heap.size + 1) o _ _ hMa
 clear hRa hGa hNa hMa
 go_wp2_with fail
 generalize w2.setCell ⟨w.heap.size + 1, 2, none⟩ (.int .i64 (v2 : Int)) = W3 at *
 clear qa fa
 by_cases h3 : l.length < 9
 · refine (readNumber_fail W3 R K (l.drop (1 + 4)) hR3 (by rw [List.length_drop]; omega)).mono ?_
   rintro e w1 ⟨rfl, rfl⟩
   exact ⟨rfl, hG3, .inl ⟨by unfold cutS; omega, rfl⟩⟩
 refine (readNumber_ok W3 R K (l.drop (1 + 4)) hR3 hKR (by rw [List.length_drop]; omega)).mono ?_
 rintro e w3 ⟨rfl, hRa, hga⟩
 rw [List.drop_drop] at hRa
 obtain ⟨v3, hv⟩ : ∃ v : Nat, v = n4 (l.drop (1 + 4)) := ⟨_, rfl⟩
 rw [← hv]
 have Hv3 := hid hv
 have hGa := hG3.trans hga
 have hNa := (hga.block w.heap.size (Array.getElem?_eq_some_iff.1 hN).1 (fun e => by injection e with e; omega)).trans hN
 have hMa := (hga.block (w.heap.size + 1) (Array.getElem?_eq_some_iff.1 hM).1 (fun e => by injection e with e; omega)).trans hM
 clear hN hM hga hG3 hR3 hv
 have hM := heap_setCell_same w3 (w.heap.size + 1) 3 _ _ (.int .i64 (v3 : Int)) hMa
 have hN := (Below.heap_setCell w3 ⟨w.heap.size + 1, 3, none⟩ (.int .i64 (v3 : Int)) w.heap.size (by show w.heap.size ≠ w.heap.size + 1; omega)).trans hNa
 have hR4 := hRa.set (g := w.heap.size + 1) (by omega) (by omega) 3 (.int .i64 (v3 : Int))
 have hG4 := grown_set hGa (g := w.heap.size + 1) (by omega) 3 (.int .i64 (v3 : Int))
 have qa := cell_of_row w3 (w.heap.size + 1) 3 _ _ _ hMa
 have fa := fun o => frozen_of_row w3 (w.heap.size + 1) o _ _ hMa
 clear hRa hGa hNa hMa
 go_wp2_with fail
 generalize w3.setCell ⟨w.heap.size + 1, 3, none⟩ (.int .i64 (v3 : Int)) = W4 at *
 clear qa fa
 by_cases h4 : l.length < 10
 · refine (readByte_fail W4 R K (l.drop (1 + 4 + 4)) hR4 (by rw [List.length_drop]; omega)).mono ?_
   rintro e w1 ⟨rfl, rfl⟩
   exact ⟨rfl, hG4, .inl ⟨by unfold cutS; omega, rfl⟩⟩
 refine (readByte_ok W4 R K (l.drop (1 + 4 + 4)) hR4 hKR (by rw [List.length_drop]; omega)).mono ?_
 rintro e w4 ⟨rfl, hRa, hga⟩
 rw [List.drop_drop] at hRa
 obtain ⟨v4, hv⟩ : ∃ v : Nat, v = ((l.drop (1 + 4 + 4)).getD 0 0).toNat := ⟨_, rfl⟩
 rw [← hv]
 have Hv4 := hid hv
 have hGa := hG4.trans hga
 have hNa := (hga.block w.heap.size (Array.getElem?_eq_some_iff.1 hN).1 (fun e => by injection e with e; omega)).trans hN
 have hMa := (hga.block (w.heap.size + 1) (Array.getElem?_eq_some_iff.1 hM).1 (fun e => by injection e with e; omega)).trans hM
 clear hN hM hga hG4 hR4 hv
 have hk : kS l = v4 := by
   rw [Hv4.out]
   unfold kS
   rw [List.getD_eq_getElem?_getD, List.getD_eq_getElem?_getD, List.getElem?_drop]
 have Hk := hid hk
 have hM := hMa
 have hN := hNa
 have hR5 := hRa
 have hG5 := hGa
 clear hRa hGa hNa hMa hk
 go_wp2_with fail
 by_cases h5 : l.length < 10 + v4
 · refine (take_fail w4 R K (l.drop (1 + 4 + 4 + 1)) hR5 v4 (by rw [List.length_drop]; omega)).mono ?_
   rintro e w1 ⟨rfl, rfl⟩
   exact ⟨rfl, hG5, .inl ⟨by unfold cutS; rw [Hk.out]; omega, rfl⟩⟩
 refine (take_ok w4 R K (l.drop (1 + 4 + 4 + 1)) hR5 hKR v4 (by rw [List.length_drop]; omega)).mono ?_
 rintro e w5 ⟨b, o, c, rfl, hrd, hvc, hRa, hga⟩
 have hGa := hG5.trans hga
 have hNa := (hga.block w.heap.size (Array.getElem?_eq_some_iff.1 hN).1 (fun e => by injection e with e; omega)).trans hN
 have hMa := (hga.block (w.heap.size + 1) (Array.getElem?_eq_some_iff.1 hM).1 (fun e => by injection e with e; omega)).trans hM
 clear hN hM hga hG5 hR5
 have e10 : 1 + 4 + 4 + 1 = 10 := rfl
 rw [e10] at hrd hRa
 rw [List.drop_drop] at hRa
 obtain ⟨ls, hls⟩ : ∃ ls, ls = (l.drop 10).take v4 := ⟨_, rfl⟩
 rw [← hls] at hrd
 have hx : rdS l = ⟨⟨ls.toArray⟩, (v1 : Int), (v2 : Int), (v3 : Int)⟩ := by
   unfold rdS
   rw [Hk.out, Hv1.out, Hv2.out, Hv3.out, hls]
   rfl
 have Hx := hid hx
 have hN6 := (Below.heap_setCell w5 ⟨w.heap.size + 1, 0, none⟩ (.string ⟨ls.toArray⟩) w.heap.size (by show w.heap.size ≠ w.heap.size + 1; omega)).trans hNa
 have hM6 := heap_setCell_same w5 (w.heap.size + 1) 0 _ _ (.string ⟨ls.toArray⟩) hMa
 have hl := load4 _ _ _ (put4_row hN6 (.string ⟨ls.toArray⟩) (.int .i64 (v1 : Int)) (.int .i64 (v2 : Int)) (.int .i64 (v3 : Int))) rfl
 have hRz := ((((hRa.set (g := w.heap.size + 1) (by omega) (by omega) 0 (.string ⟨ls.toArray⟩)).set (g := w.heap.size) (by omega) (by omega) 0 (.string ⟨ls.toArray⟩)).set (g := w.heap.size) (by omega) (by omega) 1 (.int .i64 (v1 : Int))).set (g := w.heap.size) (by omega) (by omega) 2 (.int .i64 (v2 : Int))).set (g := w.heap.size) (by omega) (by omega) 3 (.int .i64 (v3 : Int))
 have hGz := grown_set (grown_set (grown_set (grown_set (grown_set hGa (g := w.heap.size + 1) (by omega) 0 (.string ⟨ls.toArray⟩)) (g := w.heap.size) (by omega) 0 (.string ⟨ls.toArray⟩)) (g := w.heap.size) (by omega) 1 (.int .i64 (v1 : Int))) (g := w.heap.size) (by omega) 2 (.int .i64 (v2 : Int))) (g := w.heap.size) (by omega) 3 (.int .i64 (v3 : Int))
 have m0 := cell_of_row w5 (w.heap.size + 1) 0 _ _ _ hMa
 have mf := fun o => frozen_of_row w5 (w.heap.size + 1) o _ _ hMa
 have Hrd := hid hrd
 have g0 := cell_of_row _ w.heap.size 0 _ _ _ hN6
 have g1 := cell_of_row _ w.heap.size 1 _ _ _ hN6
 have g2 := cell_of_row _ w.heap.size 2 _ _ _ hN6
 have g3 := cell_of_row _ w.heap.size 3 _ _ _ hN6
 have gf := fun o => frozen_of_row _ w.heap.size o _ _ hN6
 have k0 := cell_of_row _ (w.heap.size + 1) 0 _ _ _ hM6
 have k1 := cell_of_row _ (w.heap.size + 1) 1 _ _ _ hM6
 have k2 := cell_of_row _ (w.heap.size + 1) 2 _ _ _ hM6
 have k3 := cell_of_row _ (w.heap.size + 1) 3 _ _ _ hM6
 have Hz := hid (And.intro hRz hGz)
 unfold put4 at hl
 clear hrd hls hx hRa hGa hNa hMa hN6 hM6 hRz hGz
 go_wp2_with (first | (refine wpList_str _ _ _ _ _ _ Hrd.out rfl (.tmp 16) rfl rfl ?_))
 refine bodyPost_ret (v := .agg #[.string ⟨ls.toArray⟩, .int .i64 (v1 : Int), .int .i64 (v2 : Int), .int .i64 (v3 : Int)]) (by simp [results, Tryz.results130, asAddr, hl]) rfl ⟨Hz.out.2, .inr ⟨by unfold cutS; rw [Hk.out]; omega, by rw [Hx.out]; rfl, by rw [Hk.out]; exact Hz.out.1⟩⟩
end Go.Proofs.YtjobmkodgodloaaGreatDoor.Obj

namespace Go.Proofs.YtjobmkodgodloaaGreatDoor.Obj
open Go.RowKit Go.Proofs Go.Proofs.YtjobmkodgodloaaGreatDoor.Byt
open Go.Proofs.YtjobmkodgodloaaGreatDoor.Sls (Oth)

theorem Rdr.keep {w w' : World} {R K M : Nat} {l : List UInt8} (h : Rdr w R K l) (hb : Below M w w') (hR : R < M) (hK : K ≤ M) : Rdr w' R K l := by
 obtain ⟨b, o, m, c, hrow, hr, hm, hc⟩ := h
 exact ⟨b, o, m, c, (hb.block R hR).trans hrow, hr.below (hb.mono hK), hm, hc⟩
theorem Rdr.grown {w w' : World} {R K q : Nat} {l : List UInt8} (h : Rdr w R K l) (hg : w.grownBy w' (some q)) (hq : R ≠ q) (hK : K ≤ q) (hw : K ≤ w.heap.size) : Rdr w' R K l := by
 obtain ⟨b, o, m, c, hrow, hr, hm, hc⟩ := h
 exact ⟨b, o, m, c, (hg.block R (Array.getElem?_eq_some_iff.1 hrow).1 (fun e => by injection e with e; exact hq e)).trans hrow, hr.below ((Below.refl K w).grown hg hw fun k hk => by injection hk with hk; omega), hm, hc⟩
theorem Nms.block {w : World} {b n : Nat} {xs : List Sy} (h : Nms w b n xs) : ∃ es clock, w.heap[b]? = some (.map es clock) := by
 obtain ⟨D, ⟨es, clock, hb, _⟩, _⟩ := h
 exact ⟨es, clock, hb⟩
theorem Nms.same {w w' : World} {b n : Nat} {xs : List Sy} (h : Nms w b n xs) (hs : w'.heap[b]? = w.heap[b]?) : Nms w' b n xs := by
 obtain ⟨D, ⟨es, clock, hb, r⟩, h2⟩ := h
 exact ⟨D, ⟨es, clock, hs.trans hb, r⟩, h2⟩
theorem Nms.oth {w w' : World} {b n : Nat} {xs : List Sy} {t : TypeId} (h : Nms w b n xs) (ho : Oth t w w') : Nms w' b n xs := by
 obtain ⟨es, clock, hb⟩ := h.block
 exact h.same ((ho b _ hb (fun _ _ e => by cases e)).trans hb.symm)
theorem own_grown {t : TypeId} {sz : Nat} {w w' : World} {K n R : Nat} {v : Value} {cs : List Value} (h : Cel.Own t sz w K v n cs) (hg : w.grownBy w' (some R)) (hR : R < K) : Cel.Own t sz w' K v n cs :=
 h.keep fun g hk hlt => hg.block g hlt (fun e => by injection e with e; omega)
theorem own_map {t : TypeId} {sz : Nat} {w w' : World} {K n b : Nat} {v : Value} {cs : List Value} (h : Cel.Own t sz w K v n cs) (hg : w.grownBy w' (some b)) (hb : ∃ es clock, w.heap[b]? = some (.map es clock)) : Cel.Own t sz w' K v n cs := by
 refine ⟨h.1, ?_⟩
 rcases h.2 with h | ⟨g, cap, cur, m, hv, hg1, hh, r⟩
 · exact .inl h
 · refine .inr ⟨g, cap, cur, m, hv, hg1, (hg.block g (Array.getElem?_eq_some_iff.1 hh).1 (fun e => ?_)).trans hh, r⟩
   injection e with e
   subst e
   obtain ⟨es, clock, hb⟩ := hb
   rw [hh] at hb
   cases hb
theorem kS_kind : Cel.Kind 70 69 4 40 (.agg #[.string ⟨#[]⟩, .int .i64 0, .int .i64 0, .int .i64 0]) := ⟨by kernel_rfl, by kernel_rfl, by kernel_rfl, by decide⟩

theorem grown_more {w W W' : World} {R b : Nat} (h : w.grownBy W (some R)) (hg : W.grownBy W' (some b)) (hb : w.heap.size ≤ b) : w.grownBy W' (some R) :=
 ⟨hg.os.trans h.os, hg.tape.trans h.tape, hg.output.trans h.output, Nat.le_trans h.size hg.size, fun k hk hne => (hg.block k (Nat.lt_of_lt_of_le hk h.size) (fun e => by injection e with e; omega)).trans (h.block k hk hne)⟩
theorem grown_on {w W W' : World} {R : Nat} (h : w.grownBy W (some R)) (hb : Below w.heap.size W W') : w.grownBy W' (some R) :=
 ⟨hb.os.trans h.os, hb.tape.trans h.tape, hb.output.trans h.output, Nat.le_trans h.size hb.size, fun k hk hne => (hb.block k hk).trans (h.block k hk hne)⟩

def ReadsMagic (R K : Nat) (l : List UInt8) (w : World) (e : Ending) (w' : World) : Prop :=
 w.grownBy w' (some R) ∧ ((l.length < 4 ∧ e = fails 2) ∨ (4 ≤ l.length ∧ l.take 4 ≠ magic ∧ e = fails 1) ∨ (4 ≤ l.length ∧ l.take 4 = magic ∧ e = .returned (.tuple #[]) ∧ Rdr w' R K (l.drop 4)))

set_option maxRecDepth 100000 in
set_option maxHeartbeats 1000000 in
theorem readMagic_any (w : World) (R K : Nat) (l : List UInt8) (h : Rdr w R K l) (hKR : K ≤ R) :
   Calls Tryz.prog 103 #[.pointer (some ⟨R, 0, none⟩)] w (ReadsMagic R K l w) := by
 by_cases h4 : l.length < 4
 · have H := hid (take_fail w R K l h 4 h4)
   go_enter Tryz.func103, Tryz.ntmps103
   go_wp2_with fail
   refine H.out.mono ?_
   rintro e w1 ⟨rfl, rfl⟩
   exact ⟨rfl, grown_of (Below.refl _ _), .inl ⟨h4, rfl⟩⟩
 · have H := hid (take_ok w R K l h hKR 4 (by omega))
   by_cases hm : l.take 4 = magic
   · have hb : (l.take 4 == [79, 66, 74, 49]) = true := by rw [beq_iff_eq]; exact hm
     have HM := hid hm
     clear hm
     go_enter Tryz.func103, Tryz.ntmps103
     go_wp2_with fail
     refine H.out.mono ?_
     rintro e w1 ⟨b, o, c, rfl, hr, hc, hR, hg⟩
     obtain ⟨t, ht⟩ : ∃ t, l.take 4 = t := ⟨_, rfl⟩
     rw [ht] at hr hb
     clear ht
     go_wp2_with (first | (refine wpList_str _ _ _ _ _ _ hr rfl (.tmp 3) rfl rfl ?_))
     refine bodyPost_ret (results_none rfl _ _ _) rfl ⟨hg, .inr (.inr ⟨by omega, HM.out, rfl, hR⟩)⟩
   · have hb : (l.take 4 == [79, 66, 74, 49]) = false := by rw [beq_eq_false_iff_ne]; exact hm
     have HM := hid hm
     clear hm
     go_enter Tryz.func103, Tryz.ntmps103
     go_wp2_with fail
     refine H.out.mono ?_
     rintro e w1 ⟨b, o, c, rfl, hr, hc, hR, hg⟩
     obtain ⟨t, ht⟩ : ∃ t, l.take 4 = t := ⟨_, rfl⟩
     rw [ht] at hr hb
     clear ht
     go_wp2_with (first | (refine wpList_str _ _ _ _ _ _ hr rfl (.tmp 3) rfl rfl ?_))
     exact ⟨rfl, hg, .inr (.inl ⟨by omega, HM.out, rfl⟩)⟩

def decS (l : List UInt8) : Int × List Sy × List UInt8 := if l.length < 4 then (2, [], []) else if 65536 < n4 l then (12, [], []) else decL (n4 l) [] (l.drop 4)
def ReadsSyms (R K : Nat) (l : List UInt8) (w : World) (e : Ending) (w' : World) : Prop :=
 w.grownBy w' (some R) ∧ (((decS l).1 ≠ 0 ∧ e = fails (decS l).1) ∨ ((decS l).1 = 0 ∧ ∃ A c, e = .returned (.slice A (decS l).2.1.length c) ∧ Cel.Own 69 4 w' w.heap.size (.slice A (decS l).2.1.length c) (decS l).2.1.length (scells (decS l).2.1) ∧ Rdr w' R K (decS l).2.2))

set_option maxRecDepth 100000 in
set_option maxHeartbeats 4000000 in
theorem readSyms_any (w : World) (R K : Nat) (l : List UInt8) (h : Rdr w R K l) (hKR : K ≤ R) :
   Calls Tryz.prog 104 #[.pointer (some ⟨R, 0, none⟩)] w (ReadsSyms R K l w) := by
 have hRw := h.lt
 by_cases h4 : l.length < 4
 · have H := hid (readNumber_fail w R K l h h4)
   have hd : decS l = (2, [], []) := if_pos h4
   go_enter Tryz.func104, Tryz.ntmps104
   go_wp2_with fail
   refine H.out.mono ?_
   rintro e w1 ⟨rfl, rfl⟩
   exact ⟨rfl, grown_of (Below.refl _ _), .inl ⟨by rw [hd]; simp, by rw [hd]; rfl⟩⟩
 · have H := hid (readNumber_ok w R K l h hKR (by omega))
   have hmm := @run_makeMap Tryz.prog
   obtain ⟨n, hn⟩ : ∃ n, n = n4 l := ⟨_, rfl⟩
   rw [← hn] at H
   have hd1 : decS l = if 65536 < n then (12, [], []) else decL n [] (l.drop 4) := by unfold decS; rw [if_neg h4, hn]
   have HD := hid hd1
   clear hn hd1
   by_cases hbig : 65536 < n
   · have hbi : (65536 : Int) < (n : Int) := by omega
     have hd : decS l = (12, [], []) := by rw [HD.out, if_pos hbig]
     go_enter Tryz.func104, Tryz.ntmps104
     go_wp2_with fail
     refine H.out.mono ?_
     rintro e w1 ⟨rfl, hR, hg⟩
     go_wp2_with fail
     exact ⟨rfl, hg, .inl ⟨by rw [hd]; simp, by rw [hd]; rfl⟩⟩
   · have hbi : ¬ (65536 : Int) < (n : Int) := by omega
     have hd : decS l = decL n [] (l.drop 4) := by rw [HD.out, if_neg hbig]
     have Hd := hid hd
     clear hd HD
     go_enter Tryz.func104, Tryz.ntmps104
     go_wp2_with fail
     refine H.out.mono ?_
     rintro e w1 ⟨rfl, hR, hg⟩
     have hsz := hg.size
     have hN0 := Nms.start w1
     have hbm := (Below.refl w1.heap.size w1).alloc (Nat.le_refl _) (.map #[] 0)
     have hR1 := hR.below hbm (by omega)
     have hg1 := hg.trans (grown_of hbm)
     go_wp2_with fail
     generalize w1.alloc (.map #[] 0) = w2 at *
     generalize w1.heap.size = bm at *
     clear hbm hR hg
     go_loopw [4, 14] (fun v i W => ∃ (k : Nat) (A' : Option Addr) (c' : Nat) (acc : List Sy) (r : List UInt8), i = .int .i64 (k : Int) ∧ v = .slice A' k c' ∧ k ≤ n ∧ acc.length = k ∧ Cel.Own 69 4 W w.heap.size (.slice A' k c') k (scells acc) ∧ Nms W bm k acc ∧ Rdr W R K r ∧ w.grownBy W (some R) ∧ Hid (decL n [] (l.drop 4) = decL (n - k) acc r)) (fun _ i _ => n - (intOf i).toNat)
     case atStart => exact ⟨0, none, 0, [], _, rfl, rfl, by omega, rfl, Cel.Own.nil _ _ _ _, hN0, hR1, hg1, hid rfl⟩
     case round =>
       obtain ⟨k, A', c', acc, r, rfl, rfl, hk, hacc, hO, hN, hR, hG, hD⟩ := hrel
       have hszr := hG.size
       by_cases hlt : k < n
       · obtain ⟨j, hj⟩ : ∃ j, n - k = j + 1 := ⟨n - k - 1, by omega⟩
         have HD : Hid (decL n [] (l.drop 4) = if cutS r then (2, [], []) else if has acc (rdS r).name = true ∨ symOk (rdS r) = false then (12, [], []) else decL (n - (k + 1)) (acc ++ [rdS r]) (r.drop (10 + kS r))) := hid (by rw [hD.out, hj, show n - (k + 1) = j by omega]; rfl)
         clear hD hj
         go_wp2_with fail
         refine (readSym_any _ R K r hR hKR).mono ?_
         rintro e w3 ⟨hg3, hcase⟩
         have hG3 := hG.trans hg3
         rcases hcase with ⟨hc, rfl⟩ | ⟨hc, rfl, hR3⟩
         · have hdd : decS l = (2, [], []) := by rw [Hd.out, HD.out, if_pos hc]
           exact ⟨rfl, hG3, .inl ⟨by rw [hdd]; simp, by rw [hdd]; rfl⟩⟩
         · have HD1 : Hid (decL n [] (l.drop 4) = if has acc (rdS r).name = true ∨ symOk (rdS r) = false then (12, [], []) else decL (n - (k + 1)) (acc ++ [rdS r]) (r.drop (10 + kS r))) := hid (HD.out.trans (if_neg hc))
           have hns : (rdS r).name.size ≤ 1000000 := by
             show (str ((r.drop 10).take (kS r))).size ≤ _
             have hk8 : kS r < 256 := (r.getD 9 0).toNat_lt
             rw [str_size, List.length_take]
             omega
           have hO3 := own_grown hO hg3 hRw
           have hN3 := hN.same (hg3.block bm (by obtain ⟨es, clock, hb⟩ := hN.block; exact (Array.getElem?_eq_some_iff.1 hb).1) (fun e => by injection e with e; omega))
           have hbw3 : bm < w3.heap.size := by obtain ⟨es, clock, hb⟩ := hN3.block; exact (Array.getElem?_eq_some_iff.1 hb).1
           obtain ⟨q, hq⟩ : ∃ q, q = r.drop (10 + kS r) := ⟨_, rfl⟩
           rw [← hq] at HD1 hR3
           clear HD hq hN hO hR hG hc hg3
           generalize rdS r = x at *
           obtain ⟨x0, x1, x2, x3⟩ := x
           simp only [Sy.val]
           simp only at hns
           have hb34 := (Below.refl w3.heap.size w3).alloc (Nat.le_refl _) (.cells #[.string x0, .int .i64 x1, .int .i64 x2, .int .i64 x3] 69)
           have hrow4 := heap_alloc_new w3 (.cells #[.string x0, .int .i64 x1, .int .i64 x2, .int .i64 x3] 69)
           have hN4 := hN3.alloc (.cells #[.string x0, .int .i64 x1, .int .i64 x2, .int .i64 x3] 69)
           have hO4 := hO3.alloc (.cells #[.string x0, .int .i64 x1, .int .i64 x2, .int .i64 x3] 69)
           have hG4 := hG3.trans (grown_of hb34)
           have hR4 := hR3.below hb34 (by omega)
           have hsz4 : (w3.alloc (.cells #[.string x0, .int .i64 x1, .int .i64 x2, .int .i64 x3] 69)).heap.size = w3.heap.size + 1 := World.size_alloc _ _
           go_wp2_with fail
           generalize w3.alloc (.cells #[.string x0, .int .i64 x1, .int .i64 x2, .int .i64 x3] 69) = w4 at *
           refine (admit_any ⟨x0, x1, x2, x3⟩ bm k acc w4 hN4 (by unfold maxLen; simp only; omega) (by unfold maxLen; omega)).mono ?_
           rintro e w5 ⟨rfl, hg5, hN5⟩
           have hG5 := grown_more hG4 hg5 hsz
           have hO5 := own_map hO4 hg5 hN4.block
           have hR5 := hR4.grown hg5 (by omega) (by omega) (by omega)
           have hrow5 := (hg5.block w3.heap.size (by omega) (fun e => by injection e with e; omega)).trans hrow4
           have e0 := cell_of_row _ w3.heap.size 0 _ _ _ hrow5
           have e1 := cell_of_row _ w3.heap.size 1 _ _ _ hrow5
           have e2 := cell_of_row _ w3.heap.size 2 _ _ _ hrow5
           have e3 := cell_of_row _ w3.heap.size 3 _ _ _ hrow5
           have hsz5 := hG5.size
           clear hN3 hN4 hO3 hO4 hG3 hG4 hR3 hR4 hg5 hrow4 hrow5 hb34
           cases hq : (!has acc x0 && symOk ⟨x0, x1, x2, x3⟩)
           · have hor : has acc x0 = true ∨ symOk ⟨x0, x1, x2, x3⟩ = false := by
               cases h1 : has acc x0 with
               | true => exact .inl rfl
               | false => rw [h1] at hq; exact .inr (by simpa using hq)
             have hdd : decS l = (12, [], []) := by rw [Hd.out, HD1.out, if_pos hor]
             have Hdd := hid hdd
             clear hdd hor hN5
             go_wp2_with fail
             exact ⟨rfl, hG5, .inl ⟨by rw [Hdd.out]; simp, by rw [Hdd.out]; rfl⟩⟩
           · have hnor : ¬ (has acc x0 = true ∨ symOk ⟨x0, x1, x2, x3⟩ = false) := by
               rw [Bool.and_eq_true] at hq
               rintro (h1 | h1)
               · rw [h1] at hq; exact absurd hq.1 (by simp)
               · rw [h1] at hq; exact absurd hq.2 (by simp)
             have HD2 : Hid (decL n [] (l.drop 4) = decL (n - (k + 1)) (acc ++ [⟨x0, x1, x2, x3⟩]) q) := hid (HD1.out.trans (if_neg hnor))
             have hN6 := hN5 hq
             clear hnor hq hN5 HD1
             go_wp2_with (at_builtin; refine Cel.wpList_push kS_kind w5 w.heap.size (.slice A' k c') k (scells acc) hO5 hsz5 1 1 #[.string x0, .int .i64 x1, .int .i64 x2, .int .i64 x3] (0, 0) rfl (by simp [Value.oneCell']) (by omega) (by omega) rfl (.tmp 23) (.tmp 25) rfl rfl rfl ?_; intro v6 w6 hown6 hb6 ho6 hf6; obtain ⟨A6, c6, rfl, _⟩ := hown6.reads)
             have hN7 := hN6.oth ho6
             have hR6 := hR5.keep hb6 hRw (by omega)
             have hG6 := grown_on hG5 hb6
             have e4 : scells acc ++ [.string x0, .int .i64 x1, .int .i64 x2, .int .i64 x3] = scells (acc ++ [⟨x0, x1, x2, x3⟩]) := by rw [scells_append]; rfl
             rw [e4] at hown6
             clear e4
             go_roundw
             · exact ⟨k + 1, A6, c6, acc ++ [⟨x0, x1, x2, x3⟩], q, by go_num, rfl, by omega, by rw [List.length_append, hacc]; rfl, hown6, hN7, hR6, hG6, HD2⟩
             · simp [intOf]; omega
       · obtain rfl : k = n := by omega
         have hdd : decS l = (0, acc, r) := by rw [Hd.out, hD.out, Nat.sub_self]; rfl
         have Hdd := hid hdd
         have Hacc := hid hacc
         clear hdd hacc
         go_wp2_with fail
         go_ret
         refine ⟨hG, .inr ⟨by rw [Hdd.out], A', c', ?_⟩⟩
         rw [Hdd.out]
         simp only [Hacc.out]
         exact ⟨rfl, hO, hR⟩
end Go.Proofs.YtjobmkodgodloaaGreatDoor.Obj

namespace Go.Proofs.YtjobmkodgodloaaGreatDoor.Obj
open Go.RowKit Go.Proofs Go.Proofs.YtjobmkodgodloaaGreatDoor.Byt
open Go.Proofs.YtjobmkodgodloaaGreatDoor.Sls (Oth)

theorem decO_eq (l : List UInt8) : decO l = if l.length < 4 then (2, [], []) else if l.take 4 ≠ magic then (1, [], []) else decS (l.drop 4) := by
 unfold decO decS
 rw [List.length_drop, List.drop_drop]
 by_cases h4 : l.length < 4
 · rw [if_pos h4, if_pos h4]
 · rw [if_neg h4, if_neg h4]
   by_cases h8 : l.length < 8
   · rw [if_pos h8, if_pos (show l.length - 4 < 4 by omega)]
   · rw [if_neg h8, if_neg (show ¬ l.length - 4 < 4 by omega)]

theorem assert_yes (k : Int) (w : World) : (Instr.typeAssert (.iface 28 (.int .i64 k)) 20 28 true).run Tryz.prog w = .ok (.tuple #[.int .i64 k, .bool true]) w := by kernel_rfl
theorem assert_no (w : World) : (Instr.typeAssert .nilIface 20 28 true).run Tryz.prog w = .ok (.tuple #[.int .i64 0, .bool false]) w := by kernel_rfl

set_option maxRecDepth 100000 in
set_option maxHeartbeats 1000000 in
theorem catch_panicking (p : Addr) (x k : Int) (older : List PanicEntry) (w : World) (hc : w.cell? p = some (.int .i64 x)) (hz : w.frozen? p = false) :
   CallsD Tryz.prog 102 #[.pointer (some p)] (.panicking ({ v := .iface 28 (.int .i64 k), recovered := false } :: older)) w fun e u' w' =>
     e = .returned (.tuple #[]) ∧ u' = .panicking ({ v := .iface 28 (.int .i64 k), recovered := true } :: older) ∧ w' = w.setCell p (.int .i64 k) := by
 refine callsD_of_wpS Tryz.func102 rfl fun c₀ cs hu => ?_
 apply wpS_seq
 apply wpS_region
 simp [wpOpsS, go_sem, recoverD, hu, assert_yes, Tryz.ntmps102, Exit.thenS]
 apply wpS_seq
 apply wpS_region
 simp [wpOpsS, go_sem, Exit.thenS]
 refine wpS_cond (t := true) (by simp [Act.eval, Array.replicate]) ?_
 simp only [if_true]
 apply wpS_region
 simp [wpOpsS, go_sem, hc, hz, bodyPostS, results, Tryz.results102]

set_option maxRecDepth 100000 in
set_option maxHeartbeats 1000000 in
theorem catch_idle (p : Addr) (w : World) :
   CallsD Tryz.prog 102 #[.pointer (some p)] .returning w fun e u' w' => e = .returned (.tuple #[]) ∧ u' = .returning ∧ w' = w := by
 refine callsD_of_wpS Tryz.func102 rfl fun c₀ cs hu => ?_
 apply wpS_seq
 apply wpS_region
 simp [wpOpsS, go_sem, recoverD, hu, assert_no, Tryz.ntmps102, Exit.thenS]
 apply wpS_seq
 apply wpS_region
 simp [wpOpsS, go_sem, Exit.thenS]
 refine wpS_cond (t := false) (by simp [Act.eval, Array.replicate]) ?_
 simp only [Bool.false_eq_true, if_false]
 refine wpS_of_wp (wp_skip ?_)
 cases c₀
 simp_all [bodyPostS, results, Tryz.results102]

theorem take_fail0 (w : World) (R n : Nat) (A : Option Addr) (m c : Nat) (hrow : w.heap[R]? = some (.cells #[.slice A m c] 174 (0, 0))) (hn : m < n) :
   Calls Tryz.prog 128 #[.pointer (some ⟨R, 0, none⟩), .int .i64 (n : Int)] w fun e w' => e = fails 2 ∧ w' = w := by
 have hni : (m : Int) < (n : Int) := by omega
 have c0 := cell_of_row _ R 0 _ _ _ hrow
 unfold fails
 go_enter Tryz.func128, Tryz.ntmps128
 go_wp2_with fail
 exact ⟨rfl, rfl, rfl⟩
set_option maxRecDepth 100000 in
theorem magic_fail0 (w : World) (R : Nat) (A : Option Addr) (m c : Nat) (hrow : w.heap[R]? = some (.cells #[.slice A m c] 174 (0, 0))) (hn : m < 4) :
   Calls Tryz.prog 103 #[.pointer (some ⟨R, 0, none⟩)] w fun e w' => e = fails 2 ∧ w' = w := by
 have H := hid (take_fail0 w R 4 A m c hrow hn)
 go_enter Tryz.func103, Tryz.ntmps103
 go_wp2_with fail
 refine H.out.mono ?_
 rintro e w1 ⟨rfl, rfl⟩
 exact ⟨rfl, rfl, rfl⟩

def nums (l : List UInt8) : List Int := l.map fun c => (c.toNat : Int)
theorem nums_length (l : List UInt8) : (nums l).length = l.length := by simp [nums]
theorem nums_at {l : List UInt8} {i : Nat} (h : i < l.length) : (nums l).getD i 0 = (l[i].toNat : Int) := by
 unfold nums
 simp [List.getD_eq_getElem?_getD, List.getElem?_eq_getElem h]
theorem bclone_any (K : Nat) (a : Addr) (n c : Nat) (l : List UInt8) (w : World) (hr : Rd w K (some a) n l) (hn : n ≤ 140737488355328) :
   Calls Tryz.prog 76 #[.slice (some a) n c] w fun e w' => ∃ D k, e = .returned (.slice D n k) ∧ Byt.Own w' w.heap.size (.slice D n k) n l ∧ Below w.heap.size w w' := by
 refine (Tryz.bytes_Clone_at a n c (nums l) w (by rw [nums_length]; exact hr.1) hn fun i hi => ?_).mono fun e w' ⟨v, he, ho, _, hb⟩ => ?_
 · have hi' : i < l.length := by have := hr.1; omega
   obtain ⟨b, o, e, _, hc⟩ := hr.2 i hi'
   injection e with e
   subst e
   have ha : (⟨b, o, none⟩ : Addr).add i = ⟨b, o + i, none⟩ := by unfold Addr.add; split <;> simp_all
   rw [ha, hc, nums_at hi']
 · have ho' : Byt.Own w' w.heap.size v n l := by
     refine Byt.Own.of_row ?_
     rw [show enc l = (nums l).map (Value.int .u8) from by simp [enc, nums]]
     exact ho
   obtain ⟨D, k, e1, _⟩ := ho'.reads
   exact ⟨D, k, by rw [he, e1], by rw [← e1]; exact ho', hb⟩

def Decodes (l : List UInt8) (w : World) (e : Ending) (w' : World) : Prop :=
 ∃ A n c B m d, e = .returned (.tuple #[.agg #[.slice A n c, .slice B m d], .int .i64 (decO l).1]) ∧ Cel.Own 69 4 w' w.heap.size (.slice A n c) n (scells (decO l).2.1) ∧ Byt.Own w' w.heap.size (.slice B m d) m (decO l).2.2 ∧ Below w.heap.size w w'
theorem Decodes.bad {l : List UInt8} {w w' : World} {z : Int} (h : decO l = (z, [], [])) (hb : Below w.heap.size w w') :
   Decodes l w (.returned (.tuple #[.agg #[.slice none 0 0, .slice none 0 0], .int .i64 z])) w' :=
 ⟨none, 0, 0, none, 0, 0, by rw [h], by rw [h]; exact Cel.Own.nil _ _ _ _, by rw [h]; exact Byt.Own.nil _ _, hb⟩

theorem load2 (w : World) (B : Nat) (cs : Array Value) (h : w.heap[B]? = some (.cells cs 72 (0, 0))) (hs : cs.size = 2) :
   (loadVar 72 ⟨B, 0, none⟩).run Tryz.prog w = .ok (.agg cs) w :=
 run_loadVar_row w B 72 72 cs (0, 0) _ h Tryz.underlying72 rfl (by rw [hs]; kernel_rfl)

structure Door (w W : World) : Prop where
 res : W.heap[w.heap.size]? = some (.cells #[.slice none 0 0, .slice none 0 0] 72 (0, 0))
 err : W.heap[w.heap.size + 1]? = some (.cells #[.int .i64 0] 28 (0, 0))
 below : Below w.heap.size w W
theorem Door.grown {w W W' : World} (h : Door w W) (hg : W.grownBy W' (some (w.heap.size + 1 + 1))) : Door w W' :=
 ⟨(hg.block _ (Array.getElem?_eq_some_iff.1 h.res).1 (fun e => by injection e with e; omega)).trans h.res, (hg.block _ (Array.getElem?_eq_some_iff.1 h.err).1 (fun e => by injection e with e; omega)).trans h.err,
   h.below.grown hg h.below.size fun k hk => by injection hk with hk; omega⟩
theorem Door.on {w W W' : World} (h : Door w W) (hb : Below W.heap.size W W') : Door w W' :=
 ⟨(hb.block _ (Array.getElem?_eq_some_iff.1 h.res).1).trans h.res, (hb.block _ (Array.getElem?_eq_some_iff.1 h.err).1).trans h.err, h.below.trans (hb.mono h.below.size)⟩
theorem Door.start (w : World) (v : Value) : Door w (((w.alloc (.cells #[.slice none 0 0, .slice none 0 0] 72)).alloc (.cells #[.int .i64 0] 28)).alloc (.cells #[v] 174)) ∧
   (((w.alloc (.cells #[.slice none 0 0, .slice none 0 0] 72)).alloc (.cells #[.int .i64 0] 28)).alloc (.cells #[v] 174)).heap[w.heap.size + 1 + 1]? = some (.cells #[v] 174 (0, 0)) := by
 have h1 := heap_alloc_new w (.cells #[.slice none 0 0, .slice none 0 0] 72)
 have h2 := heap_alloc_new (w.alloc (.cells #[.slice none 0 0, .slice none 0 0] 72)) (.cells #[.int .i64 0] 28)
 have h3 := heap_alloc_new ((w.alloc (.cells #[.slice none 0 0, .slice none 0 0] 72)).alloc (.cells #[.int .i64 0] 28)) (.cells #[v] 174)
 rw [World.size_alloc] at h2
 rw [World.size_alloc, World.size_alloc] at h3
 refine ⟨⟨?_, ?_, ?_⟩, h3⟩
 · exact (Below.heap_alloc _ _ _ (by simp; omega)).trans ((Below.heap_alloc _ _ _ (by simp)).trans h1)
 · exact (Below.heap_alloc _ _ _ (by simp)).trans h2
 · exact (((Below.refl w.heap.size w).alloc (Nat.le_refl _) _).alloc (by simp) _).alloc (by simp; omega) _

set_option maxRecDepth 100000 in
set_option maxHeartbeats 1000000 in
theorem leave_panic {l : List UInt8} {w W : World} {k : Int} (h : Door w W) (hd : decO l = (k, [], [])) (tmps : Array Value) (h2 : tmps[2]? = some (.pointer (some ⟨w.heap.size, 0, none⟩))) (h3 : tmps[3]? = some (.pointer (some ⟨w.heap.size + 1, 0, none⟩))) :
   bodyPostD Tryz.prog Tryz.f79 (Decodes l w) (Exit.panic [{ v := .iface 28 (.int .i64 k), recovered := false }])
     { tmps := tmps, defers := [{ target := Target.fn (Fn.func 102) #[.pointer (some ⟨w.heap.size + 1, 0, none⟩)], args := #[] }] } W := by
 have e0 := cell_of_row W (w.heap.size + 1) 0 _ _ _ h.err
 have hl := load2 (W.setCell ⟨w.heap.size + 1, 0, none⟩ (.int .i64 k)) w.heap.size _ ((Below.heap_setCell W ⟨w.heap.size + 1, 0, none⟩ (.int .i64 k) w.heap.size (by show w.heap.size ≠ w.heap.size + 1; omega)).trans h.res) rfl
 refine leaves_cons (f := 102) (args := #[.pointer (some ⟨w.heap.size + 1, 0, none⟩)]) (by simp) (by simp [go_sem]) ?_
 refine (catch_panicking ⟨w.heap.size + 1, 0, none⟩ 0 k [] W e0 (frozen_of_row W _ 0 _ _ h.err)).mono ?_
 rintro e u' w'' ⟨rfl, rfl, rfl⟩
 have hB := Decodes.bad hd (h.below.setCell (p := ⟨w.heap.size + 1, 0, none⟩) (by show w.heap.size ≤ w.heap.size + 1; omega) (.int .i64 k))
 have e1 : (W.setCell ⟨w.heap.size + 1, 0, none⟩ (.int .i64 k)).cell? ⟨w.heap.size + 1, 0, none⟩ = some (.int .i64 k) := cell_of_row _ _ 0 _ _ _ (heap_setCell_same W (w.heap.size + 1) 0 _ _ (.int .i64 k) h.err)
 simp [Leaves, settle, results, Tryz.results79, asAddr, h2, h3, hl]
 refine ⟨_, ?_, hB⟩
 simp [go_sem, e1]

set_option maxRecDepth 100000 in
set_option maxHeartbeats 4000000 in
theorem decode_2 (w : World) (A : Option Addr) (n c : Nat) (l : List UInt8) (hl : l.length = n) (h4 : n < 4) :
   Calls Tryz.prog 79 #[.slice A n c] w (Decodes l w) := by
 have hmf : ∀ (fn : Fn) (first cap : Array Value) (w : World), (Instr.makeFunc fn first cap).run Tryz.prog w = .ok (.func fn first cap) w := fun _ _ _ _ => rfl
 have Hd : Hid (decO l = (2, [], [])) := hid (by unfold decO; rw [if_pos (by omega)])
 obtain ⟨hD, hrow⟩ := Door.start w (.slice A n c)
 go_enter_defers Tryz.func79, Tryz.ntmps79
 go_wp2_with fail
 refine (magic_fail0 _ _ A n c hrow h4).mono ?_
 rintro e w1 ⟨rfl, rfl⟩
 exact leave_panic hD Hd.out _ rfl rfl

theorem retn_defer (w W : World) {l : List UInt8} (v : Value) (tmps : Array Value) (p : Addr) (h : (results Tryz.f79 tmps).run Tryz.prog W = .ok v W) (hq : Decodes l w (.returned v) W) :
   bodyPostD Tryz.prog Tryz.f79 (Decodes l w) Exit.ret
     { tmps := tmps, defers := [{ target := Target.fn (Fn.func 102) #[.pointer (some p)], args := #[] }] } W := by
 refine leaves_cons (f := 102) (args := #[.pointer (some p)]) (by simp) (by simp [go_sem]) ?_
 refine (catch_idle p W).mono ?_
 rintro e u' w'' ⟨rfl, rfl, rfl⟩
 simp [Leaves, settle, h]
 exact hq

set_option maxRecDepth 100000 in
set_option maxHeartbeats 4000000 in
theorem decode_go (w : World) (K b o : Nat) (n c : Nat) (l : List UInt8) (hr : Byt.Rd w K (some ⟨b, o, none⟩) n l) (hK : K ≤ w.heap.size) (hnc : n ≤ c) (hc : c ≤ maxLen) (h4 : 4 ≤ n) (hn : n ≤ 140737488355328) :
   Calls Tryz.prog 79 #[.slice (some ⟨b, o, none⟩) n c] w (Decodes l w) := by
 have hmf : ∀ (fn : Fn) (first cap : Array Value) (w : World), (Instr.makeFunc fn first cap).run Tryz.prog w = .ok (.func fn first cap) w := fun _ _ _ _ => rfl
 have hl := hr.1
 have Hd : Hid (decO l = if l.take 4 ≠ magic then (1, [], []) else decS (l.drop 4)) := hid (by rw [decO_eq, if_neg (by omega)])
 obtain ⟨hD, hrow⟩ := Door.start w (.slice (some ⟨b, o, none⟩) n c)
 go_enter_defers Tryz.func79, Tryz.ntmps79
 go_wp2_with fail
 generalize ((w.alloc (.cells #[.slice none 0 0, .slice none 0 0] 72)).alloc (.cells #[.int .i64 0] 28)).alloc (.cells #[.slice (some ⟨b, o, none⟩) n c] 174) = w0 at *
 have hR : Rdr w0 (w.heap.size + 1 + 1) K l := ⟨b, o, n, c, hrow, hr.below (hD.below.mono hK), hnc, hc⟩
 clear hrow
 refine (readMagic_any w0 _ K l hR (by omega)).mono ?_
 rintro e w1 ⟨hg1, hcase⟩
 have hD1 := hD.grown hg1
 rcases hcase with ⟨q, _⟩ | ⟨_, hm, rfl⟩ | ⟨_, hm, rfl, hR1⟩
 · omega
 · exact leave_panic hD1 (by rw [Hd.out, if_pos hm]) _ rfl rfl
 · have Hd1 : Hid (decO l = decS (l.drop 4)) := hid (by rw [Hd.out, if_neg (fun q => q hm)])
   clear Hd hm hR hg1 hD
   go_wp2_with fail
   refine (readSyms_any w1 _ K (l.drop 4) hR1 (by omega)).mono ?_
   rintro e w2 ⟨hg2, hcase⟩
   have hD2 := hD1.grown hg2
   rcases hcase with ⟨hz, rfl⟩ | ⟨hz, A, cs, rfl, hO, hR2⟩
   · refine leave_panic hD2 ?_ _ rfl rfl
     rw [Hd1.out]
     have h0 := decO_bad l (by rw [Hd1.out]; exact hz)
     rw [Hd1.out] at h0
     rw [← h0]
   · have hd2 : decO l = (0, (decS (l.drop 4)).2.1, (decS (l.drop 4)).2.2) := by rw [Hd1.out]; exact Prod.ext hz rfl
     have Hd2 := hid hd2
     clear hd2 Hd1 hz
     generalize (decS (l.drop 4)).2.1 = xs at *
     generalize (decS (l.drop 4)).2.2 = body at *
     obtain ⟨b2, o2, m, d, hrow2, hr2, hmd, hdm⟩ := hR2
     have e0 := cell_of_row _ (w.heap.size + 1 + 1) 0 _ _ _ hrow2
     have hbl : m ≤ 140737488355328 := by
       have h1 := (enc_decO l xs body Hd2.out).2
       have h2 := congrArg List.length h1
       have h3 := hr2.1
       unfold encO at h2
       simp only [List.length_append] at h2
       omega
     have hwz : w.heap.size ≤ w1.heap.size := hD1.below.size
     clear hrow2
     go_wp2_with fail
     refine (bclone_any K ⟨b2, o2, none⟩ m d body w2 hr2 hbl).mono ?_
     rintro e w3 ⟨D, kd, rfl, hB, hb3⟩
     have hD3 := hD2.on hb3
     have hO3 := (hO.more hwz).below hb3
     have hB3 := hB.more hD2.below.size
     obtain ⟨hres, herr, hbel⟩ := hD3
     have q0 := cell_of_row _ w.heap.size 0 _ _ _ hres
     have q1 := cell_of_row _ w.heap.size 1 _ _ _ hres
     have qf := fun o => frozen_of_row _ w.heap.size o _ _ hres
     have p0 := cell_of_row _ (w.heap.size + 1) 0 _ _ _ herr
     have pf := fun o => frozen_of_row _ (w.heap.size + 1) o _ _ herr
     have hres0 := heap_setCell_same w3 w.heap.size 0 _ _ (.slice A xs.length cs) hres
     have hres1 := heap_setCell_same _ w.heap.size 1 _ _ (.slice D m kd) hres0
     have herr1 := (Below.heap_setCell _ ⟨w.heap.size, 1, none⟩ (.slice D m kd) (w.heap.size + 1) (by show w.heap.size + 1 ≠ w.heap.size; omega)).trans ((Below.heap_setCell w3 ⟨w.heap.size, 0, none⟩ (.slice A xs.length cs) (w.heap.size + 1) (by show w.heap.size + 1 ≠ w.heap.size; omega)).trans herr)
     have hres2 := (Below.heap_setCell _ ⟨w.heap.size + 1, 0, none⟩ (.int .i64 0) w.heap.size (by show w.heap.size ≠ w.heap.size + 1; omega)).trans hres1
     have herr2 := heap_setCell_same _ (w.heap.size + 1) 0 _ _ (.int .i64 0) herr1
     have hl2 := load2 _ _ _ hres2 rfl
     have e9 := cell_of_row _ (w.heap.size + 1) 0 _ _ _ herr2
     have hbz := ((hbel.setCell (p := ⟨w.heap.size, 0, none⟩) (Nat.le_refl _) (.slice A xs.length cs)).setCell (p := ⟨w.heap.size, 1, none⟩) (Nat.le_refl _) (.slice D m kd)).setCell (p := ⟨w.heap.size + 1, 0, none⟩) (by show w.heap.size ≤ w.heap.size + 1; omega) (.int .i64 0)
     have hOz := ((hO3.setc hres (by decide) 0 (.slice A xs.length cs)).setc hres0 (by decide) 1 (.slice D m kd)).setc herr1 (by decide) 0 (.int .i64 0)
     have hBz := ((hB3.oth (Sls.Oth.put hres (fun k hk => Below.heap_setCell w3 ⟨w.heap.size, 0, none⟩ (.slice A xs.length cs) k hk)) (by decide)).oth (Sls.Oth.put hres0 (fun k hk => Below.heap_setCell _ ⟨w.heap.size, 1, none⟩ (.slice D m kd) k hk)) (by decide)).oth (Sls.Oth.put herr1 (fun k hk => Below.heap_setCell _ ⟨w.heap.size + 1, 0, none⟩ (.int .i64 0) k hk)) (by decide)
     have HO := hid hOz
     have HB := hid hBz
     clear hOz hBz hB3 hO3 hB hO hres hres0 hres1 hres2 herr herr1 herr2 hD1 hD2 hb3
     go_wp2_with fail
     refine retn_defer w _ (.tuple #[.agg #[.slice A xs.length cs, .slice D m kd], .int .i64 0]) _ _ ?_ ?_
     · simp [results, Tryz.results79, asAddr, hl2]
       simp [go_sem, e9]
     · exact ⟨A, xs.length, cs, D, m, kd, by rw [Hd2.out], by rw [Hd2.out]; exact HO.out, by rw [Hd2.out]; exact HB.out, hbz⟩
end Go.Proofs.YtjobmkodgodloaaGreatDoor.Obj

namespace Go.Proofs.YtjobmkodgodloaaGreatDoor.Obj
open Go.RowKit Go.Proofs Go.Proofs.YtjobmkodgodloaaGreatDoor.Byt
open Go.Proofs.YtjobmkodgodloaaGreatDoor.Sls (Oth)

theorem pow2_iff (z : Int) : pow2 z = true ↔ ∃ i, i ≤ 16 ∧ z = ((2 ^ i : Nat) : Int) := by
 unfold pow2 pows
 simp only [List.contains_eq_mem, List.mem_cons, List.not_mem_nil, or_false, decide_eq_true_eq]
 constructor
 · intro h
   rcases h with h | h | h | h | h | h | h | h | h | h | h | h | h | h | h | h | h
   all_goals first | exact ⟨0, by omega, by rw [h]; rfl⟩ | exact ⟨1, by omega, by rw [h]; rfl⟩ | exact ⟨2, by omega, by rw [h]; rfl⟩ | exact ⟨3, by omega, by rw [h]; rfl⟩ | exact ⟨4, by omega, by rw [h]; rfl⟩ | exact ⟨5, by omega, by rw [h]; rfl⟩ | exact ⟨6, by omega, by rw [h]; rfl⟩ | exact ⟨7, by omega, by rw [h]; rfl⟩ | exact ⟨8, by omega, by rw [h]; rfl⟩ | exact ⟨9, by omega, by rw [h]; rfl⟩ | exact ⟨10, by omega, by rw [h]; rfl⟩ | exact ⟨11, by omega, by rw [h]; rfl⟩ | exact ⟨12, by omega, by rw [h]; rfl⟩ | exact ⟨13, by omega, by rw [h]; rfl⟩ | exact ⟨14, by omega, by rw [h]; rfl⟩ | exact ⟨15, by omega, by rw [h]; rfl⟩ | exact ⟨16, by omega, by rw [h]; rfl⟩
 · rintro ⟨i, hi, hz⟩
   have : i = 0 ∨ i = 1 ∨ i = 2 ∨ i = 3 ∨ i = 4 ∨ i = 5 ∨ i = 6 ∨ i = 7 ∨ i = 8 ∨ i = 9 ∨ i = 10 ∨ i = 11 ∨ i = 12 ∨ i = 13 ∨ i = 14 ∨ i = 15 ∨ i = 16 := by omega
   rcases this with h | h | h | h | h | h | h | h | h | h | h | h | h | h | h | h | h
   all_goals subst h
   all_goals simp at hz
   all_goals omega

set_option maxRecDepth 100000 in
set_option maxHeartbeats 1000000 in
theorem rpower_any (z : Int) (w : World) :
   Calls Tryz.prog 85 #[.int .i64 z] w fun e w' => e = .returned (.bool (pow2 z)) ∧ w' = w := by
 go_enter Tryz.func85, Tryz.ntmps85
 go_wp2_with fail
 go_loopw [3] (fun v W => ∃ j p : Nat, v = .int .i64 (p : Int) ∧ j ≤ 17 ∧ Hid (p = 2 ^ j) ∧ 1 ≤ p ∧ p ≤ 131072 ∧ Hid (∀ i, i < j → z ≠ ((2 ^ i : Nat) : Int)) ∧ Hid (W = w)) (fun v _ => 131073 - (intOf v).toNat)
 case atStart => exact ⟨0, 1, rfl, by omega, hid rfl, by omega, by omega, hid (fun i hi => by omega), hid rfl⟩
 case round =>
   obtain ⟨j, p, rfl, hj, hp, h1, h2, hz, hw⟩ := hrel
   by_cases hlt : p ≤ 65536
   · have hj16 : j ≤ 16 := by
       rcases Nat.lt_or_ge 16 j with h | h
       · have := Nat.pow_le_pow_right (n := 2) (by omega) h
         have e : (2 : Nat) ^ (16 + 1) = 131072 := rfl
         have := hp.out
         omega
       · exact h
     have hli : (p : Int) ≤ 65536 := by omega
     by_cases hq : (p : Int) = z
     · have hqb : ((p : Int) == z) = true := by rw [beq_iff_eq]; exact hq
       have HR : Hid (pow2 z = true) := hid ((pow2_iff z).2 ⟨j, hj16, by rw [← hq, hp.out]⟩)
       clear hq
       go_wp2_with fail
       go_ret
       exact ⟨ret_bool HR.out.symm, hw.out⟩
     · have hqb : ((p : Int) == z) = false := by rw [beq_eq_false_iff_ne]; exact hq
       have HZ : Hid (∀ i, i < j + 1 → z ≠ ((2 ^ i : Nat) : Int)) := hid fun i hi => by
         by_cases e : i = j
         · subst e; rw [← hp.out]; exact fun h => hq h.symm
         · exact hz.out i (by omega)
       have HP : Hid (2 * p = 2 ^ (j + 1)) := hid (by rw [hp.out, Nat.pow_succ]; omega)
       clear hq hp hz
       go_wp2_with fail
       go_roundw
       · exact ⟨j + 1, 2 * p, by go_num, by omega, HP, by omega, by omega, HZ, hw⟩
       · simp [intOf]; omega
   · have hli : ¬ (p : Int) ≤ 65536 := by omega
     have hj17 : 17 ≤ j := by
       rcases Nat.lt_or_ge j 17 with h | h
       · have := Nat.pow_le_pow_right (n := 2) (by omega) (show j ≤ 16 by omega)
         have e : (2 : Nat) ^ 16 = 65536 := rfl
         have := hp.out
         omega
       · exact h
     have HR : Hid (pow2 z = false) := hid (by
       cases h : pow2 z with
       | false => rfl
       | true => obtain ⟨i, hi, e⟩ := (pow2_iff z).1 h; exact absurd e (hz.out i (by omega)))
     clear hp hz
     go_wp2_with fail
     go_ret
     exact ⟨ret_bool HR.out.symm, hw.out⟩

theorem at_str (s : ByteArray) (i : Nat) (h : i < s.size) : s.data.toList[i]? = some (s[i]'h) := by
 show s.data.toList[i]? = some (s.data[i]'h)
 rw [Array.getElem?_toList]
 exact Array.getElem?_eq_getElem h

set_option maxRecDepth 100000 in
set_option maxHeartbeats 2000000 in
theorem rsym_any (x : Sy) (w : World) :
   Calls Tryz.prog 70 #[x.val] w fun e w' => e = .returned (.bool (symOk x)) ∧ Below w.heap.size w w' := by
 obtain ⟨s, b, z, a⟩ := x
 have hb0 := (Below.refl w.heap.size w).alloc (Nat.le_refl _) (.cells #[.string s, .int .i64 b, .int .i64 z, .int .i64 a] 69)
 have hrow := heap_alloc_new w (.cells #[.string s, .int .i64 b, .int .i64 z, .int .i64 a] 69)
 have c0 := cell_of_row _ w.heap.size 0 _ _ _ hrow
 have c1 := cell_of_row _ w.heap.size 1 _ _ _ hrow
 have c2 := cell_of_row _ w.heap.size 2 _ _ _ hrow
 have c3 := cell_of_row _ w.heap.size 3 _ _ _ hrow
 unfold Sy.val
 clear hrow
 by_cases h0 : s.size = 0
 · have h0b : ((s.size : Int) == 0) = true := by simp only [beq_iff_eq]; omega
   have hS : Hid (symOk ⟨s, b, z, a⟩ = false) := hid (by simp [symOk, nameOk, h0])
   clear h0
   go_enter Tryz.func70, Tryz.ntmps70
   go_wp2_with fail
   go_ret
   exact ⟨ret_bool hS.out.symm, hb0⟩
 have h0b : ((s.size : Int) == 0) = false := by simp only [beq_eq_false_iff_ne]; omega
 by_cases h1 : 255 < s.size
 · have hS : Hid (symOk ⟨s, b, z, a⟩ = false) := hid (by unfold symOk nameOk; rw [show decide (s.size ≤ 255) = false from by simp; omega]; simp)
   have h1i : decide ((255 : Int) < (s.size : Int)) = true := by simp; omega
   clear h0
   go_enter Tryz.func70, Tryz.ntmps70
   go_wp2_with fail
   go_ret
   exact ⟨ret_bool hS.out.symm, hb0⟩
 have h1i : decide ((255 : Int) < (s.size : Int)) = false := by simp; omega
 by_cases h2 : z < 0
 · have hS : Hid (symOk ⟨s, b, z, a⟩ = false) := hid (by
     cases h : symOk ⟨s, b, z, a⟩ with
     | false => rfl
     | true => unfold symOk at h; rw [Bool.and_eq_true] at h; have := bindOk_range h.2; simp only at this; omega)
   have h2i : decide (z < 0) = true := by simpa using h2
   clear h0
   go_enter Tryz.func70, Tryz.ntmps70
   go_wp2_with fail
   go_ret
   exact ⟨ret_bool hS.out.symm, hb0⟩
 have h2i : decide (z < 0) = false := by simpa using h2
 by_cases h3 : 4294967295 < z
 · have hS : Hid (symOk ⟨s, b, z, a⟩ = false) := hid (by
     cases h : symOk ⟨s, b, z, a⟩ with
     | false => rfl
     | true => unfold symOk at h; rw [Bool.and_eq_true] at h; have := bindOk_range h.2; simp only at this; omega)
   have h3i : decide (4294967295 < z) = true := by simpa using h3
   clear h0 h2
   go_enter Tryz.func70, Tryz.ntmps70
   go_wp2_with fail
   go_ret
   exact ⟨ret_bool hS.out.symm, hb0⟩
 have h3i : decide (4294967295 < z) = false := by simpa using h3
 have hsz : sizeOk z = true := by unfold sizeOk; simp; omega
 have Hsz := hid hsz
 have hs255 : s.size ≤ 255 := by omega
 have HN : Hid (nameOk s = !(s.data.toList.contains 0)) := hid (by unfold nameOk; simp [h0, hs255])
 clear hsz h0 h2 h3 h1
 go_enter Tryz.func70, Tryz.ntmps70
 go_wp2_with fail
 go_loopw [3] (fun v W => ∃ k : Nat, v = .int .i64 (k : Int) ∧ k ≤ s.size ∧ Hid (∀ i, i < k → s.data.toList[i]? ≠ some 0) ∧ Hid (W = w.alloc (.cells #[.string s, .int .i64 b, .int .i64 z, .int .i64 a] 69))) (fun v _ => s.size - (intOf v).toNat)
 case atStart => exact ⟨0, rfl, by omega, hid (fun i hi => by omega), hid rfl⟩
 case round =>
   obtain ⟨k, rfl, hk, hno, hw⟩ := hrel
   have hw' := hw.out
   subst hw'
   by_cases hlt : k < s.size
   · have hli : (k : Int) < (s.size : Int) := by omega
     have hat := at_str s k hlt
     by_cases hq : (s[k]'hlt) = 0
     · have hqb : (((s[k]'hlt).toNat : Int) == 0) = true := by rw [hq]; rfl
       have hS : Hid (symOk ⟨s, b, z, a⟩ = false) := hid (by
         unfold symOk
         rw [show nameOk s = false from by rw [HN.out, Bool.not_eq_false', List.contains_eq_mem, decide_eq_true_eq]; exact List.mem_of_getElem? (by rw [hat, hq])]
         rfl)
       clear hat hno
       go_wp2_with fail
       go_ret
       exact ⟨ret_bool hS.out.symm, hb0⟩
     · have hqb : (((s[k]'hlt).toNat : Int) == 0) = false := by
         rw [beq_eq_false_iff_ne]; intro e; apply hq; rw [← UInt8.toNat_inj]; show (s[k]'hlt).toNat = 0; omega
       have HZ : Hid (∀ i, i < k + 1 → s.data.toList[i]? ≠ some 0) := hid fun i hi => by
         by_cases e : i = k
         · subst e; rw [hat]; intro q; injection q with q; exact hq q
         · exact hno.out i (by omega)
       clear hat hno hq
       go_wp2_with fail
       go_roundw
       · exact ⟨k + 1, by go_num, by omega, HZ, hid trivial⟩
       · simp [intOf]; omega
   · have hli : ¬ (k : Int) < (s.size : Int) := by omega
     have hN : nameOk s = true := by
       rw [HN.out, Bool.not_eq_true', List.contains_eq_mem, decide_eq_false_iff_not]
       intro hm
       obtain ⟨i, hi⟩ := List.getElem?_of_mem hm
       have := (List.getElem?_eq_some_iff.1 hi).1
       rw [len_list] at this
       exact hno.out i (by omega) hi
     have hS : symOk ⟨s, b, z, a⟩ = bindOk b z a := by unfold symOk; rw [hN]; rfl
     have HS := hid hS
     clear hN hS hno
     by_cases b3 : b = 3
     · have b3b : (b == 3) = true := by simpa using b3
       have HS' : Hid (symOk ⟨s, b, z, a⟩ = pow2 a) := hid (by rw [HS.out]; unfold bindOk; rw [if_neg (by omega), if_pos b3, Hsz.out]; rfl)
       clear b3
       go_wp2_with (go_at_call 85; refine (rpower_any a _).mono ?_; rintro e w1 ⟨rfl, rfl⟩)
       go_ret
       exact ⟨ret_bool HS'.out.symm, hb0⟩
     have b3b : (b == 3) = false := by simpa using b3
     by_cases b4 : b = 4
     · have b4b : (b == 4) = true := by simpa using b4
       have HS' : Hid (symOk ⟨s, b, z, a⟩ = (decide (z = 0) && decide (a = 0))) := hid (by rw [HS.out]; unfold bindOk; rw [if_neg (by omega), if_neg b3, if_pos (.inl b4)])
       clear b3 b4
       by_cases hz : z = 0
       · have hzb : (z == 0) = true := by simpa using hz
         clear hz
         go_wp2_with fail
         go_ret
         exact ⟨ret_bool (by rw [HS'.out, show decide (z = 0) = true from hzb]; rfl), hb0⟩
       · have hzb : (z == 0) = false := by simpa using hz
         go_wp2_with fail
         go_ret
         exact ⟨ret_bool (by rw [HS'.out, show decide (z = 0) = false from hzb]; rfl), hb0⟩
     have b4b : (b == 4) = false := by simpa using b4
     by_cases b5 : b = 5
     · have b5b : (b == 5) = true := by simpa using b5
       have HS' : Hid (symOk ⟨s, b, z, a⟩ = (decide (z = 0) && decide (a = 0))) := hid (by rw [HS.out]; unfold bindOk; rw [if_neg (by omega), if_neg b3, if_pos (.inr b5)])
       clear b3 b4 b5
       by_cases hz : z = 0
       · have hzb : (z == 0) = true := by simpa using hz
         clear hz
         go_wp2_with fail
         go_ret
         exact ⟨ret_bool (by rw [HS'.out, show decide (z = 0) = true from hzb]; rfl), hb0⟩
       · have hzb : (z == 0) = false := by simpa using hz
         go_wp2_with fail
         go_ret
         exact ⟨ret_bool (by rw [HS'.out, show decide (z = 0) = false from hzb]; rfl), hb0⟩
     have b5b : (b == 5) = false := by simpa using b5
     by_cases b1 : b = 1
     · have b1b : (b == 1) = true := by simpa using b1
       have HS' : Hid (symOk ⟨s, b, z, a⟩ = decide (a = 0)) := hid (by rw [HS.out]; unfold bindOk; rw [if_pos (.inl b1), Hsz.out]; rfl)
       clear b1 b3 b4 b5
       go_wp2_with fail
       go_ret
       exact ⟨ret_bool (by rw [HS'.out]; rfl), hb0⟩
     have b1b : (b == 1) = false := by simpa using b1
     by_cases b2 : b = 2
     · have b2b : (b == 2) = true := by simpa using b2
       have HS' : Hid (symOk ⟨s, b, z, a⟩ = decide (a = 0)) := hid (by rw [HS.out]; unfold bindOk; rw [if_pos (.inr b2), Hsz.out]; rfl)
       clear b1 b2 b3 b4 b5
       go_wp2_with fail
       go_ret
       exact ⟨ret_bool (by rw [HS'.out]; rfl), hb0⟩
     have b2b : (b == 2) = false := by simpa using b2
     have HS' : Hid (symOk ⟨s, b, z, a⟩ = false) := hid (by rw [HS.out]; unfold bindOk; rw [if_neg (by omega), if_neg b3, if_neg (by omega)])
     clear b1 b2 b3 b4 b5
     go_wp2_with fail
     go_ret
     exact ⟨ret_bool HS'.out.symm, hb0⟩

set_option maxRecDepth 100000 in
set_option maxHeartbeats 1000000 in
theorem rhas_any (K : Nat) (A : Option Addr) (n c : Nat) (xs : List Sy) (s : ByteArray) (w : World) (h : RdS w K A n xs) (hn : n ≤ 140737488355328) :
   Calls Tryz.prog 71 #[.slice A n c, .string s] w fun e w' => e = .returned (.bool (has xs s)) ∧ w' = w := by
 have Hl := hid h.1
 go_enter Tryz.func71, Tryz.ntmps71
 go_wp2_with fail
 go_loopw [5] (fun i W => ∃ k : Nat, i = .int .i64 (k : Int) ∧ k ≤ n ∧ Hid (has xs s = has (xs.drop k) s) ∧ Hid (W = w)) (fun i _ => n - (intOf i).toNat)
 case atStart => exact ⟨0, rfl, by omega, hid rfl, hid rfl⟩
 case round =>
   obtain ⟨k, rfl, hk, hG, hw⟩ := hrel
   have hw' := hw.out
   subst hw'
   by_cases hlt : k < n
   · have hkl : k < xs.length := by have := Hl.out; omega
     obtain ⟨⟨b, o, rfl, hbK, hcell⟩, hsz⟩ := h.2 k hkl
     have Hstep := hid (find_step hkl s)
     generalize xs[k] = x at *
     obtain ⟨x0, x1, x2, x3⟩ := x
     obtain ⟨p0, p1, p2, p3⟩ := hcell
     by_cases hq : x0 = s
     · have hqb : (x0.toList == s.toList) = true := by rw [beq_iff_eq, str_eq]; exact hq
       have HR : Hid (has xs s = true) := hid (hG.out.trans (Hstep.out.1 hq).1)
       clear hq
       go_wp2_with fail
       go_ret
       exact ⟨ret_bool HR.out.symm, rfl⟩
     · have hqb : (x0.toList == s.toList) = false := by rw [beq_eq_false_iff_ne, ne_eq, str_eq]; exact hq
       have HR : Hid (has xs s = has (xs.drop (k + 1)) s) := hid (hG.out.trans (Hstep.out.2 hq).1)
       clear hq
       go_wp2_with fail
       go_roundw
       · exact ⟨k + 1, by go_num, by omega, HR, hid trivial⟩
       · simp [intOf]; omega
   · obtain rfl : k = n := by omega
     have HR : Hid (has xs s = false) := hid (by rw [hG.out, List.drop_eq_nil_of_le (by have := Hl.out; omega)]; rfl)
     go_wp2_with fail
     go_ret
     exact ⟨ret_bool HR.out.symm, rfl⟩
end Go.Proofs.YtjobmkodgodloaaGreatDoor.Obj
