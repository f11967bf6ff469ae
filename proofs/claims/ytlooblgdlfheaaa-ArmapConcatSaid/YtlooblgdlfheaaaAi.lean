/-
  armap: a name is split off; Decode.
-/
import Derived.Test.YtlooblgdlfheaaaAh
import Derived.Deep.RegionWith
namespace Go.Proofs.Ytlooblgdlfheaaa.Amp
open Go.RowKit Go.Proofs Go.Proofs.Ytlooblgdlfheaaa.Byt
open Go.Proofs.Ytlooblgdlfheaaa.Sls (Oth Fr blk)

/-- The variable at block R holds a slice of these bytes. -/
def Rest (w : World) (R K : Nat) (l : List UInt8) : Prop :=
  ∃ b o m c, w.heap[R]? = some (.cells #[.slice (some ⟨b, o, none⟩) m c] 23 (0, 0)) ∧ Byt.Rd w K (some ⟨b, o, none⟩) m l ∧ m ≤ c ∧ c ≤ maxLen
theorem Rest.below {w w' : World} {R K : Nat} {l : List UInt8} (h : Rest w R K l) (hb : Below w.heap.size w w') (hK : K ≤ w.heap.size) : Rest w' R K l := by
  obtain ⟨b, o, m, c, hrow, hr, hm, hc⟩ := h
  exact ⟨b, o, m, c, (hb.block R (Array.getElem?_eq_some_iff.1 hrow).1).trans hrow, hr.below (hb.mono hK), hm, hc⟩
theorem Rest.fr {w w' : World} {R K : Nat} {l : List UInt8} {t : TypeId} (h : Rest w R K l) (ho : Oth t w w') (ht : t ≠ 23) (hb : Below K w w') : Rest w' R K l := by
  obtain ⟨b, o, m, c, hrow, hr, hm, hc⟩ := h
  exact ⟨b, o, m, c, ho R _ hrow (fun cs m' e => by injection e with _ e2; exact ht e2.symm), hr.below hb, hm, hc⟩
theorem own_grown {t : TypeId} {sz : Nat} {w w' : World} {K n R : Nat} {v : Value} {cs : List Value} {ds : Array Value} {t' : TypeId} {m : Nat × Nat} (h : Cel.Own t sz w K v n cs) (hg : w.grownBy w' (some R)) (hR : w.heap[R]? = some (.cells ds t' m)) (ht : t ≠ t') : Cel.Own t sz w' K v n cs := by
  refine ⟨h.1, ?_⟩
  rcases h.2 with h | ⟨g, cap, cur, m', hv, hg1, hh, r⟩
  · exact .inl h
  · refine .inr ⟨g, cap, cur, m', hv, hg1, (hg.block g (Array.getElem?_eq_some_iff.1 hh).1 (fun e => ?_)).trans hh, r⟩
    injection e with e
    subst e
    rw [hR] at hh
    injection hh with hh
    injection hh with _ e2
    exact ht e2.symm

/-- What splitName gives. -/
def Splits (R K : Nat) (l : List UInt8) (w : World) (e : Ending) (w' : World) : Prop :=
  w.grownBy w' (some R) ∧ ((nm1 l = l ∧ e = .returned (.string ⟨#[]⟩)) ∨ (nm1 l ≠ l ∧ e = .returned (.string (str (nm1 l))) ∧ Rest w' R K (l.drop ((nm1 l).length + 1))))

set_option maxRecDepth 100000 in
set_option maxHeartbeats 2000000 in
theorem split_any (w : World) (R K : Nat) (l : List UInt8) (h : Rest w R K l) (hKR : K ≤ R) :
    Calls Try.prog 22 #[.pointer (some ⟨R, 0, none⟩)] w (Splits R K l w) := by
  obtain ⟨b, o, m, c, hrow, hr, hmc, hc⟩ := h
  have hRw := (Array.getElem?_eq_some_iff.1 hrow).1
  have c0 := cell_of_row _ R 0 _ _ _ hrow
  have hb0 := (Below.refl w.heap.size w).alloc (Nat.le_refl _) (.cells #[.int .u8 0] 5)
  have hz0 := cell_of_row _ w.heap.size 0 _ _ _ (heap_alloc_new w (.cells #[.int .u8 0] 5))
  have H := hid (cut0_any (w.alloc (.cells #[.int .u8 0] 5)) K b o m c w.heap.size l (hr.below (hb0.mono (by omega))) hmc hc hz0)
  have hrow0 := (hb0.block R hRw).trans hrow
  clear hz0
  go_enter Try.func22, Try.ntmps22
  go_wp2_with fail
  refine H.out.mono ?_
  rintro e w1 ⟨⟨mm, hw1⟩, hcase⟩
  have hb1 : Below w.heap.size w w1 := by subst hw1; exact hb0.trans ⟨rfl, rfl, rfl, Nat.le_refl _, fun _ _ => rfl⟩
  have hbA : Below K (w.alloc (.cells #[.int .u8 0] 5)) w1 := by subst hw1; exact ⟨rfl, rfl, rfl, Nat.le_refl _, fun _ _ => rfl⟩
  have hrow1 := (hb1.block R hRw).trans hrow
  have hr1 := hr.below (hb1.mono (show K ≤ w.heap.size by omega))
  clear hw1 hb0 H hrow0 c0
  have hg1 : w.grownBy w1 (some R) := ⟨hb1.os, hb1.tape, hb1.output, hb1.size, fun k hk _ => hb1.block k hk⟩
  rcases hcase with ⟨hn, rfl⟩ | ⟨i, p, hne, hin, hn, rfl, hrp⟩
  · have HN := hid hn
    clear hn
    go_wp2_with fail
    go_ret
    exact ⟨hg1, .inl ⟨HN.out, rfl⟩⟩
  · have c1 := cell_of_row _ R 0 _ _ _ hrow1
    have f1 := fun o => frozen_of_row w1 R o _ _ hrow1
    have hb2 : Below K w1 (w1.setCell ⟨R, 0, none⟩ (.slice (some ⟨b, p, none⟩) (m - (i + 1)) (c - (i + 1)))) := (Below.refl K w1).setCell (p := ⟨R, 0, none⟩) hKR _
    have hcv := run_str (w1.setCell ⟨R, 0, none⟩ (.slice (some ⟨b, p, none⟩) (m - (i + 1)) (c - (i + 1)))) K (some ⟨b, o, none⟩) i c (l.take i) ((hr1.pre (show i ≤ m by omega)).below hb2)
    have hg2 : w.grownBy (w1.setCell ⟨R, 0, none⟩ (.slice (some ⟨b, p, none⟩) (m - (i + 1)) (c - (i + 1)))) (some R) := ⟨hg1.os, hg1.tape, hg1.output, by have := hg1.size; simpa using this, fun k hk hne => (Below.heap_setCell w1 ⟨R, 0, none⟩ _ k (fun q => hne (by rw [q]))).trans (hg1.block k hk hne)⟩
    have hrow2 := heap_setCell_same w1 R 0 _ _ (.slice (some ⟨b, p, none⟩) (m - (i + 1)) (c - (i + 1))) hrow1
    have hlen : (nm1 l).length = i := by rw [hn, List.length_take, hr.1]; omega
    have hR2 : Rest (w1.setCell ⟨R, 0, none⟩ (.slice (some ⟨b, p, none⟩) (m - (i + 1)) (c - (i + 1)))) R K (l.drop ((nm1 l).length + 1)) := by
      rw [hlen]
      exact ⟨b, p, _, _, hrow2, (hrp.below hbA).below hb2, by omega, by omega⟩
    have HX := hid (And.intro hne (And.intro (congrArg str hn) (And.intro hR2 hg2)))
    clear hne hn hlen hR2 hg2 hrow2 hrp hb2 hr1 hg1 hb1 hbA
    go_wp2_with fail
    go_ret
    exact ⟨HX.out.2.2.2, .inr ⟨HX.out.1, by rw [HX.out.2.1]; rfl, HX.out.2.2.1⟩⟩
end Go.Proofs.Ytlooblgdlfheaaa.Amp
