/-
  The reference's joining of two byte slices.
-/
import Derived.Test.YtnkdcecpbjhdmaaDoorByt
namespace Go.Proofs.YtnkdcecpbjhdmaaDoor.Byt
open Go.RowKit Go.Proofs

set_option maxHeartbeats 1000000 in
/-- Two byte slices joined. -/
theorem add_any (K K' : Nat) (A A' : Option Addr) (n c n' c' : Nat) (xs ys : List UInt8) (w : World) (h : Rd w K A n xs) (h' : Rd w K' A' n' ys) (hK : K ≤ w.heap.size) (hK' : K' ≤ w.heap.size) (hn : n ≤ 100000) (hn' : n' ≤ 100000) :
    Calls Tryd.prog 25 #[.slice A n c, .slice A' n' c'] w fun e w' => ∃ v, e = .returned v ∧ Own w' w.heap.size v (n + n') (xs ++ ys) ∧ Below w.heap.size w w' := by
  have hbl := hid ((Below.refl w.heap.size w).alloc (Nat.le_refl _) (.cells #[] 5))
  have H1 := hid ((h.more hK).below hbl.out)
  have H2 := hid ((h'.more hK').below hbl.out)
  clear h h'
  go_enter Tryd.func25, Tryd.ntmps25
  go_wp2_with (first
    | (at_builtin; refine wpList_app _ w.heap.size _ 0 [] (Own.lit0 w w.heap.size (Nat.le_refl _)) (by simp) A n c _ xs H1.out (by omega) rfl (.tmp 5) (.tmp 6) rfl rfl rfl ?_; intro v1 w1 hown1 hb1; have hb01 := hbl.out.trans hb1)
    | (at_builtin; refine wpList_app _ w.heap.size _ _ _ hown1 hb01.size A' n' c' _ ys (H2.out.below hb1) (by omega) rfl (.tmp 7) (.tmp 8) rfl rfl rfl ?_; intro v2 w2 hown2 hb2))
  go_ret
  refine ⟨_, rfl, ?_, hb01.trans hb2⟩
  rw [Nat.zero_add, List.nil_append] at hown2
  exact hown2
end Go.Proofs.YtnkdcecpbjhdmaaDoor.Byt
