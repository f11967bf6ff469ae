/-
  symtab: the program's counter, Units, Load.
-/
import Derived.Test.YtbcjbembhajgcaaDoorZVj
import Derived.Test.YtbcjbembhajgcaaDoorZVe
import Derived.Test.YtbcjbembhajgcaaDoorZBm
import Derived.WalkSpells
namespace Go.Proofs.YtbcjbembhajgcaaDoor.Tab
open Go.RowKit Go.Proofs Go.Proofs.YtbcjbembhajgcaaDoor.Byt
open Go.Proofs.YtbcjbembhajgcaaDoor.Obj (Sy RdS SCells)
open Go.Proofs.YtbcjbembhajgcaaDoor.Bnd

/-- The row of a table. -/
def TR (w : World) (T : Nat) (n : Int) (mo : Option Nat) : Prop := w.heap[T]? = some (.cells #[.int .i64 n, .map mo] 30 (0, 0))
theorem next_any (T n : Nat) (mo : Option Nat) (w : World) (h : TR w T n mo) (hn : n ≤ 10000) :
    Calls Tryd.prog 17 #[.pointer (some ⟨T, 0, none⟩)] w fun e w' => e = .returned (.int .i64 n) ∧ TR w' T ((n + 1 : Nat) : Int) mo ∧ (∀ g, g ≠ T → w'.heap[g]? = w.heap[g]?) ∧ w'.heap.size = w.heap.size ∧ ∀ K, K ≤ T → Below K w w' := by
  unfold TR at *
  have c0 := cell_of_row _ T 0 _ _ _ h
  have f0 := frozen_of_row w T 0 _ _ h
  have h1 := heap_setCell_same w T 0 _ _ (.int .i64 ((n : Int) + 1)) h
  have d0 := cell_of_row _ T 0 _ _ _ h1
  go_enter Tryd.func17, Tryd.ntmps17
  go_wp2_with fail
  go_ret
  refine ⟨ret_int (by omega), ?_, fun g hg => heap_setCell_other _ _ _ _ hg, by simp, fun K hK => (Below.refl _ _).setCell (p := ⟨T, 0, none⟩) hK _⟩
  exact h1
end Go.Proofs.YtbcjbembhajgcaaDoor.Tab
