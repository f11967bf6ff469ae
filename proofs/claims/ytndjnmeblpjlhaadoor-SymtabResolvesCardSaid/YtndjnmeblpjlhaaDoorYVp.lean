/-
  symtab: the program's counter, Units, Load.
-/
import Derived.Test.YtndjnmeblpjlhaaDoorYVj
import Derived.Test.YtndjnmeblpjlhaaDoorYVe
import Derived.Test.YtndjnmeblpjlhaaDoorYBm
import Derived.WalkSpells
namespace Go.Proofs.YtndjnmeblpjlhaaDoor.Tab
open Go.RowKit Go.Proofs Go.Proofs.YtndjnmeblpjlhaaDoor.Byt
open Go.Proofs.YtndjnmeblpjlhaaDoor.Obj (Sy RdS SCells)
open Go.Proofs.YtndjnmeblpjlhaaDoor.Bnd

/-- The row of a table. -/
def TR (w : World) (T : Nat) (n : Int) (mo : Option Nat) : Prop := w.heap[T]? = some (.cells #[.int .i64 n, .map mo] 29 (0, 0))
theorem next_any (T n : Nat) (mo : Option Nat) (w : World) (h : TR w T n mo) (hn : n ≤ 10000) :
    Calls Tryd.prog 27 #[.pointer (some ⟨T, 0, none⟩)] w fun e w' => e = .returned (.int .i64 n) ∧ TR w' T ((n + 1 : Nat) : Int) mo ∧ (∀ g, g ≠ T → w'.heap[g]? = w.heap[g]?) ∧ w'.heap.size = w.heap.size ∧ ∀ K, K ≤ T → Below K w w' := by
  unfold TR at *
  have c0 := cell_of_row _ T 0 _ _ _ h
  have f0 := frozen_of_row w T 0 _ _ h
  have h1 := heap_setCell_same w T 0 _ _ (.int .i64 ((n : Int) + 1)) h
  have d0 := cell_of_row _ T 0 _ _ _ h1
  go_enter Tryd.func27, Tryd.ntmps27
  go_wp2_with fail
  go_ret
  refine ⟨ret_int (by omega), ?_, fun g hg => heap_setCell_other _ _ _ _ hg, by simp, fun K hK => (Below.refl _ _).setCell (p := ⟨T, 0, none⟩) hK _⟩
  exact h1
theorem counted_any (T n : Nat) (mo : Option Nat) (w : World) (h : TR w T n mo) : Calls Tryd.prog 30 #[.pointer (some ⟨T, 0, none⟩)] w fun e w' => e = .returned (.int .i64 n) ∧ w' = w := by
  unfold TR at *
  have c0 := cell_of_row _ T 0 _ _ _ h
  go_enter Tryd.func30, Tryd.ntmps30
  go_wp2_with fail
  go_ret
  exact ⟨rfl, rfl⟩
theorem units_any (T n : Nat) (mo : Option Nat) (w : World) (h : TR w T n mo) : Calls Tryd.prog 11 #[.pointer (some ⟨T, 0, none⟩)] w fun e w' => e = .returned (.int .i64 n) ∧ w' = w := by
  have HC := hid (counted_any T n mo w h)
  clear h
  go_enter Tryd.func11, Tryd.ntmps11
  go_wp2_with fail
  refine HC.out.mono ?_
  rintro e w1 ⟨rfl, rfl⟩
  go_wp2_with fail
  go_ret
  exact ⟨rfl, rfl⟩
theorem units_nil (w : World) : Calls Tryd.prog 11 #[.pointer none] w fun e w' => e = .returned (.int .i64 0) ∧ w' = w := by
  go_enter Tryd.func11, Tryd.ntmps11
  go_wp2_with fail
  go_ret
  exact ⟨rfl, rfl⟩
theorem load_nil (a b : Value) (w : World) : Calls Tryd.prog 10 #[.pointer none, .agg #[a, b]] w fun e w' => e = .returned (.int .i64 (-1)) ∧ Below w.heap.size w w' := by
  have hb := (Below.refl w.heap.size w).alloc (Nat.le_refl _) (.cells #[a, b] 34)
  go_enter Tryd.func10, Tryd.ntmps10
  go_wp2_with fail
  go_ret
  exact ⟨rfl, hb⟩
end Go.Proofs.YtndjnmeblpjlhaaDoor.Tab
