/-
  The reference's Format and Parse, at every argument.
-/
import Derived.Test.YtnkdcecpbjhdmaaDoorDece
namespace Go.Proofs.YtnkdcecpbjhdmaaDoor.Dec
open Go.RowKit Go.Proofs Go.Proofs.YtnkdcecpbjhdmaaDoor.Byt

theorem below_drewN {K : Nat} (w : World) (m : Nat) : Below K w (w.drewN m) := ⟨rfl, rfl, rfl, Nat.le_refl _, fun _ _ => rfl⟩

theorem Formats.drewN {n b wd : Int} {w : World} {k : Int} (m : Nat) (h : ferr n b wd = k ∧ fout n b wd = []) : Formats n b wd w (.returned (.tuple #[.slice none 0 0, .int .i64 k])) (w.drewN m) := by
  refine ⟨_, by rw [h.1], ?_, below_drewN _ _⟩
  rw [h.2]; exact Own.nil _ _

end Go.Proofs.YtnkdcecpbjhdmaaDoor.Dec
