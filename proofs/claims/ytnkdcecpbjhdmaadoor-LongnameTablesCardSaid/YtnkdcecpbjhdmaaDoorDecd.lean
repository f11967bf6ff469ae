/-
  decfield.Format: the field and the error number, at every argument.
-/
import Derived.Test.YtnkdcecpbjhdmaaDoorDecc
namespace Go.Proofs.YtnkdcecpbjhdmaaDoor.Dec
open Go.RowKit Go.Proofs Go.Proofs.YtnkdcecpbjhdmaaDoor.Byt

/-- The error number of Format. -/
def ferr (n b w : Int) : Int := if vb b = true ∧ vw w = true then (if 0 ≤ n ∧ (nd b.toNat n.toNat : Int) ≤ w then 0 else 9) else 13
/-- The bytes of Format. -/
def fout (n b w : Int) : List UInt8 := if ferr n b w = 0 then field b.toNat n.toNat w.toNat else []

theorem ferr_13 {n b w : Int} (h : ¬(vb b = true ∧ vw w = true)) : ferr n b w = 13 ∧ fout n b w = [] := by
  have : ferr n b w = 13 := if_neg h
  exact ⟨this, by unfold fout; rw [this]; rfl⟩
theorem ferr_9 {n b w : Int} (h : vb b = true ∧ vw w = true) (h2 : ¬(0 ≤ n ∧ (nd b.toNat n.toNat : Int) ≤ w)) : ferr n b w = 9 ∧ fout n b w = [] := by
  have : ferr n b w = 9 := by unfold ferr; rw [if_pos h, if_neg h2]
  exact ⟨this, by unfold fout; rw [this]; rfl⟩
theorem ferr_0 {n b w : Int} (h : vb b = true ∧ vw w = true) (h2 : 0 ≤ n ∧ (nd b.toNat n.toNat : Int) ≤ w) : ferr n b w = 0 ∧ fout n b w = field b.toNat n.toNat w.toNat := by
  have : ferr n b w = 0 := by unfold ferr; rw [if_pos h, if_pos h2]
  exact ⟨this, by unfold fout; rw [this]; rfl⟩

/-- What Format gives. -/
def Formats (n b wd : Int) (w : World) (e : Ending) (w' : World) : Prop :=
  ∃ v, e = .returned (.tuple #[v, .int .i64 (ferr n b wd)]) ∧ Own w' w.heap.size v (fout n b wd).length (fout n b wd) ∧ Below w.heap.size w w'

theorem Formats.empty {n b wd : Int} {w : World} {k : Int} (h : ferr n b wd = k ∧ fout n b wd = []) : Formats n b wd w (.returned (.tuple #[.slice none 0 0, .int .i64 k])) w := by
  refine ⟨_, by rw [h.1], ?_, Below.refl _ _⟩
  rw [h.2]; exact Own.nil _ _

/-- The length in a slot. -/
def lenOf : Value → Nat | .slice _ n _ => n | _ => 0

end Go.Proofs.YtnkdcecpbjhdmaaDoor.Dec
