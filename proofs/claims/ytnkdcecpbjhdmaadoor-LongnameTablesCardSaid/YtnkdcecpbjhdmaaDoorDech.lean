/-
  The reference's Parse, at every argument.
-/
import Derived.Test.YtnkdcecpbjhdmaaDoorDecg
namespace Go.Proofs.YtnkdcecpbjhdmaaDoor.Dec
open Go.RowKit Go.Proofs Go.Proofs.YtnkdcecpbjhdmaaDoor.Byt

/-- What the reference's Parse gives. -/
def Parses (l : List UInt8) (b : Int) (w : World) (e : Ending) (w' : World) : Prop :=
  e = .returned (.tuple #[.int .i64 (pval l b), .int .i64 (perr l b)]) ∧ Below w.heap.size w w'

def QRel (b n : Nat) (l : List UInt8) (v i : Value) : Prop :=
  ∃ k x : Nat, v = .int .i64 (x : Int) ∧ i = .int .i64 (k : Int) ∧ k ≤ n ∧ x < 1000000000000000000 ∧ Hid (x = val b (l.take k) ∧ ∀ u ∈ l.take k, isD b u = true)

/-- The reference's test at the end of the digits. -/
theorem rparse_end {b n k x : Nat} {l : List UInt8} (hb2 : 2 ≤ b) (hb3 : b ≤ 10) (hl : l.length = n) (hk : k ≤ n) (hx : x = val b (l.take k)) (h1 : ∀ u ∈ l.take k, isD b u = true) (h2 : ∀ c, l[k]? = some c → isD b c = false) :
    (k = 0 → parse b l = none) ∧ (n < nd b x → parse b l = none) ∧ (nd b x ≤ n → (field b x n == l) = true → parse b l = some x) ∧ (nd b x ≤ n → (field b x n == l) = false → parse b l = none) := by
  have hp := parse_at h1 h2 (by omega)
  rw [← hx] at hp
  refine ⟨fun h => ?_, fun h => ?_, fun h h3 => ?_, fun h h3 => ?_⟩
  · rw [hp, if_neg]; rintro ⟨_, h4⟩; have := nd_pos b x; omega
  · rw [hp, if_neg]; rintro ⟨_, h4⟩; omega
  · rw [beq_iff_eq] at h3
    rw [← h3]; exact parse_field hb2 hb3 _ _
  · rw [hp, if_neg]
    intro h4
    rw [if_pos h4] at hp
    have := (parse_some hb2 hb3 hp).2
    rw [hl] at this
    rw [beq_eq_false_iff_ne] at h3
    exact h3 this.symm

end Go.Proofs.YtnkdcecpbjhdmaaDoor.Dec
