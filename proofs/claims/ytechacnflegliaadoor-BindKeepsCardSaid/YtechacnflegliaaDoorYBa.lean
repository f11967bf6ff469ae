/-
  bind: the state of a symbol (mathematics, no program).
-/
import Derived.Test.YtechacnflegliaaDoorYOb
namespace Go.Proofs.YtechacnflegliaaDoor.Bnd
open Go.Proofs.YtechacnflegliaaDoor.Obj (Sy)

/-- A symbol of a unit. -/
structure Us where
  s : Sy
  u : Int
/-- The state of a symbol. -/
structure St where
  bind : Int
  size : Int
  align : Int
  unit : Int
  dfd : Bool
  sr : Bool
  wr : Bool
  strongs : List Int
def rnk (b : Int) : Int := if b = 1 then 3 else if b = 3 then 2 else if b = 2 then 1 else 0
def emp : St := ⟨0, 0, 0, -1, false, false, false, []⟩
/-- The state of one symbol. -/
def sgl (x : Us) : St :=
  ⟨if 0 < rnk x.s.bind then x.s.bind else 0, if 0 < rnk x.s.bind then x.s.size else 0, if x.s.bind = 3 then x.s.align else 0, if 0 < rnk x.s.bind then x.u else -1,
    x.s.bind == 1 || x.s.bind == 2, x.s.bind == 4, x.s.bind == 5, if x.s.bind = 1 then [x.u] else []⟩
/-- The definition that prevails; the other fields stay those of the state it is taken from. -/
def prv (a b : St) : St :=
  if rnk a.bind < rnk b.bind then b else if a.bind = 3 ∧ b.bind = 3 then { a with size := max a.size b.size, align := max a.align b.align } else a
def joi (a b : St) : St := { prv a b with dfd := a.dfd || b.dfd, sr := a.sr || b.sr, wr := a.wr || b.wr, strongs := a.strongs ++ b.strongs }
def allL (l : List Us) : St := l.foldl (fun s x => joi s (sgl x)) emp
theorem allL_snoc (l : List Us) (x : Us) : allL (l ++ [x]) = joi (allL l) (sgl x) := by simp [allL]

/-- Symbols as the laws take them. -/
def uOk (x : Us) : Bool := decide (1 ≤ x.s.bind) && (decide (x.s.bind ≤ 5) && (decide (0 ≤ x.s.size) && (decide (0 ≤ x.s.align) && decide (0 ≤ x.u))))
theorem uOk_iff {x : Us} : uOk x = true ↔ 1 ≤ x.s.bind ∧ x.s.bind ≤ 5 ∧ 0 ≤ x.s.size ∧ 0 ≤ x.s.align ∧ 0 ≤ x.u := by simp [uOk]
def rightL (l : List Us) : Bool := decide (l.length ≤ 50) && l.all uOk
theorem rightL_iff {l : List Us} : rightL l = true ↔ l.length ≤ 50 ∧ ∀ x ∈ l, uOk x = true := by simp [rightL]
theorem five {x : Us} (h : uOk x = true) : x.s.bind = 1 ∨ x.s.bind = 2 ∨ x.s.bind = 3 ∨ x.s.bind = 4 ∨ x.s.bind = 5 := by
  obtain ⟨h1, h2, _⟩ := uOk_iff.1 h
  omega
end Go.Proofs.YtechacnflegliaaDoor.Bnd
