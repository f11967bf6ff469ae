/-
  Objects and their encoding: mathematics, no program.
-/
import Derived.Test.YtechacnflegliaaDoorYOa
namespace Go.Proofs.YtechacnflegliaaDoor.Obj
open Go.RowKit Go.Proofs

/-- A symbol. -/
structure Sy where
  name : ByteArray
  bind : Int
  size : Int
  align : Int
def Sy.val (x : Sy) : Value := .agg #[.string x.name, .int .i64 x.bind, .int .i64 x.size, .int .i64 x.align]
/-! ### the encoding -/
def w4 (n : Nat) : List UInt8 := [UInt8.ofNat (n / 16777216), UInt8.ofNat (n / 65536), UInt8.ofNat (n / 256), UInt8.ofNat n]
def kS (l : List UInt8) : Nat := (l.getD 9 0).toNat
def cutS (l : List UInt8) : Prop := l.length < 10 ∨ l.length < 10 + kS l
instance (l : List UInt8) : Decidable (cutS l) := by unfold cutS; exact inferInstance
end Go.Proofs.YtechacnflegliaaDoor.Obj
