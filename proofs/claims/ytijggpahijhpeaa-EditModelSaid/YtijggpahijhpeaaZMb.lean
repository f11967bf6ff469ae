/-
  append of a string's bytes onto a byte slice of the call's own. strings.IndexRune in the two bytes 10, 0, at a rune beyond ASCII: it is not there. strings.ContainsAny at the two bytes 10, 0: whether one of them is among the bytes of a string, whatever its bytes are. The small functions of header and of its reference: which names fit, spaces, the descriptions of the fields. The descriptions of the fields, and the functions in them. Spaces appended, spaces made, the variables of the fields, and which names fit by the reference. What header.Encode gives: the plain mathematics.
-/
import Derived.Test.YtijggpahijhpeaaZMa
import Derived.Lib.AppendStr
import Derived.Test.YtijggpahijhpeaaZShelf
import Derived.Laws.Runes
import Derived.Laws.RangeAny
import Derived.Deep.LoopGhost
import Derived.Lib.DecodeN
import Derived.Deep.WholeRow
import Derived.Deep.Cut
namespace Go.Proofs.Ytijggpahijhpeaa.Byt
open Go.RowKit Go.Proofs

end Go.Proofs.Ytijggpahijhpeaa.Byt

namespace Go.Proofs.Ytijggpahijhpeaa.Str
open Go.RowKit Go.Proofs Go.Proofs.Ytijggpahijhpeaa.Byt

end Go.Proofs.Ytijggpahijhpeaa.Str

namespace Go.Proofs.Ytijggpahijhpeaa.Str
open Go.RowKit Go.Proofs Go.Proofs.Ytijggpahijhpeaa.Byt

/-- The two bytes that no name has. -/
def bad (l : List UInt8) : Bool := Lib.containsAny l [10, 0]

end Go.Proofs.Ytijggpahijhpeaa.Str

namespace Go.Proofs.Ytijggpahijhpeaa.Hdr
open Go.RowKit Go.Proofs Go.Proofs.Ytijggpahijhpeaa.Byt Go.Proofs.Ytijggpahijhpeaa.Str Go.Proofs.Ytijggpahijhpeaa.Dec

/-- The list of a string's bytes. -/
def by_ (s : ByteArray) : List UInt8 := s.data.toList
/-- A Name that fits. -/
def nameOk (s : ByteArray) : Bool := decide (1 ≤ s.size) && (decide (s.size ≤ 16) && (!bad (by_ s) && !Lib.hasSuffix (by_ s) [32]))

/-- The name of the table of long names. -/
def isTab (s : ByteArray) : Bool := s.toList == [47, 47]

end Go.Proofs.Ytijggpahijhpeaa.Hdr

namespace Go.Proofs.Ytijggpahijhpeaa.Hdr
open Go.RowKit Go.Proofs Go.Proofs.Ytijggpahijhpeaa.Byt Go.Proofs.Ytijggpahijhpeaa.Str Go.Proofs.Ytijggpahijhpeaa.Dec

/-- A literal whose value is known. -/
theorem wpList_built (d : Option Nat) {ops : Array Oper} {rest : List Oper} {o : Oper} {a : Act} {Q : Exit → Act → World → Prop} {w : World} (_ : o.dst = d) (hgd : o.guard = none) (t : TypeId) (ps : Array (Nat × Operand)) (ho : o.op = .build t ps) (vs : Array (Nat × Value)) (v : Value) (hrun : (Instr.build t vs).run Try.prog w = .ok v w)
    (hvs : ps.map (fun x => (x.1, a.eval x.2)) = vs) (h : wpList Try.prog ops Q rest (a.put o.dst v) w) : wpList Try.prog ops Q (o :: rest) a w := by
  refine wpList_plain hgd fun K' hK' => ?_
  unfold Oper.wp execOp
  simp only [ho, hvs, Sem.run_bind, Sem.run_pure, hrun, Result.andThen_ok]
  exact hK' _ _ h

/-- A store whose world is known. -/
theorem wpList_stored {ops : Array Oper} {rest : List Oper} {o : Oper} {a : Act} {Q : Exit → Act → World → Prop} {w w' : World} (hd : o.dst = none) (hgd : o.guard = none) (t : TypeId) (p x : Operand) (ho : o.op = .store t p x) (vp vx : Value) (hp : a.eval p = vp) (hx : a.eval x = vx)
    (hrun : (Instr.storeAt t vp vx).run Try.prog w = .ok () w') (h : wpList Try.prog ops Q rest a w') : wpList Try.prog ops Q (o :: rest) a w := by
  refine wpList_plain hgd fun K' hK' => ?_
  unfold Oper.wp execOp
  simp only [ho, hp, hx, Sem.run_bind, Sem.run_pure, hrun, Result.andThen_ok]
  rw [Oper.upon_skip]
  have e : ∀ v, a.put o.dst v = a := fun v => by rw [hd]; rfl
  rw [e]
  exact hK' _ _ h

end Go.Proofs.Ytijggpahijhpeaa.Hdr

namespace Go.Proofs.Ytijggpahijhpeaa.Hdr
open Go.RowKit Go.Proofs Go.Proofs.Ytijggpahijhpeaa.Byt Go.Proofs.Ytijggpahijhpeaa.Str Go.Proofs.Ytijggpahijhpeaa.Dec

end Go.Proofs.Ytijggpahijhpeaa.Hdr

namespace Go.Proofs.Ytijggpahijhpeaa.Hdr
open Go.RowKit Go.Proofs Go.Proofs.Ytijggpahijhpeaa.Byt Go.Proofs.Ytijggpahijhpeaa.Str Go.Proofs.Ytijggpahijhpeaa.Dec

def wd : Nat → Nat | 0 => 12 | 1 => 6 | 2 => 6 | 3 => 8 | _ => 10
def bs : Nat → Nat | 3 => 8 | _ => 10
def mo : Nat → Bool | 4 => false | _ => true
/-- Where a field begins. -/
def off : Nat → Nat | 0 => 16 | k + 1 => off k + wd k
end Go.Proofs.Ytijggpahijhpeaa.Hdr
