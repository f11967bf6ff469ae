/-
  bind's laws: what they share; BindGrows, walked.
-/
import Derived.Test.YtechacnflegliaaDoorYBm
import Derived.Deep.Cut
import Derived.Deep.CutRange
namespace Go.Proofs.YtechacnflegliaaDoor.Bnd
open Go.RowKit Go.Proofs Go.Proofs.YtechacnflegliaaDoor.Byt
open Go.Proofs.YtechacnflegliaaDoor.Obj (Sy)
open Go.Proofs.YtechacnflegliaaDoor.Arp (RdI)

/-- A whole use is read. -/
theorem ldU {ops : Array Oper} {rest : List Oper} {o : Oper} {a : Act} {w : World} {Q : Exit → Act → World → Prop} (hgd : o.guard = none) (x : Operand) (ho : o.op = .load 39 x)
    (u : Nat) (hx : a.eval x = .pointer (some ⟨u, 0, none⟩)) (cs : Array Value) (hg : w.heap[u]? = some (.cells cs 39 (0, 0))) (hs : cs.size = 5)
    (h : wpList Tryd.prog ops Q rest (a.put o.dst (.agg cs)) w) : wpList Tryd.prog ops Q (o :: rest) a w :=
  wpList_load_row hgd 39 x ho u hx 39 cs (0, 0) _ hg Tryd.underlying39 rfl (by rw [hs]; kernel_rfl) h
def Us.row (x : Us) : Array Value := #[.string x.s.name, .int .i64 x.s.bind, .int .i64 x.s.size, .int .i64 x.s.align, .int .i64 x.u]
/-- One use, in a row that has just been laid. -/
theorem rdu_new (w : World) (x : Us) : RdU (w.alloc (.cells x.row 39)) (w.heap.size + 1) (some ⟨w.heap.size, 0, none⟩) 1 [x] :=
  ⟨rfl, fun k hk => by
    have hk0 : k = 0 := by simpa using hk
    subst hk0
    exact ⟨w.heap.size, 0, rfl, Nat.lt_succ_self _, range_row (heap_alloc_new w _)⟩⟩

end Go.Proofs.YtechacnflegliaaDoor.Bnd
