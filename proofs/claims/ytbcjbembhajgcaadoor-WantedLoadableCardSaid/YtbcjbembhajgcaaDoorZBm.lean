/-
  bind's laws: awake.
-/
import Derived.Test.YtbcjbembhajgcaaDoorZBl
namespace Go.Proofs.YtbcjbembhajgcaaDoor.Bnd
open Go.RowKit Go.Proofs Go.Proofs.YtbcjbembhajgcaaDoor.Byt
open Go.Proofs.YtbcjbembhajgcaaDoor.Obj (Sy)
open Go.Proofs.YtbcjbembhajgcaaDoor.Arp (RdI)

theorem mrg (s : St) (v : Value) (x : Us) (t : St) (ht : joi s (sgl x) = t) (w : World) (hP : Prec w) (hs : Pl w w.heap.size v s.strongs) (hl : s.strongs.length ≤ 100000) (h1 : 1 ≤ x.s.bind) (h5 : x.s.bind ≤ 5) :
    Calls Tryd.prog 18 #[.agg #[.int .i64 s.bind, .int .i64 s.size, .int .i64 s.align, .int .i64 s.unit, .bool s.dfd, .bool s.sr, .bool s.wr, v], .agg #[.string x.s.name, .int .i64 x.s.bind, .int .i64 x.s.size, .int .i64 x.s.align], .int .i64 x.u] w (StP t w) := by
  subst ht
  exact merge_any w.heap.size s v x w hP hs (Nat.le_refl _) hl h1 h5
end Go.Proofs.YtbcjbembhajgcaaDoor.Bnd
