/-
  objsym: reading a symbol.
  objsym: the magic number, the symbols; Decode.
  objsym: Decode.
-/
import Derived.Test.YtbcjbembhajgcaaDoorZOd
namespace Go.Proofs.YtbcjbembhajgcaaDoor.Obj
open Go.RowKit Go.Proofs Go.Proofs.YtbcjbembhajgcaaDoor.Byt
open Go.Proofs.YtbcjbembhajgcaaDoor.Sls (Oth)

end Go.Proofs.YtbcjbembhajgcaaDoor.Obj

namespace Go.Proofs.YtbcjbembhajgcaaDoor.Obj
open Go.RowKit Go.Proofs Go.Proofs.YtbcjbembhajgcaaDoor.Byt
open Go.Proofs.YtbcjbembhajgcaaDoor.Sls (Oth)

theorem Nms.block {w : World} {b n : Nat} {xs : List Sy} (h : Nms w b n xs) : ∃ es clock, w.heap[b]? = some (.map es clock) := by
  obtain ⟨D, ⟨es, clock, hb, _⟩, _⟩ := h
  exact ⟨es, clock, hb⟩
end Go.Proofs.YtbcjbembhajgcaaDoor.Obj

namespace Go.Proofs.YtbcjbembhajgcaaDoor.Obj
open Go.RowKit Go.Proofs Go.Proofs.YtbcjbembhajgcaaDoor.Byt
open Go.Proofs.YtbcjbembhajgcaaDoor.Sls (Oth)

end Go.Proofs.YtbcjbembhajgcaaDoor.Obj
