/-
  objsym: reading a symbol.
  objsym: the magic number, the symbols; Decode.
  objsym: Decode.
-/
import Derived.Test.YtndjnmeblpjlhaaDoorYOd
namespace Go.Proofs.YtndjnmeblpjlhaaDoor.Obj
open Go.RowKit Go.Proofs Go.Proofs.YtndjnmeblpjlhaaDoor.Byt
open Go.Proofs.YtndjnmeblpjlhaaDoor.Sls (Oth)

end Go.Proofs.YtndjnmeblpjlhaaDoor.Obj

namespace Go.Proofs.YtndjnmeblpjlhaaDoor.Obj
open Go.RowKit Go.Proofs Go.Proofs.YtndjnmeblpjlhaaDoor.Byt
open Go.Proofs.YtndjnmeblpjlhaaDoor.Sls (Oth)

theorem Nms.block {w : World} {b n : Nat} {xs : List Sy} (h : Nms w b n xs) : ∃ es clock, w.heap[b]? = some (.map es clock) := by
  obtain ⟨D, ⟨es, clock, hb, _⟩, _⟩ := h
  exact ⟨es, clock, hb⟩
end Go.Proofs.YtndjnmeblpjlhaaDoor.Obj

namespace Go.Proofs.YtndjnmeblpjlhaaDoor.Obj
open Go.RowKit Go.Proofs Go.Proofs.YtndjnmeblpjlhaaDoor.Byt
open Go.Proofs.YtndjnmeblpjlhaaDoor.Sls (Oth)

end Go.Proofs.YtndjnmeblpjlhaaDoor.Obj
