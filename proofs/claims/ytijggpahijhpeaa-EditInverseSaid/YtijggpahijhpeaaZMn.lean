/-
  arparse: Parse. arparse: Parse at every byte slice that begins with the magic number. awake of the laws of arparse: it answers true.
-/
import Derived.Test.YtijggpahijhpeaaZMm
import Derived.Test.YtijggpahijhpeaaZMl
import Derived.Test.YtijggpahijhpeaaZMk
import Derived.Test.YtijggpahijhpeaaZMf
import Derived.Test.YtijggpahijhpeaaZMa
namespace Go.Proofs.Ytijggpahijhpeaa.Arp
open Go.RowKit Go.Shelf Go.Proofs Go.Proofs.Ytijggpahijhpeaa.Byt Go.Proofs.Ytijggpahijhpeaa.Dec Go.Proofs.Ytijggpahijhpeaa.Lnm Go.Proofs.Ytijggpahijhpeaa.Hdr

attribute [local go_sem] Oper.semAt_some

theorem cel_on {t : TypeId} {sz : Nat} {W W' : World} {row : Option Nat} {K n : Nat} {v : Value} {l : List Value} (h : Cel.Own t sz W K v n l) (hg : W.grownBy W' row) (hr : ∀ r, row = some r → ∃ o : Obj, W.heap[r]? = some o ∧ o.isCells = false) : Cel.Own t sz W' K v n l := by
  refine ⟨h.1, ?_⟩
  rcases h.2 with h | ⟨g, cap, cur, m, hv, hgk, hh, r⟩
  · exact .inl h
  · exact .inr ⟨g, cap, cur, m, hv, hgk, (grownBy_keeps_cells hg hr hh rfl).trans hh, r⟩
theorem byt_on {W W' : World} {row : Option Nat} {K n : Nat} {v : Value} {l : List UInt8} (h : Byt.Own W K v n l) (hg : W.grownBy W' row) (hr : ∀ r, row = some r → ∃ o : Obj, W.heap[r]? = some o ∧ o.isCells = false) : Byt.Own W' K v n l := by
  refine ⟨h.1, ?_⟩
  rcases h.2 with h | ⟨g, cap, cur, m, hv, hgk, hh, r⟩
  · exact .inl h
  · exact .inr ⟨g, cap, cur, m, hv, hgk, (grownBy_keeps_cells hg hr hh rfl).trans hh, r⟩
theorem OwnA.on {W W' : World} {row : Option Nat} {K : Nat} {x : Arc} (h : OwnA W K x) (hg : W.grownBy W' row) (hr : ∀ r, row = some r → ∃ o : Obj, W.heap[r]? = some o ∧ o.isCells = false) : OwnA W' K x :=
  ⟨byt_on h.map hg hr, cel_on h.mems hg hr, fun m hm => byt_on (h.data m hm) hg hr, cel_on h.offs hg hr, h.small⟩
end Go.Proofs.Ytijggpahijhpeaa.Arp

namespace Go.Proofs.Ytijggpahijhpeaa.Arp
open Go.RowKit Go.Shelf Go.Proofs Go.Proofs.Ytijggpahijhpeaa.Byt Go.Proofs.Ytijggpahijhpeaa.Dec Go.Proofs.Ytijggpahijhpeaa.Lnm Go.Proofs.Ytijggpahijhpeaa.Hdr

attribute [local go_sem] Oper.semAt_some

theorem OwnA.more {w : World} {K K' : Nat} {x : Arc} (h : OwnA w K x) (hK : K' ≤ K) : OwnA w K' x := ⟨h.map.more hK, h.mems.more hK, fun m hm => (h.data m hm).more hK, h.offs.more hK, h.small⟩
end Go.Proofs.Ytijggpahijhpeaa.Arp

namespace Go.Proofs.Ytijggpahijhpeaa.Arp
open Go.RowKit Go.Proofs Go.Proofs.Ytijggpahijhpeaa.Byt Go.Proofs.Ytijggpahijhpeaa.Dec Go.Proofs.Ytijggpahijhpeaa.Lnm Go.Proofs.Ytijggpahijhpeaa.Hdr

end Go.Proofs.Ytijggpahijhpeaa.Arp
