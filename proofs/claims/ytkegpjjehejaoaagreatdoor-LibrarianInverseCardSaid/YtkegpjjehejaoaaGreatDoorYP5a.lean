/-
  The reference of arparse:
-/
import Derived.Test.YtkegpjjehejaoaaGreatDoorYMl
import Derived.Test.YtkegpjjehejaoaaGreatDoorYMf
import Derived.Test.YtkegpjjehejaoaaGreatDoorYMb
import Derived.Deep.CutRange
import Derived.Test.YtkegpjjehejaoaaGreatDoorYWs
set_option maxRecDepth 100000
set_option maxHeartbeats 16000000
set_option linter.unusedSimpArgs false
set_option linter.unusedVariables false
namespace Go.Proofs.YtkegpjjehejaoaaGreatDoor
open Go.RowKit Go.Proofs
namespace JR
open JB JD JN JH
open JS (Oth)
def qq7 (W:World)(B:Nat)(v0 v1 v2 v3:Value):World:=(((W.setCell ⟨B,0,none⟩ v0).setCell ⟨B,1,none⟩ v1).setCell ⟨B,2,none⟩ v2).setCell ⟨B,3,none⟩ v3
theorem qmu {W:World}{B:Nat}{a b c d:Value}{t:TypeId}(h:W.heap[B]?=some (.cells #[a,b,c,d] t (0,0)))(v0 v1 v2 v3:Value):(qq7 W B v0 v1 v2 v3).heap[B]?=some (.cells #[v0,v1,v2,v3] t (0,0)):=
 heap_setCell_same _ B 3 _ _ v3 (heap_setCell_same _ B 2 _ _ v2 (heap_setCell_same _ B 1 _ _ v1 (heap_setCell_same W B 0 _ _ v0 h)))
theorem qj6 {W:World}{B:Nat}(v0 v1 v2 v3:Value)(g:Nat)(hg:g≠B):(qq7 W B v0 v1 v2 v3).heap[g]?=W.heap[g]?:=by
 unfold qq7
 rw[Below.heap_setCell _ ⟨B,3,none⟩ _ g hg,Below.heap_setCell _ ⟨B,2,none⟩ _ g hg,Below.heap_setCell _ ⟨B,1,none⟩ _ g hg,Below.heap_setCell _ ⟨B,0,none⟩ _ g hg]
theorem qdy {w W:World}{K B:Nat}(h:Below K w W)(hB:K≤B)(v0 v1 v2 v3:Value):Below K w (qq7 W B v0 v1 v2 v3):=
 (((h.setCell (p:=⟨B,0,none⟩) hB v0).setCell (p:=⟨B,1,none⟩) hB v1).setCell (p:=⟨B,2,none⟩) hB v2).setCell (p:=⟨B,3,none⟩) hB v3
theorem qum (w:World)(B:Nat)(cs:Array Value)(h:w.heap[B]?=some (.cells cs 79 (0,0)))(hs:cs.size=4):
 (loadVar 79 ⟨B,0,none⟩).run Tryz.prog w=.ok (.agg cs) w:=
 run_loadVar_row w B 79 79 cs (0,0) _ h Tryz.underlying79 rfl (by rw[hs];kernel_rfl)
end JR
namespace Frame
open Go.ChangeShapes Go.WideShapes Go.ChangeAt Go.RowKit Go.Proofs Go.Deep JN
theorem qmv (W : World) (hsh : W.ShapedOpen Tryz.prog) (hL : laidMetH Tryz.prog [("math/bits.deBruijn32tab", Rows.laid_math_bits_deBruijn32tab), ("math/bits.deBruijn64tab", Rows.laid_math_bits_deBruijn64tab), ("internal/strconv.uint64pow10", Rows.laid_internal_strconv_uint64pow10), ("unicode/utf8.acceptRanges", Rows.laid_unicode_utf8_acceptRanges), ("unicode/utf8.first", Rows.laid_unicode_utf8_first)] W) : qe3 W := by
 refine⟨gnd_of W hsh hL,?_,show 3=3 from rfl⟩
 rw[MakeChecks.laidMetH_plain _ _ _ (by kernel_rfl)] at hL
 have hL3:=hL.tail.tail
 have e:(Rows.laid_internal_strconv_uint64pow10:DataW Unit)=Lib.tabData .u64 Lib.pow10Tab:=by kernel_rfl
 rw[e] at hL3
 exact Lib.tabIs_of_head qva (t:=303) (e:=293) (n:=20) (by kernel_rfl) Tryz.underlying303 Tryz.underlying293 (by kernel_rfl) (by kernel_rfl) hL3
end Frame
namespace JR
open JB JD JN JH
end JR
end Go.Proofs.YtkegpjjehejaoaaGreatDoor
