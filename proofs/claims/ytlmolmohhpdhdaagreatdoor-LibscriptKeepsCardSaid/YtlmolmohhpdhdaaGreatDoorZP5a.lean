/-
  The reference of arparse:
-/
import Derived.Test.YtlmolmohhpdhdaaGreatDoorZMl
import Derived.Test.YtlmolmohhpdhdaaGreatDoorZMf
import Derived.Test.YtlmolmohhpdhdaaGreatDoorZMb
import Derived.Deep.CutRange
import Derived.Test.YtlmolmohhpdhdaaGreatDoorZWs
set_option maxRecDepth 100000
set_option maxHeartbeats 16000000
set_option linter.unusedSimpArgs false
set_option linter.unusedVariables false
namespace Go.Proofs.YtlmolmohhpdhdaaGreatDoor
open Go.RowKit Go.Proofs
namespace JR
open JB JD JN JH
open JS (Oth)
def Row4 (W:World)(B:Nat)(x:Arc):Prop:=W.heap[B]?=some (.cells #[.bool x.hasMap,.slice x.mp x.mn x.mc,.slice x.ap x.an x.ac,.slice x.op x.on x.oc] 124 (0,0))
theorem Row4.cells {W:World}{B:Nat}{x:Arc}(h:Row4 W B x):
 W.cell? ⟨B,0,none⟩=some (.bool x.hasMap)∧W.cell? ⟨B,1,none⟩=some (.slice x.mp x.mn x.mc)∧W.cell? ⟨B,2,none⟩=some (.slice x.ap x.an x.ac)∧W.cell? ⟨B,3,none⟩=some (.slice x.op x.on x.oc)∧
 (∀o,W.frozen? ⟨B,o,none⟩=false)∧B<W.heap.size:=
 ⟨cell_of_row W B 0 _ _ _ h,cell_of_row W B 1 _ _ _ h,cell_of_row W B 2 _ _ _ h,cell_of_row W B 3 _ _ _ h,fun o=>frozen_of_row W B o _ _ h,(Array.getElem?_eq_some_iff.1 h).1⟩
theorem Row4.on {W W':World}{B:Nat}{x:Arc}(h:Row4 W B x)(hb:Below W.heap.size W W'):Row4 W' B x:=(hb.block B (Array.getElem?_eq_some_iff.1 h).1).trans h
def qr0 (W:World)(B:Nat)(v0 v1 v2 v3:Value):World:=(((W.setCell ⟨B,0,none⟩ v0).setCell ⟨B,1,none⟩ v1).setCell ⟨B,2,none⟩ v2).setCell ⟨B,3,none⟩ v3
theorem qqd {W:World}{B:Nat}{a b c d:Value}{t:TypeId}(h:W.heap[B]?=some (.cells #[a,b,c,d] t (0,0)))(v0 v1 v2 v3:Value):(qr0 W B v0 v1 v2 v3).heap[B]?=some (.cells #[v0,v1,v2,v3] t (0,0)):=
 heap_setCell_same _ B 3 _ _ v3 (heap_setCell_same _ B 2 _ _ v2 (heap_setCell_same _ B 1 _ _ v1 (heap_setCell_same W B 0 _ _ v0 h)))
theorem qi5 {W:World}{B:Nat}(v0 v1 v2 v3:Value)(g:Nat)(hg:g≠B):(qr0 W B v0 v1 v2 v3).heap[g]?=W.heap[g]?:=by
 unfold qr0
 rw[Below.heap_setCell _ ⟨B,3,none⟩ _ g hg,Below.heap_setCell _ ⟨B,2,none⟩ _ g hg,Below.heap_setCell _ ⟨B,1,none⟩ _ g hg,Below.heap_setCell _ ⟨B,0,none⟩ _ g hg]
theorem qci {w W:World}{K B:Nat}(h:Below K w W)(hB:K≤B)(v0 v1 v2 v3:Value):Below K w (qr0 W B v0 v1 v2 v3):=
 (((h.setCell (p:=⟨B,0,none⟩) hB v0).setCell (p:=⟨B,1,none⟩) hB v1).setCell (p:=⟨B,2,none⟩) hB v2).setCell (p:=⟨B,3,none⟩) hB v3
theorem qmu (w:World)(B:Nat)(cs:Array Value)(h:w.heap[B]?=some (.cells cs 124 (0,0)))(hs:cs.size=4):
 (loadVar 124 ⟨B,0,none⟩).run Tryz.prog w=.ok (.agg cs) w:=
 run_loadVar_row w B 124 124 cs (0,0) _ h Tryz.underlying124 rfl (by rw[hs];kernel_rfl)
structure RP (w W:World) (B:Nat) (l:List UInt8) (s:St) (a:Nat) (x:Arc) (T:Option Addr) (tn tc:Nat):Prop where
 lt:w.heap.size<B
 res:Row4 W w.heap.size Arc.zero
 row:Row4 W B x
 own:qhb W (B+1) x
 is:x.is s
 tbl:JB.Own W (B+1) (.slice T tn tc) tn (s.tbl.getD [])
 tsz:tn<100000
 below:Below w.heap.size w W
 ok:Ok s
 le:8≤a∧a≤l.length
 go:ar l=go s a (l.drop a)
 at_:a=8↔s.cnt=0
 cnt:s.cnt≤a
theorem RP.call {w W W':World}{B:Nat}{l:List UInt8}{s:St}{a:Nat}{x:Arc}{T:Option Addr}{tn tc:Nat}(h:RP w W B l s a x T tn tc)(hb:Below W.heap.size W W'):RP w W' B l s a x T tn tc:=
 ⟨h.lt,h.res.on hb,h.row.on hb,h.own.below hb,h.is,h.tbl.below hb,h.tsz,h.below.trans (hb.mono h.below.size),h.ok,h.le,h.go,h.at_,h.cnt⟩
theorem RP.out {w W:World}{B:Nat}{l:List UInt8}{s:St}{a:Nat}{x:Arc}{T:Option Addr}{tn tc:Nat}(h:RP w W B l s a x T tn tc)(h0:l.drop a≠[]){z:Int}(hz:qam s (l.drop a)=z)(hne:z≠0):
 qg5 l w (.returned (.tuple #[.agg #[.bool false,.slice none 0 0,.slice none 0 0,.slice none 0 0],.int .i64 (a:Int),.int .i64 z])) (qr0 W w.heap.size (.bool false) (.slice none 0 0) (.slice none 0 0) (.slice none 0 0)):=by
 refine qg5.bad ?_ (qci h.below zjn _ _ _ _)
 rw[h.go,qhx h0 (by rw[hz];exact hne),hz]
theorem RP.load {w W:World}{B:Nat}{l:List UInt8}{s:St}{a:Nat}{x:Arc}{T:Option Addr}{tn tc:Nat}(h:RP w W B l s a x T tn tc):
 (loadVar 124 ⟨w.heap.size,0,none⟩).run Tryz.prog (qr0 W w.heap.size (.bool false) (.slice none 0 0) (.slice none 0 0) (.slice none 0 0))=.ok (.agg #[.bool false,.slice none 0 0,.slice none 0 0,.slice none 0 0]) (qr0 W w.heap.size (.bool false) (.slice none 0 0) (.slice none 0 0) (.slice none 0 0)):=
 qmu _ _ _ (qqd h.res _ _ _ _) rfl
theorem RP.step {w W W':World}{B:Nat}{l:List UInt8}{s:St}{a:Nat}{x x':Arc}{T T':Option Addr}{tn tc tn' tc':Nat}(h:RP w W B l s a x T tn tc)(h0:l.drop a≠[])(hE:qam s (l.drop a)=0)(hc:Ch (B+1) B W W')
 (hrow:Row4 W' B x')(hown:qhb W' (B+1) x')(his:x'.is (qbs s a (l.drop a)))(htbl:JB.Own W' (B+1) (.slice T' tn' tc') tn' ((qbs s a (l.drop a)).tbl.getD []))(htn:tn'<100000):
 RP w W' B l (qbs s a (l.drop a)) (a+qdg (l.drop a)) x' T' tn' tc':=by
 obtain⟨q1,q2⟩:=qj8 (a:=a) h.ok hE
 have hp:=(qe4 (qdm hE)).2.1
 have hpp:=qbx (l.drop a)
 rw[List.length_drop] at hp
 have hlt:=h.lt
 have hle:=h.le
 have hcn:=h.cnt
 have hBW:=(Array.getElem?_eq_some_iff.1 h.row).1
 refine⟨hlt,hc.row h.res (by omega) (by decide) (by decide),hrow,hown,his,htbl,htn,h.below.trans (hc.to (by omega) (by omega) (by omega)),q1,by omega,?_,by omega,by omega⟩
 rw[h.go,qk5 h0 hE,List.drop_drop]
theorem RP.map {w W:World}{B:Nat}{l:List UInt8}{s:St}{a:Nat}{x:Arc}{T:Option Addr}{tn tc:Nat}(h:RP w W B l s a x T tn tc)(h0:l.drop a≠[])(hE:qam s (l.drop a)=0)(hn:qay (l.drop a)=qi1)
 {D:Option Addr}{z k:Nat}(hD:JB.Own W (B+1) (.slice D z k) z (qcq (l.drop a)))(hz:z≤140737488355328):
 ∃x',RP w ((W.setCell ⟨B,0,none⟩ (.bool true)).setCell ⟨B,1,none⟩ (.slice D z k)) B l (qbs s a (l.drop a)) (a+qdg (l.drop a)) x' T tn tc:=by
 have hbut:=(But.set W 0 (.bool true)).trans (But.set (B:=B) (W.setCell ⟨B,0,none⟩ (.bool true)) 1 (.slice D z k))
 have hch:Ch (B+1) B W _:=Ch.but hbut
 have hs:qbs s a (l.drop a)={s with hasMap:=true,map:=qcq (l.drop a)}:=by unfold qbs;rw[if_pos hn]
 refine⟨{x with hasMap:=true,mp:=D,mn:=z,mc:=k,map:=qcq (l.drop a)},h.step h0 hE hch (heap_setCell_same _ B 1 _ _ _ (heap_setCell_same W B 0 _ _ _ h.row)) ?_ (by rw[hs];exact⟨rfl,rfl,h.is.2.2⟩) (by rw[hs];exact qmj h.tbl hch (by omega)) h.tsz⟩
 exact⟨qmj hD hch (by omega),qem h.own.mems hbut (by omega),h.own.data.ch hch (by omega),qem h.own.offs hbut (by omega),hz,h.own.small.2⟩
theorem RP.small {w W:World}{B:Nat}{l:List UInt8}{s:St}{a:Nat}{x:Arc}{T:Option Addr}{tn tc:Nat}(h:RP w W B l s a x T tn tc):x.an≤l.length∧x.on≤l.length:=by
 obtain⟨h1,h2⟩:=h.own.lens
 have h3:=congrArg List.length h.is.2.2.1
 have h4:=congrArg List.length h.is.2.2.2
 rw[List.length_map] at h3
 rw[h.ok.len] at h4
 have h5:s.mems.length≤s.cnt:=by unfold St.cnt;omega
 have h6:=h.cnt
 have h7:=h.le.2
 exact⟨by omega,by omega⟩
end JR
namespace Frame
open Go.ChangeShapes Go.WideShapes Go.ChangeAt Go.RowKit Go.Proofs Go.Deep JN
theorem qkk (W : World) (hsh : W.ShapedOpen Tryz.prog) (hL : laidMetH Tryz.prog [("math/bits.deBruijn32tab", Rows.laid_math_bits_deBruijn32tab), ("math/bits.deBruijn64tab", Rows.laid_math_bits_deBruijn64tab), ("internal/strconv.uint64pow10", Rows.laid_internal_strconv_uint64pow10), ("unicode/utf8.acceptRanges", Rows.laid_unicode_utf8_acceptRanges), ("unicode/utf8.first", Rows.laid_unicode_utf8_first)] W) : qcj W := by
 refine⟨gnd_of W hsh hL,?_,show 3=3 from rfl⟩
 rw[MakeChecks.laidMetH_plain _ _ _ (by kernel_rfl)] at hL
 have hL3:=hL.tail.tail
 have e:(Rows.laid_internal_strconv_uint64pow10:DataW Unit)=Lib.tabData .u64 Lib.pow10Tab:=by kernel_rfl
 rw[e] at hL3
 exact Lib.tabIs_of_head qt4 (t:=248) (e:=189) (n:=20) (by kernel_rfl) Tryz.underlying248 Tryz.underlying189 (by kernel_rfl) (by kernel_rfl) hL3
end Frame
namespace JR
open JB JD JN JH
end JR
end Go.Proofs.YtlmolmohhpdhdaaGreatDoor
