/-
  librarian: LibrarianScripts, from the program's contracts:
-/
import Derived.Test.YtkegpjjehejaoaaGreatDoorYLk
import Derived.Test.YtkegpjjehejaoaaGreatDoorYEya
import Derived.Test.YtkegpjjehejaoaaGreatDoorYEe
import Derived.Deep.Fields
import Derived.Deep.Slices
set_option maxRecDepth 100000
set_option maxHeartbeats 16000000
set_option linter.unusedSimpArgs false
set_option linter.unusedVariables false
namespace Go.Proofs.YtkegpjjehejaoaaGreatDoor
open Go.RowKit Go.Proofs
namespace JL
open JB
open JS (Oth qcw)
open JN (qe3)
open JR (Mem RdM qde qa5 qcv ar)
open JW (core MOk lens qaw qj3)
open Go.Proofs.YtkegpjjehejaoaaGreatDoor.Six (Few qbe)
open JE (qak qbq qef qbw qe5 qek qbj qir qgb qaj qax)
def CmdsB (w:World)(B:Option Addr)(k:Nat)(qs:List Cmd):Prop:=JC.Rd w w.heap.size B k 10 (qis qs)∧∀q∈qs,Qef w q
end JL
namespace Frame
open Go.ChangeShapes Go.WideShapes Go.ChangeAt Go.RowKit Go.Proofs Go.Deep
open JL (Cmd Qef CmdsB qis qer qpq qhx)
set_option maxRecDepth 100000
theorem qih {H:Type}{enc:TypeId×Value→H}{W:World}{fs:Array Field}{cs:List Value}{xs:List (DataW H×List MemPlace)}{n:Nat}(hl:xs.length=fs.size)
 (hg:∀(i:Nat)(f:Field),fs[i]?=some f→DataW.trod enc Tryz.prog W 0 (fun _=>true) true n f.type ((cs.drop f.offset).take (Tryz.prog.cellsOf f.type))=xs[i]?)(i:Nat)(f:Field)(hf:fs[i]?=some f)(k:Nat)(hk:Tryz.prog.cellsOf f.type=k)(d:List Value)(hd:(cs.drop f.offset).take k=d):
 ∃y,DataW.trod enc Tryz.prog W 0 (fun _=>true) true n f.type d=some y:=by
 have hlt:i<xs.length:=by rw[hl];exact (Array.getElem?_eq_some_iff.1 hf).1
 have h3:=hg i f hf
 rw[hk,hd,List.getElem?_eq_getElem hlt] at h3
 exact⟨_,h3⟩
theorem memb_at {H:Type}{enc:TypeId×Value→H}{W:World}{fuel:Nat}{c0 c1 c2 c3 c4 c5:Value}{x:DataW H×List MemPlace}(hf:DataW.trod enc Tryz.prog W 0 (fun _=>true) true fuel 24 [c0,c1,c2,c3,c4,c5]=some x):
 ∃y:JR.Mem,(c0=.string y.name∧c1=.int .i64 y.time∧c2=.int .i64 y.uid∧c3=.int .i64 y.gid∧c4=.int .i64 y.mode∧c5=.slice y.ptr y.len y.cap)∧JB.Rd W W.heap.size y.ptr y.len y.data∧MB y:=by
 obtain⟨xs,n,_,_,_,hyl,hg⟩:=DataW.trod_struct Tryz.underlying24 hf
 have hone:oneCellFields Tryz.prog _=true:=(by kernel_rfl:oneCellFields Tryz.prog (match Tryz.prog.underlying 24 with|some (.struct fs)=>fs|_=>#[])=true)
 obtain⟨y0,g0⟩:=qav hone hyl hg 0 _ rfl c0 rfl
 obtain⟨y1,g1⟩:=qav hone hyl hg 1 _ rfl c1 rfl
 obtain⟨y2,g2⟩:=qav hone hyl hg 2 _ rfl c2 rfl
 obtain⟨y3,g3⟩:=qav hone hyl hg 3 _ rfl c3 rfl
 obtain⟨y4,g4⟩:=qav hone hyl hg 4 _ rfl c4 rfl
 obtain⟨y5,g5⟩:=qav hone hyl hg 5 _ rfl c5 rfl
 obtain⟨s,e0,_,hs⟩:=DataW.trod_string Tryz.underlying9 g0
 obtain⟨t,e1,_,b1⟩:=DataW.trod_int Tryz.underlying3 g1
 obtain⟨u,e2,_,b2⟩:=DataW.trod_int Tryz.underlying3 g2
 obtain⟨g,e3,_,b3⟩:=DataW.trod_int Tryz.underlying3 g3
 obtain⟨z,e4,_,b4⟩:=DataW.trod_int Tryz.underlying3 g4
 obtain⟨P,d,e,l,rfl,h5,hde,hem⟩:=qgv g5
 injection e0 with e0;injection e1 with e1;injection e2 with e2;injection e3 with e3;injection e4 with e4
 subst e0;subst e1;subst e2;subst e3;subst e4
 have k1:=bounds_i64 b1
 have k2:=bounds_i64 b2
 have k3:=bounds_i64 b3
 have k4:=bounds_i64 b4
 exact⟨⟨s,t,u,g,z,P,d,e,l⟩,⟨rfl,rfl,rfl,rfl,rfl,rfl⟩,h5,hs,⟨by show (-9223372036854775808:Int)≤t;omega,by show t<9223372036854775808;omega⟩,⟨by show (-9223372036854775808:Int)≤u;omega,by show u<9223372036854775808;omega⟩,⟨by show (-9223372036854775808:Int)≤g;omega,by show g<9223372036854775808;omega⟩,⟨by show (-9223372036854775808:Int)≤z;omega,by show z<9223372036854775808;omega⟩,hde,hem⟩
theorem place_at {H:Type}{enc:TypeId×Value→H}{W:World}{fuel:Nat}{c0 c1:Value}{x:DataW H×List MemPlace}(hf:DataW.trod enc Tryz.prog W 0 (fun _=>true) true fuel 26 [c0,c1]=some x):
 ∃(z:Int)(s:ByteArray),c0=.int .i64 z∧c1=.string s∧s.size≤maxLen∧ -9223372036854775808≤z∧z<9223372036854775808:=by
 obtain⟨xs,n,_,_,_,hyl,hg⟩:=DataW.trod_struct Tryz.underlying26 hf
 have hone:oneCellFields Tryz.prog _=true:=(by kernel_rfl:oneCellFields Tryz.prog (match Tryz.prog.underlying 26 with|some (.struct fs)=>fs|_=>#[])=true)
 obtain⟨y0,g0⟩:=qav hone hyl hg 0 _ rfl c0 rfl
 obtain⟨y1,g1⟩:=qav hone hyl hg 1 _ rfl c1 rfl
 obtain⟨z,e0,_,b0⟩:=DataW.trod_int Tryz.underlying3 g0
 obtain⟨s,e1,_,hs⟩:=DataW.trod_string Tryz.underlying9 g1
 injection e0 with e0;injection e1 with e1
 subst e0;subst e1
 have k0:=bounds_i64 b0
 exact⟨z,s,rfl,rfl,hs,by omega,by omega⟩
theorem cmd_at {H:Type}{enc:TypeId×Value→H}{W:World}{fuel:Nat}{cs:List Value}(hsz:cs.length=10){x:DataW H×List MemPlace}(hf:DataW.trod enc Tryz.prog W 0 (fun _=>true) true fuel 28 cs=some x):
 ∃q:Cmd,cs=q.cells.toList∧Qef W q:=by
 match cs,hsz with
 |[c0,c1,c2,c3,c4,c5,c6,c7,c8,c9],_=>
  obtain⟨xs,n,_,_,_,hyl,hg⟩:=DataW.trod_struct Tryz.underlying28 hf
  obtain⟨y0,g0⟩:=qih hyl hg 0 _ rfl 1 (by kernel_rfl) [c0] rfl
  obtain⟨y1,g1⟩:=qih hyl hg 1 _ rfl 6 (by kernel_rfl) [c1,c2,c3,c4,c5,c6] rfl
  obtain⟨y2,g2⟩:=qih hyl hg 2 _ rfl 1 (by kernel_rfl) [c7] rfl
  obtain⟨y3,g3⟩:=qih hyl hg 3 _ rfl 2 (by kernel_rfl) [c8,c9] rfl
  obtain⟨o,e0,_,b0⟩:=DataW.trod_int Tryz.underlying5 g0
  obtain⟨m,⟨rfl,rfl,rfl,rfl,rfl,rfl⟩,hr,hm⟩:=memb_at g1
  obtain⟨s,e2,_,hs⟩:=DataW.trod_string Tryz.underlying9 g2
  obtain⟨z,a,rfl,rfl,ha,hz1,hz2⟩:=place_at g3
  injection e0 with e0;injection e2 with e2
  subst e0;subst e2
  obtain⟨h0,h1⟩:=bounds_u8 b0
  obtain⟨p,rfl⟩:=Int.eq_ofNat_of_zero_le h0
  refine⟨⟨UInt8.ofNat p,m,s,z,a⟩,?_,hr,hm,hs,ha,hz1,hz2⟩
  have hp:(UInt8.ofNat p).toNat=p:=by rw[UInt8.toNat_ofNat'];omega
  simp only[Cmd.cells,hp]
theorem qsm {H:Type}{enc:TypeId×Value→H}{W:World}{qec:Nat}{v:Value}{d:DataW H}{p:List MemPlace}(hok:Value.okWide Tryz.prog W .any qec 28 v)
 (ht:DataW.Trod enc Tryz.prog W 0 (fun _=>true) true 28 v d p):
 ∃q:Cmd,v=q.val∧Qef W q:=by
 obtain⟨cs,rfl,hsz⟩:=okWide_struct Tryz.underlying28 hok
 obtain⟨l⟩:=cs
 obtain⟨fuel,hf⟩:=ht
 obtain⟨q,hq,hb⟩:=cmd_at (hsz.trans (by kernel_rfl)) hf
 refine⟨q,?_,hb⟩
 unfold Cmd.val
 have e:l=q.cells.toList:=hq
 rw[e]
end Frame
end Go.Proofs.YtkegpjjehejaoaaGreatDoor
