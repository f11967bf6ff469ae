/-
  The frame of the laws of arwrite: members as
-/
import Derived.Test.YtkegpjjehejaoaaGreatDoorYMo
import Derived.Test.YtkegpjjehejaoaaGreatDoorYWa
import Derived.Deep.Fields
import Derived.Deep.Slices
import Derived.Test.YtkegpjjehejaoaaGreatDoorYWf
set_option maxRecDepth 100000
set_option maxHeartbeats 16000000
set_option linter.unusedSimpArgs false
set_option linter.unusedVariables false
namespace Go.Proofs.YtkegpjjehejaoaaGreatDoor
open Go.RowKit Go.Proofs
namespace Frame
open Go.ChangeShapes Go.WideShapes Go.ChangeAt Go.RowKit Go.Proofs Go.Deep
set_option maxRecDepth 100000
theorem bytes_of {H:Type}{enc:TypeId×Value→H}{W:World}{fuel:Nat}{A:Option Addr}{n c:Nat}{x:DataW H×List MemPlace}(hf:DataW.trod enc Tryz.prog W 0 (fun _=>true) true fuel 22 [.slice A n c]=some x):
 ∃A' n' c' l,Value.slice A n c=.slice A' n' c'∧JB.Rd W W.heap.size A' n' l∧n'≤c'∧c'≤maxLen:=by
 rcases open_ints Tryz.underlying22 Tryz.underlying5 (by kernel_rfl) hf with ⟨hcs,_⟩|⟨x,l,c',zs,hcs,_,hl,hm,hz,_,hcell,hwz⟩
 ·simp at hcs
  obtain⟨rfl,rfl,rfl⟩:=hcs
  exact⟨_,_,_,[],rfl,JB.Rd.nil _ _ _,by omega,by unfold maxLen;omega⟩
 ·simp at hcs
  obtain⟨rfl,rfl,rfl⟩:=hcs
  have hz':zs.length=c:=by simpa using hz
  refine⟨_,_,_,(zs.take n).map (fun z=>UInt8.ofNat z.toNat),rfl,⟨by simp;omega,fun k hk=>?_⟩,hl,hm⟩
  have hkn:k<n:=by simp at hk;omega
  have hc:=hcell k (by omega)
  obtain⟨b,o,spot⟩:=x
  have hspot:spot=none:=by
   have:=World.cell?_spot (hcell 0 (by omega))
   simpa [Addr.add] using this
  subst hspot
  have ha:(⟨b,o,none⟩:Addr).add k=⟨b,o+k,none⟩:=by unfold Addr.add;split<;>simp_all
  rw[ha] at hc
  have hw:=hwz (zs.getD k 0) (by rw[List.getD_eq_getElem?_getD,List.getElem?_eq_getElem (by omega)];exact List.getElem_mem _)
  have hb:0≤zs.getD k 0∧zs.getD k 0≤255:=bounds_u8 hw
  refine⟨b,o,rfl,World.block_lt_of_cell? _ _ hc,?_⟩
  rw[hc]
  have hk0:((zs.take n).map (fun z=>UInt8.ofNat z.toNat))[k]=UInt8.ofNat (zs.getD k 0).toNat:=by
   simp[List.getD_eq_getElem?_getD,List.getElem?_eq_getElem (show k<zs.length by omega)]
  rw[hk0,UInt8.toNat_ofNat']
  congr 2
  omega
theorem listed {α:Type}{p:Nat→α→Prop}:∀n:Nat,(∀i,i<n→∃y,p i y)→∃xs:List α,xs.length=n∧∀k (h:k<xs.length),p k xs[k]
 |0,_=>⟨[],rfl,fun k h=>absurd h (by simp)⟩
 |n+1,h=>by
  obtain⟨xs,hl,hx⟩:=listed n fun i hi=>h i (by omega)
  obtain⟨y,hy⟩:=h n (by omega)
  refine⟨xs++[y],by simp[hl],fun k hk=>?_⟩
  by_cases hkn:k<n
  ·rw[List.getElem_append_left (by omega)]
   exact hx k (by omega)
  ·rw[List.length_append,List.length_singleton] at hk
   obtain rfl:k=xs.length:=by omega
   rw[List.getElem_append_right zjn]
   simpa [hl] using hy
theorem qgv {H:Type}{enc:TypeId×Value→H}{W:World}{fuel:Nat}{v:Value}{x:DataW H×List MemPlace}(hf:DataW.trod enc Tryz.prog W 0 (fun _=>true) true fuel 22 [v]=some x):
 ∃A n c l,v=.slice A n c∧JB.Rd W W.heap.size A n l∧n≤c∧c≤maxLen:=by
 obtain⟨A,n,c,rfl⟩:∃A n c,v=.slice A n c:=by
  rcases open_ints Tryz.underlying22 Tryz.underlying5 (by kernel_rfl) hf with ⟨hcs,_⟩|⟨x,l,c',zs,hcs,_⟩
  ·injection hcs with hcs;exact⟨_,_,_,hcs⟩
  ·injection hcs with hcs;exact⟨_,_,_,hcs⟩
 exact bytes_of hf
def MB (x:JR.Mem):Prop:=x.name.size≤maxLen∧(-9223372036854775808≤x.time∧x.time<9223372036854775808)∧(-9223372036854775808≤x.uid∧x.uid<9223372036854775808)∧(-9223372036854775808≤x.gid∧x.gid<9223372036854775808)∧(-9223372036854775808≤x.mode∧x.mode<9223372036854775808)∧(x.len≤x.cap∧x.cap≤maxLen)
theorem qu4 {H:Type}{enc:TypeId×Value→H}{W:World}{fuel:Nat}{v:Value}{x:DataW H×List MemPlace}(hf:DataW.trod enc Tryz.prog W 0 (fun _=>true) true fuel 44 [v]=some x):
 ∃A n c xs,v=.slice A n c∧JW.qj3 W W.heap.size A n xs∧n≤c∧c≤maxLen∧∀x∈xs,MB x:=by
 rcases Go.Deep.open_slice Tryz.underlying44 hf with ⟨hcs,_⟩|⟨a,len,cap,m,n',D,Pl,hcs,_,hl,hm,hmm,_,hi⟩
 ·injection hcs with hcs
  exact⟨none,0,0,[],hcs,JW.qj3.nil _ _ _,Nat.le_refl _,by unfold maxLen;omega,by simp⟩
 ·injection hcs with hcs
  have hmc:m=cap:=by simpa using hmm
  have hsz:Tryz.prog.cellsOf 24=6:=by kernel_rfl
  by_cases h0:len=0
  ·subst h0
   exact⟨some a,0,cap,[],hcs,JW.qj3.nil _ _ _,hl,hm,by simp⟩
  ·obtain⟨b,o,spot⟩:=a
   have hspot:spot=none:=by
    obtain⟨cs',hc,_⟩:=hi 0 (by omega)
    rw[hsz] at hc
    obtain⟨_,hlen,hat⟩:=World.cells?_some hc
    have h1:=hat 0 (by omega)
    rw[List.getElem?_eq_getElem (by omega)] at h1
    have:=World.cell?_spot h1
    simpa [Addr.add] using this
   subst hspot
   have ha:∀i j,((⟨b,o,none⟩:Addr).add i).add j=⟨b,o+i+j,none⟩:=fun i j=>by
    unfold Addr.add
    split<;>split<;>simp_all
   have key:∀i,i<len→∃y:JR.Mem,(b<W.heap.size∧JR.qk2 W b (o+i * 6) y)∧JB.Rd W W.heap.size y.ptr y.len y.data∧MB y:=fun i hil=>by
    obtain⟨cs',hc,ht⟩:=hi i (by omega)
    rw[hsz] at hc
    obtain⟨ys,k,_,_,hcl,hyl,hg⟩:=DataW.trod_struct Tryz.underlying24 ht
    obtain⟨_,_,hat⟩:=World.cells?_some hc
    rw[hsz] at hcl
    match cs',hcl with
    |[c0,c1,c2,c3,c4,c5],_=>
     have hone:oneCellFields Tryz.prog _=true:=(by kernel_rfl:oneCellFields Tryz.prog (match Tryz.prog.underlying 24 with|some (.struct fs)=>fs|_=>#[])=true)
     obtain⟨y0,g0⟩:=qav hone hyl hg 0 _ rfl c0 rfl
     obtain⟨y1,g1⟩:=qav hone hyl hg 1 _ rfl c1 rfl
     obtain⟨y2,g2⟩:=qav hone hyl hg 2 _ rfl c2 rfl
     obtain⟨y3,g3⟩:=qav hone hyl hg 3 _ rfl c3 rfl
     obtain⟨y4,g4⟩:=qav hone hyl hg 4 _ rfl c4 rfl
     obtain⟨y5,g5⟩:=qav hone hyl hg 5 _ rfl c5 rfl
     obtain⟨s,e0,_,hs⟩:=DataW.trod_string Tryz.underlying9 g0
     obtain⟨t,e1,_,b1⟩:=DataW.trod_int Tryz.underlying3 g1
     obtain⟨u,e2,_,b2⟩:=DataW.trod_int Tryz.underlying3 g2
     obtain⟨g,e3,_,b3⟩:=DataW.trod_int Tryz.underlying3 g3
     obtain⟨z,e4,_,b4⟩:=DataW.trod_int Tryz.underlying3 g4
     obtain⟨P,d,e,l,rfl,h5,hde,hem⟩:=qgv g5
     injection e0 with e0;injection e1 with e1;injection e2 with e2;injection e3 with e3;injection e4 with e4
     subst e0;subst e1;subst e2;subst e3;subst e4
     have h0:=hat 0 (by omega)
     have h1:=hat 1 (by omega)
     have h2:=hat 2 (by omega)
     have h3:=hat 3 (by omega)
     have h4:=hat 4 (by omega)
     have h6:=hat 5 (by omega)
     rw[ha] at h0 h1 h2 h3 h4 h6
     have k1:=bounds_i64 b1
     have k2:=bounds_i64 b2
     have k3:=bounds_i64 b3
     have k4:=bounds_i64 b4
     exact⟨⟨s,t,u,g,z,P,d,e,l⟩,⟨World.block_lt_of_cell? _ _ (h0.trans rfl),h0,h1,h2,h3,h4,h6⟩,h5,hs,⟨by show (-9223372036854775808:Int)≤t;omega,by show t<9223372036854775808;omega⟩,⟨by show (-9223372036854775808:Int)≤u;omega,by show u<9223372036854775808;omega⟩,⟨by show (-9223372036854775808:Int)≤g;omega,by show g<9223372036854775808;omega⟩,⟨by show (-9223372036854775808:Int)≤z;omega,by show z<9223372036854775808;omega⟩,hde,hem⟩
   obtain⟨xs,hxl,hx⟩:=listed len key
   refine⟨_,len,cap,xs,hcs,⟨hxl,fun k hk=>?_⟩,hl,hm,fun x hx'=>?_⟩
   ·obtain⟨⟨hb,hc⟩,hr,_⟩:=hx k hk
    exact⟨⟨b,o,rfl,hb,hc⟩,hr⟩
   ·obtain⟨k,hk,rfl⟩:=List.mem_iff_getElem.1 hx'
    exact (hx k hk).2.2
theorem qu5 {H:Type}{enc:TypeId×Value→H}{W:World}{qec:Nat}{v:Value}{d:DataW H}{p:List MemPlace}(hok:Value.okWide Tryz.prog W .any qec 44 v)
 (ht:DataW.Trod enc Tryz.prog W 0 (fun _=>true) true 44 v d p):∃A n c xs,v=.slice A n c∧JW.qj3 W W.heap.size A n xs∧n≤c∧c≤maxLen∧∀x∈xs,MB x:=by
 obtain⟨A,n,c,rfl⟩:=okWide_slice Tryz.underlying44 hok
 obtain⟨fuel,hf⟩:=ht
 exact qu4 hf
theorem MB.cap {x:JR.Mem}(h:MB x):x.len≤x.cap∧x.cap≤maxLen:=h.2.2.2.2.2
theorem MB.ok {x:JR.Mem}(h:MB x)(h1:x.name.size≤300)(h2:x.len≤1000):JW.MOk x:=⟨h1,Nat.le_trans h2 (by decide),h.2.1.2,h.2.2.1.2,h.2.2.2.1.2,h.2.2.2.2.1.2⟩
end Frame
namespace JN
open JB JU JD
theorem qwb {ns:List ByteArray}{i:Nat}(hi:i<ns.length)(hl:sht (bts ns[i])=false):
 qag ns=qag (ns.take i)++(ns[i]::qag (ns.drop (i+1))):=by
 conv=>lhs;rw[←List.take_append_drop i ns,List.drop_eq_getElem_cons hi]
 rw[qi0]
 congr 1
 unfold qag
 rw[List.filter_cons,hl]
 rfl
theorem tx_last {n:Nat}{k:Nat}(hk:(tx 10 n).length=k+1):∃c,(tx 10 n)[k]?=some c∧c≠47:=by
 have hlt:k<(tx 10 n).length:=by omega
 refine⟨(tx 10 n)[k],List.getElem?_eq_getElem hlt,fun e=>?_⟩
 have:=qpx (B:=10) (by omega) (by omega) n _ (List.getElem_mem hlt)
 rw[e] at this
 revert this
 decide
theorem Qcv {n:Nat}(h:n<1000000):(tx 10 n).length≤7:=by
 rw[qbk (by omega)]
 exact qfc (by omega) (by omega) (by omega)
theorem Qcw (n:Nat):qi1 (47::tx 10 n)=none:=by
 have h1:=qpw 10 n
 rw[←qbk (by omega)] at h1
 obtain⟨k,hk⟩:∃k,(tx 10 n).length=k+1:=⟨(tx 10 n).length-1,by omega⟩
 obtain⟨c,hc,hne⟩:=tx_last hk
 rw[qvg (k:=k+1) (by rw[List.length_cons,hk]),if_neg]
 rintro ⟨h,_⟩
 rw[List.getElem?_cons_succ,hc] at h
 injection h with h
 exact hne h
theorem qzv {ns:List ByteArray}{i:Nat}(hv:qhd ns=true)(hi:i<ns.length)(hb:(tab (qag ns)).length<1000000):
 qx2 (bts (fld (ns.take i) ns[i])) (tab (qag ns))=some ns[i]∧(fld (ns.take i) ns[i]).size≤16:=by
 cases hs:sht (bts ns[i])
 ·have hsp:=qwb hi hs
  have hj:(qag (ns.take i)).length<(qag ns).length:=by rw[hsp,List.length_append,List.length_cons];omega
  have htk:(qag ns).take (qag (ns.take i)).length=qag (ns.take i):=by rw[hsp,List.take_left]
  have hat:(qag ns)[(qag (ns.take i)).length]=ns[i]:=by
   have:(qag ns)[(qag (ns.take i)).length]?=some ns[i]:=by rw[hsp,List.getElem?_append_right zjn];simp
   rw[List.getElem?_eq_getElem hj] at this
   injection this
  have hlt:=(qv8 hj).1
  rw[htk] at hlt
  have h7:=Qcv (n:=(tab (qag (ns.take i))).length) (by omega)
  have hf:fld (ns.take i) ns[i]=str ([47]++tx 10 (tab (qag (ns.take i))).length):=by unfold fld;rw[if_neg (by rw[hs];simp)]
  rw[hf,qbx,qbm]
  refine⟨?_,by rw[List.length_append];simp only[List.length_cons,List.length_nil];omega⟩
  unfold qx2
  rw[show [47]++tx 10 (tab (qag (ns.take i))).length=47::tx 10 (tab (qag (ns.take i))).length from rfl,Qcw]
  have:=long_hit (f:=47::tx 10 (tab (qag (ns.take i))).length) (qku hv) hj (by rw[htk]) (by rw[htk];omega)
  rw[hat] at this
  exact this
 ·have hf:fld (ns.take i) ns[i]=str (bts ns[i]++[47]):=by unfold fld;rw[if_pos hs]
  have h15:(bts ns[i]).length≤15:=by unfold sht at hs;simp at hs;exact hs.2.1
  rw[hf,qbx,qbm]
  refine⟨?_,by rw[List.length_append];simp only[List.length_cons,List.length_nil];omega⟩
  unfold qx2
  rw[qvg (k:=(bts ns[i]).length) (by simp),List.take_left,if_pos ⟨by rw[List.getElem?_append_right zjn];simp,hs⟩,qg1]
end JN
namespace JW
open JB JD JN JH JR
theorem qu6 {x:Mem}(he:qw9 x=0)(hl:x.len=x.data.length)(r:List UInt8):
 JR.qdc (ptl x++r)=0∧qb9 (ptl x++r)=x.name∧(∀k,k<5→qaq (ptl x++r) k=num x.time x.uid x.gid x.mode (x.len:Int) k)∧qdw (ptl x++r)=x.data∧qem (ptl x++r)=(ptl x).length∧(ptl x).length=pz x.len:=by
 obtain⟨q1,q2,q3,q4,q5,q6⟩:=mkp_ok (s:=x.name) (f:=num x.time x.uid x.gid x.mode (x.len:Int)) (d:=x.data) he (by rw[←hl];rfl) r
 refine⟨q1,q2,q3,q4,q5,?_⟩
 unfold ptl mkp
 rw[List.length_append,List.length_append,q6,←hl]
 unfold pz
 split
 ·rename_i h;rw[List.length_singleton,h]
 ·rename_i h;rw[List.length_nil];omega
theorem ptl_ne {x:Mem}(he:qw9 x=0)(hl:x.len=x.data.length)(r:List UInt8):ptl x++r≠[]:=
 qzn (by rw[(qu6 he hl []).2.2.2.2.2];unfold pz;omega)
theorem Qcx {s:St}{a:Nat}{x:Mem}(he:qw9 x=0)(hl:x.len=x.data.length)(r:List UInt8)(h:qat s (ptl x++r)=0):
 go s a (ptl x++r)=go (qce s a (ptl x++r)) (a+pz x.len) r:=by
 obtain⟨_,_,_,_,q5,q6⟩:=qu6 he hl r
 rw[qme (ptl_ne he hl r) h,q5,q6,←q6,List.drop_left]
def st0 (hm:Bool)(md:List UInt8)(T:List UInt8):St:=⟨hm,if hm=true then md else [],[],[],if T.length=0 then none else some T⟩
theorem st0_tbl (hm:Bool)(md T:List UInt8):(st0 hm md T).tbl.getD []=T:=by
 show (if T.length=0 then none else some T:Option (List UInt8)).getD []=T
 split
 ·rename_i h;rw[List.length_eq_zero_iff.1 h];rfl
 ·rfl
theorem go_map {hm:Bool}{md:List UInt8}(hmd:md.length≤1000000)(r:List UInt8):
 go St.zero 8 (qbt (qfy hm none md.length 0 md)++r)=go (st0 hm md []) (8+(if hm=true then pz md.length else 0)) r:=by
 cases hm
 ·rfl
 ·show go St.zero 8 (qbt [mpt none md.length 0 md]++r)=_
  rw[qcp]
  obtain⟨q1,q2,q3,q4,q5,q6⟩:=qu6 (x:=mpt none md.length 0 md) (qic hmd) rfl r
  have hN:qb9 (ptl (mpt none md.length 0 md)++r)=qjj:=q2
  have hE:qat St.zero (ptl (mpt none md.length 0 md)++r)=0:=by
   unfold qat
   rw[if_neg (by simp[q1]),if_pos hN,if_pos qxr]
  rw[Qcx (qic hmd) rfl r hE]
  have hS:qce St.zero 8 (ptl (mpt none md.length 0 md)++r)=st0 true md []:=by
   unfold qce
   rw[if_pos hN,q4]
   rfl
  rw[hS]
  rfl
theorem go_tab {hm:Bool}{md T:List UInt8}(hT:T.length≤1000000)(hg:good T=true)(a:Nat)(r:List UInt8):
 go (st0 hm md []) a (qbt (qfi none T.length 0 T)++r)=go (st0 hm md T) (a+(if T.length=0 then 0 else pz T.length)) r:=by
 by_cases h0:T.length=0
 ·obtain rfl:=List.length_eq_zero_iff.1 h0
  rfl
 ·rw[show qfi none T.length 0 T=[tpt none T.length 0 T] from if_neg h0,qcp]
  obtain⟨q1,q2,q3,q4,q5,q6⟩:=qu6 (x:=tpt none T.length 0 T) (qgt hT) rfl r
  have hN:qb9 (ptl (tpt none T.length 0 T)++r)=qkb:=q2
  have hE:qat (st0 hm md []) (ptl (tpt none T.length 0 T)++r)=0:=by
   unfold qat
   rw[if_neg (by simp[q1]),hN,if_neg (by decide),if_pos rfl,q4,if_pos ⟨rfl,hg⟩]
  rw[Qcx (qgt hT) rfl r hE]
  have hS:qce (st0 hm md []) a (ptl (tpt none T.length 0 T)++r)=st0 hm md T:=by
   unfold qce
   rw[hN,if_neg (by decide),if_pos rfl,q4]
   unfold st0
   rw[if_neg h0]
   rfl
  rw[hS,if_neg h0]
  rfl
def stK (hm:Bool)(md T:List UInt8)(o:Nat)(xs:List Mem)(k:Nat):St:=
 {st0 hm md T with mems:=(xs.take k).map Mem.pure,offs:=((List.range k).map (qaa o xs)).map (fun (n:Nat)=>(n:Int))}
theorem fld_map {pre:List ByteArray}{n:ByteArray}(hv:vld (bts n)=true):fld pre n≠qjj:=fun e=>by
 have h1:=(qks.1 hv).1
 have h2:(fld pre n).size=1:=by rw[e];rfl
 unfold fld at h2
 split at h2
 ·rw[qbm,List.length_append,List.length_singleton] at h2;omega
 ·rw[qbm,List.length_append,List.length_singleton,qbk (by omega)] at h2
  have:=qpw 10 (tab (qag pre)).length
  omega
theorem Qcy {hm:Bool}{md:List UInt8}{xs:List Mem}(hf:∀x∈xs,qcm x=0)(hn:xs.length≤200)(hl:∀x∈xs,x.len=x.data.length)(o:Nat):
 ∀j k,k+j=xs.length→go (stK hm md (bo (nms xs)) o xs k) (qaa o xs k) (qbt ((qb4 xs).drop k))=(stK hm md (bo (nms xs)) o xs xs.length,0,0)
 |0,k,hk=>by
  have hk':k=xs.length:=by omega
  subst hk'
  rw[List.drop_eq_nil_of_le (by rw[qaz hf];exact Nat.le_refl _),qs5,qdk]
 |j+1,k,hk=>by
  have hkl:k<xs.length:=by omega
  have hav:=qfp hf
  have hbo:bo (nms xs)=tab (qag (nms xs)):=if_pos hav
  have hnl:(nms xs).length=xs.length:=by simp[nms]
  have hnk:(nms xs)[k]'(by omega)=xs[k].name:=by simp[nms]
  have htl:=qha hav (k:=202) (by omega)
  have hxl:=hl xs[k] (List.getElem_mem hkl)
  have hv:=(qib (hf xs[k] (List.getElem_mem hkl))).1
  have hh:=qjp hf (by omega) hkl
  rw[List.drop_eq_getElem_cons (by rw[qaz hf];exact hkl),qgu hf hkl]
  show go _ _ (qbt ([_]++_))=_
  rw[qd5,qcp]
  have hal:qhd ((nms xs).take k)=true:=qbu.2 fun n hm=>qbu.1 hav n (List.mem_of_mem_take hm)
  have hl2:=qha hal (k:=202) (by rw[List.length_take];omega)
  obtain⟨n1,n2⟩:=Qcn (pre:=(nms xs).take k) hv (by omega)
  have n3:=fld_map (pre:=(nms xs).take k) hv
  have n4:fld ((nms xs).take k) xs[k].name≠qkb:=fun e=>by rw[e] at n2;revert n2;decide+kernel
  have n5:=(qzv (i:=k) hav (by omega) (by omega)).1
  rw[hnk,←hbo] at n5
  generalize hp:setN (fld ((nms xs).take k) xs[k].name) xs[k]=p at *
  have hpl:p.len=p.data.length:=by rw[←hp];exact hxl
  obtain⟨q1,q2,q3,q4,q5,q6⟩:=qu6 hh hpl (qbt ((qb4 xs).drop (k+1)))
  have hpn:p.name=fld ((nms xs).take k) xs[k].name:=by rw[←hp];rfl
  rw[hpn] at q2
  have hT:(stK hm md (bo (nms xs)) o xs k).tbl.getD []=bo (nms xs):=st0_tbl hm md (bo (nms xs))
  have hpna:qnt (stK hm md (bo (nms xs)) o xs k) (ptl p++qbt ((qb4 xs).drop (k+1)))=some xs[k].name:=by
   unfold qnt
   rw[q2,hT,n5]
  have hE:qat (stK hm md (bo (nms xs)) o xs k) (ptl p++qbt ((qb4 xs).drop (k+1)))=0:=by
   unfold qat
   rw[if_neg (by simp[q1]),q2,if_neg n3,if_neg n4,hpna]
   rfl
  rw[Qcx hh hpl _ hE]
  have hS:qce (stK hm md (bo (nms xs)) o xs k) (qaa o xs k) (ptl p++qbt ((qb4 xs).drop (k+1)))=stK hm md (bo (nms xs)) o xs (k+1):=by
   unfold qce
   rw[q2,if_neg n3,if_neg n4,hpna,q4,q3 0 (by omega),q3 1 (by omega),q3 2 (by omega),q3 3 (by omega)]
   unfold stK
   rw[List.take_succ_eq_append_getElem hkl,List.range_succ,List.map_append,List.map_append,List.map_append,←hp]
   rfl
  have hO:qaa o xs k+pz p.len=qaa o xs (k+1):=by rw[qcn hkl,←hp];rfl
  rw[hS,hO]
  exact Qcy hf hn hl o j (k+1) (by omega)
theorem ar_arch {hm:Bool}{md:List UInt8}{xs:List Mem}(hmd:md.length≤1000000)(hf:∀x∈xs,qcm x=0)(hn:xs.length≤200)(hl:∀x∈xs,x.len=x.data.length):
 ar (qqd hm md xs)=(⟨hm,if hm=true then md else [],xs.map Mem.pure,(qkc (qec hm md.length xs) xs).map (fun (n:Nat)=>(n:Int)),if (bo (nms xs)).length=0 then none else some (bo (nms xs))⟩,0,0):=by
 have hav:=qfp hf
 have hbo:bo (nms xs)=tab (qag (nms xs)):=if_pos hav
 have hT:=qp1 (nms xs)
 have hnl:(nms xs).length=xs.length:=by simp[nms]
 have hg:good (bo (nms xs))=true:=by rw[hbo];exact (qx0 (qku hav)).1
 have h8:qnq (qqd hm md xs)=true:=by
  unfold qnq qqd
  rw[Bool.and_eq_true,decide_eq_true_eq]
  exact⟨by rw[List.length_append];simp[JR.qbp],by rw[List.take_left' (show JR.qbp.length=8 from rfl)];rfl⟩
 rw[qnv h8]
 have hd:(qqd hm md xs).drop 8=qbt (qfy hm none md.length 0 md)++(qbt (qfi none (bo (nms xs)).length 0 (bo (nms xs)))++qbt (qb4 xs)):=by
  unfold qqd
  rw[List.drop_left' (show JR.qbp.length=8 from rfl)]
 rw[hd,go_map hmd,go_tab (by omega) hg]
 have hb:8+(if hm=true then pz md.length else 0)+(if (bo (nms xs)).length=0 then 0 else pz (bo (nms xs)).length)=qec hm md.length xs:=rfl
 rw[hb]
 have:=Qcy (hm:=hm) (md:=md) hf hn hl (qec hm md.length xs) xs.length 0 (by omega)
 rw[List.drop_zero] at this
 have h0:stK hm md (bo (nms xs)) (qec hm md.length xs) xs 0=st0 hm md (bo (nms xs)):=rfl
 have h1:qaa (qec hm md.length xs) xs 0=qec hm md.length xs:=by simp[qaa]
 rw[h0,h1] at this
 rw[this]
 unfold stK st0 qkc
 rw[List.take_length]
end JW
end Go.Proofs.YtkegpjjehejaoaaGreatDoor
