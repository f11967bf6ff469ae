/-
  The frame of the laws of arwrite: members as
-/
import Derived.Test.YtlmolmohhpdhdaaGreatDoorYMo
import Derived.Test.YtlmolmohhpdhdaaGreatDoorYWf
set_option maxRecDepth 100000
set_option maxHeartbeats 16000000
set_option linter.all false
namespace Go.Proofs.YtlmolmohhpdhdaaGreatDoor
open Go.RowKit Go.Proofs Tryz
namespace Frame
open Go.ChangeShapes Go.WideShapes Go.ChangeAt Go.RowKit Go.Proofs Go.Deep
set_option maxRecDepth 100000
theorem bytes_of {H:Type}{enc:TypeId×Value->H}{W:World}{fuel:Nat}{A:Option Addr}{n c:Nat}{x:DataW H×List MemPlace}(hf:DataW.trod enc prog W 0 (fun _=>true) true fuel 22 [.slice A n c]=some x):
 ∃A' n' c' l,Value.slice A n c=.slice A' n' c'/\JB.Rd W W.heap.size A' n' l/\n'<=c'/\c'<=maxLen:=by
 rcases open_ints underlying22 underlying5 (by kernel_rfl) hf with ⟨hcs,_⟩|⟨x,l,c',zs,hcs,_,hl,hm,hz,_,hcell,hwz⟩
 ·simp at hcs;obtain⟨rfl,rfl,rfl⟩:=hcs;exact⟨_,_,_,[],rfl,JB.Rd.nil _ _ _,by omega,by unfold maxLen;omega⟩
 ·simp at hcs;obtain⟨rfl,rfl,rfl⟩:=hcs;have hz':zs.length=c:=by simpa using hz
  refine⟨_,_,_,(zs.take n).map (fun z=>UInt8.ofNat z.toNat),rfl,⟨by simp;omega,fun k hk=>?_⟩,hl,hm⟩;have hkn:k<n:=by simp at hk;omega
  have hc:=hcell k (by omega);obtain⟨b,o,spot⟩:=x
  have hspot:spot=none:=by
   have:=World.cell?_spot (hcell 0 (by omega));simpa [Addr.add] using this
  subst hspot;have ha:(⟨b,o,none⟩:Addr).add k=⟨b,o+k,none⟩:=by unfold Addr.add;split<;>simp_all
  rw[ha] at hc;have hw:=hwz (zs.getD k 0) (by rw[List.getD_eq_getElem?_getD,zlh (by omega)];exact zlq _);have hb:0<=zs.getD k 0/\zs.getD k 0<=255:=bounds_u8 hw;refine⟨b,o,rfl,World.block_lt_of_cell? _ _ hc,?_⟩;rw[hc]
  have hk0:((zs.take n).map (fun z=>UInt8.ofNat z.toNat))[k]=UInt8.ofNat (zs.getD k 0).toNat:=by
   simp[List.getD_eq_getElem?_getD,zlh (show k<zs.length by omega)]
  rw[hk0,UInt8.toNat_ofNat'];congr 2
  omega
theorem listed {α:Type}{p:Nat->α->Prop}:∀n:Nat,(∀i,i<n->∃y,p i y)->∃xs:List α,xs.length=n/\∀k (h:k<xs.length),p k xs[k]
 |0,_=>⟨[],rfl,fun k h=>absurd h (by simp)⟩
 |n+1,h=>by
  obtain⟨xs,hl,hx⟩:=listed n fun i hi=>h i (by omega);obtain⟨y,hy⟩:=h n (by omega);refine⟨xs++[y],by simp[hl],fun k hk=>?_⟩;by_cases hkn:k<n
  ·rw[List.getElem_append_left (by omega)];exact hx k (by omega)
  ·rw[zlb,List.length_singleton] at hk;obtain rfl:k=xs.length:=by omega
   rw[List.getElem_append_right zjn];simpa [hl] using hy
theorem qt4 {H:Type}{enc:TypeId×Value->H}{W:World}{fuel:Nat}{v:Value}{x:DataW H×List MemPlace}(hf:DataW.trod enc prog W 0 (fun _=>true) true fuel 22 [v]=some x):
 ∃A n c l,v=.slice A n c/\JB.Rd W W.heap.size A n l/\n<=c/\c<=maxLen:=by
 obtain⟨A,n,c,rfl⟩:∃A n c,v=.slice A n c:=by
  rcases open_ints underlying22 underlying5 (by kernel_rfl) hf with ⟨hcs,_⟩|⟨x,l,c',zs,hcs,_⟩
  ·injection hcs with hcs;exact⟨_,_,_,hcs⟩
  ·injection hcs with hcs;exact⟨_,_,_,hcs⟩
 exact bytes_of hf
def MB (x:JR.Mem):Prop:=x.name.size<=maxLen/\(-9223372036854775808<=x.time/\x.time<9223372036854775808)/\(-9223372036854775808<=x.uid/\x.uid<9223372036854775808)/\(-9223372036854775808<=x.gid/\x.gid<9223372036854775808)/\(-9223372036854775808<=x.mode/\x.mode<9223372036854775808)/\(x.len<=x.cap/\x.cap<=maxLen)
theorem MB.cap {x:JR.Mem}(h:MB x):x.len<=x.cap/\x.cap<=maxLen:=h.2.2.2.2.2
theorem MB.ok {x:JR.Mem}(h:MB x)(h1:x.name.size<=300)(h2:x.len<=1000):JW.MOk x:=⟨Nat.le_trans h1 (by decide),Nat.le_trans h2 (by decide),h.2.1.2,h.2.2.1.2,h.2.2.2.1.2,h.2.2.2.2.1.2⟩
end Frame
namespace JN
open JB JU JD
theorem qxv {ns:List ByteArray}{i:Nat}(hi:i<ns.length)(hl:sht (bts ns[i])=false):
 qam ns=qam (ns.take i)++(ns[i]::qam (ns.drop (i+1))):=by
 conv=>lhs;rw[<-List.take_append_drop i ns,List.drop_eq_getElem_cons hi]
 rw[qic];congr 1
 unfold qam;rw[List.filter_cons,hl];rfl
theorem tx_last {n:Nat}{k:Nat}(hk:(tx 10 n).length=k+1):∃c,(tx 10 n)[k]?=some c/\c≠47:=by
 have hlt:k<(tx 10 n).length:=by omega
 refine⟨(tx 10 n)[k],zlh hlt,fun e=>?_⟩;have:=qqt (B:=10) (by omega) (by omega) n _ (zlq hlt);rw[e] at this;revert this
 decide
theorem Qea {n:Nat}(h:n<1000000):(tx 10 n).length<=7:=by
 rw[qb0 (by omega)];exact qfp (by omega) (by omega) (by omega)
theorem Qeb (n:Nat):qhb (47::tx 10 n)=none:=by
 have h1:=qmx 10 n;rw[<-qb0 (by omega)] at h1;obtain⟨k,hk⟩:∃k,(tx 10 n).length=k+1:=⟨(tx 10 n).length-1,by omega⟩;obtain⟨c,hc,hne⟩:=tx_last hk;rw[qkk (k:=k+1) (by rw[zlk,hk]),if_neg];rintro ⟨h,_⟩;rw[List.getElem?_cons_succ,hc] at h;injection h with h;exact hne h
theorem Qbe {ns:List ByteArray}{i:Nat}(hv:qeu ns=true)(hi:i<ns.length)(hb:(tab (qam ns)).length<1000000):
 qj0 (bts (fld (ns.take i) ns[i])) (tab (qam ns))=some ns[i]/\(fld (ns.take i) ns[i]).size<=16:=by
 cases hs:sht (bts ns[i])
 ·have hsp:=qxv hi hs;have hj:(qam (ns.take i)).length<(qam ns).length:=by rw[hsp,zlb,zlk];omega
  have htk:(qam ns).take (qam (ns.take i)).length=qam (ns.take i):=by rw[hsp,List.take_left]
  have hat:(qam ns)[(qam (ns.take i)).length]=ns[i]:=by
   have:(qam ns)[(qam (ns.take i)).length]?=some ns[i]:=by rw[hsp,zlC zjn];simp
   rw[zlh hj] at this;injection this
  have hlt:=(qwi hj).1;rw[htk] at hlt;have h7:=Qea (n:=(tab (qam (ns.take i))).length) (by omega);have hf:fld (ns.take i) ns[i]=str ([47]++tx 10 (tab (qam (ns.take i))).length):=by unfold fld;rw[if_neg (by rw[hs];simp)]
  rw[hf,qac,qat];refine⟨?_,by rw[zlb];simp only[zlk,List.length_nil];omega⟩;unfold qj0;rw[show [47]++tx 10 (tab (qam (ns.take i))).length=47::tx 10 (tab (qam (ns.take i))).length from rfl,Qeb];have:=Qa9 (f:=47::tx 10 (tab (qam (ns.take i))).length) (qmf hv) hj (by rw[htk]) (by rw[htk];omega);rw[hat] at this;exact this
 ·have hf:fld (ns.take i) ns[i]=str (bts ns[i]++[47]):=by unfold fld;rw[if_pos hs]
  have h15:(bts ns[i]).length<=15:=by unfold sht at hs;simp at hs;exact hs.2.1
  rw[hf,qac,qat];refine⟨?_,by rw[zlb];simp only[zlk,List.length_nil];omega⟩;unfold qj0;rw[qkk (k:=(bts ns[i]).length) (by simp),List.take_left,if_pos ⟨by rw[zlC zjn];simp,hs⟩,qaw]
end JN
namespace JW
open JB JD JN JH JR
theorem qv4 {x:Mem}(he:qxs x=0)(hl:x.len=x.data.length)(r:List UInt8):
 JR.qcz (ptl x++r)=0/\qax (ptl x++r)=x.name/\(∀k,k<5->qak (ptl x++r) k=num x.time x.uid x.gid x.mode (x.len:Int) k)/\qbv (ptl x++r)=x.data/\qdi (ptl x++r)=(ptl x).length/\(ptl x).length=pz x.len:=by
 obtain⟨q1,q2,q3,q4,q5,q6⟩:=mkp_ok (s:=x.name) (f:=num x.time x.uid x.gid x.mode (x.len:Int)) (d:=x.data) he (by rw[<-hl];rfl) r;refine⟨q1,q2,q3,q4,q5,?_⟩;unfold ptl mkp;rw[zlb,zlb,q6,<-hl];unfold pz;split
 ·rename_i h;rw[List.length_singleton,h]
 ·rename_i h;rw[List.length_nil];omega
theorem ptl_ne {x:Mem}(he:qxs x=0)(hl:x.len=x.data.length)(r:List UInt8):ptl x++r≠[]:=
 Qb9 (by rw[(qv4 he hl []).2.2.2.2.2];unfold pz;omega)
theorem Qec {s:St}{a:Nat}{x:Mem}(he:qxs x=0)(hl:x.len=x.data.length)(r:List UInt8)(h:qaj s (ptl x++r)=0):
 go s a (ptl x++r)=go (qbf s a (ptl x++r)) (a+pz x.len) r:=by
 obtain⟨_,_,_,_,q5,q6⟩:=qv4 he hl r;rw[qn2 (ptl_ne he hl r) h,q5,q6,<-q6,List.drop_left]
def st0 (hm:Bool)(md:List UInt8)(T:List UInt8):St:=⟨hm,if hm=true then md else [],[],[],if T.length=0 then none else some T⟩
theorem st0_tbl (hm:Bool)(md T:List UInt8):(st0 hm md T).tbl.getD []=T:=by
 show (if T.length=0 then none else some T:Option (List UInt8)).getD []=T
 split
 ·rename_i h;rw[List.length_eq_zero_iff.1 h];rfl
 ·rfl
theorem go_map {hm:Bool}{md:List UInt8}(hmd:md.length<=1000000)(r:List UInt8):
 go St.zero 8 (qbw (qg8 hm none md.length 0 md)++r)=go (st0 hm md []) (8+(if hm=true then pz md.length else 0)) r:=by
 cases hm
 ·rfl
 ·show go St.zero 8 (qbw [mpt none md.length 0 md]++r)=_
  rw[qcp];obtain⟨q1,q2,q3,q4,q5,q6⟩:=qv4 (x:=mpt none md.length 0 md) (qiq hmd) rfl r;have hN:qax (ptl (mpt none md.length 0 md)++r)=qhj:=q2
  have hE:qaj St.zero (ptl (mpt none md.length 0 md)++r)=0:=by
   unfold qaj;rw[if_neg (by simp[q1]),if_pos hN,if_pos qz9]
  rw[Qec (qiq hmd) rfl r hE]
  have hS:qbf St.zero 8 (ptl (mpt none md.length 0 md)++r)=st0 true md []:=by
   unfold qbf;rw[if_pos hN,q4];rfl
  rw[hS];rfl
theorem go_tab {hm:Bool}{md T:List UInt8}(hT:T.length<=1000000)(hg:good T=true)(a:Nat)(r:List UInt8):
 go (st0 hm md []) a (qbw (qfr none T.length 0 T)++r)=go (st0 hm md T) (a+(if T.length=0 then 0 else pz T.length)) r:=by
 by_cases h0:T.length=0
 ·obtain rfl:=List.length_eq_zero_iff.1 h0;rfl
 ·rw[show qfr none T.length 0 T=[tpt none T.length 0 T] from if_neg h0,qcp];obtain⟨q1,q2,q3,q4,q5,q6⟩:=qv4 (x:=tpt none T.length 0 T) (qgy hT) rfl r;have hN:qax (ptl (tpt none T.length 0 T)++r)=qj3:=q2
  have hE:qaj (st0 hm md []) (ptl (tpt none T.length 0 T)++r)=0:=by
   unfold qaj;rw[if_neg (by simp[q1]),hN,if_neg (by decide),if_pos rfl,q4,if_pos ⟨rfl,hg⟩]
  rw[Qec (qgy hT) rfl r hE]
  have hS:qbf (st0 hm md []) a (ptl (tpt none T.length 0 T)++r)=st0 hm md T:=by
   unfold qbf;rw[hN,if_neg (by decide),if_pos rfl,q4];unfold st0;rw[if_neg h0];rfl
  rw[hS,if_neg h0];rfl
def stK (hm:Bool)(md T:List UInt8)(o:Nat)(xs:List Mem)(k:Nat):St:=
 {st0 hm md T with mems:=(xs.take k).map Mem.pure,offs:=((List.range k).map (qab o xs)).map (fun (n:Nat)=>(n:Int))}
theorem fld_map {pre:List ByteArray}{n:ByteArray}(hv:vld (bts n)=true):fld pre n≠qhj:=fun e=>by
 have h1:=(qmd.1 hv).1;have h2:(fld pre n).size=1:=by rw[e];rfl
 unfold fld at h2;split at h2
 ·rw[qat,zlb,List.length_singleton] at h2;omega
 ·rw[qat,zlb,List.length_singleton,qb0 (by omega)] at h2;have:=qmx 10 (tab (qam pre)).length;omega
theorem Qed {hm:Bool}{md:List UInt8}{xs:List Mem}(hf:∀x∈xs,qca x=0)(hn:xs.length<=200)(hl:∀x∈xs,x.len=x.data.length)(o:Nat):
 ∀j k,k+j=xs.length->go (stK hm md (bo (nms xs)) o xs k) (qab o xs k) (qbw ((qb5 xs).drop k))=(stK hm md (bo (nms xs)) o xs xs.length,0,0)
 |0,k,hk=>by
  have hk':k=xs.length:=by omega
  subst hk';rw[zlD (by rw[qb2 hf];exact Nat.le_refl _),qt1,qeb]
 |j+1,k,hk=>by
  have hkl:k<xs.length:=by omega
  have hav:=qfz hf;have hbo:bo (nms xs)=tab (qam (nms xs)):=if_pos hav;have hnl:(nms xs).length=xs.length:=by simp[nms]
  have hnk:(nms xs)[k]'(by omega)=xs[k].name:=by simp[nms]
  have htl:=qh8 hav (k:=202) (by omega);have hxl:=hl xs[k] (zlq hkl);have hv:=(qip (hf xs[k] (zlq hkl))).1;have hh:=qka hf (by omega) hkl;rw[List.drop_eq_getElem_cons (by rw[qb2 hf];exact hkl),qgz hf hkl];show go _ _ (qbw ([_]++_))=_
  rw[qdb,qcp];have hal:qeu ((nms xs).take k)=true:=qb7.2 fun n hm=>qb7.1 hav n (List.mem_of_mem_take hm);have hl2:=qh8 hal (k:=202) (by rw[zlu];omega);obtain⟨n1,n2⟩:=Qe3 (pre:=(nms xs).take k) hv (by omega);have n3:=fld_map (pre:=(nms xs).take k) hv;have n4:fld ((nms xs).take k) xs[k].name≠qj3:=fun e=>by rw[e] at n2;revert n2;decide+kernel
  have n5:=(Qbe (i:=k) hav (by omega) (by omega)).1;rw[hnk,<-hbo] at n5;generalize hp:setN (fld ((nms xs).take k) xs[k].name) xs[k]=p at *;have hpl:p.len=p.data.length:=by rw[<-hp];exact hxl
  obtain⟨q1,q2,q3,q4,q5,q6⟩:=qv4 hh hpl (qbw ((qb5 xs).drop (k+1)));have hpn:p.name=fld ((nms xs).take k) xs[k].name:=by rw[<-hp];rfl
  rw[hpn] at q2;have hT:(stK hm md (bo (nms xs)) o xs k).tbl.getD []=bo (nms xs):=st0_tbl hm md (bo (nms xs))
  have hpna:qk5 (stK hm md (bo (nms xs)) o xs k) (ptl p++qbw ((qb5 xs).drop (k+1)))=some xs[k].name:=by
   unfold qk5;rw[q2,hT,n5]
  have hE:qaj (stK hm md (bo (nms xs)) o xs k) (ptl p++qbw ((qb5 xs).drop (k+1)))=0:=by
   unfold qaj;rw[if_neg (by simp[q1]),q2,if_neg n3,if_neg n4,hpna];rfl
  rw[Qec hh hpl _ hE]
  have hS:qbf (stK hm md (bo (nms xs)) o xs k) (qab o xs k) (ptl p++qbw ((qb5 xs).drop (k+1)))=stK hm md (bo (nms xs)) o xs (k+1):=by
   unfold qbf;rw[q2,if_neg n3,if_neg n4,hpna,q4,q3 0 (by omega),q3 1 (by omega),q3 2 (by omega),q3 3 (by omega)];unfold stK;rw[zlg hkl,List.range_succ,List.map_append,List.map_append,List.map_append,<-hp];rfl
  have hO:qab o xs k+pz p.len=qab o xs (k+1):=by rw[qcn hkl,<-hp];rfl
  rw[hS,hO];exact Qed hf hn hl o j (k+1) (by omega)
theorem ar_arch {hm:Bool}{md:List UInt8}{xs:List Mem}(hmd:md.length<=1000000)(hf:∀x∈xs,qca x=0)(hn:xs.length<=200)(hl:∀x∈xs,x.len=x.data.length):
 ar (qr2 hm md xs)=(⟨hm,if hm=true then md else [],xs.map Mem.pure,(qky (qez hm md.length xs) xs).map (fun (n:Nat)=>(n:Int)),if (bo (nms xs)).length=0 then none else some (bo (nms xs))⟩,0,0):=by
 have hav:=qfz hf;have hbo:bo (nms xs)=tab (qam (nms xs)):=if_pos hav;have hT:=qpj (nms xs);have hnl:(nms xs).length=xs.length:=by simp[nms]
 have hg:good (bo (nms xs))=true:=by rw[hbo];exact (qqj (qmf hav)).1
 have h8:qk4 (qr2 hm md xs)=true:=by
  unfold qk4 qr2;rw[zlx,decide_eq_true_eq];exact⟨by rw[zlb];simp[JR.qbd],by rw[List.take_left' (show JR.qbd.length=8 from rfl)];rfl⟩
 rw[qqz h8]
 have hd:(qr2 hm md xs).drop 8=qbw (qg8 hm none md.length 0 md)++(qbw (qfr none (bo (nms xs)).length 0 (bo (nms xs)))++qbw (qb5 xs)):=by
  unfold qr2;rw[List.drop_left' (show JR.qbd.length=8 from rfl)]
 rw[hd,go_map hmd,go_tab (by omega) hg];have hb:8+(if hm=true then pz md.length else 0)+(if (bo (nms xs)).length=0 then 0 else pz (bo (nms xs)).length)=qez hm md.length xs:=rfl;rw[hb];have:=Qed (hm:=hm) (md:=md) hf hn hl (qez hm md.length xs) xs.length 0 (by omega);rw[List.drop_zero] at this;have h0:stK hm md (bo (nms xs)) (qez hm md.length xs) xs 0=st0 hm md (bo (nms xs)):=rfl;have h1:qab (qez hm md.length xs) xs 0=qez hm md.length xs:=by simp[qab]
 rw[h0,h1] at this;rw[this];unfold stK st0 qky;rw[List.take_length]
end JW
end Go.Proofs.YtlmolmohhpdhdaaGreatDoor
