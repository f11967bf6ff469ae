/-
  symindex: definitions, the index of members, the complete
-/
import Derived.Test.YtlmolmohhpdhdaaGreatDoorYOk
import Derived.Test.YtlmolmohhpdhdaaGreatDoorYWk
import Derived.Test.YtlmolmohhpdhdaaGreatDoorYAf
set_option maxRecDepth 100000
set_option maxHeartbeats 16000000
set_option linter.all false
namespace Go.Proofs.YtlmolmohhpdhdaaGreatDoor
open Go.RowKit Go.Proofs Tryz
namespace Six
open JB
open JR (Mem)
open JW (MOk qbe qca qky qab qez nms qr2 pz qd0 qgh lens fewM qzc)
open JA (En qn6 qsn qei qjt szS szN qdu qbz qjy qbg)
def qn3 (x:Obj.Sy):Bool:=x.bind==1||x.bind==2
def qce (xs:List Obj.Sy):List ByteArray:=(xs.filter qn3).map (·.name)
def qfu (l:List UInt8):List ByteArray:=qce (Obj.qdm l).2.1
theorem qmp (a b:List Obj.Sy):qce (a++b)=qce a++qce b:=by simp[qce]
theorem qes {x:Obj.Sy}(h:qn3 x=true):qce [x]=[x.name]:=by simp[qce,h]
theorem qhx {x:Obj.Sy}(h:qn3 x=false):qce [x]=[]:=by simp[qce,h]
theorem qri (l:List UInt8):(∀x∈(Obj.qdm l).2.1,Obj.qb3 x=true)/\(Obj.Qci (Obj.qdm l).2.1).length<=l.length:=by
 by_cases h:(Obj.qdm l).1=0
 ·have h1:=Obj.qsq l (Obj.qdm l).2.1 (Obj.qdm l).2.2 (by rw[<-h]);have h2:=h1.1;unfold Obj.que at h2;rw[zlx] at h2;refine⟨Obj.qp5 h2.2,?_⟩;have h3:=congrArg List.length h1.2;unfold Obj.encO at h3;simp only[zlb] at h3;omega
 ·rw[Obj.qsp l h];exact⟨fun x hx=>by simp at hx,by simp[Obj.Qci]⟩
theorem qv6:∀xs:List Obj.Sy,(Obj.Qci xs).length=(xs.map fun x=>10+x.name.size).sum
 |[]=>rfl
 |x::r=>by
  have e:Obj.Qci (x::r)=Obj.encS x++Obj.Qci r:=by simp[Obj.Qci]
  rw[e,zlb,Obj.qxb,qv6 r];simp
def szD (ns:List ByteArray):Nat:=(ns.map fun s=>s.size+5).sum
theorem szS_eq (ns:List ByteArray):szS ns=4+szD ns:=rfl
theorem qm0 (a b:List ByteArray):szD (a++b)=szD a+szD b:=by simp[szD]
theorem qv7:∀xs:List Obj.Sy,szD (qce xs)<=(xs.map fun x=>10+x.name.size).sum
 |[]=>by simp[szD,qce]
 |x::r=>by
  have ih:=qv7 r;have e:qce (x::r)=qce [x]++qce r:=by rw[<-qmp];rfl
  rw[e,qm0,List.map_cons,List.sum_cons];cases h:qn3 x
  ·rw[qhx h];simp only[szD,List.map_nil,List.sum_nil] at ih |-;omega
  ·rw[qes h];simp only[szD,List.map_cons,List.map_nil,List.sum_cons,List.sum_nil] at ih |-;omega
theorem qt5 (l:List UInt8):szD (qfu l)<=l.length:=by
 have h1:=qv7 (Obj.qdm l).2.1;have h2:=(qri l).2;rw[qv6] at h2;exact Nat.le_trans h1 h2
theorem qt6:∀ns:List ByteArray,ns.length * 5<=szD ns
 |[]=>by simp
 |t::r=>by
  have e:szD (t::r)=(t.size+5)+szD r:=by simp[szD]
  have:=qt6 r;rw[zlk];omega
theorem qne (l:List UInt8):(qfu l).length<=l.length:=by
 have:=qt6 (qfu l);have:=qt5 l;omega
theorem qpq {l:List UInt8}{s:ByteArray}(h:s∈qfu l):qsn s.data.toList=true/\s.size<=255:=by
 unfold qfu qce at h;obtain⟨x,hx,rfl⟩:=List.mem_map.1 h;have h1:=(qri l).1 x (List.mem_filter.1 hx).1;unfold Obj.qb3 at h1;rw[zlx] at h1;have h2:=h1.1;have h3:=Obj.qmn h2;unfold Obj.qaa at h2;rw[zlx,zlx] at h2;refine⟨qjy.2 ⟨fun e=>?_,by simpa using h2.2.2⟩,h3.2⟩;have:=congrArg List.length e;rw[JA.qe5,List.length_nil] at this;omega
def qa9 (xs:List Mem):List ByteArray:=xs.flatMap fun x=>qfu x.data
def hmF (xs:List Mem):Bool:=decide (0<(qa9 xs).length)
theorem qdc (x:Mem)(r:List Mem):qa9 (x::r)=qfu x.data++qa9 r:=by simp[qa9]
theorem qh0 (a b:List Mem):qa9 (a++b)=qa9 a++qa9 b:=by simp[qa9]
theorem qpr {xs:List Mem}{k:Nat}(hk:k<xs.length):qa9 (xs.take (k+1))=qa9 (xs.take k)++qfu xs[k].data:=by
 rw[zlg hk,qh0,qdc];simp[qa9]
def Qbh (xs:List Mem):Nat:=(xs.map fun x=>x.data.length).sum
theorem qv8:∀xs:List Mem,szD (qa9 xs)<=Qbh xs
 |[]=>by simp[szD,qa9]
 |x::r=>by
  rw[qdc,qm0];have h1:=qv8 r;have h2:=qt5 x.data;have e:Qbh (x::r)=x.data.length+Qbh r:=by simp[Qbh]
  omega
theorem lensD_eq {xs:List Mem}(h:∀x∈xs,x.data.length=x.len):Qbh xs=lens xs:=by
 unfold Qbh lens;rw[List.map_congr_left h]
theorem qt7 {xs:List Mem}{s:ByteArray}(h:s∈qa9 xs):qsn s.data.toList=true/\s.size<=255:=by
 obtain⟨x,_,h⟩:=List.mem_flatMap.1 h;exact qpq h
def qc4:List Nat->List Mem->List En
 |o::os,x::xs=>((qfu x.data).map fun s=>(⟨s,(o:Int)⟩:En))++qc4 os xs
 |_,_=>[]
def qhy (xs:List Mem):List Nat:=qky (qez (hmF xs) (szS (qa9 xs)) xs) xs
def idx (xs:List Mem):List En:=qc4 (qhy xs) xs
theorem qps (o:Nat)(xs:List Mem):(qky o xs).length=xs.length:=by simp[qky]
theorem qe1 (xs:List Mem):(qhy xs).length=xs.length:=qps _ _
theorem qh1:∀(os:List Nat)(xs:List Mem),os.length=xs.length->(qc4 os xs).map (·.name)=qa9 xs
 |[],[],_=>rfl
 |o::os,x::xs,h=>by
  rw[zlk,zlk] at h;rw[qc4,List.map_append,qh1 os xs (by omega),qdc,List.map_map];congr 1
  conv=>rhs;rw[<-List.map_id (qfu x.data)]
  rfl
 |[],_::_,h=>by simp at h
 |_::_,[],h=>by simp at h
theorem qv9 (xs:List Mem):(idx xs).map (·.name)=qa9 xs:=qh1 _ _ (qe1 xs)
theorem qdf (xs:List Mem):(idx xs).length=(qa9 xs).length:=by rw[<-qv9,zlB]
theorem qe6 (xs:List Mem):(qei (idx xs)).length=szS (qa9 xs):=by rw[<-JA.Qda,qv9]
theorem qmq:∀(os ps:List Nat)(xs ys:List Mem),os.length=xs.length->qc4 (os++ps) (xs++ys)=qc4 os xs++qc4 ps ys
 |[],_,[],_,_=>rfl
 |o::os,ps,x::xs,ys,h=>by
  rw[zlk,zlk] at h;rw[zlE,zlE,qc4,qc4,qmq os ps xs ys (by omega),zln]
 |[],_,_::_,_,h=>by simp at h
 |_::_,_,[],_,h=>by simp at h
theorem Qbi {os:List Nat}{xs:List Mem}(h:os.length=xs.length){k:Nat}(hk:k<xs.length):
 qc4 (os.take (k+1)) (xs.take (k+1))=qc4 (os.take k) (xs.take k)++(qfu xs[k].data).map fun s=>(⟨s,((os[k]'(by omega):Nat):Int)⟩:En):=by
 rw[zlg hk,zlg (show k<os.length by omega),qmq _ _ _ _ (by simp;omega)];simp[qc4]
theorem qhz:∀{os:List Nat} {xs:List Mem} {e:En},e∈qc4 os xs->∃(k:Nat)(h1:k<os.length)(h2:k<xs.length),e.off=(os[k]:Int)/\e.name∈qfu xs[k].data
 |o::os,x::xs,e,h=>by
  rw[qc4,zlG] at h;rcases h with h|h
  ·obtain⟨s,hs,rfl⟩:=List.mem_map.1 h;exact⟨0,by simp,by simp,rfl,hs⟩
  ·obtain⟨k,h1,h2,h3,h4⟩:=qhz h;exact⟨k+1,by simp;omega,by simp;omega,by simpa using h3,by simpa using h4⟩
 |[],_,e,h=>by simp[qc4] at h
 |_::_,[],e,h=>by simp[qc4] at h
structure Few (xs:List Mem):Prop where
 n:xs.length<=200
 ok:∀x∈xs,MOk x
 len:∀x∈xs,x.data.length=x.len
 all:lens xs<=15000
theorem Few.names {xs:List Mem}(h:Few xs):szS (qa9 xs)<=15004:=by
 have h1:=qv8 xs;rw[lensD_eq h.len] at h1;have:=h.all;rw[szS_eq];omega
theorem Few.count {xs:List Mem}(h:Few xs):(qa9 xs).length<=3000:=by
 have h1:=qt6 (qa9 xs);have h2:=h.names;rw[szS_eq] at h2;omega
theorem Few.off {xs:List Mem}(h:Few xs){o:Nat}(ho:o∈qhy xs):o<=4300000:=by
 unfold qhy qky at ho;obtain⟨k,hk,rfl⟩:=List.mem_map.1 ho;rw[List.mem_range] at hk;have h1:=JW.qxq (hm:=hmF xs) (ms:=szS (qa9 xs)) (xs:=xs) (by have:=h.names;omega) h.n;have h2:=JW.qgx (o:=qez (hmF xs) (szS (qa9 xs)) xs) h.ok k (by omega);have:=h.n;have h3:k * 20061<=200 * 20061:=Nat.mul_le_mul_right _ (by omega);omega
theorem Few.fit {xs:List Mem}(h:Few xs):qjt (idx xs)=true:=qbg.2 fun e he=>by
 obtain⟨k,h1,h2,h3,h4⟩:=qhz he;have h5:=h.off (zlq h1);exact qbz.2 ⟨(qpq h4).1,by omega,by omega⟩
theorem Few.idx_len {xs:List Mem}(h:Few xs):(idx xs).length<=3000:=by rw[qdf];exact h.count
theorem Few.idx_name {xs:List Mem}{e:En}(he:e∈idx xs):e.name.size<=255:=by
 obtain⟨k,h1,h2,h3,h4⟩:=qhz he;exact (qpq h4).2
def qfv (xs:List Mem):List UInt8:=if (qbe 0 xs).2=0 then qr2 (hmF xs) (qei (idx xs)) xs else []
def qzg (xs:List Mem):List En:=if (qbe 0 xs).2=0 then idx xs else []
def Qcj (xs:List Mem):List Nat:=if (qbe 0 xs).2=0 then qhy xs else []
end Six
namespace Six
open JB
def Qbj (l:List UInt8)(w:World)(e:Ending)(w':World):Prop:=
 ∃A n c,e=.returned (.slice A n c)/\JS.Own w' w.heap.size (.slice A n c) n (qfu l)/\Below w.heap.size w w'
theorem Qbj.reads {l:List UInt8}{w w':World}{e:Ending}(h:Qbj l w e w'):
 ∃A n c,e=.returned (.slice A n c)/\n=(qfu l).length/\JS.Own w' w.heap.size (.slice A n c) n (qfu l)/\JS.Rd w' w'.heap.size A n (qfu l)/\n<=c/\c<=maxLen/\Below w.heap.size w w':=by
 obtain⟨A,n,c,rfl,ho,hb⟩:=h;obtain⟨A',c',e1,hr,hnc,hc⟩:=ho.reads;injection e1 with e11 _ e13;subst e11 e13;exact⟨A,n,c,rfl,ho.1.symm,ho,hr,hnc,hc,hb⟩
theorem qrj {xs:List Obj.Sy}{k:Nat}(hk:k<xs.length):qce (xs.take (k+1))=qce (xs.take k)++qce [xs[k]]:=by
 rw[zlg hk,qmp]
theorem qi0 (K:Nat)(A:Option Addr)(n c:Nat)(l:List UInt8)(w:World)(hr:JB.Rd w K A n l)(hK:K<=w.heap.size)(hnc:n<=c)(hn:n<=100000):
 Calls prog 62 #[.slice A n c] w (Qbj l w):=by
 go_enter func62,ntmps62;go_wp2_with fail
 refine (Obj.qjc K A n c l w hr hK hnc (by omega)).mono ?_;rintro e w1 hD;obtain⟨A1,n1,c1,B1,m1,d1,rfl,hs1,_,hnc1,hn1,_,_,_,hb1⟩:=hD.reads;have hrow:=zld w1 (.cells #[.slice A1 n1 c1,.slice B1 m1 d1] 170);have hbA:=zjB w1 (.cells #[.slice A1 n1 c1,.slice B1 m1 d1] 170);have hsz:(w1.alloc (.cells #[.slice A1 n1 c1,.slice B1 m1 d1] 170)).heap.size=w1.heap.size+1:=zlr _ _;have hs2:=hs1.below hbA;have hb2:=hb1.trans (hbA.mono hb1.size);have HD:Hid (qfu l=qce (Obj.qdm l).2.1):=hid rfl;clear hD hs1 hbA hr hb1;generalize (Obj.qdm l).2.1=xs at *;generalize (Obj.qdm l).1=ze at *;go_upto_region 3 with fail
 generalize w1.alloc (.cells #[.slice A1 n1 c1,.slice B1 m1 d1] 170)=w2 at *;generalize w1.heap.size=g at *;have Hl:=hid hs2.1;go_wp2_with fail
 go_loopw [3,6] (fun v i W=>∃(k j:Nat)(A2:Option Addr)(c2:Nat),i=.int .i64 (k:Int)/\k<=n1/\v=.slice A2 j c2/\j<=k/\JS.Own W w2.heap.size (.slice A2 j c2) j (qce (xs.take k))/\Below w2.heap.size w2 W) (fun _ i _=>n1-(intOf i).toNat)
 case atStart=>exact⟨0,0,none,0,rfl,by omega,rfl,by omega,JS.Own.nil _ _,Below.refl _ _⟩
 case round=>
  obtain⟨k,j,A2,c2,rfl,hk,rfl,hjk,hO,hb⟩:=hrel;have hrowr:=(hb.block g (by omega)).trans hrow;have q0:=zjc g 0 hrowr;by_cases hlt:k<n1
  ·have hkl:k<xs.length:=by have:=Hl.out;omega
   have hki:(k:Int)<(n1:Int):=by omega
   obtain⟨⟨b,o,rfl,hbK,hcell⟩,_⟩:=hs2.2 k hkl;have hcl:=hcell.below hb (by omega);have HT:=hid (qrj hkl);clear hcell hrowr;generalize xs[k]=x at *;obtain⟨x0,x1,x2,x3⟩:=x;obtain⟨p0,p1,p2,p3⟩:=hcl;clear p2 p3;have Hd:Hid (qn3 ⟨x0,x1,x2,x3⟩=(x1==1||x1==2)):=hid rfl;have hbs:=hb.size;cases h1:(x1==1)
   ·cases h2:(x1==2)
    ·have HT2:Hid (qce (xs.take (k+1))=qce (xs.take k)):=hid (by rw[HT.out,qhx (by rw[Hd.out,h1,h2];rfl),zlJ]);go_wp2_with fail
     go_roundw
     ·exact⟨k+1,j,A2,c2,by go_num,by omega,rfl,by omega,by rw[HT2.out];exact hO,hb⟩
     ·simp[intOf];omega
    ·have HT2:Hid (qce (xs.take (k+1))=qce (xs.take k)++[x0]):=hid (by rw[HT.out,qes (by rw[Hd.out,h2];simp)]);go_wp2_with (at_builtin;go_must (refine JS.qa4 wr w2.heap.size (.slice A2 j c2) j _ x0 hO hbs (by omega) rfl (.tmp 35) (.tmp 42) rfl rfl rfl ?_);intro v4 w4 ho4 hb4 _ _;obtain⟨A4,c4,rfl,_⟩:=ho4.reads)
     have ho4':JS.Own w4 w2.heap.size (.slice A4 (j+1) c4) (j+1) (qce (xs.take (k+1))):=by rw[HT2.out];exact ho4
     have hb04:=hb.trans hb4;clear ho4 hb4 hO hb p0 p1 h1 h2;go_roundw
     ·exact⟨k+1,j+1,A4,c4,by go_num,by omega,rfl,by omega,ho4',hb04⟩
     ·simp[intOf];omega
   ·have HT2:Hid (qce (xs.take (k+1))=qce (xs.take k)++[x0]):=hid (by rw[HT.out,qes (by rw[Hd.out,h1];rfl)]);go_wp2_with (at_builtin;go_must (refine JS.qa4 wr w2.heap.size (.slice A2 j c2) j _ x0 hO hbs (by omega) rfl (.tmp 35) (.tmp 42) rfl rfl rfl ?_);intro v4 w4 ho4 hb4 _ _;obtain⟨A4,c4,rfl,_⟩:=ho4.reads)
    have ho4':JS.Own w4 w2.heap.size (.slice A4 (j+1) c4) (j+1) (qce (xs.take (k+1))):=by rw[HT2.out];exact ho4
    have hb04:=hb.trans hb4;clear ho4 hb4 hO hb p0 p1 h1;go_roundw
    ·exact⟨k+1,j+1,A4,c4,by go_num,by omega,rfl,by omega,ho4',hb04⟩
    ·simp[intOf];omega
  ·obtain rfl:k=n1:=by omega
   have hki:¬(k:Int)<(k:Int):=by omega
   have hT:xs.take k=xs:=zlj (by have:=Hl.out;omega);rw[hT] at hO;have hO2:=hO.more (K':=w.heap.size) hb2.size;have hO3:JS.Own wr w.heap.size (.slice A2 j c2) j (qfu l):=by rw[HD.out];exact hO2
   have hb3:=hb2.trans (hb.mono hb2.size);clear hO hO2 hb hrowr hT;go_wp2_with fail
   go_ret
   exact⟨A2,j,c2,rfl,hO3,hb3⟩
end Six
namespace JC
theorem Own.at_ {t:TypeId}{sz:Nat}{w:World}{K n:Nat}{v:Value}{cs:List Value}(h:Own t sz w K v n cs){j:Nat}(hj:j<cs.length):
 ∃g cap cur m,v=.slice (some ⟨g,0,none⟩) n cap/\K<=g/\w.heap[g]?=some (.cells cur t m)/\w.cell? ⟨g,j,none⟩=some cs[j]/\w.frozen? ⟨g,j,none⟩=false/\
  ∀u,Own t sz (w.setCell ⟨g,j,none⟩ u) K v n (cs.set j u):=by
 have hl:=h.1;rcases h.2 with ⟨rfl,rfl⟩|⟨g,cap,cur,m,rfl,hg,hh,hn,hm,hs,ht,hf⟩
 ·rw[hl] at hj;simp at hj
 ·have hle:n * sz<=cap * sz:=Nat.mul_le_mul_right _ hn
  have hc:cur[j]?=some cs[j]:=by
   have h1:(cur.toList.take (n * sz))[j]?=some cs[j]:=by rw[ht,zlh hj]
   rw[List.getElem?_take,if_pos (by omega)] at h1;simpa using h1
  refine⟨g,cap,cur,m,rfl,hg,hh,by rw[zlc w g j cur t m hh];exact hc,?_,fun u=>⟨by rw[List.length_set];exact hl,.inr ⟨g,cap,cur.setIfInBounds j u,m,rfl,hg,?_,hn,hm,by simpa using hs,?_,hf⟩⟩⟩
  ·have:=hf j (by omega);simp[World.frozen?,hh];omega
  ·simp[World.setCell,Array.getElem?_modify,hh]
  ·rw[Array.toList_setIfInBounds,List.take_set,ht]
end JC
namespace Six
open JB
open JS (Oth)
open JR (Mem)
open JW (qbe qd0)
open JA (En qas qei qjt szS qbz qbg)
theorem qbb {t:TypeId}{w w':World}{K n:Nat}{v:Value}{l:List ByteArray}(h:JS.Own w K v n l)(ho:Oth t w w')(ht:(9:Nat)≠t):JS.Own w' K v n l:=by
 refine⟨h.1,?_⟩;rcases h.2 with h|⟨g,cap,cur,m,hv,hg,hh,r⟩
 ·exact .inl h
 ·exact .inr ⟨g,cap,cur,m,hv,hg,ho g _ hh (fun cs m' e=>by injection e with _ e2;exact ht e2),r⟩
def qek (ns:List ByteArray):List En:=ns.map fun s=>(⟨s,0⟩:En)
def ofL:Nat->List Mem->List Nat
 |_,[]=>[]
 |i,x::r=>List.replicate (qfu x.data).length i++ofL (i+1) r
theorem qva (a b:List ByteArray):qek (a++b)=qek a++qek b:=by simp[qek]
theorem qee (a:List ByteArray):(qek a).length=a.length:=by simp[qek]
theorem qxx (a:List ByteArray):(qek a).map (·.name)=a:=by
 unfold qek;rw[List.map_map]
 conv=>rhs;rw[<-List.map_id a]
 rfl
theorem qrk (ns:List ByteArray):(qei (qek ns)).length=szS ns:=by rw[<-JA.Qda,qxx]
theorem qrm:∀(i:Nat)(a b:List Mem),ofL i (a++b)=ofL i a++ofL (i+a.length) b
 |i,[],b=>by simp[ofL]
 |i,x::a,b=>by
  rw[zlE,ofL,ofL,qrm (i+1) a b,zln,zlk,show i+1+a.length=i+(a.length+1) by omega]
theorem qrn:∀(i:Nat)(xs:List Mem),(ofL i xs).length=(qa9 xs).length
 |_,[]=>rfl
 |i,x::r=>by rw[ofL,zlb,List.length_replicate,qrn (i+1) r,qdc,zlb]
theorem ofL_take {xs:List Mem}{k:Nat}(hk:k<xs.length):ofL 0 (xs.take (k+1))=ofL 0 (xs.take k)++List.replicate (qfu xs[k].data).length k:=by
 rw[zlg hk,qrm,zlu,Nat.min_eq_left (by omega),Nat.zero_add];simp[ofL]
theorem Qei:∀(i:Nat)(xs:List Mem),∀j∈ofL i xs,i<=j/\j<i+xs.length
 |_,[],j,h=>by simp[ofL] at h
 |i,x::r,j,h=>by
  rw[ofL,zlG] at h;rw[zlk];rcases h with h|h
  ·have:=(List.mem_replicate.1 h).2;omega
  ·have:=Qei (i+1) r j h;omega
theorem qvb:∀(i:Nat)(os:List Nat)(xs:List Mem),os.length=xs.length->qc4 os xs=List.zipWith (fun s j=>(⟨s,((os.getD (j-i) 0:Nat):Int)⟩:En)) (qa9 xs) (ofL i xs)
 |_,[],[],_=>rfl
 |i,o::os,x::xs,h=>by
  rw[zlk,zlk] at h;rw[qc4,qdc,ofL,List.zipWith_append (by simp),qvb (i+1) os xs (by omega)];congr 1
  ·apply List.ext_getElem
   ·simp
   ·intro k h1 h2;simp
  ·apply List.ext_getElem
   ·simp
   ·intro k h1 h2;rw[List.getElem_zipWith,List.getElem_zipWith];have hj:=Qei (i+1) xs _ (zlq (show k<(ofL (i+1) xs).length by simp at h1;omega));congr 2
    rw[show (ofL (i+1) xs)[k]'(by simp at h1;omega)-i=((ofL (i+1) xs)[k]'(by simp at h1;omega)-(i+1))+1 by omega,List.getD_cons_succ]
 |_,[],_::_,h=>by simp at h
 |_,_::_,[],h=>by simp at h
theorem idx_at {xs:List Mem}{k:Nat}(hk:k<(qa9 xs).length):∃(h1:k<(idx xs).length) (h2:k<(ofL 0 xs).length) (h3:(ofL 0 xs)[k]<(qhy xs).length),(idx xs)[k]=⟨(qa9 xs)[k],(((qhy xs)[(ofL 0 xs)[k]]:Nat):Int)⟩:=by
 have h1:k<(idx xs).length:=by rw[qdf];exact hk
 have h2:k<(ofL 0 xs).length:=by rw[qrn];exact hk
 have h3:(ofL 0 xs)[k]<(qhy xs).length:=by
  have:=Qei 0 xs _ (zlq h2);rw[qe1];omega
 refine⟨h1,h2,h3,?_⟩;have e:=qvb 0 (qhy xs) xs (qe1 xs);have e2:(idx xs)[k]?=(List.zipWith (fun s j=>(⟨s,(((qhy xs).getD (j-0) 0:Nat):Int)⟩:En)) (qa9 xs) (ofL 0 xs))[k]?:=by rw[<-e];rfl
 rw[zlh h1,zlh (by simp;omega),List.getElem_zipWith] at e2;injection e2 with e2;rw[e2,Nat.sub_zero,List.getD_eq_getElem?_getD,zlh h3];rfl
theorem Few.zfit {xs:List Mem}(_h:Few xs):qjt (qek (qa9 xs))=true:=qbg.2 fun e he=>by
 obtain⟨s,hs,rfl⟩:=List.mem_map.1 he;exact qbz.2 ⟨(qt7 hs).1,by show (0:Int)<=0;omega,by show (0:Int)<=_;omega⟩
theorem zname {xs:List Mem}{e:En}(he:e∈qek (qa9 xs)):e.name.size<=255:=by
 obtain⟨s,hs,rfl⟩:=List.mem_map.1 he;exact (qt7 hs).2
def qm1 (xs:List Mem)(k:Nat):List En:=(idx xs).take k++(qek (qa9 xs)).drop k
theorem Qbk (xs:List Mem):qm1 xs 0=qek (qa9 xs):=by simp[qm1]
theorem Qej (xs:List Mem):qm1 xs (qa9 xs).length=idx xs:=by
 unfold qm1;rw[zlj (by rw[qdf];exact Nat.le_refl _),zlD (by rw[qee];exact Nat.le_refl _),zlJ]
theorem qvc {xs:List Mem}{k:Nat}(hk:k<=(qa9 xs).length):(qm1 xs k).length=(qa9 xs).length:=by
 unfold qm1;rw[zlb,zlu,zlm,qdf,qee];omega
theorem qrp:∀(a b:List En)(s:ByteArray)(o p:Int),(qas (a++(⟨s,o⟩::b))).set (a.length * 2+1) (.int .i64 p)=qas (a++(⟨s,p⟩::b))
 |[],b,s,o,p=>rfl
 |x::a,b,s,o,p=>by
  rw[zlE,zlE,qas,qas,zlk,show (a.length+1) * 2+1=(a.length * 2+1)+2 by omega,<-qrp a b s o p];rfl
theorem Qbm {xs:List Mem}{k:Nat}(hk:k<(qa9 xs).length){p:Nat}(hp:∃(h2:k<(ofL 0 xs).length) (h3:(ofL 0 xs)[k]<(qhy xs).length),(qhy xs)[(ofL 0 xs)[k]]=p):
 (qas (qm1 xs k)).set (k * 2+1) (.int .i64 (p:Int))=qas (qm1 xs (k+1)):=by
 obtain⟨h1,h2,h3,e⟩:=idx_at hk;obtain⟨_,_,hp⟩:=hp;rw[hp] at e;have hz:k<(qek (qa9 xs)).length:=by rw[qee];exact hk
 have e1:qm1 xs k=(idx xs).take k++(⟨(qa9 xs)[k],0⟩::(qek (qa9 xs)).drop (k+1)):=by
  unfold qm1;rw[List.drop_eq_getElem_cons hz];congr 2
  simp[qek]
 have e2:qm1 xs (k+1)=(idx xs).take k++(⟨(qa9 xs)[k],(p:Int)⟩::(qek (qa9 xs)).drop (k+1)):=by
  unfold qm1;rw[zlg h1,e,zln];rfl
 have hl:((idx xs).take k).length=k:=by rw[zlu];omega
 rw[e1,e2];have:=qrp ((idx xs).take k) ((qek (qa9 xs)).drop (k+1)) (qa9 xs)[k] 0 (p:Int);rw[hl] at this;exact this
def RComp (xs:List Mem)(w:World)(e:Ending)(w':World):Prop:=
 ∃vb A1 n1 c1 A2 n2 c2,e=.returned (.tuple #[vb,.slice A1 n1 c1,.slice A2 n2 c2,.int .i64 (qbe 0 xs).2])/\JB.Own w' w.heap.size vb (qfv xs).length (qfv xs)/\
  JC.Own 135 2 w' w.heap.size (.slice A1 n1 c1) n1 (qas (qzg xs))/\JC.Own 3 1 w' w.heap.size (.slice A2 n2 c2) n2 (qd0 (Qcj xs))/\Below w.heap.size w w'
end Six
namespace Six
open JB
open JS (Oth)
open JR (Mem RdM)
open JW (qbe qd0)
open JA (En qas qei qjt szS qbz qbg)
theorem qxy (a b:List Nat):qd0 (a++b)=qd0 a++qd0 b:=by simp[qd0]
theorem qke {w:World}{K n:Nat}{A:Option Addr}{xs:List Mem}(h:RdM w K A n xs){k:Nat}(hk:k<xs.length):∃b o:Nat,A=some ⟨b,o,none⟩/\b<K/\w.cell? ⟨b,o+k * 6+5,none⟩=some (.slice xs[k].ptr xs[k].len xs[k].cap)/\JB.Rd w K xs[k].ptr xs[k].len xs[k].data:=by
 obtain⟨⟨b,o,e,hb,hc⟩,hr,_⟩:=h.2 k hk;exact⟨b,o,e,hb,hc.2.2.2.2.2,hr⟩
theorem qt8:(3:Nat)≠135:=by decide
theorem ent_int:(135:Nat)≠3:=by decide
theorem Qek:(9:Nat)≠135:=by decide
theorem str_int:(9:Nat)≠3:=by decide
theorem qt9 (K:Nat)(A:Option Addr)(n c:Nat)(xs:List Mem)(w:World)(h:RdM w K A n xs)(hK:K<=w.heap.size)(hF:Few xs)(hcap:∀x∈xs,x.len<=x.cap):
 Calls prog 41 #[.slice A n c] w (RComp xs w):=by
 have Hl:=hid h.1;have HF:=hid hF;have hn20:n<=200:=by have:=Hl.out;have:=HF.out.n;omega
 go_enter func41,ntmps41;go_wp2_with fail
 refine (JW.qrf K A n c xs w h hK HF.out.ok (by omega)).mono ?_;rintro e w1 ⟨rfl,hb1⟩;obtain⟨z1,hz1⟩:∃z1,(qbe 0 xs).1=z1:=⟨_,rfl⟩;obtain⟨z2,hz2⟩:∃z2,(qbe 0 xs).2=z2:=⟨_,rfl⟩;rw[hz1,hz2];have HZ:=hid hz2;clear hz1 hz2 hF;by_cases hz:z2=0
 ·have hzb:(z2 !=0)=false:=by rw[hz];rfl
  have HOk:Hid ((qbe 0 xs).2=0):=hid (HZ.out.trans hz);clear hz;go_wp2_with fail
  go_loopw [8,9,10] (fun v u i W=>∃(k j:Nat)(A1:Option Addr)(c1:Nat)(A2:Option Addr)(c2:Nat),i=.int .i64 (k:Int)/\k<=n/\v=.slice A1 j c1/\u=.slice A2 j c2/\j<=3000/\JC.Own 135 2 W w.heap.size (.slice A1 j c1) j (qas (qek (qa9 (xs.take k))))/\JC.Own 3 1 W w.heap.size (.slice A2 j c2) j (qd0 (ofL 0 (xs.take k)))/\Below w.heap.size w W) (fun _ _ i _=>n-(intOf i).toNat)
  case atStart=>exact⟨0,0,none,0,none,0,rfl,by omega,rfl,rfl,by omega,JC.Own.nil _ _ _ _,JC.Own.nil _ _ _ _,hb1⟩
  case round=>
   obtain⟨k,j,A1,c1,A2,c2,rfl,hk,rfl,rfl,hj,hE,hO,hb⟩:=hrel;by_cases hlt:k<n
   ·have hkl:k<xs.length:=by have:=Hl.out;omega
    have hki:(k:Int)<(n:Int):=by omega
    obtain⟨b,o,rfl,hbK,hcell,hrd⟩:=qke (h.below (hb.mono hK)) hkl;have hxl:=(HF.out.ok _ (zlq hkl)).len;have hxc:=hcap _ (zlq hkl);have HTn:=hid (qpr hkl);have HTo:=hid (ofL_take hkl)
    have HB:Hid ((qa9 (xs.take (k+1))).length<=3000):=hid (by
     have h1:=HF.out.count;have h2:qa9 xs=qa9 (xs.take (k+1))++qa9 (xs.drop (k+1)):=by rw[<-qh0,List.take_append_drop]
     rw[h2,zlb] at h1;omega)
    have Hj:Hid (j=(qa9 (xs.take k)).length):=hid (by
     have:=hE.1;rw[JA.qbh,qee] at this;omega)
    generalize xs[k]=x at *;obtain⟨xp,hxp⟩:∃xp,x.ptr=xp:=⟨_,rfl⟩;obtain⟨xn,hxn⟩:∃xn,x.len=xn:=⟨_,rfl⟩;obtain⟨xc,hxc'⟩:∃xc,x.cap=xc:=⟨_,rfl⟩;rw[hxp,hxn,hxc'] at hcell;rw[hxp,hxn] at hrd;rw[hxn,hxc'] at hxc;rw[hxn] at hxl;have HC:=hid (qi0 K xp xn xc x.data wr hrd (Nat.le_trans hK hb.size) hxc (by omega));clear hxp hxn hxc' hrd hxc;go_wp2_with fail
    refine HC.out.mono ?_;rintro e w3 hD;obtain⟨A3,n3,c3,rfl,hn3,o3,r3,hc3,hm3,hb3⟩:=hD.reads;have Hn3:=hid hn3;have hE3:=hE.below hb3;have hO3:=hO.below hb3;have hbr:=hb.size;have hb03:=hb.trans (hb3.mono hbr)
    have hn3b:j+n3<=3000:=by
     have:=HB.out;rw[HTn.out,zlb,<-Hj.out,<-Hn3.out] at this;exact this
    clear hD HC hE hO hcell r3 hn3 hb3 hb hxl;go_wp2_with fail
    go_loopw [8,9,12] (fun v u i W=>∃(q:Nat)(A4:Option Addr)(c4:Nat)(A5:Option Addr)(c5:Nat),i=.int .i64 (q:Int)/\q<=n3/\v=.slice A4 (j+q) c4/\u=.slice A5 (j+q) c5/\JC.Own 135 2 W w.heap.size (.slice A4 (j+q) c4) (j+q) (qas (qek (qa9 (xs.take k)++(qfu x.data).take q)))/\JC.Own 3 1 W w.heap.size (.slice A5 (j+q) c5) (j+q) (qd0 (ofL 0 (xs.take k)++List.replicate q k))/\JS.Own W wr.heap.size (.slice A3 n3 c3) n3 (qfu x.data)/\Below w.heap.size w W) (fun _ _ i _=>n3-(intOf i).toNat)
    case atStart=>exact⟨0,A1,c1,A2,c2,rfl,by omega,rfl,rfl,by simpa using hE3,by simpa using hO3,o3,hb03⟩
    case round=>
     obtain⟨q,A4,c4,A5,c5,rfl,hq,rfl,rfl,hE,hO,hS,hb⟩:=hrel;by_cases hqt:q<n3
     ·have hql:q<(qfu x.data).length:=by have:=Hn3.out;omega
      have hqi:(q:Int)<(n3:Int):=by omega
      obtain⟨A6,c6,e6,r6,_,_⟩:=hS.reads;injection e6 with e61 _ e63;subst e61 e63;obtain⟨b6,o6,rfl,_,hcell⟩:=r6.2 q (by rw[r6.1];exact hqt)
      have HTs:Hid (qek (qa9 (xs.take k)++(qfu x.data).take (q+1))=qek (qa9 (xs.take k)++(qfu x.data).take q)++[⟨(qfu x.data)[q],0⟩]):=hid (by
       rw[zlg hql,<-zln,qva];rfl)
      have HTr:Hid (List.replicate (q+1) k=List.replicate q k++[k]):=hid List.replicate_succ';generalize (qfu x.data)[q]=s at *;have hs0:=hb.size;clear r6
      go_wp2_with (first
       |(at_builtin;refine JC.qa4 JA.kE wr w.heap.size (.slice A4 (j+q) c4) (j+q) _ hE hs0 1 1 #[.string s,.int .i64 0] (0,0) rfl (by simp[Value.oneCell']) (by omega) (by omega) rfl (.tmp 49) (.tmp 55) rfl rfl rfl ?_;intro v7 w7 ho7 hb7 hoth7 _;obtain⟨A7,c7,rfl,_⟩:=ho7.reads;have hO7:=hO.oth hoth7 qt8;have hS7:=qbb hS hoth7 Qek;have hb07:=hb.trans hb7;have hs7:=hb07.size)
       |(at_builtin;refine JC.qa4 JR.kI w7 w.heap.size (.slice A5 (j+q) c5) (j+q) _ hO7 hs7 1 1 #[.int .i64 (k:Int)] (0,0) rfl (by simp[Value.oneCell']) (by omega) (by omega) rfl (.tmp 57) (.tmp 59) rfl rfl rfl ?_;intro v8 w8 ho8 hb8 hoth8 _;obtain⟨A8,c8,rfl,_⟩:=ho8.reads)
       |fail)
      have hE8:=ho7.oth hoth8 ent_int;have hS8:=qbb hS7 hoth8 str_int;have hb08:=hb07.trans hb8
      have hE8':JC.Own 135 2 w8 w.heap.size (.slice A7 (j+q+1) c7) (j+q+1) (qas (qek (qa9 (xs.take k)++(qfu x.data).take (q+1)))):=by
       rw[HTs.out,JA.qgr];exact hE8
      have hO8':JC.Own 3 1 w8 w.heap.size (.slice A8 (j+q+1) c8) (j+q+1) (qd0 (ofL 0 (xs.take k)++List.replicate (q+1) k)):=by
       rw[HTr.out,<-zln,qxy];exact ho8
      clear ho7 ho8 hb7 hb8 hoth7 hoth8 hE hO hS hb hO7 hS7 hE8 hb07 hcell;go_roundw
      ·exact⟨q+1,A7,c7,A8,c8,by go_num,by omega,rfl,rfl,hE8',hO8',hS8,hb08⟩
      ·simp[intOf];omega
     ·obtain rfl:q=n3:=by omega
      have hqi:¬(q:Int)<(q:Int):=by omega
      have e1:(qfu x.data).take q=qfu x.data:=zlj (by have:=Hn3.out;omega);rw[e1,<-HTn.out] at hE;rw[Hn3.out,<-HTo.out,<-Hn3.out] at hO;clear e1 hS;go_wp2_with fail
      go_roundw
      ·exact⟨k+1,j+q,A4,c4,A5,c5,by go_num,by omega,rfl,rfl,by omega,hE,hO,hb⟩
      ·simp[intOf];omega
   ·obtain rfl:k=n:=by omega
    have hki:¬(k:Int)<(k:Int):=by omega
    have hT:xs.take k=xs:=zlj (by have:=Hl.out;omega);rw[hT] at hE hO
    have Hj:Hid (j=(qa9 xs).length):=hid (by
     have:=hE.1;rw[JA.qbh,qee] at this;omega)
    have hKw:=hb.size;have rE:=JA.qp3 hE;clear hT;go_wp2_with fail
    refine (JA.quc wr.heap.size A1 j c1 (qek (qa9 xs)) wr rE zjn hj (fun e he=>by have:=zname he;omega)).mono ?_;rintro e w4 hEn;obtain⟨A4,n4,c4,rfl,hn4,_,r4,hc4,_,hb4⟩:=hEn.ok HF.out.zfit;have hn4b:n4<=15004:=by rw[hn4,qrk];exact HF.out.names
    have Hn4:Hid ((qei (qek (qa9 xs))).length=szS (qa9 xs)):=hid (qrk _);have hE4:=hE.below hb4;have hO4:=hO.below hb4;have hb04:=hb.trans (hb4.mono hKw);have hK4:=hb04.size;have hlen4:=r4.1;have Hmd:=hid hlen4;clear hEn hn4 rE hE hO hb hb4 hlen4;obtain⟨bm,hbm⟩:∃bm,decide (0<j)=bm:=⟨_,rfl⟩
    have Hbm:Hid (bm=hmF xs):=hid (by
     rw[<-hbm];unfold hmF;rw[<-Hj.out])
    have HW:=hid fun (md:List UInt8) (Am:Option Addr) (nm cm:Nat) (W:World) (rm:JB.Rd W W.heap.size Am nm md) (hnm:nm<=20000) (hbW:Below w.heap.size w W)=>JW.Qbd bm Am nm cm md W.heap.size K A k c xs W rm zjn hnm (h.below (hbW.mono hK)) (Nat.le_trans hK hbW.size) HF.out.ok hn20 HF.out.all;go_wp2_with fail
    refine (HW.out _ A4 n4 c4 w4 r4 (by omega) hb04).mono ?_;rintro e w5 ⟨v5,A5,n5,c5,rfl,_,hof5,hb5⟩;rw[if_pos HOk.out,Hbm.out,Hn4.out] at hof5;have hof5':JC.Own 3 1 w5 w.heap.size (.slice A5 n5 c5) n5 (qd0 (qhy xs)):=JC.Own.more hof5 hK4;have hE5:=hE4.below hb5;have hO5:=hO4.below hb5;have hb05:=hb04.trans (hb5.mono hK4);rw[<-Qbk] at hE5;have Hn5:Hid ((qhy xs).length=n5):=hid (by have:=hof5'.1;simpa [qd0] using this);clear hE4 hO4 hb04 hb5 r4 hof5 hK4 hn4b;go_wp2_with fail
    go_loopw [18] (fun i W=>∃q:Nat,i=.int .i64 (q:Int)/\q<=j/\JC.Own 135 2 W w.heap.size (.slice A1 j c1) j (qas (qm1 xs q))/\JC.Own 3 1 W w.heap.size (.slice A2 j c2) j (qd0 (ofL 0 xs))/\JC.Own 3 1 W w.heap.size (.slice A5 n5 c5) n5 (qd0 (qhy xs))/\Below w.heap.size w W) (fun i _=>j-(intOf i).toNat)
    case atStart=>exact⟨0,rfl,by omega,hE5,hO5,hof5',hb05⟩
    case round=>
     obtain⟨q,rfl,hq,hE,hO,hf,hb⟩:=hrel;by_cases hqt:q<j
     ·have hqi:(q:Int)<(j:Int):=by omega
      have hqn:q<(qa9 xs).length:=by have:=Hj.out;omega
      obtain⟨i1,i2,i3,i4⟩:=idx_at hqn;clear i4;obtain⟨A7,c7,e7,r7,_,_⟩:=hO.reads;injection e7 with e71 _ e73;subst e71 e73;obtain⟨b7,o7,rfl,_,hc7⟩:=r7.2 q (by simp[qd0];exact i2);obtain⟨A8,c8,e8,r8,_,_⟩:=hf.reads;injection e8 with e81 _ e83;subst e81 e83;obtain⟨b8,o8,rfl,_,hc8⟩:=r8.2 (ofL 0 xs)[q] (by simp[qd0];exact i3);have hc7':wr.cell? ⟨b7,o7+q,none⟩=some (.int .i64 ((ofL 0 xs)[q]:Int)):=by rw[hc7];simp[qd0]
      have hc8':wr.cell? ⟨b8,o8+(ofL 0 xs)[q],none⟩=some (.int .i64 ((qhy xs)[(ofL 0 xs)[q]]:Int)):=by rw[hc8];simp[qd0]
      have hpi:((ofL 0 xs)[q]:Int)<(n5:Int):=by have:=Hn5.out;omega
      have hstep:=hid (Qbm hqn (p:=(qhy xs)[(ofL 0 xs)[q]]) ⟨i2,i3,rfl⟩);obtain⟨g,cg,cur,mg,eg,hgK,hgrow,hgc,hgf,hgset⟩:=hE.at_ (j:=q * 2+1) (by rw[JA.qbh,qvc (by omega)];omega);injection eg with eg1 _ eg3;subst eg1 eg3;obtain⟨gv,hgv⟩:∃gv,wr.cell? ⟨g,q * 2+1,none⟩=some gv:=⟨_,hgc⟩;clear hgc;generalize (qhy xs)[(ofL 0 xs)[q]]=op at *;generalize (ofL 0 xs)[q]=p at *;have hE2:=hgset (.int .i64 (op:Int));rw[hstep.out] at hE2;have hO2:=JC.Own.setc hO hgrow qt8 (q * 2+1) (.int .i64 (op:Int));have hf2:=JC.Own.setc hf hgrow qt8 (q * 2+1) (.int .i64 (op:Int));have hb2:=hb.setCell (p:=⟨g,q * 2+1,none⟩) hgK (.int .i64 (op:Int));clear hc7 hc8 r7 r8 hgset hgrow hE hO hf hb hstep i1 i2 i3;go_wp2_with fail
      go_roundw
      ·exact⟨q+1,by go_num,by omega,hE2,hO2,hf2,hb2⟩
      ·simp[intOf];omega
     ·obtain rfl:q=j:=by omega
      have hqi:¬(q:Int)<(q:Int):=by omega
      rw[Hj.out,Qej,<-Hj.out] at hE;have rE:=JA.qp3 hE;have hKw:=hb.size;clear hO;go_wp2_with fail
      refine (JA.quc wr.heap.size A1 q c1 (idx xs) wr rE zjn hj (fun e he=>by have:=Few.idx_name he;omega)).mono ?_;rintro e w6 hEn;obtain⟨A6,n6,c6,rfl,hn6,_,r6,hc6,_,hb6⟩:=hEn.ok HF.out.fit;have hn6b:n6<=15004:=by rw[hn6,qe6];exact HF.out.names
      have hE6:=hE.below hb6;have hf6:=hf.below hb6;have hb06:=hb.trans (hb6.mono hKw);have hK6:=hb06.size;clear hEn hn6 rE hE hf hb hb6;go_wp2_with fail
      refine (HW.out _ A6 n6 c6 w6 r6 (by omega) hb06).mono ?_;rintro e w7 ⟨v7,A7,n7,c7,rfl,ho7,_,hb7⟩;have hE7:=hE6.below hb7;have hf7:=hf6.below hb7;have hb07:=hb06.trans (hb7.mono hK6);have ew:JW.Qbc bm (qei (idx xs)) xs=qfv xs:=by rw[Hbm.out];rfl
      rw[ew] at ho7;have ho7':=hid (ho7.more (K':=w.heap.size) hK6);clear ho7 hE6 hf6 hb7 hb06 r6 ew;go_wp2_with fail
      refine zlf (v:=.tuple #[v7,.slice A1 q c1,.slice A5 n5 c5,.int .i64 0]) (by simp[results,results41,asAddr]) rfl ⟨v7,A1,q,c1,A5,n5,c5,by rw[HOk.out],ho7'.out,?_,?_,hb07⟩
      ·rw[show qzg xs=idx xs from if_pos HOk.out];exact hE7
      ·rw[show Qcj xs=qhy xs from if_pos HOk.out];exact hf7
 ·have hzb:(z2 !=0)=true:=by simp[hz]
  have HN:Hid (¬(qbe 0 xs).2=0):=hid (by rw[HZ.out];exact hz);clear hz;go_wp2_with fail
  refine zlf (v:=.tuple #[.slice none 0 0,.slice none 0 0,.slice none 0 0,.int .i64 z2]) (by simp[results,results41,asAddr]) rfl ⟨_,none,0,0,none,0,0,by rw[HZ.out],?_,?_,?_,hb1⟩
  ·rw[show qfv xs=[] from if_neg HN.out];exact JB.Own.nil _ _
  ·rw[show qzg xs=[] from if_neg HN.out];exact JC.Own.nil _ _ _ _
  ·rw[show Qcj xs=[] from if_neg HN.out];exact JC.Own.nil _ _ _ _
end Six
end Go.Proofs.YtlmolmohhpdhdaaGreatDoor
