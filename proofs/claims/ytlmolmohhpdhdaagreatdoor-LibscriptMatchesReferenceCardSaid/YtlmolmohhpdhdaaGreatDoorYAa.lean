/-
  armap: the encoding of archive maps (mathematics, no
-/
import Derived.Test.YtlmolmohhpdhdaaGreatDoorYMg
set_option maxRecDepth 100000
set_option maxHeartbeats 16000000
set_option linter.all false
namespace Go.Proofs.YtlmolmohhpdhdaaGreatDoor
open Go.RowKit Go.Proofs Tryz
namespace JA
def w4 (n:Nat):List UInt8:=[UInt8.ofNat (n / 16777216),UInt8.ofNat (n / 65536),UInt8.ofNat (n / 256),UInt8.ofNat n]
def n4 (l:List UInt8):Nat:=(l.take 4).foldl (fun n c=>n * 256+c.toNat) 0
def str (l:List UInt8):ByteArray:=⟨l.toArray⟩
theorem qhq (n:Nat):(w4 n).length=4:=rfl
theorem n4_w4 (n:Nat)(hn:n<4294967296)(r:List UInt8):n4 (w4 n++r)=n:=by
 simp[n4,w4,UInt8.toNat_ofNat'];omega
theorem n4_lt (l:List UInt8):n4 l<4294967296:=by
 unfold n4
 match l with
 |[]=>simp
 |[a]=>simp;have:=a.toNat_lt;omega
 |[a,b]=>simp;have:=a.toNat_lt;have:=b.toNat_lt;omega
 |[a,b,c]=>simp;have:=a.toNat_lt;have:=b.toNat_lt;have:=c.toNat_lt;omega
 |a::b::c::d::r=>simp;have:=a.toNat_lt;have:=b.toNat_lt;have:=c.toNat_lt;have:=d.toNat_lt;omega
theorem qdj (n:Nat)(a:UInt8)(h:n%256=a.toNat):UInt8.ofNat n=a:=by
 rw[<-UInt8.toNat_inj,UInt8.toNat_ofNat'];exact h
theorem Qas (l:List UInt8)(h:4<=l.length):w4 (n4 l)=l.take 4:=by
 match l,h with
 |a::b::c::d::r,_=>
  have:=a.toNat_lt;have:=b.toNat_lt;have:=c.toNat_lt;have:=d.toNat_lt;have e:n4 (a::b::c::d::r)=((a.toNat * 256+b.toNat) * 256+c.toNat) * 256+d.toNat:=by simp[n4]
  show w4 (n4 (a::b::c::d::r))=[a,b,c,d]
  rw[e];unfold w4;rw[qdj _ a (by omega),qdj _ b (by omega),qdj _ c (by omega),qdj _ d (by omega)]
theorem qr8 (s:ByteArray):str s.data.toList=s:=rfl
theorem qe5 (s:ByteArray):s.data.toList.length=s.size:=rfl
structure En where
 name:ByteArray
 off:Int
def qsn (l:List UInt8):Bool:=decide (l≠[])&&!l.contains 0
def qn6 (x:En):Bool:=qsn x.name.data.toList&&(decide (0<=x.off)&&decide (x.off<=4294967295))
theorem qjy {l:List UInt8}:qsn l=true↔l≠[]/\(0:UInt8)∉l:=by simp[qsn]
theorem qbz {x:En}:qn6 x=true↔qsn x.name.data.toList=true/\0<=x.off/\x.off<=4294967295:=by simp[qn6]
def qfs (l:List En):List UInt8:=l.flatMap fun x=>w4 x.off.toNat
def qjz (l:List (List UInt8)):List UInt8:=l.flatMap fun s=>s++[0]
def qdu (l:List En):List (List UInt8):=l.map fun x=>x.name.data.toList
def qei (l:List En):List UInt8:=w4 l.length++(qfs l++qjz (qdu l))
def qjt (l:List En):Bool:=l.all qn6
theorem qf8:∀l:List En,(qfs l).length=4 * l.length
 |[]=>rfl
 |x::r=>by
  show (w4 x.off.toNat++qfs r).length=_
  rw[zlb,qf8 r,qhq,zlk];omega
theorem qnz (a b:List (List UInt8)):qjz (a++b)=qjz a++qjz b:=by simp[qjz]
theorem qje (a b:List En):qfs (a++b)=qfs a++qfs b:=by simp[qfs]
theorem qp0 (s:List UInt8)(r:List (List UInt8)):qjz (s::r)=s++([0]++qjz r):=by simp[qjz]
def szN (l:List (List UInt8)):Nat:=(l.map fun s=>s.length+1).sum
theorem qp1:∀l,(qjz l).length=szN l
 |[]=>rfl
 |s::r=>by
  rw[qp0,zlb,zlb,qp1 r];simp[szN];omega
theorem qjf (l:List En):(qei l).length=4+4 * l.length+szN (qdu l):=by
 unfold qei;rw[zlb,zlb,qhq,qf8,qp1];omega
def nm1 (l:List UInt8):List UInt8:=l.takeWhile (· !=0)
theorem nm1_app {s:List UInt8}(h:(0:UInt8)∉s)(r:List UInt8):nm1 (s++([0]++r))=s:=by
 unfold nm1;rw[List.takeWhile_append_of_pos (fun c hc=>by simp;rintro rfl;exact h hc)];simp
theorem nm1_not (l:List UInt8):(0:UInt8)∉nm1 l:=fun h=>by
 have h1:(l.takeWhile (· !=0)).all (· !=0)=true:=List.all_takeWhile;have:=List.all_eq_true.1 h1 0 h;simp at this
theorem Qd5 {l:List UInt8}(h:nm1 l≠l):l=nm1 l++([0]++l.drop ((nm1 l).length+1)):=by
 induction l with
 |nil=>exact absurd rfl h
 |cons c r ih=>
  unfold nm1 at h |-;rw[List.takeWhile_cons] at h |-;by_cases hc:c=0
  ·subst hc;simp
  ·have h1:(c !=0)=true:=by simpa using hc
   rw[h1] at h |-;simp only[if_true] at h |-;have h2:nm1 r≠r:=fun e=>h (by unfold nm1 at e;rw[e]);have h3:=ih h2;unfold nm1 at h3;rw[zlE,zlk,List.drop_succ_cons];exact congrArg (c::·) h3
def qwx:Nat->List UInt8->Option (List (List UInt8))
 |0,l=>if l=[] then some [] else none
 |n+1,l=>if nm1 l=[]∨nm1 l=l then none else (qwx n (l.drop ((nm1 l).length+1))).map (nm1 l::·)
theorem Qd6 (n:Nat)(l:List UInt8):qwx (n+1) l=if nm1 l=[]∨nm1 l=l then none else (qwx n (l.drop ((nm1 l).length+1))).map (nm1 l::·):=rfl
theorem Qd7 {s:List UInt8}(h:qsn s=true)(n:Nat)(r:List UInt8):qwx (n+1) (s++([0]++r))=(qwx n r).map (s::·):=by
 obtain⟨h0,h1⟩:=qjy.1 h;rw[Qd6,nm1_app h1,if_neg]
 ·congr 2
  rw[<-zln,List.drop_left' (by simp)]
 ·rintro (q|q)
  ·exact h0 q
  ·have:=congrArg List.length q;simp at this
theorem qyz:∀(a:List (List UInt8)) (n:Nat) (r:List UInt8),(∀s∈a,qsn s=true)->qwx (a.length+n) (qjz a++r)=(qwx n r).map (a++·)
 |[],n,r,_=>by simp[qjz]
 |s::a,n,r,h=>by
  rw[zlk,show a.length+1+n=(a.length+n)+1 by omega,qp0,zln,zln,Qd7 (h s List.mem_cons_self),qyz a n r fun t ht=>h t (List.mem_cons_of_mem _ ht),Option.map_map];rfl
theorem nmsA_enc {a:List (List UInt8)}(h:∀s∈a,qsn s=true):qwx a.length (qjz a)=some a:=by
 have:=qyz a 0 [] h;rw[Nat.add_zero,zlJ] at this;rw[this];simp[qwx]
theorem qua:∀(n:Nat)(l:List UInt8)(a:List (List UInt8)),qwx n l=some a->a.length=n/\(∀s∈a,qsn s=true)/\qjz a=l
 |0,l,a,h=>by
  unfold qwx at h;split at h
  ·rename_i h0
   injection h with h;subst h0 h;exact⟨rfl,fun s hs=>(by cases hs),rfl⟩
  ·cases h
 |n+1,l,a,h=>by
  unfold qwx at h;split at h
  ·cases h
  ·rename_i h0
   rw[not_or] at h0
   cases hr:qwx n (l.drop ((nm1 l).length+1)) with
   |none=>rw[hr] at h;cases h
   |some b=>
    rw[hr] at h;injection h with h;subst h;obtain⟨h1,h2,h3⟩:=qua n _ b hr;refine⟨by rw[zlk,h1],fun s hs=>?_,?_⟩
    ·rcases List.mem_cons.1 hs with rfl|hs
     ·exact qjy.2 ⟨h0.1,nm1_not l⟩
     ·exact h2 s hs
    ·rw[qp0,h3];exact (Qd5 h0.2).symm
def mkE (l:List UInt8):Nat->List (List UInt8)->List En
 |_,[]=>[]
 |i,s::r=>⟨str s,(n4 (l.drop (4+4 * i)):Int)⟩::mkE l (i+1) r
def Qch (l:List UInt8):Option (List En):=
 if l.length<4 then none else if l.length<4+4 * n4 l then none else (qwx (n4 l) (l.drop (4+4 * n4 l))).map (mkE l 0)
theorem qku (l:List UInt8):∀(a:List (List UInt8)) (i:Nat),(mkE l i a).length=a.length
 |[],_=>rfl
 |s::r,i=>by rw[mkE,zlk,qku l r (i+1),zlk]
theorem qz0 (l:List UInt8):∀(a:List (List UInt8)) (i:Nat),qdu (mkE l i a)=a
 |[],_=>rfl
 |s::r,i=>by
  show _::qdu (mkE l (i+1) r)=_
  rw[qz0 l r (i+1)];rfl
theorem Qd8:∀(xs pre:List En)(h:List UInt8)(r:List UInt8),h.length=4->(∀x∈xs,qn6 x=true)->mkE (h++(qfs pre++(qfs xs++r))) pre.length (qdu xs)=xs
 |[],_,_,_,_,_=>rfl
 |x::xs,pre,h,r,hh,hx=>by
  obtain⟨_,h0,h1⟩:=qbz.1 (hx x List.mem_cons_self)
  have e1:(h++(qfs pre++(qfs (x::xs)++r))).drop (4+4 * pre.length)=w4 x.off.toNat++(qfs xs++r):=by
   rw[<-zln,List.drop_left' (by rw[zlb,hh,qf8])];show (w4 x.off.toNat++qfs xs)++r=_
   rw[zln]
  have e2:h++(qfs pre++(qfs (x::xs)++r))=h++(qfs (pre++[x])++(qfs xs++r)):=by
   rw[qje];show h++(qfs pre++((w4 x.off.toNat++qfs xs)++r))=h++((qfs pre++(w4 x.off.toNat++[]))++(qfs xs++r))
   simp
  show _::mkE _ (pre.length+1) (qdu xs)=_
  rw[e1,n4_w4 _ (by omega),e2];have:=Qd8 xs (pre++[x]) h r hh fun y hy=>hx y (List.mem_cons_of_mem _ hy);rw[zlb,List.length_singleton] at this;rw[this,qr8,Int.toNat_of_nonneg h0]
theorem qbg {l:List En}:qjt l=true↔∀x∈l,qn6 x=true:=by simp[qjt]
theorem fit_nms {l:List En}(h:qjt l=true):∀s∈qdu l,qsn s=true:=fun s hs=>by
 obtain⟨x,hx,rfl⟩:=List.mem_map.1 hs;exact (qbz.1 (qbg.1 h x hx)).1
theorem qjg (l:List En):(qdu l).length=l.length:=by simp[qdu]
theorem decA_of (l:List En)(hn:l.length<4294967296)(t:List UInt8):
 Qch (w4 l.length++(qfs l++t))=(qwx l.length t).map (mkE (w4 l.length++(qfs l++t)) 0):=by
 have h4:n4 (w4 l.length++(qfs l++t))=l.length:=n4_w4 _ hn _;have hlen:(w4 l.length++(qfs l++t)).length=4+(4 * l.length+t.length):=by rw[zlb,zlb,qhq,qf8]
 unfold Qch;rw[if_neg (by omega),h4,if_neg (by omega)];congr 2
 rw[<-zln,List.drop_left' (by rw[zlb,qhq,qf8])]
theorem qz1 (l:List En)(h:qjt l=true)(hn:l.length<4294967296):Qch (qei l)=some l:=by
 unfold qei;rw[decA_of l hn];have h1:=nmsA_enc (fit_nms h);rw[qjg] at h1;rw[h1];have:=Qd8 l [] (w4 l.length) (qjz (qdu l)) (qhq _) (qbg.1 h);show some (mkE (w4 l.length++(qfs l++qjz (qdu l))) 0 (qdu l))=some l
 exact congrArg some this
theorem qz2 (l:List UInt8):∀(a:List (List UInt8)) (i:Nat),4+4 * (i+a.length)<=l.length->qfs (mkE l i a)=(l.drop (4+4 * i)).take (4 * a.length)
 |[],i,_=>by simp[mkE,qfs]
 |s::r,i,h=>by
  rw[zlk] at h;show w4 ((n4 (l.drop (4+4 * i)):Nat):Int).toNat++qfs (mkE l (i+1) r)=_
  rw[qz2 l r (i+1) (by omega),zlt,Qas _ (by rw[zlm];omega),zlk,show 4 * (r.length+1)=4+4 * r.length by omega,List.take_add,List.drop_drop,show 4+4 * (i+1)=4+4 * i+4 by omega]
theorem qz3 (l:List UInt8):∀(a:List (List UInt8)) (i:Nat),(∀s∈a,qsn s=true)->∀x∈mkE l i a,qn6 x=true
 |[],_,_,x,hx=>by cases hx
 |s::r,i,h,x,hx=>by
  unfold mkE at hx;rcases List.mem_cons.1 hx with rfl|hx
  ·have:=n4_lt (l.drop (4+4 * i));exact qbz.2 ⟨h s List.mem_cons_self,by show (0:Int)<=(_:Nat);omega,by show ((n4 (l.drop (4+4 * i)):Nat):Int)<=_;omega⟩
  ·exact qz3 l r (i+1) (fun t ht=>h t (List.mem_cons_of_mem _ ht)) x hx
theorem enc_decA {b:List UInt8}{l:List En}(h:Qch b=some l):qjt l=true/\l.length<4294967296/\qei l=b:=by
 unfold Qch at h;split at h
 ·cases h
 ·split at h
  ·cases h
  ·rename_i h4 hn
   cases ha:qwx (n4 b) (b.drop (4+4 * n4 b)) with
   |none=>rw[ha] at h;cases h
   |some a=>
    rw[ha] at h;injection h with h;subst h;obtain⟨h1,h2,h3⟩:=qua _ _ a ha;have hl:=n4_lt b;refine⟨qbg.2 (qz3 b a 0 h2),by rw[qku];omega,?_⟩;unfold qei;rw[qku,qz0,qz2 b a 0 (by omega),h3,h1,Qas b (by omega),Nat.mul_zero,Nat.add_zero];rw[<-List.drop_drop,List.take_append_drop,List.take_append_drop]
open JB
open JS (Oth Fr blk)
def En.val (x:En):Value:=.agg #[.string x.name,.int .i64 x.off]
def qas:List En->List Value
 |[]=>[]
 |x::r=>[.string x.name,.int .i64 x.off]++qas r
theorem qgr:∀a b:List En,qas (a++b)=qas a++qas b
 |[],b=>rfl
 |x::r,b=>by rw[zlE,qas,qgr r b,qas,zln]
theorem qbh:∀a:List En,(qas a).length=a.length * 2
 |[]=>rfl
 |x::r=>by rw[qas,zlb,qbh r,zlk];simp;omega
theorem qp2:∀(a:List En)(k:Nat)(h:k<a.length),(qas a)[k * 2]?=some (.string a[k].name)/\(qas a)[k * 2+1]?=some (.int .i64 a[k].off)
 |x::r,0,_=>by simp[qas]
 |x::r,k+1,h=>by
  have ih:=qp2 r k (by simpa using h)
  have e:∀j,(qas (x::r))[(k+1) * 2+j]?=(qas r)[k * 2+j]?:=fun j=>by
   rw[qas,zlC (by simp;omega)];congr 1
   simp;omega
  have e0:=e 0;rw[Nat.add_zero,Nat.add_zero] at e0;rw[e0,e 1];simpa using ih
theorem kE:JC.Qar 95 135 2 24 (.agg #[.string ⟨#[]⟩,.int .i64 0]):=⟨by kernel_rfl,by kernel_rfl,by kernel_rfl,by decide⟩
def qz4 (w:World)(b o:Nat)(x:En):Prop:=w.cell? ⟨b,o,none⟩=some (.string x.name)/\w.cell? ⟨b,o+1,none⟩=some (.int .i64 x.off)
theorem qz4.below {w w':World}{K b o:Nat}{x:En}(h:qz4 w b o x)(hb:Below K w w')(hl:b<K):qz4 w' b o x:=by
 obtain⟨h0,h1⟩:=h;exact⟨(hb.cell (p:=⟨b,o,none⟩) hl).trans h0,(hb.cell (p:=⟨b,o+1,none⟩) hl).trans h1⟩
def RdE (w:World)(K:Nat)(A:Option Addr)(n:Nat)(xs:List En):Prop:=
 xs.length=n/\∀k (h:k<xs.length),∃b o:Nat,A=some ⟨b,o,none⟩/\b<K/\qz4 w b (o+k * 2) xs[k]
theorem RdE.below {w w':World}{K n:Nat}{A:Option Addr}{xs:List En}(h:RdE w K A n xs)(hb:Below K w w'):RdE w' K A n xs:=
 ⟨h.1,fun k hk=>by
  obtain⟨b,o,e,hl,hc⟩:=h.2 k hk;exact⟨b,o,e,hl,hc.below hb hl⟩⟩
theorem RdE.more {w:World}{K K' n:Nat}{A:Option Addr}{xs:List En}(h:RdE w K A n xs)(hK:K<=K'):RdE w K' A n xs:=
 ⟨h.1,fun k hk=>by
  obtain⟨b,o,e,hl,hc⟩:=h.2 k hk;exact⟨b,o,e,by omega,hc⟩⟩
theorem RdE.cel {w:World}{K n:Nat}{A:Option Addr}{xs:List En}(h:RdE w K A n xs):JC.Rd w K A n 2 (qas xs):=by
 refine⟨by rw[qbh,h.1],fun j hj=>?_⟩;rw[qbh] at hj;have hq:j / 2<xs.length:=by omega
 obtain⟨b,o,e,hb,c0,c1⟩:=h.2 (j / 2) hq;obtain⟨m0,m1⟩:=qp2 xs (j / 2) hq;refine⟨b,o,e,hb,?_⟩;have hm:j%2=0∨j%2=1:=by omega
 rcases hm with hm|hm
 ·have e1:j / 2 * 2=j:=by omega
  rw[e1] at c0 m0;rw[c0,<-m0,zlh (by rw[qbh];omega)]
 ·have e1:j / 2 * 2+1=j:=by omega
  rw[e1] at m1;rw[Nat.add_assoc,e1] at c1;rw[c1,<-m1,zlh (by rw[qbh];omega)]
theorem rde_cel {w:World}{K n:Nat}{A:Option Addr}{xs:List En}(h:JC.Rd w K A n 2 (qas xs)):RdE w K A n xs:=by
 have hl:xs.length=n:=by have:=h.1;rw[qbh] at this;omega
 refine⟨hl,fun k hk=>?_⟩;obtain⟨q0,q1⟩:=qp2 xs k hk
 have key:∀j v,(qas xs)[k * 2+j]?=some v->∃b o:Nat,A=some ⟨b,o,none⟩/\b<K/\w.cell? ⟨b,o+k * 2+j,none⟩=some v:=fun j v hv=>by
  obtain⟨hj,e⟩:=zlv.1 hv;obtain⟨b,o,e2,hb,hc⟩:=h.2 (k * 2+j) hj;exact⟨b,o,e2,hb,by rw[Nat.add_assoc,hc,e]⟩
 obtain⟨b,o,rfl,hb,k0⟩:=key 0 _ q0;obtain⟨b1,o1,e1,_,k1⟩:=key 1 _ q1;cases e1;exact⟨b,o,rfl,hb,k0,k1⟩
theorem qp3 {w:World}{K n c:Nat}{A:Option Addr}{xs:List En}(h:JC.Own 135 2 w K (.slice A n c) n (qas xs)):RdE w w.heap.size A n xs:=by
 obtain⟨A',c',e,hr,_⟩:=h.reads;injection e with e1 _ e3;subst e1 e3;exact rde_cel hr
theorem qdk {x y:ByteArray}:x.toList=y.toList↔x=y:=by
 constructor
 ·intro h;rw[ByteArray.toList_eq,ByteArray.toList_eq] at h;cases x;cases y;simp only at h;have:=congrArg List.toArray h;simpa using this
 ·rintro rfl;rfl
def En.eq (x y:En):Bool:=(x.name.toList==y.name.toList)&&(x.off==y.off)
theorem En.eq_iff {x y:En}:x.eq y=true↔x=y:=by
 unfold En.eq;rw[zlx,beq_iff_eq,beq_iff_eq,qdk];constructor
 ·rintro ⟨h1,h2⟩;cases x;cases y;simp only at h1 h2;subst h1 h2;rfl
 ·rintro rfl;exact⟨rfl,rfl⟩
def qp4:List En->List En->Bool
 |[],[]=>true
 |x::a,y::b=>x.eq y&&qp4 a b
 |_,_=>false
theorem qn7:∀{a b:List En},qp4 a b=true↔a=b
 |[],[]=>by simp[qp4]
 |x::a,y::b=>by
  unfold qp4;rw[zlx,En.eq_iff,qn7,List.cons.injEq]
 |[],_::_=>by simp[qp4]
 |_::_,[]=>by simp[qp4]
theorem Own.row (w:World)(K n:Nat)(l:List UInt8)(cs:Array Value)(h:cs=(enc l).toArray)(hl:l.length=n)(hK:K<=w.heap.size)(hn:n<=1000000):
 JB.Own (w.alloc (.cells cs 5)) K (.slice (some ⟨w.heap.size,0,none⟩) n n) n l:=by
 subst h;refine⟨hl,.inr ⟨w.heap.size,n,_,(0,0),rfl,hK,zld w _,Nat.le_refl _,by unfold maxLen;omega,by simp[qa3,hl],?_,fun j hj=>by simp⟩⟩;rw[zlj (by simp[qa3,hl])]
theorem qub (w:World)(z:Nat)(hz:z<9223372036854775808):
 Calls prog 96 #[.int .i64 (z:Int)] w fun e w'=>∃A,e=.returned (.slice A 4 4)/\JB.Own w' w.heap.size (.slice A 4 4) 4 (w4 z)/\Below w.heap.size w w':=by
 have he:(#[.int .u8 ((z:Int) / 16777216%256),.int .u8 ((z:Int) / 65536%256),.int .u8 ((z:Int) / 256%256),.int .u8 ((z:Int)%256)]:Array Value)=(enc (w4 z)).toArray:=by
  simp[enc,w4,UInt8.toNat_ofNat']
 have ho:=Own.row w w.heap.size 4 (w4 z) _ he rfl zjn (by omega);have hb0:=zjB w (.cells #[.int .u8 ((z:Int) / 16777216%256),.int .u8 ((z:Int) / 65536%256),.int .u8 ((z:Int) / 256%256),.int .u8 ((z:Int)%256)] 5);clear he;go_enter func96,ntmps96;go_wp2_with fail
 go_ret
 exact⟨_,rfl,ho,hb0⟩
theorem qz5 {s:ByteArray}:qsn s.data.toList=true↔0<s.size/\(0:UInt8)∉s.data.toList:=by
 rw[qjy];have h:=qe5 s;constructor
 ·rintro ⟨h1,h2⟩;exact⟨by rw[<-h];exact List.length_pos_iff.2 h1,h2⟩
 ·rintro ⟨h1,h2⟩;exact⟨List.length_pos_iff.1 (by rw[h];exact h1),h2⟩
theorem Qat (x:En)(w:World)(hs:x.name.size<=140737488355328):
 Calls prog 97 #[x.val] w fun e w'=>e=.returned (.bool (qn6 x))/\Below w.heap.size w w':=by
 obtain⟨x0,x1⟩:=x;simp only[En.val] at *;have hb0:=zjB w (.cells #[.string x0,.int .i64 x1] 135);have hrow0:=zld w (.cells #[.string x0,.int .i64 x1] 135);have HE:Hid (qn6 ⟨x0,x1⟩=(qsn x0.data.toList&&(decide (0<=x1)&&decide (x1<=4294967295)))):=hid rfl;have HN:=hid (qz5 (s:=x0));have HL:=hid (qe5 x0);generalize qn6 ⟨x0,x1⟩=eo at *;generalize qsn x0.data.toList=no at *;go_enter func97,ntmps97;go_wp2_with fail
 generalize w.alloc (.cells #[.string x0,.int .i64 x1] 135)=w0 at *;go_loopw [3] (fun i W=>∃k:Nat,i=.int .i64 (k:Int)/\k<=x0.size/\Hid (∀j b,j<k->x0.data.toList[j]?=some b->b≠0)/\Hid (W=w0)) (fun i _=>x0.size-(intOf i).toNat)
 case atStart=>exact⟨0,rfl,by omega,hid (fun j b h _=>by omega),hid rfl⟩
 case round=>
  obtain⟨k,rfl,hk,hG,hw⟩:=hrel;have hw':=hw.out;subst hw';have zzq:=fun k=>zjc w.heap.size k hrow0;by_cases hlt:k<x0.size
  ·have hki:(k:Int)<(x0.size:Int):=by omega
   obtain⟨b,hb⟩:∃b,x0.data.toList[k]?=some b:=⟨_,zlh (by rw[HL.out];exact hlt)⟩
   have hgk:x0[k]'hlt=b:=by
    obtain⟨h1,h2⟩:=zlv.1 hb;rw[<-h2];rfl
   have HB:=hid hb;clear hb;by_cases hz:b=0
   ·subst hz
    have HF:Hid (eo=false):=hid (by
     rw[HE.out];cases hq:no
     ·rfl
     ·exact absurd (List.mem_of_getElem? HB.out) (HN.out.1 hq).2)
    have hgz:((((x0[k]'hlt).toNat:Nat):Int)==0)=true:=by rw[hgk];rfl
    clear hgk;go_wp2_with fail
    go_ret
    exact⟨qa1 HF.out.symm,hb0⟩
   ·have hgz:((((x0[k]'hlt).toNat:Nat):Int)==0)=false:=by
     rw[hgk,zls];intro q;exact hz (by rw[<-UInt8.toNat_inj];simpa using q)
    clear hgk
    have HG2:Hid (∀j c,j<k+1->x0.data.toList[j]?=some c->c≠0):=hid fun j c hj hc=>by
     by_cases e:j=k
     ·subst e;rw[HB.out] at hc;injection hc with hc;rw[<-hc];exact hz
     ·exact hG.out j c (by omega) hc
    go_wp2_with fail
    go_roundw
    ·exact⟨k+1,by go_num,by omega,HG2,hid trivial⟩
    ·simp[intOf];omega
  ·obtain rfl:k=x0.size:=by omega
   have HZ:Hid ((0:UInt8)∉x0.data.toList):=hid fun hm=>by
    obtain⟨j,hj,e⟩:=List.mem_iff_getElem.1 hm;exact hG.out j 0 (by rw[HL.out] at hj;exact hj) (by rw[zlh hj,e]) rfl
   have hnil:¬(x0.size:Int)<(x0.size:Int):=by omega
   by_cases h0:0<x0.size
   ·have h0i:decide ((0:Int)<(x0.size:Int))=true:=decide_eq_true (by omega);have HR:Hid (eo=(decide (0<=x1)&&decide (x1<=4294967295))):=hid (by rw[HE.out,HN.out.2 ⟨h0,HZ.out⟩];rfl);by_cases h1:0<=x1
    ·have h1i:decide ((0:Int)<=x1)=true:=decide_eq_true h1;go_wp2_with fail
     go_ret
     exact⟨qa1 (by rw[HR.out,h1i];rfl),hb0⟩
    ·have h1i:decide ((0:Int)<=x1)=false:=decide_eq_false h1;go_wp2_with fail
     go_ret
     exact⟨qa1 (by rw[HR.out,h1i];rfl),hb0⟩
   ·have h0i:decide ((0:Int)<(x0.size:Int))=false:=decide_eq_false (by omega)
    have HR:Hid (eo=false):=hid (by
     rw[HE.out];cases hq:no
     ·rfl
     ·exact absurd (HN.out.1 hq).1 h0)
    go_wp2_with fail
    go_ret
    exact⟨qa1 HR.out.symm,hb0⟩
def outA (xs:List En):List UInt8:=if qjt xs=true then qei xs else []
def errA (xs:List En):Int:=if qjt xs=true then 0 else 9
def qk0 (xs:List En)(w:World)(e:Ending)(w':World):Prop:=
 ∃v,e=.returned (.tuple #[v,.int .i64 (errA xs)])/\JB.Own w' w.heap.size v (outA xs).length (outA xs)/\Below w.heap.size w w'
theorem qk0.bad {xs:List En}{w w':World}(h:qjt xs=false)(hb:Below w.heap.size w w'):qk0 xs w (.returned (.tuple #[.slice none 0 0,.int .i64 9])) w':=by
 have h1:outA xs=[]:=if_neg (by rw[h];simp);have h2:errA xs=9:=if_neg (by rw[h];simp);refine⟨_,by rw[h2],?_,hb⟩;rw[h1];exact JB.Own.nil _ _
theorem qk0.good {xs:List En}{w w':World}{v:Value}(h:qjt xs=true)(ho:JB.Own w' w.heap.size v (qei xs).length (qei xs))(hb:Below w.heap.size w w'):qk0 xs w (.returned (.tuple #[v,.int .i64 0])) w':=by
 have h1:outA xs=qei xs:=if_pos h;have h2:errA xs=0:=if_pos h;refine⟨v,by rw[h2],?_,hb⟩;rw[h1];exact ho
theorem Qd9 {m:Nat}:∀{l:List (List UInt8)},(∀s∈l,s.length<=m)->szN l<=l.length * (m+1)
 |[],_=>by simp[szN]
 |s::r,h=>by
  have h1:=Qd9 (l:=r) fun t ht=>h t (List.mem_cons_of_mem _ ht);have h2:=h s List.mem_cons_self;have e:szN (s::r)=(s.length+1)+szN r:=by simp[szN]
  rw[e,zlk,Nat.succ_mul];omega
theorem qz6 {xs:List En}{k:Nat}(hk:k<xs.length):szN (qdu (xs.take (k+1)))=szN (qdu (xs.take k))+(xs[k].name.size+1):=by
 rw[zlg hk];unfold szN qdu;rw[List.map_append,List.map_append,List.sum_append];simp
theorem quc (K:Nat)(A:Option Addr)(n c:Nat)(xs:List En)(w:World)(h:RdE w K A n xs)(hK:K<=w.heap.size)(hn:n<=3000)(hs:∀x∈xs,x.name.size<=1000):
 Calls prog 63 #[.slice A n c] w (qk0 xs w):=by
 have Hl:=hid h.1;go_enter func63,ntmps63;go_wp2_with fail
 refine (qub w n (by omega)).mono ?_;rintro e w1 ⟨A1,rfl,o1,hb1⟩;go_wp2_with fail
 go_loopw [5,4] (fun i v W=>∃(k:Nat)(A2:Option Addr)(c2:Nat),i=.int .i64 (k:Int)/\v=.slice A2 (4+4 * k) c2/\k<=n/\Hid (∀j (hj:j<xs.length),j<k->qn6 xs[j]=true)/\JB.Own W w.heap.size (.slice A2 (4+4 * k) c2) (4+4 * k) (w4 n++qfs (xs.take k))/\Below w.heap.size w W) (fun i _ _=>n-(intOf i).toNat)
 case atStart=>exact⟨0,A1,4,rfl,rfl,by omega,hid (fun j _ h=>by omega),by simpa [qfs] using o1,hb1⟩
 case round=>
  obtain⟨k,A2,c2,rfl,rfl,hk,hG,hO,hb⟩:=hrel;by_cases hlt:k<n
  ·have hkl:k<xs.length:=by have:=Hl.out;omega
   have hki:(k:Int)<(n:Int):=by omega
   obtain⟨b,o,rfl,hbK,hcell⟩:=(h.below (hb.mono hK)).2 k hkl;have hsz:=hs xs[k] (zlq hkl)
   have HF:Hid (qn6 xs[k]=false->qjt xs=false):=hid fun q=>by
    cases hf:qjt xs
    ·rfl
    ·have:=qbg.1 hf xs[k] (zlq hkl);rw[q] at this;cases this
   have HG2:Hid (qn6 xs[k]=true->∀j (hj:j<xs.length),j<k+1->qn6 xs[j]=true):=hid fun q j hj hjk=>by
    by_cases e:j=k
    ·subst e;exact q
    ·exact hG.out j hj (by omega)
   have HT:Hid (qfs (xs.take (k+1))=qfs (xs.take k)++w4 xs[k].off.toNat):=hid (by
    rw[zlg hkl,qje];show _++(w4 xs[k].off.toNat++[])=_
    rw[zlJ])
   have HO:Hid (qn6 xs[k]=true->0<=xs[k].off/\xs[k].off<=4294967295):=hid fun q=>(qbz.1 q).2;generalize xs[k]=x at *;have Hf:=hid fun W=>Qat x W (by omega);generalize qn6 x=eo at *;obtain⟨x0,x1⟩:=x;obtain⟨p0,p1⟩:=hcell;simp only[En.val] at *;go_wp2_with fail
   refine (Hf.out _).mono ?_;rintro e w2 ⟨rfl,hb2⟩;have hs2:=hb.size;have hb02:=hb.trans (hb2.mono hs2);cases eo
   ·have HR:=hid (HF.out rfl);go_wp2_with fail
    go_ret2
    exact qk0.bad HR.out hb02
   ·obtain⟨z0,z1⟩:=HO.out rfl;obtain⟨z,rfl⟩:=zlA z0;have HR:=hid (HG2.out rfl);have hO2:=hO.below hb2;have p1':w2.cell? ⟨b,o+k * 2+1,none⟩=some (.int .i64 (z:Int)):=(hb2.cell (p:=⟨b,o+k * 2+1,none⟩) (show b<wr.heap.size by omega)).trans p1;clear hO hb hb2 p0 p1 HF HG2 HO;go_wp2_with fail
    refine (qub w2 z (by omega)).mono ?_;rintro e w3 ⟨A3,rfl,o3,hb3⟩;obtain⟨_,_,e3,r3,_⟩:=o3.reads;injection e3 with e31 _ e33;subst e31 e33;have hO3:=hO2.below hb3;have hs02:=hb02.size;have hb03:=hb02.trans (hb3.mono hs02);clear hO2 hb3 o3 p1';go_wp2_with (at_builtin;go_must (refine JB.qcc w3 w.heap.size _ (4+4 * k) _ hO3 hb03.size A3 4 4 _ (w4 z) r3 (by omega) rfl (.tmp 22) (.tmp 28) rfl rfl rfl ?_);intro v4 w4' ho4 hb4 _;obtain⟨A4,c4,rfl,_⟩:=ho4.reads)
    have ho4':JB.Own w4' w.heap.size (.slice A4 (4+4 * k+4) c4) (4+4 * (k+1)) (w4 n++qfs (xs.take (k+1))):=by
     rw[HT.out,show 4+4 * (k+1)=4+4 * k+4 by omega,<-zln];exact ho4
    have hb04:=hb03.trans hb4;clear ho4 hb4 r3 hO3;go_roundw
    ·exact⟨k+1,A4,c4,by go_num,by rw[show 4+4 * (k+1)=4+4 * k+4 by omega],by omega,HR,by rw[show 4+4 * (k+1)=4+4 * k+4 by omega] at ho4' |-;exact ho4',hb04⟩
    ·simp[intOf];omega
  ·obtain rfl:k=n:=by omega
   have HFit:Hid (qjt xs=true):=hid (qbg.2 fun x hx=>by
    obtain⟨j,hj,rfl⟩:=List.mem_iff_getElem.1 hx;exact hG.out j hj (by have:=Hl.out;omega))
   have hT:xs.take k=xs:=zlj (by have:=Hl.out;omega);rw[hT] at hO
   have HS:Hid (∀j,j<=k->szN (qdu (xs.take j))<=3003000):=hid fun j hj=>by
    have:=Qd9 (m:=1000) (l:=qdu (xs.take j)) fun s hs'=>by
     obtain⟨x,hx,rfl⟩:=List.mem_map.1 hs';rw[qe5];exact hs x (List.mem_of_mem_take hx)
    have h2:(qdu (xs.take j)).length<=j:=by rw[qjg,zlu];omega
    have h3:(qdu (xs.take j)).length * (1000+1)<=3000 * (1000+1):=Nat.mul_le_mul_right _ (by omega);omega
   have hbn:=hb;clear hG hb;obtain⟨A4,c4,hA4⟩:∃A4 c4,A2=A4/\c2=c4:=⟨_,_,rfl,rfl⟩;obtain⟨rfl,rfl⟩:=hA4;go_wp2_with fail
   go_loopw [6,4] (fun i v W=>∃(j:Nat)(A5:Option Addr)(c5:Nat),i=.int .i64 (j:Int)/\v=.slice A5 (4+4 * k+szN (qdu (xs.take j))) c5/\j<=k/\JB.Own W w.heap.size (.slice A5 (4+4 * k+szN (qdu (xs.take j))) c5) (4+4 * k+szN (qdu (xs.take j))) (w4 k++qfs xs++qjz (qdu (xs.take j)))/\Below w.heap.size w W) (fun i _ _=>k-(intOf i).toNat)
   case atStart=>exact⟨0,A2,c2,rfl,by simp[szN,qdu],by omega,by simpa [szN,qdu,qjz] using hO,hbn⟩
   case round=>
    obtain⟨j,A5,c5,rfl,rfl,hj,hO,hb⟩:=hrel;by_cases hlt:j<k
    ·have hkl:j<xs.length:=by have:=Hl.out;omega
     have hki:(j:Int)<(k:Int):=by omega
     obtain⟨b,o,rfl,hbK,hcell⟩:=(h.below (hb.mono hK)).2 j hkl;have hsz:=hs xs[j] (zlq hkl);have HZ:=hid (qz6 hkl)
     have HT:Hid (qjz (qdu (xs.take (j+1)))=qjz (qdu (xs.take j))++(xs[j].name.data.toList++[0])):=hid (by
      rw[zlg hkl];unfold qdu;rw[List.map_append,qnz];simp[qjz])
     have hz:=HS.out j hj;have hz2:=HS.out (j+1) (by omega);generalize xs[j]=x at *;obtain⟨x0,x1⟩:=x;obtain⟨p0,p1⟩:=hcell;simp only at *;obtain⟨zk,hzk⟩:∃zk,4+4 * k+szN (qdu (xs.take j))=zk:=⟨_,rfl⟩;have HZ2:Hid (4+4 * k+szN (qdu (xs.take (j+1)))=zk+x0.size+1):=hid (by rw[HZ.out,<-hzk];omega);rw[hzk] at hO |-;have hzb:zk<=4000000:=by omega
     clear hzk hz hz2
     go_wp2_with (first
      |(at_builtin;refine qe8 wr w.heap.size _ zk _ hO hb.size x0 (by omega) rfl (.tmp 36) (.tmp 41) rfl rfl rfl ?_;intro v6 w6 ho6 hb6 _;obtain⟨A6,c6,rfl,_⟩:=ho6.reads;have hb06:=hb.trans hb6)
      |(at_builtin;refine qmj w6 w.heap.size _ (zk+x0.size) _ 0 _ rfl ho6 hb06.size (by omega) rfl (.tmp 42) (.tmp 43) rfl rfl rfl ?_;intro v7 w7 ho7 hb7 _;obtain⟨A7,c7,rfl,_⟩:=ho7.reads)
      |fail)
     have ho7':JB.Own w7 w.heap.size (.slice A7 (zk+x0.size+1) c7) (zk+x0.size+1) (w4 k++qfs xs++qjz (qdu (xs.take (j+1)))):=by
      rw[HT.out,<-zln,<-zln];exact ho7
     have hb07:=hb06.trans hb7;clear ho7 hb7 ho6 hb6 hb06 hO hb p0 p1;go_roundw
     ·exact⟨j+1,A7,c7,by go_num,by rw[HZ2.out],by omega,by rw[HZ2.out];exact ho7',hb07⟩
     ·simp[intOf];omega
    ·obtain rfl:j=k:=by omega
     rw[hT] at hO;have HR:Hid ((qei xs).length=4+4 * j+szN (qdu xs)):=hid (by rw[qjf,Hl.out]);have HE:Hid (qei xs=w4 j++qfs xs++qjz (qdu xs)):=hid (by unfold qei;rw[Hl.out,zln]);have hX:=hid (qk0.good (w':=wr) HFit.out (v:=.slice A5 (4+4 * j+szN (qdu xs)) c5) (by rw[HR.out,HE.out];exact hO) hb);clear hO hb;rw[hT];generalize 4+4 * j+szN (qdu xs)=zz at *;go_wp2_with fail
     go_ret2
     exact hX.out
def decE (l:List UInt8):List En:=(Qch l).getD []
def decZ (l:List UInt8):Int:=if (Qch l).isSome=true then 0 else 8
end JA
end Go.Proofs.YtlmolmohhpdhdaaGreatDoor
