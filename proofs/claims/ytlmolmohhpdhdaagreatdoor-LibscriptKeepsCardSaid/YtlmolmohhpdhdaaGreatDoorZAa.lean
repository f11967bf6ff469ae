/-
  armap: the encoding of archive maps (mathematics, no
-/
import Derived.Test.YtlmolmohhpdhdaaGreatDoorZMa
import Derived.Test.YtlmolmohhpdhdaaGreatDoorZMg
import Derived.Laws.StructEq
import Derived.BigQuiet
set_option maxRecDepth 100000
set_option maxHeartbeats 16000000
set_option linter.unusedSimpArgs false
set_option linter.unusedVariables false
namespace Go.Proofs.YtlmolmohhpdhdaaGreatDoor
open Go.RowKit Go.Proofs
namespace JA
def w4 (n:Nat):List UInt8:=[UInt8.ofNat (n / 16777216),UInt8.ofNat (n / 65536),UInt8.ofNat (n / 256),UInt8.ofNat n]
def n4 (l:List UInt8):Nat:=(l.take 4).foldl (fun n c=>n * 256+c.toNat) 0
def str (l:List UInt8):ByteArray:=⟨l.toArray⟩
theorem qgk (n:Nat):(w4 n).length=4:=rfl
theorem n4_w4 (n:Nat)(hn:n<4294967296)(r:List UInt8):n4 (w4 n++r)=n:=by
 simp[n4,w4,UInt8.toNat_ofNat']
 omega
theorem n4_lt (l:List UInt8):n4 l<4294967296:=by
 unfold n4
 match l with
 |[]=>simp
 |[a]=>simp;have:=a.toNat_lt;omega
 |[a,b]=>simp;have:=a.toNat_lt;have:=b.toNat_lt;omega
 |[a,b,c]=>simp;have:=a.toNat_lt;have:=b.toNat_lt;have:=c.toNat_lt;omega
 |a::b::c::d::r=>simp;have:=a.toNat_lt;have:=b.toNat_lt;have:=c.toNat_lt;have:=d.toNat_lt;omega
theorem qcn (n:Nat)(a:UInt8)(h:n%256=a.toNat):UInt8.ofNat n=a:=by
 rw[←UInt8.toNat_inj,UInt8.toNat_ofNat']
 exact h
theorem qwp (l:List UInt8)(h:4≤l.length):w4 (n4 l)=l.take 4:=by
 match l,h with
 |a::b::c::d::r,_=>
  have:=a.toNat_lt;have:=b.toNat_lt;have:=c.toNat_lt;have:=d.toNat_lt
  have e:n4 (a::b::c::d::r)=((a.toNat * 256+b.toNat) * 256+c.toNat) * 256+d.toNat:=by simp[n4]
  show w4 (n4 (a::b::c::d::r))=[a,b,c,d]
  rw[e]
  unfold w4
  rw[qcn _ a (by omega),qcn _ b (by omega),qcn _ c (by omega),qcn _ d (by omega)]
theorem qns (s:ByteArray):str s.data.toList=s:=rfl
theorem qei (s:ByteArray):s.data.toList.length=s.size:=rfl
structure En where
 name:ByteArray
 off:Int
def qr6 (l:List UInt8):Bool:=decide (l≠[])&&!l.contains 0
def qth (x:En):Bool:=qr6 x.name.data.toList&&(decide (0≤x.off)&&decide (x.off≤4294967295))
theorem qic {l:List UInt8}:qr6 l=true↔l≠[]∧(0:UInt8)∉l:=by simp[qr6]
theorem qbw {x:En}:qth x=true↔qr6 x.name.data.toList=true∧0≤x.off∧x.off≤4294967295:=by simp[qth]
def qga (l:List En):List UInt8:=l.flatMap fun x=>w4 x.off.toNat
def qnj (l:List (List UInt8)):List UInt8:=l.flatMap fun s=>s++[0]
def qgb (l:List En):List (List UInt8):=l.map fun x=>x.name.data.toList
def qeg (l:List En):List UInt8:=w4 l.length++(qga l++qnj (qgb l))
def qjp (l:List En):Bool:=l.all qth
theorem qe0:∀l:List En,(qga l).length=4 * l.length
 |[]=>rfl
 |x::r=>by
  show (w4 x.off.toNat++qga r).length=_
  rw[List.length_append,qe0 r,qgk,List.length_cons]
  omega
theorem qti (a b:List (List UInt8)):qnj (a++b)=qnj a++qnj b:=by simp[qnj]
theorem qm1 (a b:List En):qga (a++b)=qga a++qga b:=by simp[qga]
theorem qm2 (s:List UInt8)(r:List (List UInt8)):qnj (s::r)=s++([0]++qnj r):=by simp[qnj]
def szN (l:List (List UInt8)):Nat:=(l.map fun s=>s.length+1).sum
theorem qm3:∀l,(qnj l).length=szN l
 |[]=>rfl
 |s::r=>by
  rw[qm2,List.length_append,List.length_append,qm3 r]
  simp[szN]
  omega
theorem qm4 (l:List En):(qeg l).length=4+4 * l.length+szN (qgb l):=by
 unfold qeg
 rw[List.length_append,List.length_append,qgk,qe0,qm3]
 omega
def nm1 (l:List UInt8):List UInt8:=l.takeWhile (· !=0)
theorem nm1_app {s:List UInt8}(h:(0:UInt8)∉s)(r:List UInt8):nm1 (s++([0]++r))=s:=by
 unfold nm1
 rw[List.takeWhile_append_of_pos (fun c hc=>by simp;rintro rfl;exact h hc)]
 simp
theorem nm1_not (l:List UInt8):(0:UInt8)∉nm1 l:=fun h=>by
 have h1:(l.takeWhile (· !=0)).all (· !=0)=true:=List.all_takeWhile
 have:=List.all_eq_true.1 h1 0 h
 simp at this
theorem qyq {l:List UInt8}(h:nm1 l≠l):l=nm1 l++([0]++l.drop ((nm1 l).length+1)):=by
 induction l with
 |nil=>exact absurd rfl h
 |cons c r ih=>
  unfold nm1 at h ⊢
  rw[List.takeWhile_cons] at h ⊢
  by_cases hc:c=0
  ·subst hc
   simp
  ·have h1:(c !=0)=true:=by simpa using hc
   rw[h1] at h ⊢
   simp only[if_true] at h ⊢
   have h2:nm1 r≠r:=fun e=>h (by unfold nm1 at e;rw[e])
   have h3:=ih h2
   unfold nm1 at h3
   rw[List.cons_append,List.length_cons,List.drop_succ_cons]
   exact congrArg (c::·) h3
def qte:Nat→List UInt8→Option (List (List UInt8))
 |0,l=>if l=[] then some [] else none
 |n+1,l=>if nm1 l=[]∨nm1 l=l then none else (qte n (l.drop ((nm1 l).length+1))).map (nm1 l::·)
theorem qyr (n:Nat)(l:List UInt8):qte (n+1) l=if nm1 l=[]∨nm1 l=l then none else (qte n (l.drop ((nm1 l).length+1))).map (nm1 l::·):=rfl
theorem qys {s:List UInt8}(h:qr6 s=true)(n:Nat)(r:List UInt8):qte (n+1) (s++([0]++r))=(qte n r).map (s::·):=by
 obtain⟨h0,h1⟩:=qic.1 h
 rw[qyr,nm1_app h1,if_neg]
 ·congr 2
  rw[←List.append_assoc,List.drop_left' (by simp)]
 ·rintro (q|q)
  ·exact h0 q
  ·have:=congrArg List.length q
   simp at this
theorem quv:∀(a:List (List UInt8)) (n:Nat) (r:List UInt8),(∀s∈a,qr6 s=true)→qte (a.length+n) (qnj a++r)=(qte n r).map (a++·)
 |[],n,r,_=>by simp[qnj]
 |s::a,n,r,h=>by
  rw[List.length_cons,show a.length+1+n=(a.length+n)+1 by omega,qm2,List.append_assoc,List.append_assoc,qys (h s List.mem_cons_self),quv a n r fun t ht=>h t (List.mem_cons_of_mem _ ht),Option.map_map]
  rfl
theorem nmsA_enc {a:List (List UInt8)}(h:∀s∈a,qr6 s=true):qte a.length (qnj a)=some a:=by
 have:=quv a 0 [] h
 rw[Nat.add_zero,List.append_nil] at this
 rw[this]
 simp[qte]
theorem qr7:∀(n:Nat)(l:List UInt8)(a:List (List UInt8)),qte n l=some a→a.length=n∧(∀s∈a,qr6 s=true)∧qnj a=l
 |0,l,a,h=>by
  unfold qte at h
  split at h
  ·rename_i h0
   injection h with h
   subst h0 h
   exact⟨rfl,fun s hs=>(by cases hs),rfl⟩
  ·cases h
 |n+1,l,a,h=>by
  unfold qte at h
  split at h
  ·cases h
  ·rename_i h0
   rw[not_or] at h0
   cases hr:qte n (l.drop ((nm1 l).length+1)) with
   |none=>rw[hr] at h;cases h
   |some b=>
    rw[hr] at h
    injection h with h
    subst h
    obtain⟨h1,h2,h3⟩:=qr7 n _ b hr
    refine⟨by rw[List.length_cons,h1],fun s hs=>?_,?_⟩
    ·rcases List.mem_cons.1 hs with rfl|hs
     ·exact qic.2 ⟨h0.1,nm1_not l⟩
     ·exact h2 s hs
    ·rw[qm2,h3]
     exact (qyq h0.2).symm
def mkE (l:List UInt8):Nat→List (List UInt8)→List En
 |_,[]=>[]
 |i,s::r=>⟨str s,(n4 (l.drop (4+4 * i)):Int)⟩::mkE l (i+1) r
def qy8 (l:List UInt8):Option (List En):=
 if l.length<4 then none else if l.length<4+4 * n4 l then none else (qte (n4 l) (l.drop (4+4 * n4 l))).map (mkE l 0)
theorem qj4 (l:List UInt8):∀(a:List (List UInt8)) (i:Nat),(mkE l i a).length=a.length
 |[],_=>rfl
 |s::r,i=>by rw[mkE,List.length_cons,qj4 l r (i+1),List.length_cons]
theorem quw (l:List UInt8):∀(a:List (List UInt8)) (i:Nat),qgb (mkE l i a)=a
 |[],_=>rfl
 |s::r,i=>by
  show _::qgb (mkE l (i+1) r)=_
  rw[quw l r (i+1)]
  rfl
theorem qyt:∀(xs pre:List En)(h:List UInt8)(r:List UInt8),h.length=4→(∀x∈xs,qth x=true)→mkE (h++(qga pre++(qga xs++r))) pre.length (qgb xs)=xs
 |[],_,_,_,_,_=>rfl
 |x::xs,pre,h,r,hh,hx=>by
  obtain⟨_,h0,h1⟩:=qbw.1 (hx x List.mem_cons_self)
  have e1:(h++(qga pre++(qga (x::xs)++r))).drop (4+4 * pre.length)=w4 x.off.toNat++(qga xs++r):=by
   rw[←List.append_assoc,List.drop_left' (by rw[List.length_append,hh,qe0])]
   show (w4 x.off.toNat++qga xs)++r=_
   rw[List.append_assoc]
  have e2:h++(qga pre++(qga (x::xs)++r))=h++(qga (pre++[x])++(qga xs++r)):=by
   rw[qm1]
   show h++(qga pre++((w4 x.off.toNat++qga xs)++r))=h++((qga pre++(w4 x.off.toNat++[]))++(qga xs++r))
   simp
  show _::mkE _ (pre.length+1) (qgb xs)=_
  rw[e1,n4_w4 _ (by omega),e2]
  have:=qyt xs (pre++[x]) h r hh fun y hy=>hx y (List.mem_cons_of_mem _ hy)
  rw[List.length_append,List.length_singleton] at this
  rw[this,qns,Int.toNat_of_nonneg h0]
theorem qbi {l:List En}:qjp l=true↔∀x∈l,qth x=true:=by simp[qjp]
theorem fit_nms {l:List En}(h:qjp l=true):∀s∈qgb l,qr6 s=true:=fun s hs=>by
 obtain⟨x,hx,rfl⟩:=List.mem_map.1 hs
 exact (qbw.1 (qbi.1 h x hx)).1
theorem qm5 (l:List En):(qgb l).length=l.length:=by simp[qgb]
theorem decA_of (l:List En)(hn:l.length<4294967296)(t:List UInt8):
 qy8 (w4 l.length++(qga l++t))=(qte l.length t).map (mkE (w4 l.length++(qga l++t)) 0):=by
 have h4:n4 (w4 l.length++(qga l++t))=l.length:=n4_w4 _ hn _
 have hlen:(w4 l.length++(qga l++t)).length=4+(4 * l.length+t.length):=by rw[List.length_append,List.length_append,qgk,qe0]
 unfold qy8
 rw[if_neg (by omega),h4,if_neg (by omega)]
 congr 2
 rw[←List.append_assoc,List.drop_left' (by rw[List.length_append,qgk,qe0])]
theorem qux (l:List En)(h:qjp l=true)(hn:l.length<4294967296):qy8 (qeg l)=some l:=by
 unfold qeg
 rw[decA_of l hn]
 have h1:=nmsA_enc (fit_nms h)
 rw[qm5] at h1
 rw[h1]
 have:=qyt l [] (w4 l.length) (qnj (qgb l)) (qgk _) (qbi.1 h)
 show some (mkE (w4 l.length++(qga l++qnj (qgb l))) 0 (qgb l))=some l
 exact congrArg some this
theorem quy (l:List UInt8):∀(a:List (List UInt8)) (i:Nat),4+4 * (i+a.length)≤l.length→qga (mkE l i a)=(l.drop (4+4 * i)).take (4 * a.length)
 |[],i,_=>by simp[mkE,qga]
 |s::r,i,h=>by
  rw[List.length_cons] at h
  show w4 ((n4 (l.drop (4+4 * i)):Nat):Int).toNat++qga (mkE l (i+1) r)=_
  rw[quy l r (i+1) (by omega),Int.toNat_natCast,qwp _ (by rw[List.length_drop];omega),List.length_cons,show 4 * (r.length+1)=4+4 * r.length by omega,List.take_add,List.drop_drop,show 4+4 * (i+1)=4+4 * i+4 by omega]
theorem quz (l:List UInt8):∀(a:List (List UInt8)) (i:Nat),(∀s∈a,qr6 s=true)→∀x∈mkE l i a,qth x=true
 |[],_,_,x,hx=>by cases hx
 |s::r,i,h,x,hx=>by
  unfold mkE at hx
  rcases List.mem_cons.1 hx with rfl|hx
  ·have:=n4_lt (l.drop (4+4 * i))
   exact qbw.2 ⟨h s List.mem_cons_self,by show (0:Int)≤(_:Nat);omega,by show ((n4 (l.drop (4+4 * i)):Nat):Int)≤_;omega⟩
  ·exact quz l r (i+1) (fun t ht=>h t (List.mem_cons_of_mem _ ht)) x hx
theorem enc_decA {b:List UInt8}{l:List En}(h:qy8 b=some l):qjp l=true∧l.length<4294967296∧qeg l=b:=by
 unfold qy8 at h
 split at h
 ·cases h
 ·split at h
  ·cases h
  ·rename_i h4 hn
   cases ha:qte (n4 b) (b.drop (4+4 * n4 b)) with
   |none=>rw[ha] at h;cases h
   |some a=>
    rw[ha] at h
    injection h with h
    subst h
    obtain⟨h1,h2,h3⟩:=qr7 _ _ a ha
    have hl:=n4_lt b
    refine⟨qbi.2 (quz b a 0 h2),by rw[qj4];omega,?_⟩
    unfold qeg
    rw[qj4,quw,quy b a 0 (by omega),h3,h1,qwp b (by omega),Nat.mul_zero,Nat.add_zero]
    rw[←List.drop_drop,List.take_append_drop,List.take_append_drop]
end JA
namespace JA
open JB
open JS (Oth Fr blk)
def En.val (x:En):Value:=.agg #[.string x.name,.int .i64 x.off]
def qaz:List En→List Value
 |[]=>[]
 |x::r=>[.string x.name,.int .i64 x.off]++qaz r
theorem qid:∀a b:List En,qaz (a++b)=qaz a++qaz b
 |[],b=>rfl
 |x::r,b=>by rw[List.cons_append,qaz,qid r b,qaz,List.append_assoc]
theorem qie:∀a:List En,(qaz a).length=a.length * 2
 |[]=>rfl
 |x::r=>by rw[qaz,List.length_append,qie r,List.length_cons];simp;omega
theorem qr8:∀(a:List En)(k:Nat)(h:k<a.length),(qaz a)[k * 2]?=some (.string a[k].name)∧(qaz a)[k * 2+1]?=some (.int .i64 a[k].off)
 |x::r,0,_=>by simp[qaz]
 |x::r,k+1,h=>by
  have ih:=qr8 r k (by simpa using h)
  have e:∀j,(qaz (x::r))[(k+1) * 2+j]?=(qaz r)[k * 2+j]?:=fun j=>by
   rw[qaz,List.getElem?_append_right (by simp;omega)]
   congr 1
   simp
   omega
  have e0:=e 0
  rw[Nat.add_zero,Nat.add_zero] at e0
  rw[e0,e 1]
  simpa using ih
theorem kE:JC.quu 95 135 2 24 (.agg #[.string ⟨#[]⟩,.int .i64 0]):=⟨by kernel_rfl,by kernel_rfl,by kernel_rfl,by decide⟩
def qv0 (w:World)(b o:Nat)(x:En):Prop:=w.cell? ⟨b,o,none⟩=some (.string x.name)∧w.cell? ⟨b,o+1,none⟩=some (.int .i64 x.off)
theorem qv0.below {w w':World}{K b o:Nat}{x:En}(h:qv0 w b o x)(hb:Below K w w')(hl:b<K):qv0 w' b o x:=by
 obtain⟨h0,h1⟩:=h
 exact⟨(hb.cell (p:=⟨b,o,none⟩) hl).trans h0,(hb.cell (p:=⟨b,o+1,none⟩) hl).trans h1⟩
def RdE (w:World)(K:Nat)(A:Option Addr)(n:Nat)(xs:List En):Prop:=
 xs.length=n∧∀k (h:k<xs.length),∃b o:Nat,A=some ⟨b,o,none⟩∧b<K∧qv0 w b (o+k * 2) xs[k]
theorem RdE.below {w w':World}{K n:Nat}{A:Option Addr}{xs:List En}(h:RdE w K A n xs)(hb:Below K w w'):RdE w' K A n xs:=
 ⟨h.1,fun k hk=>by
  obtain⟨b,o,e,hl,hc⟩:=h.2 k hk
  exact⟨b,o,e,hl,hc.below hb hl⟩⟩
theorem RdE.more {w:World}{K K' n:Nat}{A:Option Addr}{xs:List En}(h:RdE w K A n xs)(hK:K≤K'):RdE w K' A n xs:=
 ⟨h.1,fun k hk=>by
  obtain⟨b,o,e,hl,hc⟩:=h.2 k hk
  exact⟨b,o,e,by omega,hc⟩⟩
theorem RdE.nil (w:World)(K:Nat)(A:Option Addr):RdE w K A 0 []:=⟨rfl,fun k hk=>absurd hk (by simp)⟩
theorem RdE.pre {w:World}{K n m:Nat}{A:Option Addr}{xs:List En}(h:RdE w K A n xs)(hm:m≤n):RdE w K A m (xs.take m):=by
 refine⟨by rw[List.length_take,h.1];omega,fun j hj=>?_⟩
 rw[List.length_take] at hj
 rw[List.getElem_take]
 exact h.2 j (by omega)
theorem rde_cel {w:World}{K n:Nat}{A:Option Addr}{xs:List En}(h:JC.Rd w K A n 2 (qaz xs)):RdE w K A n xs:=by
 have hl:xs.length=n:=by have:=h.1;rw[qie] at this;omega
 refine⟨hl,fun k hk=>?_⟩
 obtain⟨q0,q1⟩:=qr8 xs k hk
 have key:∀j v,(qaz xs)[k * 2+j]?=some v→∃b o:Nat,A=some ⟨b,o,none⟩∧b<K∧w.cell? ⟨b,o+k * 2+j,none⟩=some v:=fun j v hv=>by
  obtain⟨hj,e⟩:=List.getElem?_eq_some_iff.1 hv
  obtain⟨b,o,e2,hb,hc⟩:=h.2 (k * 2+j) hj
  exact⟨b,o,e2,hb,by rw[Nat.add_assoc,hc,e]⟩
 obtain⟨b,o,rfl,hb,k0⟩:=key 0 _ q0
 obtain⟨b1,o1,e1,_,k1⟩:=key 1 _ q1
 cases e1
 exact⟨b,o,rfl,hb,k0,k1⟩
theorem qyu {w:World}{K n c:Nat}{A:Option Addr}{xs:List En}(h:JC.Own 135 2 w K (.slice A n c) n (qaz xs)):RdE w w.heap.size A n xs:=by
 obtain⟨A',c',e,hr,_⟩:=h.reads
 injection e with e1 _ e3
 subst e1 e3
 exact rde_cel hr
theorem qf0 {x y:ByteArray}:x.toList=y.toList↔x=y:=by
 constructor
 ·intro h
  rw[ByteArray.toList_eq,ByteArray.toList_eq] at h
  cases x;cases y
  simp only at h
  have:=congrArg List.toArray h
  simpa using this
 ·rintro rfl;rfl
def En.eq (x y:En):Bool:=(x.name.toList==y.name.toList)&&(x.off==y.off)
theorem En.eq_iff {x y:En}:x.eq y=true↔x=y:=by
 unfold En.eq
 rw[Bool.and_eq_true,beq_iff_eq,beq_iff_eq,qf0]
 constructor
 ·rintro ⟨h1,h2⟩
  cases x;cases y
  simp only at h1 h2
  subst h1 h2
  rfl
 ·rintro rfl
  exact⟨rfl,rfl⟩
def qm6:List En→List En→Bool
 |[],[]=>true
 |x::a,y::b=>x.eq y&&qm6 a b
 |_,_=>false
theorem qka:∀{a b:List En},qm6 a b=true↔a=b
 |[],[]=>by simp[qm6]
 |x::a,y::b=>by
  unfold qm6
  rw[Bool.and_eq_true,En.eq_iff,qka,List.cons.injEq]
 |[],_::_=>by simp[qm6]
 |_::_,[]=>by simp[qm6]
end JA
namespace JA
open JB
open JS (Oth Fr blk)
theorem nmOk_len {s:ByteArray}:qr6 s.data.toList=true↔0<s.size∧(0:UInt8)∉s.data.toList:=by
 rw[qic]
 have h:=qei s
 constructor
 ·rintro ⟨h1,h2⟩
  exact⟨by rw[←h];exact List.length_pos_iff.2 h1,h2⟩
 ·rintro ⟨h1,h2⟩
  exact⟨List.length_pos_iff.1 (by rw[h];exact h1),h2⟩
end JA
namespace JA
open JB
open JS (Oth Fr blk)
def outA (xs:List En):List UInt8:=if qjp xs=true then qeg xs else []
def errA (xs:List En):Int:=if qjp xs=true then 0 else 9
def qm7 (xs:List En)(w:World)(e:Ending)(w':World):Prop:=
 ∃v,e=.returned (.tuple #[v,.int .i64 (errA xs)])∧JB.Own w' w.heap.size v (outA xs).length (outA xs)∧Below w.heap.size w w'
theorem qm7.bad {xs:List En}{w w':World}(h:qjp xs=false)(hb:Below w.heap.size w w'):qm7 xs w (.returned (.tuple #[.slice none 0 0,.int .i64 9])) w':=by
 have h1:outA xs=[]:=if_neg (by rw[h];simp)
 have h2:errA xs=9:=if_neg (by rw[h];simp)
 refine⟨_,by rw[h2],?_,hb⟩
 rw[h1]
 exact JB.Own.nil _ _
theorem qm7.good {xs:List En}{w w':World}{v:Value}(h:qjp xs=true)(ho:JB.Own w' w.heap.size v (qeg xs).length (qeg xs))(hb:Below w.heap.size w w'):qm7 xs w (.returned (.tuple #[v,.int .i64 0])) w':=by
 have h1:outA xs=qeg xs:=if_pos h
 have h2:errA xs=0:=if_pos h
 refine⟨v,by rw[h2],?_,hb⟩
 rw[h1]
 exact ho
theorem szN_le {m:Nat}:∀{l:List (List UInt8)},(∀s∈l,s.length≤m)→szN l≤l.length * (m+1)
 |[],_=>by simp[szN]
 |s::r,h=>by
  have h1:=szN_le (l:=r) fun t ht=>h t (List.mem_cons_of_mem _ ht)
  have h2:=h s List.mem_cons_self
  have e:szN (s::r)=(s.length+1)+szN r:=by simp[szN]
  rw[e,List.length_cons,Nat.succ_mul]
  omega
theorem szN_succ {xs:List En}{k:Nat}(hk:k<xs.length):szN (qgb (xs.take (k+1)))=szN (qgb (xs.take k))+(xs[k].name.size+1):=by
 rw[List.take_succ_eq_append_getElem hk]
 unfold szN qgb
 rw[List.map_append,List.map_append,List.sum_append]
 simp
end JA
namespace JA
open JB
open JS (Oth Fr blk)
def decE (l:List UInt8):List En:=(qy8 l).getD []
def decZ (l:List UInt8):Int:=if (qy8 l).isSome=true then 0 else 8
end JA
end Go.Proofs.YtlmolmohhpdhdaaGreatDoor
