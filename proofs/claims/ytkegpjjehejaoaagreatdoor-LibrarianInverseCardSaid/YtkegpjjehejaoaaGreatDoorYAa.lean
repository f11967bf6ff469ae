/-
  armap: the encoding of archive maps (mathematics, no
-/
import Derived.Test.YtkegpjjehejaoaaGreatDoorYMa
import Derived.Test.YtkegpjjehejaoaaGreatDoorYMg
import Derived.Laws.StructEq
import Derived.BigQuiet
set_option maxRecDepth 100000
set_option maxHeartbeats 16000000
set_option linter.unusedSimpArgs false
set_option linter.unusedVariables false
namespace Go.Proofs.YtkegpjjehejaoaaGreatDoor
open Go.RowKit Go.Proofs
namespace JA
def w4 (n:Nat):List UInt8:=[UInt8.ofNat (n / 16777216),UInt8.ofNat (n / 65536),UInt8.ofNat (n / 256),UInt8.ofNat n]
def n4 (l:List UInt8):Nat:=(l.take 4).foldl (fun n c=>n * 256+c.toNat) 0
def str (l:List UInt8):ByteArray:=⟨l.toArray⟩
theorem qhm (n:Nat):(w4 n).length=4:=rfl
theorem n4_w4 (n:Nat)(hn:n<4294967296)(r:List UInt8):n4 (w4 n++r)=n:=by
 simp[n4,w4,UInt8.toNat_ofNat']
 omega
theorem n4_lt (l:List UInt8):n4 l<4294967296:=by
 unfold n4
 match l with
 |[]=>simp
 |[a]=>simp;have:=a.toNat_lt;omega
 |[a,b]=>simp;have:=a.toNat_lt;have:=b.toNat_lt;omega
 |[a,b,c]=>simp;have:=a.toNat_lt;have:=b.toNat_lt;have:=c.toNat_lt;omega
 |a::b::c::d::r=>simp;have:=a.toNat_lt;have:=b.toNat_lt;have:=c.toNat_lt;have:=d.toNat_lt;omega
theorem qdf (n:Nat)(a:UInt8)(h:n%256=a.toNat):UInt8.ofNat n=a:=by
 rw[←UInt8.toNat_inj,UInt8.toNat_ofNat']
 exact h
theorem qz4 (l:List UInt8)(h:4≤l.length):w4 (n4 l)=l.take 4:=by
 match l,h with
 |a::b::c::d::r,_=>
  have:=a.toNat_lt;have:=b.toNat_lt;have:=c.toNat_lt;have:=d.toNat_lt
  have e:n4 (a::b::c::d::r)=((a.toNat * 256+b.toNat) * 256+c.toNat) * 256+d.toNat:=by simp[n4]
  show w4 (n4 (a::b::c::d::r))=[a,b,c,d]
  rw[e]
  unfold w4
  rw[qdf _ a (by omega),qdf _ b (by omega),qdf _ c (by omega),qdf _ d (by omega)]
theorem qrp (l:List UInt8):(str l).data.toList=l:=rfl
theorem qqf (s:ByteArray):str s.data.toList=s:=rfl
theorem qdg (s:ByteArray):s.data.toList.length=s.size:=rfl
structure En where
 name:ByteArray
 off:Int
def qmi (l:List UInt8):Bool:=decide (l≠[])&&!l.contains 0
def qmj (x:En):Bool:=qmi x.name.data.toList&&(decide (0≤x.off)&&decide (x.off≤4294967295))
theorem qi4 {l:List UInt8}:qmi l=true↔l≠[]∧(0:UInt8)∉l:=by simp[qmi]
theorem qby {x:En}:qmj x=true↔qmi x.name.data.toList=true∧0≤x.off∧x.off≤4294967295:=by simp[qmj]
def qfj (l:List En):List UInt8:=l.flatMap fun x=>w4 x.off.toNat
def qhh (l:List (List UInt8)):List UInt8:=l.flatMap fun s=>s++[0]
def qdr (l:List En):List (List UInt8):=l.map fun x=>x.name.data.toList
def qdu (l:List En):List UInt8:=w4 l.length++(qfj l++qhh (qdr l))
def qix (l:List En):Bool:=l.all qmj
theorem qf2:∀l:List En,(qfj l).length=4 * l.length
 |[]=>rfl
 |x::r=>by
  show (w4 x.off.toNat++qfj r).length=_
  rw[List.length_append,qf2 r,qhm,List.length_cons]
  omega
theorem qne (a b:List (List UInt8)):qhh (a++b)=qhh a++qhh b:=by simp[qhh]
theorem qiy (a b:List En):qfj (a++b)=qfj a++qfj b:=by simp[qfj]
theorem qnf (s:List UInt8)(r:List (List UInt8)):qhh (s::r)=s++([0]++qhh r):=by simp[qhh]
def szN (l:List (List UInt8)):Nat:=(l.map fun s=>s.length+1).sum
theorem qng:∀l,(qhh l).length=szN l
 |[]=>rfl
 |s::r=>by
  rw[qnf,List.length_append,List.length_append,qng r]
  simp[szN]
  omega
theorem qf3 (l:List En):(qdu l).length=4+4 * l.length+szN (qdr l):=by
 unfold qdu
 rw[List.length_append,List.length_append,qhm,qf2,qng]
 omega
def nm1 (l:List UInt8):List UInt8:=l.takeWhile (· !=0)
theorem Qbd {s:List UInt8}(h:(0:UInt8)∉s)(r:List UInt8):nm1 (s++([0]++r))=s:=by
 unfold nm1
 rw[List.takeWhile_append_of_pos (fun c hc=>by simp;rintro rfl;exact h hc)]
 simp
theorem nm1_all {s:List UInt8}(h:(0:UInt8)∉s):nm1 s=s:=by
 unfold nm1
 have:=List.takeWhile_append_of_pos (p:=fun (x:UInt8)=>x !=0) (l₁:=s) (l₂:=[]) (fun c hc=>by simp;rintro rfl;exact h hc)
 simpa using this
theorem Qbe (l:List UInt8):(0:UInt8)∉nm1 l:=fun h=>by
 have h1:(l.takeWhile (· !=0)).all (· !=0)=true:=List.all_takeWhile
 have:=List.all_eq_true.1 h1 0 h
 simp at this
theorem qt5 {l:List UInt8}(h:nm1 l≠l):l=nm1 l++([0]++l.drop ((nm1 l).length+1)):=by
 induction l with
 |nil=>exact absurd rfl h
 |cons c r ih=>
  unfold nm1 at h ⊢
  rw[List.takeWhile_cons] at h ⊢
  by_cases hc:c=0
  ·subst hc
   simp
  ·have h1:(c !=0)=true:=by simpa using hc
   rw[h1] at h ⊢
   simp only[if_true] at h ⊢
   have h2:nm1 r≠r:=fun e=>h (by unfold nm1 at e;rw[e])
   have h3:=ih h2
   unfold nm1 at h3
   rw[List.cons_append,List.length_cons,List.drop_succ_cons]
   exact congrArg (c::·) h3
def qrq:Nat→List UInt8→Option (List (List UInt8))
 |0,l=>if l=[] then some [] else none
 |n+1,l=>if nm1 l=[]∨nm1 l=l then none else (qrq n (l.drop ((nm1 l).length+1))).map (nm1 l::·)
theorem qt6 (n:Nat)(l:List UInt8):qrq (n+1) l=if nm1 l=[]∨nm1 l=l then none else (qrq n (l.drop ((nm1 l).length+1))).map (nm1 l::·):=rfl
theorem Qbf {s:List UInt8}(h:qmi s=true)(n:Nat)(r:List UInt8):qrq (n+1) (s++([0]++r))=(qrq n r).map (s::·):=by
 obtain⟨h0,h1⟩:=qi4.1 h
 rw[qt6,Qbd h1,if_neg]
 ·congr 2
  rw[←List.append_assoc,List.drop_left' (by simp)]
 ·rintro (q|q)
  ·exact h0 q
  ·have:=congrArg List.length q
   simp at this
theorem qrr:∀(a:List (List UInt8)) (n:Nat) (r:List UInt8),(∀s∈a,qmi s=true)→qrq (a.length+n) (qhh a++r)=(qrq n r).map (a++·)
 |[],n,r,_=>by simp[qhh]
 |s::a,n,r,h=>by
  rw[List.length_cons,show a.length+1+n=(a.length+n)+1 by omega,qnf,List.append_assoc,List.append_assoc,Qbf (h s List.mem_cons_self),qrr a n r fun t ht=>h t (List.mem_cons_of_mem _ ht),Option.map_map]
  rfl
theorem nmsA_enc {a:List (List UInt8)}(h:∀s∈a,qmi s=true):qrq a.length (qhh a)=some a:=by
 have:=qrr a 0 [] h
 rw[Nat.add_zero,List.append_nil] at this
 rw[this]
 simp[qrq]
theorem qt7:∀(n:Nat)(l:List UInt8)(a:List (List UInt8)),qrq n l=some a→a.length=n∧(∀s∈a,qmi s=true)∧qhh a=l
 |0,l,a,h=>by
  unfold qrq at h
  split at h
  ·rename_i h0
   injection h with h
   subst h0 h
   exact⟨rfl,fun s hs=>(by cases hs),rfl⟩
  ·cases h
 |n+1,l,a,h=>by
  unfold qrq at h
  split at h
  ·cases h
  ·rename_i h0
   rw[not_or] at h0
   cases hr:qrq n (l.drop ((nm1 l).length+1)) with
   |none=>rw[hr] at h;cases h
   |some b=>
    rw[hr] at h
    injection h with h
    subst h
    obtain⟨h1,h2,h3⟩:=qt7 n _ b hr
    refine⟨by rw[List.length_cons,h1],fun s hs=>?_,?_⟩
    ·rcases List.mem_cons.1 hs with rfl|hs
     ·exact qi4.2 ⟨h0.1,Qbe l⟩
     ·exact h2 s hs
    ·rw[qnf,h3]
     exact (qt5 h0.2).symm
def mkE (l:List UInt8):Nat→List (List UInt8)→List En
 |_,[]=>[]
 |i,s::r=>⟨str s,(n4 (l.drop (4+4 * i)):Int)⟩::mkE l (i+1) r
def qk6 (l:List UInt8):Option (List En):=
 if l.length<4 then none else if l.length<4+4 * n4 l then none else (qrq (n4 l) (l.drop (4+4 * n4 l))).map (mkE l 0)
theorem qk7 (l:List UInt8):∀(a:List (List UInt8)) (i:Nat),(mkE l i a).length=a.length
 |[],_=>rfl
 |s::r,i=>by rw[mkE,List.length_cons,qk7 l r (i+1),List.length_cons]
theorem qxb (l:List UInt8):∀(a:List (List UInt8)) (i:Nat),qdr (mkE l i a)=a
 |[],_=>rfl
 |s::r,i=>by
  show _::qdr (mkE l (i+1) r)=_
  rw[qxb l r (i+1)]
  rfl
theorem Qbg:∀(xs pre:List En)(h:List UInt8)(r:List UInt8),h.length=4→(∀x∈xs,qmj x=true)→mkE (h++(qfj pre++(qfj xs++r))) pre.length (qdr xs)=xs
 |[],_,_,_,_,_=>rfl
 |x::xs,pre,h,r,hh,hx=>by
  obtain⟨_,h0,h1⟩:=qby.1 (hx x List.mem_cons_self)
  have e1:(h++(qfj pre++(qfj (x::xs)++r))).drop (4+4 * pre.length)=w4 x.off.toNat++(qfj xs++r):=by
   rw[←List.append_assoc,List.drop_left' (by rw[List.length_append,hh,qf2])]
   show (w4 x.off.toNat++qfj xs)++r=_
   rw[List.append_assoc]
  have e2:h++(qfj pre++(qfj (x::xs)++r))=h++(qfj (pre++[x])++(qfj xs++r)):=by
   rw[qiy]
   show h++(qfj pre++((w4 x.off.toNat++qfj xs)++r))=h++((qfj pre++(w4 x.off.toNat++[]))++(qfj xs++r))
   simp
  show _::mkE _ (pre.length+1) (qdr xs)=_
  rw[e1,n4_w4 _ (by omega),e2]
  have:=Qbg xs (pre++[x]) h r hh fun y hy=>hx y (List.mem_cons_of_mem _ hy)
  rw[List.length_append,List.length_singleton] at this
  rw[this,qqf,Int.toNat_of_nonneg h0]
theorem qba {l:List En}:qix l=true↔∀x∈l,qmj x=true:=by simp[qix]
theorem fit_nms {l:List En}(h:qix l=true):∀s∈qdr l,qmi s=true:=fun s hs=>by
 obtain⟨x,hx,rfl⟩:=List.mem_map.1 hs
 exact (qby.1 (qba.1 h x hx)).1
theorem qiz (l:List En):(qdr l).length=l.length:=by simp[qdr]
theorem decA_of (l:List En)(hn:l.length<4294967296)(t:List UInt8):
 qk6 (w4 l.length++(qfj l++t))=(qrq l.length t).map (mkE (w4 l.length++(qfj l++t)) 0):=by
 have h4:n4 (w4 l.length++(qfj l++t))=l.length:=n4_w4 _ hn _
 have hlen:(w4 l.length++(qfj l++t)).length=4+(4 * l.length+t.length):=by rw[List.length_append,List.length_append,qhm,qf2]
 unfold qk6
 rw[if_neg (by omega),h4,if_neg (by omega)]
 congr 2
 rw[←List.append_assoc,List.drop_left' (by rw[List.length_append,qhm,qf2])]
theorem qxc (l:List En)(h:qix l=true)(hn:l.length<4294967296):qk6 (qdu l)=some l:=by
 unfold qdu
 rw[decA_of l hn]
 have h1:=nmsA_enc (fit_nms h)
 rw[qiz] at h1
 rw[h1]
 have:=Qbg l [] (w4 l.length) (qhh (qdr l)) (qhm _) (qba.1 h)
 show some (mkE (w4 l.length++(qfj l++qhh (qdr l))) 0 (qdr l))=some l
 exact congrArg some this
theorem qxd (l:List UInt8):∀(a:List (List UInt8)) (i:Nat),4+4 * (i+a.length)≤l.length→qfj (mkE l i a)=(l.drop (4+4 * i)).take (4 * a.length)
 |[],i,_=>by simp[mkE,qfj]
 |s::r,i,h=>by
  rw[List.length_cons] at h
  show w4 ((n4 (l.drop (4+4 * i)):Nat):Int).toNat++qfj (mkE l (i+1) r)=_
  rw[qxd l r (i+1) (by omega),Int.toNat_natCast,qz4 _ (by rw[List.length_drop];omega),List.length_cons,show 4 * (r.length+1)=4+4 * r.length by omega,List.take_add,List.drop_drop,show 4+4 * (i+1)=4+4 * i+4 by omega]
theorem qxe (l:List UInt8):∀(a:List (List UInt8)) (i:Nat),(∀s∈a,qmi s=true)→∀x∈mkE l i a,qmj x=true
 |[],_,_,x,hx=>by cases hx
 |s::r,i,h,x,hx=>by
  unfold mkE at hx
  rcases List.mem_cons.1 hx with rfl|hx
  ·have:=n4_lt (l.drop (4+4 * i))
   exact qby.2 ⟨h s List.mem_cons_self,by show (0:Int)≤(_:Nat);omega,by show ((n4 (l.drop (4+4 * i)):Nat):Int)≤_;omega⟩
  ·exact qxe l r (i+1) (fun t ht=>h t (List.mem_cons_of_mem _ ht)) x hx
theorem qxf {b:List UInt8}{l:List En}(h:qk6 b=some l):qix l=true∧l.length<4294967296∧qdu l=b:=by
 unfold qk6 at h
 split at h
 ·cases h
 ·split at h
  ·cases h
  ·rename_i h4 hn
   cases ha:qrq (n4 b) (b.drop (4+4 * n4 b)) with
   |none=>rw[ha] at h;cases h
   |some a=>
    rw[ha] at h
    injection h with h
    subst h
    obtain⟨h1,h2,h3⟩:=qt7 _ _ a ha
    have hl:=n4_lt b
    refine⟨qba.2 (qxe b a 0 h2),by rw[qk7];omega,?_⟩
    unfold qdu
    rw[qk7,qxb,qxd b a 0 (by omega),h3,h1,qz4 b (by omega),Nat.mul_zero,Nat.add_zero]
    rw[←List.drop_drop,List.take_append_drop,List.take_append_drop]
end JA
namespace JA
open JB
open JS (Oth Fr blk)
def En.val (x:En):Value:=.agg #[.string x.name,.int .i64 x.off]
def qac:List En→List Value
 |[]=>[]
 |x::r=>[.string x.name,.int .i64 x.off]++qac r
theorem qdh:∀a b:List En,qac (a++b)=qac a++qac b
 |[],b=>rfl
 |x::r,b=>by rw[List.cons_append,qac,qdh r b,qac,List.append_assoc]
theorem qdi:∀a:List En,(qac a).length=a.length * 2
 |[]=>rfl
 |x::r=>by rw[qac,List.length_append,qdi r,List.length_cons];simp;omega
theorem qt8:∀(a:List En)(k:Nat)(h:k<a.length),(qac a)[k * 2]?=some (.string a[k].name)∧(qac a)[k * 2+1]?=some (.int .i64 a[k].off)
 |x::r,0,_=>by simp[qac]
 |x::r,k+1,h=>by
  have ih:=qt8 r k (by simpa using h)
  have e:∀j,(qac (x::r))[(k+1) * 2+j]?=(qac r)[k * 2+j]?:=fun j=>by
   rw[qac,List.getElem?_append_right (by simp;omega)]
   congr 1
   simp
   omega
  have e0:=e 0
  rw[Nat.add_zero,Nat.add_zero] at e0
  rw[e0,e 1]
  simpa using ih
theorem kE:JC.qz3 53 87 2 24 (.agg #[.string ⟨#[]⟩,.int .i64 0]):=⟨by kernel_rfl,by kernel_rfl,by kernel_rfl,by decide⟩
def qxg (w:World)(b o:Nat)(x:En):Prop:=w.cell? ⟨b,o,none⟩=some (.string x.name)∧w.cell? ⟨b,o+1,none⟩=some (.int .i64 x.off)
theorem qxg.below {w w':World}{K b o:Nat}{x:En}(h:qxg w b o x)(hb:Below K w w')(hl:b<K):qxg w' b o x:=by
 obtain⟨h0,h1⟩:=h
 exact⟨(hb.cell (p:=⟨b,o,none⟩) hl).trans h0,(hb.cell (p:=⟨b,o+1,none⟩) hl).trans h1⟩
def RdE (w:World)(K:Nat)(A:Option Addr)(n:Nat)(xs:List En):Prop:=
 xs.length=n∧∀k (h:k<xs.length),∃b o:Nat,A=some ⟨b,o,none⟩∧b<K∧qxg w b (o+k * 2) xs[k]
theorem RdE.below {w w':World}{K n:Nat}{A:Option Addr}{xs:List En}(h:RdE w K A n xs)(hb:Below K w w'):RdE w' K A n xs:=
 ⟨h.1,fun k hk=>by
  obtain⟨b,o,e,hl,hc⟩:=h.2 k hk
  exact⟨b,o,e,hl,hc.below hb hl⟩⟩
theorem RdE.more {w:World}{K K' n:Nat}{A:Option Addr}{xs:List En}(h:RdE w K A n xs)(hK:K≤K'):RdE w K' A n xs:=
 ⟨h.1,fun k hk=>by
  obtain⟨b,o,e,hl,hc⟩:=h.2 k hk
  exact⟨b,o,e,by omega,hc⟩⟩
theorem rde_cel {w:World}{K n:Nat}{A:Option Addr}{xs:List En}(h:JC.Rd w K A n 2 (qac xs)):RdE w K A n xs:=by
 have hl:xs.length=n:=by have:=h.1;rw[qdi] at this;omega
 refine⟨hl,fun k hk=>?_⟩
 obtain⟨q0,q1⟩:=qt8 xs k hk
 have key:∀j v,(qac xs)[k * 2+j]?=some v→∃b o:Nat,A=some ⟨b,o,none⟩∧b<K∧w.cell? ⟨b,o+k * 2+j,none⟩=some v:=fun j v hv=>by
  obtain⟨hj,e⟩:=List.getElem?_eq_some_iff.1 hv
  obtain⟨b,o,e2,hb,hc⟩:=h.2 (k * 2+j) hj
  exact⟨b,o,e2,hb,by rw[Nat.add_assoc,hc,e]⟩
 obtain⟨b,o,rfl,hb,k0⟩:=key 0 _ q0
 obtain⟨b1,o1,e1,_,k1⟩:=key 1 _ q1
 cases e1
 exact⟨b,o,rfl,hb,k0,k1⟩
theorem qhn {w:World}{K n c:Nat}{A:Option Addr}{xs:List En}(h:JC.Own 87 2 w K (.slice A n c) n (qac xs)):RdE w w.heap.size A n xs:=by
 obtain⟨A',c',e,hr,_⟩:=h.reads
 injection e with e1 _ e3
 subst e1 e3
 exact rde_cel hr
theorem qin {x y:ByteArray}:x.toList=y.toList↔x=y:=by
 constructor
 ·intro h
  rw[ByteArray.toList_eq,ByteArray.toList_eq] at h
  cases x;cases y
  simp only at h
  have:=congrArg List.toArray h
  simpa using this
 ·rintro rfl;rfl
theorem Qbh:Tryz.prog.underlying 87=some (.struct (Tryz.prog.fieldsOf 87)):=by kernel_rfl
theorem ent_held:Tryz.prog.stoodInHeld 87=false:=by kernel_rfl
theorem Qbi:Tryz.prog.eqGuardType Tryz.prog.depth 87=false:=by kernel_rfl
theorem qt9 (op:BinOp)(X Y:Operand)(xs ys:Array Value)(w:World):(eqGuard op 87 X Y (.agg xs) (.agg ys)).run Tryz.prog w=.ok () w:=run_eqGuard_agg w op _ X Y xs ys Qbi
def En.eq (x y:En):Bool:=(x.name.toList==y.name.toList)&&(x.off==y.off)
theorem En.eq_iff {x y:En}:x.eq y=true↔x=y:=by
 unfold En.eq
 rw[Bool.and_eq_true,beq_iff_eq,beq_iff_eq,qin]
 constructor
 ·rintro ⟨h1,h2⟩
  cases x;cases y
  simp only at h1 h2
  subst h1 h2
  rfl
 ·rintro rfl
  exact⟨rfl,rfl⟩
theorem Qbj (x0 y0:ByteArray)(x1 y1:Int)(w:World):
 (Op.equalIn 10000 87 (.agg #[.string x0,.int .i64 x1]) (.agg #[.string y0,.int .i64 y1])).run Tryz.prog w=.ok (En.eq ⟨x0,x1⟩ ⟨y0,y1⟩) w:=by
 have u3:=Tryz.underlying3
 have u9:=Tryz.underlying9
 rw[show (10000:Nat)=9999+1 from rfl,run_equalIn_agg w 9999 87 _ _ Qbh ent_held]
 simp only[Program.fieldsOf,Tryz.underlying87]
 unfold En.eq
 go_simp
 by_cases h0:x0.toList=y0.toList<;>by_cases h1:x1=y1<;>simp[h0,h1]
theorem Qbk (x0 y0:ByteArray)(x1 y1:Int)(w:World):
 (binOp .neq 87 (.agg #[.string x0,.int .i64 x1]) (.agg #[.string y0,.int .i64 y1])).run Tryz.prog w=.ok (.bool (!En.eq ⟨x0,x1⟩ ⟨y0,y1⟩)) w:=by
 rw[run_neq_struct,Qbj]
 rfl
def qc8:List En→List En→Bool
 |[],[]=>true
 |x::a,y::b=>x.eq y&&qc8 a b
 |_,_=>false
theorem qnh:∀{a b:List En},qc8 a b=true→a.length=b.length
 |[],[],_=>rfl
 |x::a,y::b,h=>by
  unfold qc8 at h
  rw[Bool.and_eq_true] at h
  rw[List.length_cons,List.length_cons,qnh h.2]
 |[],_::_,h=>by cases h
 |_::_,[],h=>by cases h
theorem qmk:∀{a b:List En},qc8 a b=true↔a=b
 |[],[]=>by simp[qc8]
 |x::a,y::b=>by
  unfold qc8
  rw[Bool.and_eq_true,En.eq_iff,qmk,List.cons.injEq]
 |[],_::_=>by simp[qc8]
 |_::_,[]=>by simp[qc8]
theorem Own.row (w:World)(K n:Nat)(l:List UInt8)(cs:Array Value)(h:cs=(enc l).toArray)(hl:l.length=n)(hK:K≤w.heap.size)(hn:n≤1000000):
 JB.Own (w.alloc (.cells cs 5)) K (.slice (some ⟨w.heap.size,0,none⟩) n n) n l:=by
 subst h
 refine⟨hl,.inr ⟨w.heap.size,n,_,(0,0),rfl,hK,heap_alloc_new w _,Nat.le_refl _,by unfold maxLen;omega,by simp[qa2,hl],?_,fun j hj=>by simp⟩⟩
 rw[List.take_of_length_le (by simp[qa2,hl])]
theorem qta (w:World)(z:Nat)(hz:z<9223372036854775808):
 Calls Tryz.prog 54 #[.int .i64 (z:Int)] w fun e w'=>∃A,e=.returned (.slice A 4 4)∧JB.Own w' w.heap.size (.slice A 4 4) 4 (w4 z)∧Below w.heap.size w w':=by
 have he:(#[.int .u8 ((z:Int) / 16777216%256),.int .u8 ((z:Int) / 65536%256),.int .u8 ((z:Int) / 256%256),.int .u8 ((z:Int)%256)]:Array Value)=(enc (w4 z)).toArray:=by
  simp[enc,w4,UInt8.toNat_ofNat']
 have ho:=Own.row w w.heap.size 4 (w4 z) _ he rfl zjn (by omega)
 have hb0:=zjB w (.cells #[.int .u8 ((z:Int) / 16777216%256),.int .u8 ((z:Int) / 65536%256),.int .u8 ((z:Int) / 256%256),.int .u8 ((z:Int)%256)] 5)
 clear he
 go_enter Tryz.func54,Tryz.ntmps54
 go_wp2_with fail
 go_ret
 exact⟨_,rfl,ho,hb0⟩
end JA
namespace JA
open JB
open JS (Oth Fr blk)
theorem qxh {s:ByteArray}:qmi s.data.toList=true↔0<s.size∧(0:UInt8)∉s.data.toList:=by
 rw[qi4]
 have h:=qdg s
 constructor
 ·rintro ⟨h1,h2⟩
  exact⟨by rw[←h];exact List.length_pos_iff.2 h1,h2⟩
 ·rintro ⟨h1,h2⟩
  exact⟨List.length_pos_iff.1 (by rw[h];exact h1),h2⟩
theorem qz5 (x:En)(w:World)(hs:x.name.size≤140737488355328):
 Calls Tryz.prog 55 #[x.val] w fun e w'=>e=.returned (.bool (qmj x))∧Below w.heap.size w w':=by
 obtain⟨x0,x1⟩:=x
 simp only[En.val] at *
 have hb0:=zjB w (.cells #[.string x0,.int .i64 x1] 87)
 have hrow0:=heap_alloc_new w (.cells #[.string x0,.int .i64 x1] 87)
 have HE:Hid (qmj ⟨x0,x1⟩=(qmi x0.data.toList&&(decide (0≤x1)&&decide (x1≤4294967295)))):=hid rfl
 have HN:=hid (qxh (s:=x0))
 have HL:=hid (qdg x0)
 generalize qmj ⟨x0,x1⟩=eo at *
 generalize qmi x0.data.toList=no at *
 go_enter Tryz.func55,Tryz.ntmps55
 go_wp2_with fail
 generalize w.alloc (.cells #[.string x0,.int .i64 x1] 87)=w0 at *
 go_loopw [3] (fun i W=>∃k:Nat,i=.int .i64 (k:Int)∧k≤x0.size∧Hid (∀j b,j<k→x0.data.toList[j]?=some b→b≠0)∧Hid (W=w0)) (fun i _=>x0.size-(intOf i).toNat)
 case atStart=>exact⟨0,rfl,by omega,hid (fun j b h _=>by omega),hid rfl⟩
 case round=>
  obtain⟨k,rfl,hk,hG,hw⟩:=hrel
  have hw':=hw.out
  subst hw'
  have zzq:=fun k=>zjc w.heap.size k hrow0
  by_cases hlt:k<x0.size
  ·have hki:(k:Int)<(x0.size:Int):=by omega
   obtain⟨b,hb⟩:∃b,x0.data.toList[k]?=some b:=⟨_,List.getElem?_eq_getElem (by rw[HL.out];exact hlt)⟩
   have hgk:x0[k]'hlt=b:=by
    obtain⟨h1,h2⟩:=List.getElem?_eq_some_iff.1 hb
    rw[←h2]
    rfl
   have HB:=hid hb
   clear hb
   by_cases hz:b=0
   ·subst hz
    have HF:Hid (eo=false):=hid (by
     rw[HE.out]
     cases hq:no
     ·rfl
     ·exact absurd (List.mem_of_getElem? HB.out) (HN.out.1 hq).2)
    have hgz:((((x0[k]'hlt).toNat:Nat):Int)==0)=true:=by rw[hgk];rfl
    clear hgk
    go_wp2_with fail
    go_ret
    exact⟨qa0 HF.out.symm,hb0⟩
   ·have hgz:((((x0[k]'hlt).toNat:Nat):Int)==0)=false:=by
     rw[hgk,beq_eq_false_iff_ne]
     intro q
     exact hz (by rw[←UInt8.toNat_inj];simpa using q)
    clear hgk
    have HG2:Hid (∀j c,j<k+1→x0.data.toList[j]?=some c→c≠0):=hid fun j c hj hc=>by
     by_cases e:j=k
     ·subst e
      rw[HB.out] at hc
      injection hc with hc
      rw[←hc]
      exact hz
     ·exact hG.out j c (by omega) hc
    go_wp2_with fail
    go_roundw
    ·exact⟨k+1,by go_num,by omega,HG2,hid trivial⟩
    ·simp[intOf];omega
  ·obtain rfl:k=x0.size:=by omega
   have HZ:Hid ((0:UInt8)∉x0.data.toList):=hid fun hm=>by
    obtain⟨j,hj,e⟩:=List.mem_iff_getElem.1 hm
    exact hG.out j 0 (by rw[HL.out] at hj;exact hj) (by rw[List.getElem?_eq_getElem hj,e]) rfl
   have hnil:¬(x0.size:Int)<(x0.size:Int):=by omega
   by_cases h0:0<x0.size
   ·have h0i:decide ((0:Int)<(x0.size:Int))=true:=decide_eq_true (by omega)
    have HR:Hid (eo=(decide (0≤x1)&&decide (x1≤4294967295))):=hid (by rw[HE.out,HN.out.2 ⟨h0,HZ.out⟩];rfl)
    by_cases h1:0≤x1
    ·have h1i:decide ((0:Int)≤x1)=true:=decide_eq_true h1
     go_wp2_with fail
     go_ret
     exact⟨qa0 (by rw[HR.out,h1i];rfl),hb0⟩
    ·have h1i:decide ((0:Int)≤x1)=false:=decide_eq_false h1
     go_wp2_with fail
     go_ret
     exact⟨qa0 (by rw[HR.out,h1i];rfl),hb0⟩
   ·have h0i:decide ((0:Int)<(x0.size:Int))=false:=decide_eq_false (by omega)
    have HR:Hid (eo=false):=hid (by
     rw[HE.out]
     cases hq:no
     ·rfl
     ·exact absurd (HN.out.1 hq).1 h0)
    go_wp2_with fail
    go_ret
    exact⟨qa0 HR.out.symm,hb0⟩
end JA
namespace JA
open JB
open JS (Oth Fr blk)
def outA (xs:List En):List UInt8:=if qix xs=true then qdu xs else []
def errA (xs:List En):Int:=if qix xs=true then 0 else 9
def qmc (xs:List En)(w:World)(e:Ending)(w':World):Prop:=
 ∃v,e=.returned (.tuple #[v,.int .i64 (errA xs)])∧JB.Own w' w.heap.size v (outA xs).length (outA xs)∧Below w.heap.size w w'
theorem qmc.bad {xs:List En}{w w':World}(h:qix xs=false)(hb:Below w.heap.size w w'):qmc xs w (.returned (.tuple #[.slice none 0 0,.int .i64 9])) w':=by
 have h1:outA xs=[]:=if_neg (by rw[h];simp)
 have h2:errA xs=9:=if_neg (by rw[h];simp)
 refine⟨_,by rw[h2],?_,hb⟩
 rw[h1]
 exact JB.Own.nil _ _
theorem qmc.good {xs:List En}{w w':World}{v:Value}(h:qix xs=true)(ho:JB.Own w' w.heap.size v (qdu xs).length (qdu xs))(hb:Below w.heap.size w w'):qmc xs w (.returned (.tuple #[v,.int .i64 0])) w':=by
 have h1:outA xs=qdu xs:=if_pos h
 have h2:errA xs=0:=if_pos h
 refine⟨v,by rw[h2],?_,hb⟩
 rw[h1]
 exact ho
theorem Qbm {m:Nat}:∀{l:List (List UInt8)},(∀s∈l,s.length≤m)→szN l≤l.length * (m+1)
 |[],_=>by simp[szN]
 |s::r,h=>by
  have h1:=Qbm (l:=r) fun t ht=>h t (List.mem_cons_of_mem _ ht)
  have h2:=h s List.mem_cons_self
  have e:szN (s::r)=(s.length+1)+szN r:=by simp[szN]
  rw[e,List.length_cons,Nat.succ_mul]
  omega
theorem qxi {xs:List En}{k:Nat}(hk:k<xs.length):szN (qdr (xs.take (k+1)))=szN (qdr (xs.take k))+(xs[k].name.size+1):=by
 rw[List.take_succ_eq_append_getElem hk]
 unfold szN qdr
 rw[List.map_append,List.map_append,List.sum_append]
 simp
theorem qtb (K:Nat)(A:Option Addr)(n c:Nat)(xs:List En)(w:World)(h:RdE w K A n xs)(hK:K≤w.heap.size)(hn:n≤3000)(hs:∀x∈xs,x.name.size≤1000):
 Calls Tryz.prog 34 #[.slice A n c] w (qmc xs w):=by
 have Hl:=hid h.1
 go_enter Tryz.func34,Tryz.ntmps34
 go_wp2_with fail
 refine (qta w n (by omega)).mono ?_
 rintro e w1 ⟨A1,rfl,o1,hb1⟩
 go_wp2_with fail
 go_loopw [5,4] (fun i v W=>∃(k:Nat)(A2:Option Addr)(c2:Nat),i=.int .i64 (k:Int)∧v=.slice A2 (4+4 * k) c2∧k≤n∧Hid (∀j (hj:j<xs.length),j<k→qmj xs[j]=true)∧JB.Own W w.heap.size (.slice A2 (4+4 * k) c2) (4+4 * k) (w4 n++qfj (xs.take k))∧Below w.heap.size w W) (fun i _ _=>n-(intOf i).toNat)
 case atStart=>exact⟨0,A1,4,rfl,rfl,by omega,hid (fun j _ h=>by omega),by simpa [qfj] using o1,hb1⟩
 case round=>
  obtain⟨k,A2,c2,rfl,rfl,hk,hG,hO,hb⟩:=hrel
  by_cases hlt:k<n
  ·have hkl:k<xs.length:=by have:=Hl.out;omega
   have hki:(k:Int)<(n:Int):=by omega
   obtain⟨b,o,rfl,hbK,hcell⟩:=(h.below (hb.mono hK)).2 k hkl
   have hsz:=hs xs[k] (List.getElem_mem hkl)
   have HF:Hid (qmj xs[k]=false→qix xs=false):=hid fun q=>by
    cases hf:qix xs
    ·rfl
    ·have:=qba.1 hf xs[k] (List.getElem_mem hkl)
     rw[q] at this;cases this
   have HG2:Hid (qmj xs[k]=true→∀j (hj:j<xs.length),j<k+1→qmj xs[j]=true):=hid fun q j hj hjk=>by
    by_cases e:j=k
    ·subst e;exact q
    ·exact hG.out j hj (by omega)
   have HT:Hid (qfj (xs.take (k+1))=qfj (xs.take k)++w4 xs[k].off.toNat):=hid (by
    rw[List.take_succ_eq_append_getElem hkl,qiy]
    show _++(w4 xs[k].off.toNat++[])=_
    rw[List.append_nil])
   have HO:Hid (qmj xs[k]=true→0≤xs[k].off∧xs[k].off≤4294967295):=hid fun q=>(qby.1 q).2
   generalize xs[k]=x at *
   have Hf:=hid fun W=>qz5 x W (by omega)
   generalize qmj x=eo at *
   obtain⟨x0,x1⟩:=x
   obtain⟨p0,p1⟩:=hcell
   simp only[En.val] at *
   go_wp2_with fail
   refine (Hf.out _).mono ?_
   rintro e w2 ⟨rfl,hb2⟩
   have hs2:=hb.size
   have hb02:=hb.trans (hb2.mono hs2)
   cases eo
   ·have HR:=hid (HF.out rfl)
    go_wp2_with fail
    go_ret2
    exact qmc.bad HR.out hb02
   ·obtain⟨z0,z1⟩:=HO.out rfl
    obtain⟨z,rfl⟩:=Int.eq_ofNat_of_zero_le z0
    have HR:=hid (HG2.out rfl)
    have hO2:=hO.below hb2
    have p1':w2.cell? ⟨b,o+k * 2+1,none⟩=some (.int .i64 (z:Int)):=(hb2.cell (p:=⟨b,o+k * 2+1,none⟩) (show b<wr.heap.size by omega)).trans p1
    clear hO hb hb2 p0 p1 HF HG2 HO
    go_wp2_with fail
    refine (qta w2 z (by omega)).mono ?_
    rintro e w3 ⟨A3,rfl,o3,hb3⟩
    obtain⟨_,_,e3,r3,_⟩:=o3.reads
    injection e3 with e31 _ e33
    subst e31 e33
    have hO3:=hO2.below hb3
    have hs02:=hb02.size
    have hb03:=hb02.trans (hb3.mono hs02)
    clear hO2 hb3 o3 p1'
    go_wp2_with (at_builtin;go_must (refine JB.qd4 w3 w.heap.size _ (4+4 * k) _ hO3 hb03.size A3 4 4 _ (w4 z) r3 (by omega) rfl (.tmp 22) (.tmp 28) rfl rfl rfl ?_);intro v4 w4' ho4 hb4 _;obtain⟨A4,c4,rfl,_⟩:=ho4.reads)
    have ho4':JB.Own w4' w.heap.size (.slice A4 (4+4 * k+4) c4) (4+4 * (k+1)) (w4 n++qfj (xs.take (k+1))):=by
     rw[HT.out,show 4+4 * (k+1)=4+4 * k+4 by omega,←List.append_assoc]
     exact ho4
    have hb04:=hb03.trans hb4
    clear ho4 hb4 r3 hO3
    go_roundw
    ·exact⟨k+1,A4,c4,by go_num,by rw[show 4+4 * (k+1)=4+4 * k+4 by omega],by omega,HR,by rw[show 4+4 * (k+1)=4+4 * k+4 by omega] at ho4' ⊢;exact ho4',hb04⟩
    ·simp[intOf];omega
  ·obtain rfl:k=n:=by omega
   have HFit:Hid (qix xs=true):=hid (qba.2 fun x hx=>by
    obtain⟨j,hj,rfl⟩:=List.mem_iff_getElem.1 hx
    exact hG.out j hj (by have:=Hl.out;omega))
   have hT:xs.take k=xs:=List.take_of_length_le (by have:=Hl.out;omega)
   rw[hT] at hO
   have HS:Hid (∀j,j≤k→szN (qdr (xs.take j))≤3003000):=hid fun j hj=>by
    have:=Qbm (m:=1000) (l:=qdr (xs.take j)) fun s hs'=>by
     obtain⟨x,hx,rfl⟩:=List.mem_map.1 hs'
     rw[qdg]
     exact hs x (List.mem_of_mem_take hx)
    have h2:(qdr (xs.take j)).length≤j:=by rw[qiz,List.length_take];omega
    have h3:(qdr (xs.take j)).length * (1000+1)≤3000 * (1000+1):=Nat.mul_le_mul_right _ (by omega)
    omega
   have hbn:=hb
   clear hG hb
   obtain⟨A4,c4,hA4⟩:∃A4 c4,A2=A4∧c2=c4:=⟨_,_,rfl,rfl⟩
   obtain⟨rfl,rfl⟩:=hA4
   go_wp2_with fail
   go_loopw [6,4] (fun i v W=>∃(j:Nat)(A5:Option Addr)(c5:Nat),i=.int .i64 (j:Int)∧v=.slice A5 (4+4 * k+szN (qdr (xs.take j))) c5∧j≤k∧JB.Own W w.heap.size (.slice A5 (4+4 * k+szN (qdr (xs.take j))) c5) (4+4 * k+szN (qdr (xs.take j))) (w4 k++qfj xs++qhh (qdr (xs.take j)))∧Below w.heap.size w W) (fun i _ _=>k-(intOf i).toNat)
   case atStart=>exact⟨0,A2,c2,rfl,by simp[szN,qdr],by omega,by simpa [szN,qdr,qhh] using hO,hbn⟩
   case round=>
    obtain⟨j,A5,c5,rfl,rfl,hj,hO,hb⟩:=hrel
    by_cases hlt:j<k
    ·have hkl:j<xs.length:=by have:=Hl.out;omega
     have hki:(j:Int)<(k:Int):=by omega
     obtain⟨b,o,rfl,hbK,hcell⟩:=(h.below (hb.mono hK)).2 j hkl
     have hsz:=hs xs[j] (List.getElem_mem hkl)
     have HZ:=hid (qxi hkl)
     have HT:Hid (qhh (qdr (xs.take (j+1)))=qhh (qdr (xs.take j))++(xs[j].name.data.toList++[0])):=hid (by
      rw[List.take_succ_eq_append_getElem hkl]
      unfold qdr
      rw[List.map_append,qne]
      simp[qhh])
     have hz:=HS.out j hj
     have hz2:=HS.out (j+1) (by omega)
     generalize xs[j]=x at *
     obtain⟨x0,x1⟩:=x
     obtain⟨p0,p1⟩:=hcell
     simp only at *
     obtain⟨zk,hzk⟩:∃zk,4+4 * k+szN (qdr (xs.take j))=zk:=⟨_,rfl⟩
     have HZ2:Hid (4+4 * k+szN (qdr (xs.take (j+1)))=zk+x0.size+1):=hid (by rw[HZ.out,←hzk];omega)
     rw[hzk] at hO ⊢
     have hzb:zk≤4000000:=by omega
     clear hzk hz hz2
     go_wp2_with (first
      |(at_builtin;refine qe7 wr w.heap.size _ zk _ hO hb.size x0 (by omega) rfl (.tmp 36) (.tmp 41) rfl rfl rfl ?_;intro v6 w6 ho6 hb6 _;obtain⟨A6,c6,rfl,_⟩:=ho6.reads;have hb06:=hb.trans hb6)
      |(at_builtin;refine qkx w6 w.heap.size _ (zk+x0.size) _ 0 _ rfl ho6 hb06.size (by omega) rfl (.tmp 42) (.tmp 43) rfl rfl rfl ?_;intro v7 w7 ho7 hb7 _;obtain⟨A7,c7,rfl,_⟩:=ho7.reads)
      |fail)
     have ho7':JB.Own w7 w.heap.size (.slice A7 (zk+x0.size+1) c7) (zk+x0.size+1) (w4 k++qfj xs++qhh (qdr (xs.take (j+1)))):=by
      rw[HT.out,←List.append_assoc,←List.append_assoc]
      exact ho7
     have hb07:=hb06.trans hb7
     clear ho7 hb7 ho6 hb6 hb06 hO hb p0 p1
     go_roundw
     ·exact⟨j+1,A7,c7,by go_num,by rw[HZ2.out],by omega,by rw[HZ2.out];exact ho7',hb07⟩
     ·simp[intOf];omega
    ·obtain rfl:j=k:=by omega
     rw[hT] at hO
     have HR:Hid ((qdu xs).length=4+4 * j+szN (qdr xs)):=hid (by rw[qf3,Hl.out])
     have HE:Hid (qdu xs=w4 j++qfj xs++qhh (qdr xs)):=hid (by unfold qdu;rw[Hl.out,List.append_assoc])
     have hX:=hid (qmc.good (w':=wr) HFit.out (v:=.slice A5 (4+4 * j+szN (qdr xs)) c5) (by rw[HR.out,HE.out];exact hO) hb)
     clear hO hb
     rw[hT]
     generalize 4+4 * j+szN (qdr xs)=zz at *
     go_wp2_with fail
     go_ret2
     exact hX.out
end JA
namespace JA
open JB
open JS (Oth Fr blk)
def qky (l:List UInt8):List En:=(qk6 l).getD []
def qjf (l:List UInt8):Int:=if (qk6 l).isSome=true then 0 else 8
def qk8 (l:List UInt8)(w:World)(e:Ending)(w':World):Prop:=
 ∃A n c,e=.returned (.tuple #[.slice A n c,.int .i64 (qjf l)])∧JC.Own 87 2 w' w.heap.size (.slice A n c) n (qac (qky l))∧Below w.heap.size w w'
theorem qk8.bad {l:List UInt8}{w w':World}(h:qk6 l=none)(hb:Below w.heap.size w w'):qk8 l w (.returned (.tuple #[.slice none 0 0,.int .i64 8])) w':=by
 have h1:qky l=[]:=by unfold qky;rw[h];rfl
 have h2:qjf l=8:=by unfold qjf;rw[h];rfl
 refine⟨none,0,0,by rw[h2],?_,hb⟩
 rw[h1]
 exact JC.Own.nil _ _ _ _
theorem qk8.good {l:List UInt8}{xs:List En}{w w':World}{A:Option Addr}{n c:Nat}(h:qk6 l=some xs)(ho:JC.Own 87 2 w' w.heap.size (.slice A n c) n (qac xs))(hb:Below w.heap.size w w'):qk8 l w (.returned (.tuple #[.slice A n c,.int .i64 0])) w':=by
 have h1:qky l=xs:=by unfold qky;rw[h];rfl
 have h2:qjf l=0:=by unfold qjf;rw[h];rfl
 refine⟨A,n,c,by rw[h2],?_,hb⟩
 rw[h1]
 exact ho
theorem qxj (l:List UInt8):∀(a:List (List UInt8)) (i:Nat) (s:List UInt8),mkE l i (a++[s])=mkE l i a++[⟨str s,(n4 (l.drop (4+4 * (i+a.length))):Int)⟩]
 |[],i,s=>by simp[mkE]
 |t::a,i,s=>by
  rw[List.cons_append,mkE,qxj l a (i+1) s,mkE,List.length_cons,show i+1+a.length=i+(a.length+1) by omega]
  rfl
theorem nm1_at {l:List UInt8}{p q:Nat}(hp:p≤q)(hq:q<l.length)(h0:(0:UInt8)∉(l.drop p).take (q-p))(hz:l[q]=0):nm1 (l.drop p)=(l.drop p).take (q-p)∧l.drop p=(l.drop p).take (q-p)++([0]++l.drop (q+1)):=by
 have e:l.drop p=(l.drop p).take (q-p)++([0]++l.drop (q+1)):=by
  conv=>lhs;rw[←List.take_append_drop (q-p) (l.drop p)]
  rw[List.drop_drop,show p+(q-p)=q by omega,List.drop_eq_getElem_cons hq,hz]
  rfl
 refine⟨?_,e⟩
 conv=>lhs;rw[e]
 exact Qbd h0 _
theorem qxk {l:List UInt8}(h:l.length<4∨l.length<4+4 * n4 l):qk6 l=none:=by
 unfold qk6
 rcases h with h|h
 ·rw[if_pos h]
 ·split
  ·rfl
  ·first|rfl|rw[if_pos h]
end JA
end Go.Proofs.YtkegpjjehejaoaaGreatDoor
