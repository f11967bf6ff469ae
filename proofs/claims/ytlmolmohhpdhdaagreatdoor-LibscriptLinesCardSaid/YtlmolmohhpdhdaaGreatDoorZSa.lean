/-
  symindex: definitions, the index of members, the complete
-/
import Derived.Test.YtlmolmohhpdhdaaGreatDoorZOk
import Derived.Test.YtlmolmohhpdhdaaGreatDoorZWk
import Derived.Test.YtlmolmohhpdhdaaGreatDoorZWa
import Derived.Test.YtlmolmohhpdhdaaGreatDoorZAf
import Derived.Test.YtlmolmohhpdhdaaGreatDoorZMg
set_option maxRecDepth 100000
set_option maxHeartbeats 16000000
set_option linter.unusedSimpArgs false
set_option linter.unusedVariables false
namespace Go.Proofs.YtlmolmohhpdhdaaGreatDoor
open Go.RowKit Go.Proofs
namespace Six
open JB
open JR (Mem)
open JW (MOk qbq qc8 qk6 qae qeh nms qny pz qew qgr lens fewM qv9)
open JA (En qth qr6 qeg qjp szS szN qgb qbw qic qbi)
def qk7 (x:Obj.Sy):Bool:=x.bind==1||x.bind==2
def qc0 (xs:List Obj.Sy):List ByteArray:=(xs.filter qk7).map (·.name)
def qhv (l:List UInt8):List ByteArray:=qc0 (Obj.qcp l).2.1
theorem qjt (a b:List Obj.Sy):qc0 (a++b)=qc0 a++qc0 b:=by simp[qc0]
theorem qdn {x:Obj.Sy}(h:qk7 x=true):qc0 [x]=[x.name]:=by simp[qc0,h]
theorem qgs {x:Obj.Sy}(h:qk7 x=false):qc0 [x]=[]:=by simp[qc0,h]
theorem qp0 (l:List UInt8):(∀x∈(Obj.qcp l).2.1,Obj.qau x=true)∧(Obj.qy9 (Obj.qcp l).2.1).length≤l.length:=by
 by_cases h:(Obj.qcp l).1=0
 ·have h1:=Obj.qpu l (Obj.qcp l).2.1 (Obj.qcp l).2.2 (by rw[←h])
  have h2:=h1.1
  unfold Obj.qra at h2
  rw[Bool.and_eq_true] at h2
  refine⟨Obj.qm8 h2.2,?_⟩
  have h3:=congrArg List.length h1.2
  unfold Obj.encO at h3
  simp only[List.length_append] at h3
  omega
 ·rw[Obj.qpt l h]
  exact⟨fun x hx=>by simp at hx,by simp[Obj.qy9]⟩
theorem qrz:∀xs:List Obj.Sy,(Obj.qy9 xs).length=(xs.map fun x=>10+x.name.size).sum
 |[]=>rfl
 |x::r=>by
  have e:Obj.qy9 (x::r)=Obj.encS x++Obj.qy9 r:=by simp[Obj.qy9]
  rw[e,List.length_append,Obj.qtj,qrz r]
  simp
def szD (ns:List ByteArray):Nat:=(ns.map fun s=>s.size+5).sum
theorem szS_eq (ns:List ByteArray):szS ns=4+szD ns:=rfl
theorem qja (a b:List ByteArray):szD (a++b)=szD a+szD b:=by simp[szD]
theorem qs0:∀xs:List Obj.Sy,szD (qc0 xs)≤(xs.map fun x=>10+x.name.size).sum
 |[]=>by simp[szD,qc0]
 |x::r=>by
  have ih:=qs0 r
  have e:qc0 (x::r)=qc0 [x]++qc0 r:=by rw[←qjt];rfl
  rw[e,qja,List.map_cons,List.sum_cons]
  cases h:qk7 x
  ·rw[qgs h]
   simp only[szD,List.map_nil,List.sum_nil] at ih ⊢
   omega
  ·rw[qdn h]
   simp only[szD,List.map_cons,List.map_nil,List.sum_cons,List.sum_nil] at ih ⊢
   omega
theorem qq9 (l:List UInt8):szD (qhv l)≤l.length:=by
 have h1:=qs0 (Obj.qcp l).2.1
 have h2:=(qp0 l).2
 rw[qrz] at h2
 exact Nat.le_trans h1 h2
theorem qqa:∀ns:List ByteArray,ns.length * 5≤szD ns
 |[]=>by simp
 |t::r=>by
  have e:szD (t::r)=(t.size+5)+szD r:=by simp[szD]
  have:=qqa r
  rw[List.length_cons]
  omega
theorem qkh (l:List UInt8):(qhv l).length≤l.length:=by
 have:=qqa (qhv l)
 have:=qq9 l
 omega
theorem qmq {l:List UInt8}{s:ByteArray}(h:s∈qhv l):qr6 s.data.toList=true∧s.size≤255:=by
 unfold qhv qc0 at h
 obtain⟨x,hx,rfl⟩:=List.mem_map.1 h
 have h1:=(qp0 l).1 x (List.mem_filter.1 hx).1
 unfold Obj.qau at h1
 rw[Bool.and_eq_true] at h1
 have h2:=h1.1
 have h3:=Obj.qjs h2
 unfold Obj.qad at h2
 rw[Bool.and_eq_true,Bool.and_eq_true] at h2
 refine⟨qic.2 ⟨fun e=>?_,by simpa using h2.2.2⟩,h3.2⟩
 have:=congrArg List.length e
 rw[JA.qei,List.length_nil] at this
 omega
def qai (xs:List Mem):List ByteArray:=xs.flatMap fun x=>qhv x.data
def hmF (xs:List Mem):Bool:=decide (0<(qai xs).length)
theorem qe8 (x:Mem)(r:List Mem):qai (x::r)=qhv x.data++qai r:=by simp[qai]
theorem qin (a b:List Mem):qai (a++b)=qai a++qai b:=by simp[qai]
theorem qu5 {xs:List Mem}{k:Nat}(hk:k<xs.length):qai (xs.take (k+1))=qai (xs.take k)++qhv xs[k].data:=by
 rw[List.take_succ_eq_append_getElem hk,qin,qe8]
 simp[qai]
def qxb (xs:List Mem):Nat:=(xs.map fun x=>x.data.length).sum
theorem qs1:∀xs:List Mem,szD (qai xs)≤qxb xs
 |[]=>by simp[szD,qai]
 |x::r=>by
  rw[qe8,qja]
  have h1:=qs1 r
  have h2:=qq9 x.data
  have e:qxb (x::r)=x.data.length+qxb r:=by simp[qxb]
  omega
theorem lensD_eq {xs:List Mem}(h:∀x∈xs,x.data.length=x.len):qxb xs=lens xs:=by
 unfold qxb lens
 rw[List.map_congr_left h]
theorem names_ok {xs:List Mem}{s:ByteArray}(h:s∈qai xs):qr6 s.data.toList=true∧s.size≤255:=by
 obtain⟨x,_,h⟩:=List.mem_flatMap.1 h
 exact qmq h
def qby:List Nat→List Mem→List En
 |o::os,x::xs=>((qhv x.data).map fun s=>(⟨s,(o:Int)⟩:En))++qby os xs
 |_,_=>[]
def qnn (xs:List Mem):List Nat:=qk6 (qeh (hmF xs) (szS (qai xs)) xs) xs
def idx (xs:List Mem):List En:=qby (qnn xs) xs
theorem qmr (o:Nat)(xs:List Mem):(qk6 o xs).length=xs.length:=by simp[qk6]
theorem qfq (xs:List Mem):(qnn xs).length=xs.length:=qmr _ _
theorem qfr:∀(os:List Nat)(xs:List Mem),os.length=xs.length→(qby os xs).map (·.name)=qai xs
 |[],[],_=>rfl
 |o::os,x::xs,h=>by
  rw[List.length_cons,List.length_cons] at h
  rw[qby,List.map_append,qfr os xs (by omega),qe8,List.map_map]
  congr 1
  conv=>rhs;rw[←List.map_id (qhv x.data)]
  rfl
 |[],_::_,h=>by simp at h
 |_::_,[],h=>by simp at h
theorem qs2 (xs:List Mem):(idx xs).map (·.name)=qai xs:=qfr _ _ (qfq xs)
theorem qf4 (xs:List Mem):(idx xs).length=(qai xs).length:=by rw[←qs2,List.length_map]
theorem qdp (xs:List Mem):(qeg (idx xs)).length=szS (qai xs):=by rw[←JA.szS_enc,qs2]
theorem qju:∀(os ps:List Nat)(xs ys:List Mem),os.length=xs.length→qby (os++ps) (xs++ys)=qby os xs++qby ps ys
 |[],_,[],_,_=>rfl
 |o::os,ps,x::xs,ys,h=>by
  rw[List.length_cons,List.length_cons] at h
  rw[List.cons_append,List.cons_append,qby,qby,qju os ps xs ys (by omega),List.append_assoc]
 |[],_,_::_,_,h=>by simp at h
 |_::_,_,[],_,h=>by simp at h
theorem qxc {os:List Nat}{xs:List Mem}(h:os.length=xs.length){k:Nat}(hk:k<xs.length):
 qby (os.take (k+1)) (xs.take (k+1))=qby (os.take k) (xs.take k)++(qhv xs[k].data).map fun s=>(⟨s,((os[k]'(by omega):Nat):Int)⟩:En):=by
 rw[List.take_succ_eq_append_getElem hk,List.take_succ_eq_append_getElem (show k<os.length by omega),qju _ _ _ _ (by simp;omega)]
 simp[qby]
theorem qgt:∀{os:List Nat} {xs:List Mem} {e:En},e∈qby os xs→∃(k:Nat)(h1:k<os.length)(h2:k<xs.length),e.off=(os[k]:Int)∧e.name∈qhv xs[k].data
 |o::os,x::xs,e,h=>by
  rw[qby,List.mem_append] at h
  rcases h with h|h
  ·obtain⟨s,hs,rfl⟩:=List.mem_map.1 h
   exact⟨0,by simp,by simp,rfl,hs⟩
  ·obtain⟨k,h1,h2,h3,h4⟩:=qgt h
   exact⟨k+1,by simp;omega,by simp;omega,by simpa using h3,by simpa using h4⟩
 |[],_,e,h=>by simp[qby] at h
 |_::_,[],e,h=>by simp[qby] at h
structure Few (xs:List Mem):Prop where
 n:xs.length≤200
 ok:∀x∈xs,MOk x
 len:∀x∈xs,x.data.length=x.len
 all:lens xs≤15000
theorem Few.names {xs:List Mem}(h:Few xs):szS (qai xs)≤15004:=by
 have h1:=qs1 xs
 rw[lensD_eq h.len] at h1
 have:=h.all
 rw[szS_eq]
 omega
theorem Few.count {xs:List Mem}(h:Few xs):(qai xs).length≤3000:=by
 have h1:=qqa (qai xs)
 have h2:=h.names
 rw[szS_eq] at h2
 omega
theorem Few.off {xs:List Mem}(h:Few xs){o:Nat}(ho:o∈qnn xs):o≤4300000:=by
 unfold qnn qk6 at ho
 obtain⟨k,hk,rfl⟩:=List.mem_map.1 ho
 rw[List.mem_range] at hk
 have h1:=JW.qtz (hm:=hmF xs) (ms:=szS (qai xs)) (xs:=xs) (by have:=h.names;omega) h.n
 have h2:=JW.qfm (o:=qeh (hmF xs) (szS (qai xs)) xs) h.ok k (by omega)
 have:=h.n
 have h3:k * 20061≤200 * 20061:=Nat.mul_le_mul_right _ (by omega)
 omega
theorem Few.fit {xs:List Mem}(h:Few xs):qjp (idx xs)=true:=qbi.2 fun e he=>by
 obtain⟨k,h1,h2,h3,h4⟩:=qgt he
 have h5:=h.off (List.getElem_mem h1)
 exact qbw.2 ⟨(qmq h4).1,by omega,by omega⟩
theorem Few.idx_len {xs:List Mem}(h:Few xs):(idx xs).length≤3000:=by rw[qf4];exact h.count
theorem Few.idx_name {xs:List Mem}{e:En}(he:e∈idx xs):e.name.size≤255:=by
 obtain⟨k,h1,h2,h3,h4⟩:=qgt he
 exact (qmq h4).2
def qg7 (xs:List Mem):List UInt8:=if (qbq 0 xs).2=0 then qny (hmF xs) (qeg (idx xs)) xs else []
def iOut (xs:List Mem):List En:=if (qbq 0 xs).2=0 then idx xs else []
def oOut (xs:List Mem):List Nat:=if (qbq 0 xs).2=0 then qnn xs else []
end Six
namespace Six
open JB
def qxd (l:List UInt8)(w:World)(e:Ending)(w':World):Prop:=
 ∃A n c,e=.returned (.slice A n c)∧JS.Own w' w.heap.size (.slice A n c) n (qhv l)∧Below w.heap.size w w'
theorem qxd.reads {l:List UInt8}{w w':World}{e:Ending}(h:qxd l w e w'):
 ∃A n c,e=.returned (.slice A n c)∧n=(qhv l).length∧JS.Own w' w.heap.size (.slice A n c) n (qhv l)∧JS.Rd w' w'.heap.size A n (qhv l)∧n≤c∧c≤maxLen∧Below w.heap.size w w':=by
 obtain⟨A,n,c,rfl,ho,hb⟩:=h
 obtain⟨A',c',e1,hr,hnc,hc⟩:=ho.reads
 injection e1 with e11 _ e13
 subst e11 e13
 exact⟨A,n,c,rfl,ho.1.symm,ho,hr,hnc,hc,hb⟩
theorem qp1 {xs:List Obj.Sy}{k:Nat}(hk:k<xs.length):qc0 (xs.take (k+1))=qc0 (xs.take k)++qc0 [xs[k]]:=by
 rw[List.take_succ_eq_append_getElem hk,qjt]
theorem qip (K:Nat)(A:Option Addr)(n c:Nat)(l:List UInt8)(w:World)(hr:JB.Rd w K A n l)(hK:K≤w.heap.size)(hnc:n≤c)(hn:n≤100000):
 Calls Tryz.prog 62 #[.slice A n c] w (qxd l w):=by
 go_enter Tryz.func62,Tryz.ntmps62
 go_wp2_with fail
 refine (Obj.qtp K A n c l w hr hK hnc (by omega)).mono ?_
 rintro e w1 hD
 obtain⟨A1,n1,c1,B1,m1,d1,rfl,hs1,_,hnc1,hn1,_,_,_,hb1⟩:=hD.reads
 have hrow:=heap_alloc_new w1 (.cells #[.slice A1 n1 c1,.slice B1 m1 d1] 170)
 have hbA:=zjB w1 (.cells #[.slice A1 n1 c1,.slice B1 m1 d1] 170)
 have hsz:(w1.alloc (.cells #[.slice A1 n1 c1,.slice B1 m1 d1] 170)).heap.size=w1.heap.size+1:=World.size_alloc _ _
 have hs2:=hs1.below hbA
 have hb2:=hb1.trans (hbA.mono hb1.size)
 have HD:Hid (qhv l=qc0 (Obj.qcp l).2.1):=hid rfl
 clear hD hs1 hbA hr hb1
 generalize (Obj.qcp l).2.1=xs at *
 generalize (Obj.qcp l).1=ze at *
 go_upto_region 3 with fail
 generalize w1.alloc (.cells #[.slice A1 n1 c1,.slice B1 m1 d1] 170)=w2 at *
 generalize w1.heap.size=g at *
 have Hl:=hid hs2.1
 go_wp2_with fail
 go_loopw [3,6] (fun v i W=>∃(k j:Nat)(A2:Option Addr)(c2:Nat),i=.int .i64 (k:Int)∧k≤n1∧v=.slice A2 j c2∧j≤k∧JS.Own W w2.heap.size (.slice A2 j c2) j (qc0 (xs.take k))∧Below w2.heap.size w2 W) (fun _ i _=>n1-(intOf i).toNat)
 case atStart=>exact⟨0,0,none,0,rfl,by omega,rfl,by omega,JS.Own.nil _ _,Below.refl _ _⟩
 case round=>
  obtain⟨k,j,A2,c2,rfl,hk,rfl,hjk,hO,hb⟩:=hrel
  have hrowr:=(hb.block g (by omega)).trans hrow
  have q0:=zjc g 0 hrowr
  by_cases hlt:k<n1
  ·have hkl:k<xs.length:=by have:=Hl.out;omega
   have hki:(k:Int)<(n1:Int):=by omega
   obtain⟨⟨b,o,rfl,hbK,hcell⟩,_⟩:=hs2.2 k hkl
   have hcl:=hcell.below hb (by omega)
   have HT:=hid (qp1 hkl)
   clear hcell hrowr
   generalize xs[k]=x at *
   obtain⟨x0,x1,x2,x3⟩:=x
   obtain⟨p0,p1,p2,p3⟩:=hcl
   clear p2 p3
   have Hd:Hid (qk7 ⟨x0,x1,x2,x3⟩=(x1==1||x1==2)):=hid rfl
   have hbs:=hb.size
   cases h1:(x1==1)
   ·cases h2:(x1==2)
    ·have HT2:Hid (qc0 (xs.take (k+1))=qc0 (xs.take k)):=hid (by rw[HT.out,qgs (by rw[Hd.out,h1,h2];rfl),List.append_nil])
     go_wp2_with fail
     go_roundw
     ·exact⟨k+1,j,A2,c2,by go_num,by omega,rfl,by omega,by rw[HT2.out];exact hO,hb⟩
     ·simp[intOf];omega
    ·have HT2:Hid (qc0 (xs.take (k+1))=qc0 (xs.take k)++[x0]):=hid (by rw[HT.out,qdn (by rw[Hd.out,h2];simp)])
     go_wp2_with (at_builtin;go_must (refine JS.qa6 wr w2.heap.size (.slice A2 j c2) j _ x0 hO hbs (by omega) rfl (.tmp 35) (.tmp 42) rfl rfl rfl ?_);intro v4 w4 ho4 hb4 _ _;obtain⟨A4,c4,rfl,_⟩:=ho4.reads)
     have ho4':JS.Own w4 w2.heap.size (.slice A4 (j+1) c4) (j+1) (qc0 (xs.take (k+1))):=by rw[HT2.out];exact ho4
     have hb04:=hb.trans hb4
     clear ho4 hb4 hO hb p0 p1 h1 h2
     go_roundw
     ·exact⟨k+1,j+1,A4,c4,by go_num,by omega,rfl,by omega,ho4',hb04⟩
     ·simp[intOf];omega
   ·have HT2:Hid (qc0 (xs.take (k+1))=qc0 (xs.take k)++[x0]):=hid (by rw[HT.out,qdn (by rw[Hd.out,h1];rfl)])
    go_wp2_with (at_builtin;go_must (refine JS.qa6 wr w2.heap.size (.slice A2 j c2) j _ x0 hO hbs (by omega) rfl (.tmp 35) (.tmp 42) rfl rfl rfl ?_);intro v4 w4 ho4 hb4 _ _;obtain⟨A4,c4,rfl,_⟩:=ho4.reads)
    have ho4':JS.Own w4 w2.heap.size (.slice A4 (j+1) c4) (j+1) (qc0 (xs.take (k+1))):=by rw[HT2.out];exact ho4
    have hb04:=hb.trans hb4
    clear ho4 hb4 hO hb p0 p1 h1
    go_roundw
    ·exact⟨k+1,j+1,A4,c4,by go_num,by omega,rfl,by omega,ho4',hb04⟩
    ·simp[intOf];omega
  ·obtain rfl:k=n1:=by omega
   have hki:¬(k:Int)<(k:Int):=by omega
   have hT:xs.take k=xs:=List.take_of_length_le (by have:=Hl.out;omega)
   rw[hT] at hO
   have hO2:=hO.more (K':=w.heap.size) hb2.size
   have hO3:JS.Own wr w.heap.size (.slice A2 j c2) j (qhv l):=by rw[HD.out];exact hO2
   have hb3:=hb2.trans (hb.mono hb2.size)
   clear hO hO2 hb hrowr hT
   go_wp2_with fail
   go_ret
   exact⟨A2,j,c2,rfl,hO3,hb3⟩
end Six
namespace JC
theorem Own.at_ {t:TypeId}{sz:Nat}{w:World}{K n:Nat}{v:Value}{cs:List Value}(h:Own t sz w K v n cs){j:Nat}(hj:j<cs.length):
 ∃g cap cur m,v=.slice (some ⟨g,0,none⟩) n cap∧K≤g∧w.heap[g]?=some (.cells cur t m)∧w.cell? ⟨g,j,none⟩=some cs[j]∧w.frozen? ⟨g,j,none⟩=false∧
  ∀u,Own t sz (w.setCell ⟨g,j,none⟩ u) K v n (cs.set j u):=by
 have hl:=h.1
 rcases h.2 with ⟨rfl,rfl⟩|⟨g,cap,cur,m,rfl,hg,hh,hn,hm,hs,ht,hf⟩
 ·rw[hl] at hj;simp at hj
 ·have hle:n * sz≤cap * sz:=Nat.mul_le_mul_right _ hn
  have hc:cur[j]?=some cs[j]:=by
   have h1:(cur.toList.take (n * sz))[j]?=some cs[j]:=by rw[ht,List.getElem?_eq_getElem hj]
   rw[List.getElem?_take,if_pos (by omega)] at h1
   simpa using h1
  refine⟨g,cap,cur,m,rfl,hg,hh,by rw[cell_of_row w g j cur t m hh];exact hc,?_,fun u=>⟨by rw[List.length_set];exact hl,.inr ⟨g,cap,cur.setIfInBounds j u,m,rfl,hg,?_,hn,hm,by simpa using hs,?_,hf⟩⟩⟩
  ·have:=hf j (by omega)
   simp[World.frozen?,hh]
   omega
  ·simp[World.setCell,Array.getElem?_modify,hh]
  ·rw[Array.toList_setIfInBounds,List.take_set,ht]
end JC
namespace Six
open JB
open JS (Oth)
open JR (Mem)
open JW (qbq qew)
open JA (En qaz qeg qjp szS qbw qbi)
theorem qbj {t:TypeId}{w w':World}{K n:Nat}{v:Value}{l:List ByteArray}(h:JS.Own w K v n l)(ho:Oth t w w')(ht:(9:Nat)≠t):JS.Own w' K v n l:=by
 refine⟨h.1,?_⟩
 rcases h.2 with h|⟨g,cap,cur,m,hv,hg,hh,r⟩
 ·exact .inl h
 ·exact .inr ⟨g,cap,cur,m,hv,hg,ho g _ hh (fun cs m' e=>by injection e with _ e2;exact ht e2),r⟩
end Six
namespace Six
open JB
open JS (Oth)
open JR (Mem RdM)
open JW (qbq qew)
open JA (En qaz qeg qjp szS qbw qbi)
theorem qki {w:World}{K n:Nat}{A:Option Addr}{xs:List Mem}(h:RdM w K A n xs){k:Nat}(hk:k<xs.length):∃b o:Nat,A=some ⟨b,o,none⟩∧b<K∧w.cell? ⟨b,o+k * 6+5,none⟩=some (.slice xs[k].ptr xs[k].len xs[k].cap)∧JB.Rd w K xs[k].ptr xs[k].len xs[k].data:=by
 obtain⟨⟨b,o,e,hb,hc⟩,hr,_⟩:=h.2 k hk
 exact⟨b,o,e,hb,hc.2.2.2.2.2,hr⟩
theorem int_ent:(3:Nat)≠135:=by decide
theorem str_ent:(9:Nat)≠135:=by decide
end Six
end Go.Proofs.YtlmolmohhpdhdaaGreatDoor
