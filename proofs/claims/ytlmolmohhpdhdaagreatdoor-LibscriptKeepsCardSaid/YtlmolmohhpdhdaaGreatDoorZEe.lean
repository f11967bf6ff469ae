/-
  edit: the reference's Append and
-/
import Derived.Test.YtlmolmohhpdhdaaGreatDoorZEa
import Derived.BigQuiet
import Derived.Test.YtlmolmohhpdhdaaGreatDoorZWs
set_option maxRecDepth 100000
set_option maxHeartbeats 16000000
set_option linter.unusedSimpArgs false
set_option linter.unusedVariables false
namespace Go.Proofs.YtlmolmohhpdhdaaGreatDoor
open Go.RowKit Go.Proofs
namespace JE
open JB
open JR (Mem RdM qdc qa7)
open JW (core MOk qfp)
def qb7 (xs:List Mem)(z:Int)(w:World)(e:Ending)(w':World):Prop:=
 ∃A n c ys,e=.returned (.tuple #[.slice A n c,.int .i64 z])∧JC.Own 46 6 w' w.heap.size (.slice A n c) n (qa7 ys)∧qdc w' w.heap.size ys∧ys.map core=xs.map core∧(∀y∈ys,y.len≤140737488355328)∧Below w.heap.size w w'
def qex (xs:List Mem)(s:ByteArray):List Mem×Int:=match qas xs s with
 |none=>(xs,10)
 |some i=>(qcw xs i,0)
end JE
namespace JE
open JB
open JR (Mem RdM qdc qa7)
open JW (core MOk qfp)
theorem qgu (xs:List Mem)(k:Nat)(m:Mem):(qhk xs k m).map core=qhk (xs.map core) k (core m):=by
 unfold qhk
 rw[List.map_append,List.map_cons,List.map_take,List.map_drop]
theorem qir (xs:List Mem)(k:Nat):(qcw xs k).map core=qcw (xs.map core) k:=by
 unfold qcw
 rw[List.map_append,List.map_take,List.map_drop]
theorem qu8 {xs:List Mem}{k:Nat}(h:k<xs.length):(qcw xs k).length=xs.length-1:=by
 unfold qcw
 rw[List.length_append,List.length_take,List.length_drop]
 omega
def qf5 (xs:List Mem)(m:Mem)(mode:Int)(a:ByteArray):List Mem×Int:=
 if (plN xs mode a).2≠0 then (xs,(plN xs mode a).2) else match qas xs m.name with
  |some i=>(qhk (qcw xs i) i m,0)
  |none=>(qhk xs (plN xs mode a).1 m,0)
theorem repE_bad {xs:List Mem}{m:Mem}{mode:Int}{a:ByteArray}(h:(plN xs mode a).2≠0):qf5 xs m mode a=(xs,(plN xs mode a).2):=by unfold qf5;rw[if_pos h]
theorem Qa9 {xs:List Mem}{m:Mem}{mode:Int}{a:ByteArray}{i:Nat}(h:(plN xs mode a).2=0)(hf:qas xs m.name=some i):qf5 xs m mode a=(qhk (qcw xs i) i m,0):=by unfold qf5;rw[if_neg (by simp[h]),hf]
theorem Qaa {xs:List Mem}{m:Mem}{mode:Int}{a:ByteArray}(h:(plN xs mode a).2=0)(hf:qas xs m.name=none):qf5 xs m mode a=(qhk xs (plN xs mode a).1 m,0):=by unfold qf5;rw[if_neg (by simp[h]),hf]
end JE
namespace JE
open JB
open JR (Mem RdM qdc qa7)
open JW (core MOk qfp)
def qep (xs:List Mem)(s:ByteArray)(mode:Int)(a:ByteArray):List Mem×Int:=
 if mode<0∨2<mode then (xs,13) else match qas xs s with
  |none=>(xs,10)
  |some i=>if (plN (qcw xs i) mode a).2≠0 then (xs,(plN (qcw xs i) mode a).2) else match xs[i]? with
   |some x=>(qhk (qcw xs i) (plN (qcw xs i) mode a).1 x,0)
   |none=>(xs,10)
theorem qgv {xs:List Mem}{s:ByteArray}{mode:Int}{a:ByteArray}(h:mode<0∨2<mode):qep xs s mode a=(xs,13):=by unfold qep;rw[if_pos h]
theorem qgw {xs:List Mem}{s:ByteArray}{mode:Int}{a:ByteArray}(h:¬(mode<0∨2<mode))(hf:qas xs s=none):qep xs s mode a=(xs,10):=by unfold qep;rw[if_neg h,hf]
theorem qfs {xs:List Mem}{s:ByteArray}{mode:Int}{a:ByteArray}{i:Nat}(h:¬(mode<0∨2<mode))(hf:qas xs s=some i)(hz:(plN (qcw xs i) mode a).2≠0):qep xs s mode a=(xs,(plN (qcw xs i) mode a).2):=by
 unfold qep;rw[if_neg h,hf];exact if_pos hz
theorem qgx {xs:List Mem}{s:ByteArray}{mode:Int}{a:ByteArray}{i:Nat}(h:¬(mode<0∨2<mode))(hf:qas xs s=some i)(hz:(plN (qcw xs i) mode a).2=0)(hi:i<xs.length):qep xs s mode a=(qhk (qcw xs i) (plN (qcw xs i) mode a).1 xs[i],0):=by
 unfold qep
 rw[if_neg h,hf]
 show (if _ then _ else _)=_
 rw[if_neg (by simp[hz]),List.getElem?_eq_getElem hi]
end JE
namespace JE
open JB
open JR (Mem RdM qdc qa7)
def qbg (xs:List Mem):List ByteArray:=xs.map (·.name)
def ListP (xs:List Mem)(w:World)(e:Ending)(w':World):Prop:=
 ∃A n c,e=.returned (.slice A n c)∧JS.Own w' w.heap.size (.slice A n c) n (qbg xs)∧Below w.heap.size w w'
end JE
namespace Frame
open Go.ChangeShapes Go.WideShapes Go.ChangeAt Go.RowKit Go.Proofs Go.Deep
set_option maxRecDepth 100000
end Frame
namespace JE
open JB
open JR (Mem RdM qdc qa7)
open JW (core MOk)
structure qmv (w:World) (K:Nat) (A:Option Addr) (n c:Nat) (xs:List Mem):Prop where
 rd:RdM w K A n xs
 hK:K≤w.heap.size
 nc:n≤c
 cm:c≤maxLen
 ok:∀x∈xs,MOk x
 cap:∀x∈xs,x.len≤x.cap∧x.cap≤maxLen
 n100:n≤300
theorem qmv.on {w w':World}{K n c:Nat}{A:Option Addr}{xs:List Mem}(h:qmv w K A n c xs)(hb:Below w.heap.size w w'):qmv w' K A n c xs:=
 ⟨h.rd.below (hb.mono h.hK),Nat.le_trans h.hK hb.size,h.nc,h.cm,h.ok,h.cap,h.n100⟩
structure qya (w:World) (K:Nat) (m:Mem):Prop where
 ok:MOk m
 rd:JB.Rd w K m.ptr m.len m.data
 hK:K≤w.heap.size
 cap:m.len≤m.cap∧m.cap≤maxLen
theorem qya.on {w w':World}{K:Nat}{m:Mem}(h:qya w K m)(hb:Below w.heap.size w w'):qya w' K m:=
 ⟨h.ok,h.rd.below (hb.mono h.hK),Nat.le_trans h.hK hb.size,h.cap⟩
def qkm (xs:List Mem)(s:ByteArray):List UInt8:=match qas xs s with|some i=>((xs[i]?).map (·.data)).getD []|none=>[]
def qgd (xs:List Mem)(s:ByteArray):Int:=match qas xs s with|some _=>0|none=>10
theorem qvm {xs ys:List Mem}(h:ys.map core=xs.map core)(hok:∀x∈xs,MOk x):∀y∈ys,MOk y:=fun y hy=>by
 have h1:core y∈xs.map core:=h ▸ List.mem_map_of_mem hy
 obtain⟨x,hx,e⟩:=List.mem_map.1 h1
 have h2:=hok x hx
 have e0:x.name=y.name:=show (core x).name=(core y).name from congrArg Mem.name e
 have e1:x.len=y.len:=show (core x).len=(core y).len from congrArg Mem.len e
 have e2:x.time=y.time:=show (core x).time=(core y).time from congrArg Mem.time e
 have e3:x.uid=y.uid:=show (core x).uid=(core y).uid from congrArg Mem.uid e
 have e4:x.gid=y.gid:=show (core x).gid=(core y).gid from congrArg Mem.gid e
 have e5:x.mode=y.mode:=show (core x).mode=(core y).mode from congrArg Mem.mode e
 exact⟨by rw[←e0];exact h2.name,by rw[←e1];exact h2.len,by rw[←e2];exact h2.t,by rw[←e3];exact h2.u,by rw[←e4];exact h2.g,by rw[←e5];exact h2.m⟩
theorem qb7.arg {xs:List Mem}{z:Int}{w w':World}{e:Ending}(h:qb7 xs z w e w')(hok:∀x∈xs,MOk x)(hn:xs.length≤300):
 ∃A n c ys,e=.returned (.tuple #[.slice A n c,.int .i64 z])∧qmv w' w'.heap.size A n c ys∧ys.map core=xs.map core∧n=xs.length∧Below w.heap.size w w':=by
 obtain⟨A,n,c,ys,rfl,hO,hD,hC,hs,hb⟩:=h
 have hc:qdd xs w (.returned (.slice A n c)) w':=⟨A,n,c,ys,rfl,hO,hD,hC,hs,hb⟩
 obtain⟨A',n',c',ys',e1,r1,r2,r3,r4,r5,_⟩:=qdd.reads hc
 injection e1 with e1
 injection e1 with e11 e12 e13
 subst e11 e12 e13
 have hl:n=xs.length:=by
  have h1:=congrArg List.length r2
  rw[List.length_map,List.length_map] at h1
  rw[←h1,r1.1]
 exact⟨A,n,c,ys',rfl,⟨r1,Nat.le_refl _,r3,r4,qvm r2 hok,r5,by omega⟩,r2,hl,hb⟩
theorem qbr (xs:List Mem)(k:Nat)(m:Mem):(qhk xs k m).length=xs.length+1:=by
 unfold qhk
 rw[List.length_append,List.length_cons,List.length_take,List.length_drop]
 omega
theorem Qab {xs:List Mem}{m:Mem}{z:Int}{a:ByteArray}(h:∀x∈xs,MOk x)(hm:MOk m):∀x∈(qf5 xs m z a).1,MOk x:=by
 unfold qf5
 split
 ·exact h
 ·split
  ·intro x hx
   rcases qcs hx with rfl|hx
   ·exact hm
   ·exact h x (qdq hx)
  ·intro x hx
   rcases qcs hx with rfl|hx
   ·exact hm
   ·exact h x hx
theorem qvn {xs:List Mem}{m:Mem}{z:Int}{a:ByteArray}:(qf5 xs m z a).1.length≤xs.length+1:=by
 unfold qf5
 split
 ·exact Nat.le_succ _
 ·split
  ·rw[qbr]
   have:=qhm (xs:=xs) (at_:=‹Nat›)
   omega
  ·rw[qbr]
   exact Nat.le_refl _
theorem Qac {xs:List Mem}{s:ByteArray}(h:∀x∈xs,MOk x):∀x∈(qex xs s).1,MOk x:=by
 unfold qex
 split
 ·exact h
 ·exact fun x hx=>h x (qdq hx)
theorem qvp {xs:List Mem}{s:ByteArray}:(qex xs s).1.length≤xs.length:=by
 unfold qex
 split
 ·exact Nat.le_refl _
 ·exact qhm
theorem qvq {xs:List Mem}{s:ByteArray}{z:Int}{a:ByteArray}(h:∀x∈xs,MOk x):∀x∈(qep xs s z a).1,MOk x:=by
 by_cases h1:z<0∨2<z
 ·rw[qgv h1];exact h
 ·cases hf:qas xs s with
  |none=>rw[qgw h1 hf];exact h
  |some i=>
   by_cases h2:(plN (qcw xs i) z a).2=0
   ·obtain⟨hi,_⟩:=qbb hf
    rw[qgx h1 hf h2 hi]
    intro x hx
    rcases qcs hx with rfl|hx
    ·exact h _ (List.getElem_mem hi)
    ·exact h x (qdq hx)
   ·rw[qfs h1 hf h2];exact h
theorem qvr {xs:List Mem}{s:ByteArray}{z:Int}{a:ByteArray}:(qep xs s z a).1.length=xs.length:=by
 by_cases h1:z<0∨2<z
 ·rw[qgv h1]
 ·cases hf:qas xs s with
  |none=>rw[qgw h1 hf]
  |some i=>
   by_cases h2:(plN (qcw xs i) z a).2=0
   ·obtain⟨hi,_⟩:=qbb hf
    rw[qgx h1 hf h2 hi,qbr,qu8 hi]
    omega
   ·rw[qfs h1 hf h2]
theorem qsb (xs:List Mem)(m:Mem)(z:Int)(a:ByteArray):((qf5 xs m z a).1.map core=(qf5 (xs.map core) (core m) z a).1)∧(qf5 xs m z a).2=(qf5 (xs.map core) (core m) z a).2:=by
 unfold qf5
 rw[qvj,qbt]
 show _∧_
 split
 ·exact⟨rfl,rfl⟩
 ·rw[show (core m).name=m.name from rfl]
  split
  ·exact⟨by rw[qgu,qir],rfl⟩
  ·exact⟨by rw[qgu],rfl⟩
theorem qsc (xs:List Mem)(s:ByteArray):((qex xs s).1.map core=(qex (xs.map core) s).1)∧(qex xs s).2=(qex (xs.map core) s).2:=by
 unfold qex
 rw[qbt]
 split
 ·exact⟨rfl,rfl⟩
 ·exact⟨by rw[qir],rfl⟩
theorem qsd (xs:List Mem)(s:ByteArray)(z:Int)(a:ByteArray):((qep xs s z a).1.map core=(qep (xs.map core) s z a).1)∧(qep xs s z a).2=(qep (xs.map core) s z a).2:=by
 by_cases h1:z<0∨2<z
 ·rw[qgv h1,qgv h1];exact⟨rfl,rfl⟩
 ·cases hf:qas xs s with
  |none=>rw[qgw h1 hf,qgw h1 (by rw[qbt];exact hf)];exact⟨rfl,rfl⟩
  |some i=>
   have hf':qas (xs.map core) s=some i:=by rw[qbt];exact hf
   have hp:plN (qcw (xs.map core) i) z a=plN (qcw xs i) z a:=by rw[←qir,qvj]
   by_cases h2:(plN (qcw xs i) z a).2=0
   ·obtain⟨hi,_⟩:=qbb hf
    have hi':i<(xs.map core).length:=by rw[List.length_map];exact hi
    rw[qgx h1 hf h2 hi,qgx h1 hf' (by rw[hp];exact h2) hi',hp]
    exact⟨by rw[qgu,qir,List.getElem_map],rfl⟩
   ·rw[qfs h1 hf h2,qfs h1 hf' (by rw[hp];exact h2),hp]
    exact⟨rfl,rfl⟩
end JE
namespace JE
open JB
open JR (Mem RdM qdc qa7)
open JW (core MOk)
def sA:ByteArray:=⟨#[97]⟩
def sB:ByteArray:=⟨#[98]⟩
def sC:ByteArray:=⟨#[99]⟩
theorem ac:¬sA=sC:=by decide
theorem ba:¬sB=sA:=by decide
end JE
namespace JE
open JB
open JR (Mem RdM qdc qa7)
open JW (core MOk)
end JE
namespace JE
open JB
open JR (Mem RdM qdc qa7)
open JW (core MOk qzn)
end JE
namespace JE
open JB
open JR (Mem RdM qdc qa7)
open JW (core MOk qzn)
def Spd (K:Nat)(V W:World):Prop:=Below K V W∧∀(g:Nat)(cs:Array Value)(t:TypeId)(m:Nat×Nat),K≤g→V.heap[g]?=some (.cells cs t m)→
 (t≠5→t≠46→W.heap[g]?=some (.cells cs t m))∧
 (t=5→∃cs':Array Value,W.heap[g]?=some (.cells cs' t m)∧cs'.size=cs.size∧∀j:Nat,(∃x:Int,cs[j]?=some (Value.int .u8 x))→∃x:Int,cs'[j]?=some (Value.int .u8 x))∧
 (t=46→∃cs':Array Value,W.heap[g]?=some (.cells cs' t m)∧cs'.size=cs.size∧∀j:Nat,j%6≠0→cs'[j]?=cs[j]?)
theorem u8_mem:(5:Nat)≠46:=by decide
theorem Spd.refl (K:Nat)(V:World):Spd K V V:=⟨Below.refl _ _,fun _ cs _ _ _ h=>⟨fun _ _=>h,fun _=>⟨cs,h,rfl,fun _ q=>q⟩,fun _=>⟨cs,h,rfl,fun _ _=>rfl⟩⟩⟩
theorem Spd.put {K:Nat}{V W:World}(h:Spd K V W){g i:Nat}{cs:Array Value}{m:Nat×Nat}(hK:K≤g)(hg:V.heap[g]?=some (.cells cs 5 m))(x:Int):Spd K V (W.setCell ⟨g,i,none⟩ (.int .u8 x)):=by
 refine⟨h.1.setCell (p:=⟨g,i,none⟩) hK _,fun k ds t m' hk hd=>?_⟩
 obtain⟨h1,h2,h3⟩:=h.2 k ds t m' hk hd
 by_cases e:k=g
 ·subst e
  rw[hg] at hd
  injection hd with hd
  injection hd with e1 e2 e3
  subst e1 e2 e3
  refine⟨fun q=>absurd rfl q,fun _=>?_,fun q=>absurd q u8_mem⟩
  obtain⟨cs',q1,q2,q3⟩:=h2 rfl
  refine⟨cs'.setIfInBounds i (.int .u8 x),?_,by simpa using q2,fun j q=>?_⟩
  ·simp[World.setCell,Array.getElem?_modify,q1]
  ·obtain⟨y,hy⟩:=q3 j q
   by_cases hj:i=j
   ·subst hj
    have:=(Array.getElem?_eq_some_iff.1 hy).1
    exact⟨x,by simp[this]⟩
   ·exact⟨y,by simp[hj,hy]⟩
 ·have hs:(W.setCell ⟨g,i,none⟩ (.int .u8 x)).heap[k]?=W.heap[k]?:=Below.heap_setCell W ⟨g,i,none⟩ _ k e
  rw[hs]
  exact⟨h1,h2,h3⟩
theorem Spd.name {K:Nat}{V W:World}(h:Spd K V W){g i:Nat}{cs:Array Value}{m:Nat×Nat}(hK:K≤g)(hg:V.heap[g]?=some (.cells cs 46 m))(hi:i%6=0)(v:Value):Spd K V (W.setCell ⟨g,i,none⟩ v):=by
 refine⟨h.1.setCell (p:=⟨g,i,none⟩) hK _,fun k ds t m' hk hd=>?_⟩
 obtain⟨h1,h2,h3⟩:=h.2 k ds t m' hk hd
 by_cases e:k=g
 ·subst e
  rw[hg] at hd
  injection hd with hd
  injection hd with e1 e2 e3
  subst e1 e2 e3
  refine⟨fun _ q=>absurd rfl q,fun q=>absurd q.symm u8_mem,fun _=>?_⟩
  obtain⟨cs',q1,q2,q3⟩:=h3 rfl
  refine⟨cs'.setIfInBounds i v,?_,by simpa using q2,fun j q=>?_⟩
  ·simp[World.setCell,Array.getElem?_modify,q1]
  ·have hj:¬i=j:=fun e=>q (by rw[←e];exact hi)
   rw[←q3 j q]
   simp[hj]
 ·have hs:(W.setCell ⟨g,i,none⟩ v).heap[k]?=W.heap[k]?:=Below.heap_setCell W ⟨g,i,none⟩ _ k e
  rw[hs]
  exact⟨h1,h2,h3⟩
theorem Spd.at_ {K:Nat}{V W:World}(h:Spd K V W){p:Option Addr}{n c:Nat}{l:List UInt8}(ho:JB.Own V K (.slice p n c) n l){i:Nat}(hi:i<n):
 ∃(g o:Nat)(x:Int),p=some ⟨g,o,none⟩∧n≤c∧W.cell? ⟨g,o+i,none⟩=some (.int .u8 x)∧W.frozen? ⟨g,o+i,none⟩=false∧∀y:Int,Spd K V (W.setCell ⟨g,o+i,none⟩ (.int .u8 y)):=by
 have hl:=ho.1
 rcases ho.2 with ⟨_,hz⟩|⟨g,cap,cur,m,e,hg,hh,hn,hm,hs,ht,hf⟩
 ·omega
 ·injection e with e1 e2 e3
  subst e1 e3
  obtain⟨cs',q1,q2,q3⟩:=(h.2 g cur _ m hg hh).2.1 rfl
  have hc:cur[i]?=some (Value.int .u8 ((l[i]'(by omega)).toNat:Int)):=by
   have h1:(cur.toList.take n)[i]?=some (Value.int .u8 ((l[i]'(by omega)).toNat:Int)):=by rw[ht];simp[enc,List.getElem?_eq_getElem (show i<l.length by omega)]
   rw[List.getElem?_take,if_pos (by omega)] at h1
   simpa using h1
  obtain⟨x,hx⟩:=q3 i ⟨_,hc⟩
  refine⟨g,0,x,rfl,hn,by rw[cell_of_row W g (0+i) cs' 5 m q1,Nat.zero_add];exact hx,?_,fun y=>h.put hg hh y⟩
  have:=hf i (by omega)
  simp[World.frozen?,q1]
  omega
end JE
end Go.Proofs.YtlmolmohhpdhdaaGreatDoor
