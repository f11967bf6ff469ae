/-
  edit: finding, places, inserting, removing (mathematics);
-/
import Derived.Test.YtlmolmohhpdhdaaGreatDoorYWp
set_option maxRecDepth 100000
set_option maxHeartbeats 16000000
set_option linter.all false
namespace Go.Proofs.YtlmolmohhpdhdaaGreatDoor
open Go.RowKit Go.Proofs Tryz
namespace JE
open JB
open JS (Oth)
open JR (Mem RdM qft qa8 qag kM qqc)
open JW (core MOk qai Copies)
def qar:List Mem->ByteArray->Option Nat
 |[],_=>none
 |x::r,s=>if x.name=s then some 0 else (qar r s).map (·+1)
def qaz (xs:List Mem)(s:ByteArray):Int:=match qar xs s with|some k=>(k:Int)|none=> -1
theorem qpv:∀{xs:List Mem} {s:ByteArray} {k:Nat} (hk:k<xs.length),xs[k].name=s->(∀j (h:j<xs.length),j<k->xs[j].name≠s)->qar xs s=some k
 |x::r,s,0,_,h,_=>by simp at h;simp[qar,h]
 |x::r,s,k+1,hk,h,hn=>by
  have h0:x.name≠s:=hn 0 (by simp) (by omega);have:=qpv (xs:=r) (s:=s) (k:=k) (by simp at hk;omega) (by simpa using h) (fun j hj hjk=>hn (j+1) (by simp;omega) (by omega));rw[qar,if_neg h0,this];rfl
theorem qm4:∀{xs:List Mem} {s:ByteArray},(∀j (h:j<xs.length),xs[j].name≠s)->qar xs s=none
 |[],_,_=>rfl
 |x::r,s,hn=>by
  have h0:x.name≠s:=hn 0 (by simp);rw[qar,if_neg h0,qm4 (xs:=r) (fun j hj=>hn (j+1) (by simp;omega))];rfl
theorem qb6:∀{xs:List Mem} {s:ByteArray} {k:Nat},qar xs s=some k->∃h:k<xs.length,xs[k].name=s
 |x::r,s,k,h=>by
  rw[qar] at h;split at h
  ·rename_i h0
   injection h with h;subst h;exact⟨by simp,by simpa using h0⟩
  ·cases hf:qar r s with
   |none=>rw[hf] at h;cases h
   |some q=>
    rw[hf] at h;injection h with h;obtain⟨h1,h2⟩:=qb6 hf;subst h;exact⟨by simp;omega,by simpa using h2⟩
theorem qc6:∀(xs:List Mem)(s:ByteArray),qar (xs.map core) s=qar xs s
 |[],_=>rfl
 |x::r,s=>by rw[List.map_cons,qar,qar,qc6 r s];rfl
def plN (xs:List Mem)(mode:Int)(anchor:ByteArray):Nat×Int:=
 if mode<0∨2<mode then (0,13) else if mode=0 then (xs.length,0) else match qar xs anchor with
  |none=>(0,11)
  |some i=>if mode=2 then (i+1,0) else (i,0)
theorem qng (xs:List Mem)(mode:Int)(a:ByteArray):plN (xs.map core) mode a=plN xs mode a:=by unfold plN;rw[qc6,zlB]
theorem qzk {xs:List Mem}{mode:Int}{a:ByteArray}:(plN xs mode a).1<=xs.length:=by
 unfold plN;split
 ·exact Nat.zero_le _
 ·split
  ·exact Nat.le_refl _
  ·cases hf:qar xs a with
   |none=>exact Nat.zero_le _
   |some i=>
    obtain⟨h,_⟩:=qb6 hf;show (if mode=2 then ((i+1,0):Nat×Int) else (i,0)).1<=_
    split
    ·show i+1<=_;omega
    ·show i<=_;omega
def qfw (xs:List Mem)(at_:Nat)(m:Mem):List Mem:=xs.take at_++m::xs.drop at_
def qc1 (xs:List Mem)(at_:Nat):List Mem:=xs.take at_++xs.drop (at_+1)
theorem qi4 (K:Nat)(A:Option Addr)(n c:Nat)(xs:List Mem)(s:ByteArray)(w:World)(h:RdM w K A n xs)(hK:K<=w.heap.size)(hn:n<=140737488355328):
 Calls prog 39 #[.slice A n c,.string s] w fun e w'=>e=.returned (.int .i64 (qaz xs s))/\Below w.heap.size w w':=by
 have Hl:=hid h.1;go_enter func39,ntmps39;go_wp2_with fail
 go_loopw [5] (fun iv W=>∃k:Nat,iv=.int .i64 (k:Int)/\k<=n/\Hid (∀j (h:j<xs.length),j<k->xs[j].name≠s)/\Below w.heap.size w W) (fun iv _=>n-(intOf iv).toNat)
 case atStart=>exact⟨0,rfl,by omega,hid (fun j _ hj=>by omega),Below.refl _ _⟩
 case round=>
  obtain⟨k,rfl,hk,hN,hb⟩:=hrel;by_cases hlt:k<n
  ·have hkl:k<xs.length:=by have:=Hl.out;omega
   have hki:(k:Int)<(n:Int):=by omega
   obtain⟨⟨b,o,rfl,hbK,hcell⟩,_,_⟩:=(h.below (hb.mono hK)).2 k hkl;have c0:=hcell.1;clear hcell;by_cases hq:xs[k].name=s
   ·have hF:Hid (qaz xs s=(k:Int)):=hid (by unfold qaz;rw[qpv hkl hq hN.out]);have hq1:(xs[k].name.toList==s.toList)=true:=by rw[hq];simp
    clear hq;generalize xs[k].name=nm at *;go_wp2_with fail
    go_ret
    exact⟨by rw[hF.out];rfl,hb⟩
   ·have hN2:Hid (∀j (h:j<xs.length),j<k+1->xs[j].name≠s):=hid fun j hj hjk=>by
     by_cases e:j=k
     ·subst e;exact hq
     ·exact hN.out j hj (by omega)
    have hq1:(xs[k].name.toList==s.toList)=false:=by rw[zls];exact fun e=>hq (JN.qdk.1 e)
    clear hq;generalize xs[k].name=nm at *;go_wp2_with fail
    go_roundw
    ·exact⟨k+1,by go_num,by omega,hN2,hb⟩
    ·simp[intOf];omega
  ·obtain rfl:k=n:=by omega
   have hki:¬(k:Int)<(k:Int):=by omega
   have hF:Hid (qaz xs s= -1):=hid (by unfold qaz;rw[qm4 fun j hj=>hN.out j hj (by have:=Hl.out;omega)]);go_wp2_with fail
   go_ret
   exact⟨by rw[hF.out];rfl,hb⟩
end JE
namespace JE
open JB
open JS (Oth)
open JR (Mem RdM qft qa8 qag kM qrc qdn qaq)
open JW (core MOk qai qfg)
def qd1 (xs:List Mem)(w:World)(e:Ending)(w':World):Prop:=
 ∃A n c ys,e=.returned (.slice A n c)/\JC.Own 46 6 w' w.heap.size (.slice A n c) n (qa8 ys)/\qft w' w.heap.size ys/\ys.map core=xs.map core/\(∀y∈ys,y.len<=140737488355328)/\Below w.heap.size w w'
theorem qd1.reads {xs:List Mem}{w w':World}{e:Ending}(h:qd1 xs w e w'):
 ∃A n c ys,e=.returned (.slice A n c)/\RdM w' w'.heap.size A n ys/\ys.map core=xs.map core/\n<=c/\c<=maxLen/\(∀y∈ys,y.len<=y.cap/\y.cap<=maxLen)/\Below w.heap.size w w':=by
 obtain⟨A,n,c,ys,rfl,hO,hD,hC,hs,hb⟩:=h;obtain⟨A',c',e1,_,h1,h2⟩:=hO.reads;injection e1 with e11 _ e13;subst e11 e13;refine⟨A,n,c,ys,rfl,qfg hO hD hs,hC,h1,h2,fun y hy=>?_,hb⟩;obtain⟨_,_,e,_,h3,h4⟩:=(hD y hy).reads;injection e with _ _ e3;rw[e3];exact⟨h3,h4⟩
theorem qgi (K:Nat)(A:Option Addr)(n c:Nat)(xs:List Mem)(w:World)(h:RdM w K A n xs)(hK:K<=w.heap.size)(hok:∀x∈xs,MOk x)(hn:n<=1000):
 Calls prog 90 #[.slice A n c] w (qd1 xs w):=by
 have Hl:=hid h.1;go_enter func90,ntmps90;go_wp2_with fail
 go_loopw [4,3] (fun i v W=>∃(k:Nat)(A1:Option Addr)(c1:Nat)(ys:List Mem),i=.int .i64 (k:Int)/\v=.slice A1 k c1/\k<=n/\JC.Own 46 6 W w.heap.size (.slice A1 k c1) k (qa8 ys)/\qft W w.heap.size ys/\Hid (ys.map core=(xs.take k).map core)/\Below w.heap.size w W) (fun i _ _=>n-(intOf i).toNat)
 case atStart=>exact⟨0,none,0,[],rfl,rfl,by omega,JC.Own.nil _ _ _ _,fun x hx=>(by cases hx),hid (by simp),Below.refl _ _⟩
 case round=>
  obtain⟨k,A1,c1,ys,rfl,rfl,hk,hO,hD,hC,hb⟩:=hrel;by_cases hlt:k<n
  ·have hkl:k<xs.length:=by have:=Hl.out;omega
   have hki:(k:Int)<(n:Int):=by omega
   have hxk:=(hok xs[k] (zlq hkl)).len;obtain⟨⟨b,o,rfl,hbK,hcell⟩,hxd,_⟩:=(h.below (hb.mono hK)).2 k hkl;have HT:Hid ((xs.take (k+1)).map core=(xs.take k).map core++[core xs[k]]):=hid (by rw[zlg hkl,List.map_append];rfl);generalize xs[k]=x at *;obtain⟨x0,x1,x2,x3,x4,x5,x6,x7,x8⟩:=x;obtain⟨p0,p1,p2,p3,p4,p5⟩:=hcell;simp only at *;have hrow:=zld wr (.cells #[.string x0,.int .i64 x1,.int .i64 x2,.int .i64 x3,.int .i64 x4,.slice x5 x6 x7] 46);have hb1:=zjB wr (.cells #[.string x0,.int .i64 x1,.int .i64 x2,.int .i64 x3,.int .i64 x4,.slice x5 x6 x7] 46);have hs1:(wr.alloc (.cells #[.string x0,.int .i64 x1,.int .i64 x2,.int .i64 x3,.int .i64 x4,.slice x5 x6 x7] 46)).heap.size=wr.heap.size+1:=zlr _ _;go_upto_region 6 with fail
   generalize wr.alloc (.cells #[.string x0,.int .i64 x1,.int .i64 x2,.int .i64 x3,.int .i64 x4,.slice x5 x6 x7] 46)=w1 at *;have hgl:wr.heap.size<w1.heap.size:=by omega
   have hbe:=zjB w1 (.cells #[] 5);have hxd1:=((hxd.below (hb1.mono (by have:=hb.size;omega))).below (hbe.mono (by have:=hb.size;omega)));have hrow1:=(hbe.block _ hgl).trans hrow;clear hs1;have d5:=zjc wr.heap.size 5 hrow1;have hlit:=JB.Own.lit0 w1 w1.heap.size zjn;go_upto_region 7 with (at_builtin;go_must (refine qcc _ w1.heap.size _ 0 [] hlit hbe.size x5 x6 x7 K x8 hxd1 (by omega) rfl (.tmp 16) (.tmp 18) rfl rfl rfl ?_);intro v2 w2 ho2 hb2 _;rw[Nat.zero_add,zlI] at ho2;obtain⟨A2,c2,rfl,_⟩:=ho2.reads;have hrow2:=(hb2.block _ hgl).trans hrow1;have f2:∀o,w2.frozen? ⟨wr.heap.size,o,none⟩=false:=(fun o=>by simp[World.frozen?,hrow2]);have e5:=zlc _ wr.heap.size 5 _ _ _ hrow2)
   have hrow3:=zle w2 wr.heap.size 5 _ _ (.slice A2 x6 c2) hrow2;have hb03:Below wr.heap.size wr (w2.setCell ⟨wr.heap.size,5,none⟩ (.slice A2 x6 c2)):=(hb1.trans ((hbe.trans hb2).mono (Nat.le_of_lt hgl))).setCell (p:=⟨wr.heap.size,5,none⟩) zjn _;have o3:=Own.cel.2 ((Own.cel.1 ho2).setc hrow2 (by decide) 5 (.slice A2 x6 c2));clear hrow hrow1 hrow2 f2 e5 d5 hlit hbe hb1 hb2 ho2 hxd1 hxd;generalize w2.setCell ⟨wr.heap.size,5,none⟩ (.slice A2 x6 c2)=w3 at *;have hO3:=hO.below hb03;have hD3:=hD.keep hb03;have hb3:=hb.trans (hb03.mono hb.size);have hwr:=hb.size;have d0:=zjc wr.heap.size 0 hrow3;have d1:=zjc wr.heap.size 1 hrow3;have d2:=zjc wr.heap.size 2 hrow3;have d3:=zjc wr.heap.size 3 hrow3;have d4:=zjc wr.heap.size 4 hrow3;have d5:=zjc wr.heap.size 5 hrow3;clear hO hD hb hb03;go_wp2_with (at_builtin;go_must (refine JC.qa4 kM w3 w.heap.size (.slice A1 k c1) k _ hO3 hb3.size 1 1 #[.string x0,.int .i64 x1,.int .i64 x2,.int .i64 x3,.int .i64 x4,.slice A2 x6 c2] (0,0) rfl (by simp[Value.oneCell']) (by omega) (by omega) rfl (.tmp 21) (.tmp 23) rfl rfl rfl ?_);intro v4 w4 ho4 hb4 hot4 _;obtain⟨A4,c4,rfl,_⟩:=ho4.reads)
   have hD4:qft w4 w.heap.size (ys++[qrc x0 x1 x2 x3 x4 A2 x6 c2 x8]):=fun y hy=>by
    rcases zlG.1 hy with hy|hy
    ·exact qai (hD3 y hy) hot4 (by decide)
    ·rw[zlw] at hy;subst hy;exact qai (o3.more (by omega)) hot4 (by decide)
   have ho4':JC.Own 46 6 w4 w.heap.size (.slice A4 (k+1) c4) (k+1) (qa8 (ys++[qrc x0 x1 x2 x3 x4 A2 x6 c2 x8])):=by rw[qag];exact ho4
   have hC4:Hid ((ys++[qrc x0 x1 x2 x3 x4 A2 x6 c2 x8]).map core=(xs.take (k+1)).map core):=hid (by rw[HT.out,List.map_append,hC.out];rfl);have hb04:=hb3.trans hb4;clear d0 d1 d2 d3 d4 d5 hrow3 hO3 hD3 o3 hot4 hb4 hb3 ho4;go_roundw
   all_goals first
    |exact⟨k+1,A4,c4,ys++[qrc x0 x1 x2 x3 x4 A2 x6 c2 x8],by go_num,by go_num,by omega,ho4',hD4,hC4,hb04⟩
    |(simp[intOf];omega)
  ·obtain rfl:k=n:=by omega
   have hT:xs.take k=xs:=zlj (by have:=Hl.out;omega);rw[hT] at hC;have hsz:∀y∈ys,y.len<=140737488355328:=fun y hy=>by have:=(JW.qkd hC.out hok y hy).len;omega
   clear hT;go_wp2_with fail
   go_ret
   exact⟨A1,k,c1,ys,rfl,hO,hD,hC.out,hsz,hb⟩
theorem Qer {xs:List Mem}{at_ k:Nat}(hk:k<xs.length):qc1 (xs.take (k+1)) at_=if k=at_ then qc1 (xs.take k) at_ else qc1 (xs.take k) at_++[xs[k]]:=by
 unfold qc1;rw[zlg hk];have hl:(xs.take k).length=k:=by rw[zlu];omega
 by_cases h1:k<at_
 ·have e1:(xs.take k++[xs[k]]).take at_=xs.take k++[xs[k]]:=zlj (by rw[zlb,hl,List.length_singleton];omega);have e2:(xs.take k++[xs[k]]).drop (at_+1)=[]:=zlD (by rw[zlb,hl,List.length_singleton];omega);have e3:(xs.take k).take at_=xs.take k:=zlj (by omega);have e4:(xs.take k).drop (at_+1)=[]:=zlD (by omega);rw[if_neg (by omega),e1,e2,e3,e4];simp
 ·by_cases h2:k=at_
  ·subst h2;rw[if_pos rfl,List.take_append_of_le_length (by omega),zlD (by simp;omega),zlD (by omega)]
  ·rw[if_neg h2,List.take_append_of_le_length (by omega),List.drop_append_of_le_length (by omega),zln]
theorem qcq {xs:List Mem}{at_:Nat}{x:Mem}(h:x∈qc1 xs at_):x∈xs:=by
 unfold qc1 at h;rcases zlG.1 h with h|h
 ·exact List.mem_of_mem_take h
 ·exact List.mem_of_mem_drop h
theorem qg0 {xs:List Mem}{at_:Nat}:(qc1 xs at_).length<=xs.length:=by
 unfold qc1;rw[zlb,zlu,zlm];omega
theorem qi5 (K:Nat)(A:Option Addr)(n c:Nat)(xs:List Mem)(at_:Nat)(w:World)(h:RdM w K A n xs)(hK:K<=w.heap.size)(hok:∀x∈xs,MOk x)(hn:n<=300):
 Calls prog 92 #[.slice A n c,.int .i64 (at_:Int)] w (qd1 (qc1 xs at_) w):=by
 have Hl:=hid h.1;go_enter func92,ntmps92;go_wp2_with fail
 go_loopw [5,6] (fun v iv W=>∃(k j:Nat)(A1:Option Addr)(c1:Nat),iv=.int .i64 (k:Int)/\k<=n/\v=.slice A1 j c1/\j<=k/\JC.Own 46 6 W w.heap.size (.slice A1 j c1) j (qa8 (qc1 (xs.take k) at_))/\Below w.heap.size w W) (fun _ iv _=>n-(intOf iv).toNat)
 case atStart=>exact⟨0,0,none,0,rfl,by omega,rfl,by omega,by rw[show qc1 (xs.take 0) at_=[] from by simp[qc1]];exact JC.Own.nil _ _ _ _,Below.refl _ _⟩
 case round=>
  obtain⟨k,j,A1,c1,rfl,hk,rfl,hj,hO,hb⟩:=hrel;by_cases hlt:k<n
  ·have hkl:k<xs.length:=by have:=Hl.out;omega
   have hki:(k:Int)<(n:Int):=by omega
   have HT:=hid (Qer (at_:=at_) hkl);obtain⟨⟨b,o,rfl,hbK,hcell⟩,_,_⟩:=(h.below (hb.mono hK)).2 k hkl;by_cases hq:k=at_
   ·have hq1:((k:Int) !=(at_:Int))=false:=by rw[hq];simp
    have HT2:Hid (qc1 (xs.take (k+1)) at_=qc1 (xs.take k) at_):=hid (by rw[HT.out,if_pos hq]);clear hq HT hcell;rw[<-HT2.out] at hO;go_wp2_with fail
    go_roundw
    ·exact⟨k+1,j,A1,c1,by go_num,by omega,rfl,by omega,hO,hb⟩
    ·simp[intOf];omega
   ·have hq1:((k:Int) !=(at_:Int))=true:=by simp;omega
    have HT2:Hid (qc1 (xs.take (k+1)) at_=qc1 (xs.take k) at_++[xs[k]]):=hid (by rw[HT.out,if_neg hq]);clear hq HT;generalize xs[k]=x at *;obtain⟨x0,x1,x2,x3,x4,x5,x6,x7,x8⟩:=x;obtain⟨p0,p1,p2,p3,p4,p5⟩:=hcell;simp only at *;have hbs:=hb.size;go_wp2_with (at_builtin;go_must (refine JC.qa4 kM wr w.heap.size (.slice A1 j c1) j _ hO hbs 1 1 #[.string x0,.int .i64 x1,.int .i64 x2,.int .i64 x3,.int .i64 x4,.slice x5 x6 x7] (0,0) rfl (by simp[Value.oneCell']) (by omega) (by omega) rfl (.tmp 16) (.tmp 21) rfl rfl rfl ?_);intro v4 w4 ho4 hb4 _ _;obtain⟨A4,c4,rfl,_⟩:=ho4.reads)
    have ho4':JC.Own 46 6 w4 w.heap.size (.slice A4 (j+1) c4) (j+1) (qa8 (qc1 (xs.take (k+1)) at_)):=by rw[HT2.out,qag];exact ho4
    have hb04:=hb.trans hb4;clear ho4 hb4 hO hb p0 p1 p2 p3 p4 p5;go_roundw
    ·exact⟨k+1,j+1,A4,c4,by go_num,by omega,rfl,by omega,ho4',hb04⟩
    ·simp[intOf];omega
  ·obtain rfl:k=n:=by omega
   have hki:¬(k:Int)<(k:Int):=by omega
   have hT:xs.take k=xs:=zlj (by have:=Hl.out;omega);rw[hT] at hO;obtain⟨A',c',e1,hr,_⟩:=hO.reads;injection e1 with e11 _ e13;subst e11 e13;have hM:=h.below (hb.mono hK)
   have hR:RdM wr wr.heap.size A1 j (qc1 xs at_):=qdn hr fun x hx=>by
    obtain⟨q,hq,rfl⟩:=List.mem_iff_getElem.1 (qcq hx);obtain⟨_,h1,h2⟩:=hM.2 q hq;exact⟨h1.more (Nat.le_trans hK hb.size),h2⟩
   have HC:=hid (qgi wr.heap.size A1 j c1 (qc1 xs at_) wr hR zjn (fun x hx=>hok x (qcq hx)) (by omega));have hbw:=hb;clear hT hO hr hM hR hb;go_wp2_with fail
   refine HC.out.mono ?_;rintro e w5 ⟨A5,n5,c5,ys,rfl,o5,d5,hc5,hs5,hb5⟩;go_wp2_with fail
   go_ret
   exact⟨A5,n5,c5,ys,rfl,o5.more hbw.size,fun y hy=>(d5 y hy).more hbw.size,hc5,hs5,hbw.trans (hb5.mono hbw.size)⟩
def qu1 (xs:List Mem)(at_:Nat)(m:Mem):Nat->List Mem
 |0=>[]
 |k+1=>qu1 xs at_ m k++((if k=at_ then [m] else [])++(xs[k]?).toList)
theorem Qes (xs:List Mem)(at_:Nat)(m:Mem):∀k,k<=xs.length->qu1 xs at_ m k=if at_<k then xs.take at_++m::(xs.take k).drop at_ else xs.take k
 |0,_=>by simp[qu1]
 |k+1,hk=>by
  have ih:=Qes xs at_ m k (by omega);have hl:(xs.take k).length=k:=by rw[zlu];omega
  have e:(xs[k]?).toList=[xs[k]'(by omega)]:=by rw[zlh (by omega)];rfl
  have ht:xs.take (k+1)=xs.take k++[xs[k]'(by omega)]:=zlg (by omega);rw[qu1,ih,e,ht];by_cases h1:at_<k
  ·have a1:at_<k+1:=by omega
   have a2:¬k=at_:=by omega
   rw[if_pos h1,if_neg a2,if_pos a1,List.drop_append_of_le_length (by omega)];simp
  ·by_cases h2:k=at_
   ·subst h2;have a1:k<k+1:=by omega
    rw[if_neg h1,if_pos rfl,if_pos a1,List.drop_append_of_le_length (by omega),zlD (by omega)];simp
   ·have a1:¬at_<k+1:=by omega
    rw[if_neg h1,if_neg h2,if_neg a1];simp
theorem qvk (xs:List Mem)(at_:Nat)(m:Mem)(k:Nat):qu1 xs at_ m (k+1)=qu1 xs at_ m k++((if k=at_ then [m] else [])++(xs[k]?).toList):=rfl
theorem insP_all {xs:List Mem}{at_:Nat}{m:Mem}(h:at_<=xs.length):qu1 xs at_ m (xs.length+1)=qfw xs at_ m:=by
 have e:(xs[xs.length]?).toList=[]:=by rw[List.getElem?_eq_none zjn];rfl
 rw[qu1,Qes xs at_ m _ zjn,e,List.take_length];unfold qfw;by_cases h1:at_<xs.length
 ·rw[if_pos h1,if_neg (by omega)];simp
 ·have h2:at_=xs.length:=by omega
  subst h2;rw[if_neg h1,if_pos rfl,List.take_length,List.drop_length];simp
theorem qcr {xs:List Mem}{at_:Nat}{m x:Mem}(h:x∈qfw xs at_ m):x=m∨x∈xs:=by
 unfold qfw at h;rcases zlG.1 h with h|h
 ·exact .inr (List.mem_of_mem_take h)
 ·rcases List.mem_cons.1 h with h|h
  ·exact .inl h
  ·exact .inr (List.mem_of_mem_drop h)
theorem qh2 (K:Nat)(A:Option Addr)(n c:Nat)(xs:List Mem)(at_:Nat)(m:Mem)(w:World)(h:RdM w K A n xs)(hK:K<=w.heap.size)(hok:∀x∈xs,MOk x)(hn:n<=300)(hat:at_<=n)(hm:MOk m)(hmr:JB.Rd w K m.ptr m.len m.data):
 Calls prog 91 #[.slice A n c,.int .i64 (at_:Int),m.val] w (qd1 (qfw xs at_ m) w):=by
 have Hl:=hid h.1;have HMO:=hid hm;have HMR:=hid hmr;have Hat:=hid hat;have Hins:Hid (qu1 xs at_ m (n+1)=qfw xs at_ m):=hid (by have:=insP_all (xs:=xs) (at_:=at_) (m:=m) (by rw[Hl.out];exact hat);rw[Hl.out] at this;exact this);obtain⟨m0,m1,m2,m3,m4,m5,m6,m7,m8⟩:=m;have hrow:=zld w (.cells #[.string m0,.int .i64 m1,.int .i64 m2,.int .i64 m3,.int .i64 m4,.slice m5 m6 m7] 46);have hb1:=zjB w (.cells #[.string m0,.int .i64 m1,.int .i64 m2,.int .i64 m3,.int .i64 m4,.slice m5 m6 m7] 46);have hs1:=zlr w (.cells #[.string m0,.int .i64 m1,.int .i64 m2,.int .i64 m3,.int .i64 m4,.slice m5 m6 m7] 46);clear hm hmr hat;simp only[Mem.val];go_enter func91,ntmps91;go_upto_region 1 with fail
 generalize w.alloc (.cells #[.string m0,.int .i64 m1,.int .i64 m2,.int .i64 m3,.int .i64 m4,.slice m5 m6 m7] 46)=w1 at *;obtain⟨g,hg⟩:∃g,w.heap.size=g:=⟨_,rfl⟩;rw[hg] at hrow hs1 hK |-;have hg1:g<w1.heap.size:=by omega
 have HR:=hid hrow;have HB1:=hid hb1;have H1:=hid (h.below (hb1.mono (by omega)));clear hrow hb1 hs1 h;go_wp2_with fail
 go_loopw [7,8] (fun v iv W=>∃(k j:Nat)(A1:Option Addr)(c1:Nat),iv=.int .i64 (k:Int)/\k<=n+1/\v=.slice A1 j c1/\j<=2 * k/\JC.Own 46 6 W w1.heap.size (.slice A1 j c1) j (qa8 (qu1 xs at_ ⟨m0,m1,m2,m3,m4,m5,m6,m7,m8⟩ k))/\Below w1.heap.size w1 W) (fun _ iv _=>n+1-(intOf iv).toNat)
 case atStart=>exact⟨0,0,none,0,rfl,by omega,rfl,by omega,JC.Own.nil _ _ _ _,Below.refl _ _⟩
 case round=>
  obtain⟨k,j,A1,c1,rfl,hk,rfl,hj,hO,hb⟩:=hrel;have hrw:=(hb.block g hg1).trans HR.out;have d0:=zjc g 0 hrw;have d1:=zjc g 1 hrw;have d2:=zjc g 2 hrw;have d3:=zjc g 3 hrw;have d4:=zjc g 4 hrw;have d5:=zjc g 5 hrw;clear hrw;by_cases hlt:k<=n
  ·have hle:(k:Int)<=(n:Int):=by omega
   have hbs:=hb.size;by_cases hq:k=at_
   ·have hq1:((k:Int)==(at_:Int))=true:=by rw[hq];simp
    have HS1:Hid (qu1 xs at_ ⟨m0,m1,m2,m3,m4,m5,m6,m7,m8⟩ (k+1)=(qu1 xs at_ ⟨m0,m1,m2,m3,m4,m5,m6,m7,m8⟩ k++[⟨m0,m1,m2,m3,m4,m5,m6,m7,m8⟩])++(xs[k]?).toList):=hid (by rw[qvk,if_pos hq,zln]);clear hq;obtain⟨nx,hnx⟩:∃nx,nx=qu1 xs at_ ⟨m0,m1,m2,m3,m4,m5,m6,m7,m8⟩ (k+1):=⟨_,rfl⟩;rw[<-hnx] at HS1;have HNX:=hid hnx;clear hnx;generalize qu1 xs at_ ⟨m0,m1,m2,m3,m4,m5,m6,m7,m8⟩ k=pv at *;by_cases hkn:k<n
    ·have hkl:k<xs.length:=by have:=Hl.out;omega
     have hki:(k:Int)<(n:Int):=by omega
     go_wp2_with (first
      |(at_builtin;refine JC.qa4 kM wr w1.heap.size (.slice A1 j c1) (j) _ hO hbs 1 1 #[.string m0,.int .i64 m1,.int .i64 m2,.int .i64 m3,.int .i64 m4,.slice m5 m6 m7] (0,0) rfl (by simp[Value.oneCell']) (by omega) (by omega) rfl (.tmp 18) (.tmp 20) rfl rfl rfl ?_;intro v4 w4 ho4 hb4 _ _;obtain⟨A4,c4,rfl,_⟩:=ho4.reads;have hb04:=hb.trans hb4;have hs4:=hb04.size;obtain⟨⟨b,o,rfl,hbK,hcell⟩,_,_⟩:=(H1.out.below (hb04.mono (by omega))).2 k hkl;have HX:Hid ((xs[k]?).toList=[xs[k]]):=hid (by rw[zlh hkl];rfl);generalize xs[k]=x at *;obtain⟨x0,x1,x2,x3,x4,x5,x6,x7,x8⟩:=x;obtain⟨p0,p1,p2,p3,p4,p5⟩:=hcell;simp only at *;clear hO hb d0 d1 d2 d3 d4 d5 hb4)
      |(at_builtin;refine JC.qa4 kM w4 w1.heap.size (.slice A4 (j+1) c4) (j+1) _ ho4 hs4 1 1 #[.string x0,.int .i64 x1,.int .i64 x2,.int .i64 x3,.int .i64 x4,.slice x5 x6 x7] (0,0) rfl (by simp[Value.oneCell']) (by omega) (by omega) rfl (.tmp 26) (.tmp 31) rfl rfl rfl ?_;intro v5 w5 ho5 hb5 _ _;obtain⟨A5,c5,rfl,_⟩:=ho5.reads)
      |fail)
     have ho5':JC.Own 46 6 w5 w1.heap.size (.slice A5 (j+1+1) c5) (j+1+1) (qa8 nx):=by rw[HS1.out,HX.out,qag,qag];exact ho5
     have hb05:=hb04.trans hb5;clear ho4 ho5 hb5 hb04 p0 p1 p2 p3 p4 p5;go_roundw
     ·exact⟨k+1,j+1+1,A5,c5,by go_num,by omega,rfl,by omega,HNX.out ▸ ho5',hb05⟩
     ·simp[intOf];omega
    ·have hki:¬(k:Int)<(n:Int):=by omega
     have HX:Hid ((xs[k]?).toList=[]):=hid (by rw[List.getElem?_eq_none (by have:=Hl.out;omega)];rfl)
     go_wp2_with (first
      |(at_builtin;refine JC.qa4 kM wr w1.heap.size (.slice A1 j c1) (j) _ hO hbs 1 1 #[.string m0,.int .i64 m1,.int .i64 m2,.int .i64 m3,.int .i64 m4,.slice m5 m6 m7] (0,0) rfl (by simp[Value.oneCell']) (by omega) (by omega) rfl (.tmp 18) (.tmp 20) rfl rfl rfl ?_;intro v4 w4 ho4 hb4 _ _;obtain⟨A4,c4,rfl,_⟩:=ho4.reads)
      |fail)
     have ho4':JC.Own 46 6 w4 w1.heap.size (.slice A4 (j+1) c4) (j+1) (qa8 nx):=by rw[HS1.out,HX.out,zlJ,qag];exact ho4
     have hb04:=hb.trans hb4;clear ho4 hb4 hO hb d0 d1 d2 d3 d4 d5;go_roundw
     ·exact⟨k+1,j+1,A4,c4,by go_num,by omega,rfl,by omega,HNX.out ▸ ho4',hb04⟩
     ·simp[intOf];omega
   ·have hq1:((k:Int)==(at_:Int))=false:=by simp;omega
    have HS1:Hid (qu1 xs at_ ⟨m0,m1,m2,m3,m4,m5,m6,m7,m8⟩ (k+1)=qu1 xs at_ ⟨m0,m1,m2,m3,m4,m5,m6,m7,m8⟩ k++(xs[k]?).toList):=hid (by rw[qvk,if_neg hq,zlI]);clear hq;obtain⟨nx,hnx⟩:∃nx,nx=qu1 xs at_ ⟨m0,m1,m2,m3,m4,m5,m6,m7,m8⟩ (k+1):=⟨_,rfl⟩;rw[<-hnx] at HS1;have HNX:=hid hnx;clear hnx;generalize qu1 xs at_ ⟨m0,m1,m2,m3,m4,m5,m6,m7,m8⟩ k=pv at *;by_cases hkn:k<n
    ·have hkl:k<xs.length:=by have:=Hl.out;omega
     have hki:(k:Int)<(n:Int):=by omega
     obtain⟨⟨b,o,rfl,hbK,hcell⟩,_,_⟩:=(H1.out.below (hb.mono (by omega))).2 k hkl;have HX:Hid ((xs[k]?).toList=[xs[k]]):=hid (by rw[zlh hkl];rfl);generalize xs[k]=x at *;obtain⟨x0,x1,x2,x3,x4,x5,x6,x7,x8⟩:=x;obtain⟨p0,p1,p2,p3,p4,p5⟩:=hcell;simp only at *;clear d0 d1 d2 d3 d4 d5
     go_wp2_with (first
      |(at_builtin;refine JC.qa4 kM wr w1.heap.size (.slice A1 j c1) (j) _ hO hbs 1 1 #[.string x0,.int .i64 x1,.int .i64 x2,.int .i64 x3,.int .i64 x4,.slice x5 x6 x7] (0,0) rfl (by simp[Value.oneCell']) (by omega) (by omega) rfl (.tmp 26) (.tmp 31) rfl rfl rfl ?_;intro v5 w5 ho5 hb5 _ _;obtain⟨A5,c5,rfl,_⟩:=ho5.reads)
      |fail)
     have ho5':JC.Own 46 6 w5 w1.heap.size (.slice A5 (j+1) c5) (j+1) (qa8 nx):=by rw[HS1.out,HX.out,qag];exact ho5
     have hb05:=hb.trans hb5;clear ho5 hb5 hO hb p0 p1 p2 p3 p4 p5;go_roundw
     ·exact⟨k+1,j+1,A5,c5,by go_num,by omega,rfl,by omega,HNX.out ▸ ho5',hb05⟩
     ·simp[intOf];omega
    ·have hki:¬(k:Int)<(n:Int):=by omega
     have HX:Hid ((xs[k]?).toList=[]):=hid (by rw[List.getElem?_eq_none (by have:=Hl.out;omega)];rfl);have ho4':JC.Own 46 6 wr w1.heap.size (.slice A1 j c1) j (qa8 nx):=by rw[HS1.out,HX.out,zlJ];exact hO
     clear hO d0 d1 d2 d3 d4 d5;go_wp2_with fail
     go_roundw
     ·exact⟨k+1,j,A1,c1,by go_num,by omega,rfl,by omega,HNX.out ▸ ho4',hb⟩
     ·simp[intOf];omega
  ·obtain rfl:k=n+1:=by omega
   have hle:¬(((n+1:Nat):Int))<=(n:Int):=by omega
   rw[Hins.out] at hO;obtain⟨A',c',e1,hr,_⟩:=hO.reads;injection e1 with e11 _ e13;subst e11 e13;have hM:=H1.out.below (hb.mono (by omega));have hMm:=(HMR.out.below (HB1.out.mono (by omega))).below (hb.mono (by omega));have hsz:=HMO.out.len
   have hR:RdM wr wr.heap.size A1 j (qfw xs at_ ⟨m0,m1,m2,m3,m4,m5,m6,m7,m8⟩):=qdn hr fun x hx=>by
    rcases qcr hx with rfl|hx
    ·exact⟨hMm.more (by have:=hb.size;omega),by omega⟩
    ·obtain⟨q,hq,rfl⟩:=List.mem_iff_getElem.1 hx;obtain⟨_,h1,h2⟩:=hM.2 q hq;exact⟨h1.more (by have:=hb.size;omega),h2⟩
   have HC:=hid (qgi wr.heap.size A1 j c1 (qfw xs at_ ⟨m0,m1,m2,m3,m4,m5,m6,m7,m8⟩) wr hR zjn (fun x hx=>by
    rcases qcr hx with rfl|hx
    ·exact HMO.out
    ·exact hok x hx) (by omega))
   have hbw:=HB1.out.trans (hb.mono HB1.out.size);rw[hg] at hbw;have hgw:=hbw.size;clear hO hr hM hR hb hMm d0 d1 d2 d3 d4 d5;go_wp2_with fail
   refine HC.out.mono ?_;rintro e w5 ⟨A5,n5,c5,ys,rfl,o5,d5,hc5,hs5,hb5⟩;go_wp2_with fail
   go_ret
   exact⟨A5,n5,c5,ys,rfl,o5.more (by omega),fun y hy=>(d5 y hy).more (by omega),hc5,hs5,by rw[hg];exact hbw.trans (hb5.mono (by omega))⟩
theorem qtc {xs:List Mem}{mode:Int}{a:ByteArray}(h0:¬(mode<0∨2<mode))(hz:¬mode=0)(hf:qar xs a=none):plN xs mode a=(0,11):=by
 unfold plN;rw[if_neg h0,if_neg hz,hf]
theorem Qet {xs:List Mem}{mode:Int}{a:ByteArray}{i:Nat}(h0:¬(mode<0∨2<mode))(hz:¬mode=0)(hf:qar xs a=some i)(h2:mode=2):plN xs mode a=(i+1,0):=by
 unfold plN;rw[if_neg h0,if_neg hz,hf];exact if_pos h2
theorem Qeu {xs:List Mem}{mode:Int}{a:ByteArray}{i:Nat}(h0:¬(mode<0∨2<mode))(hz:¬mode=0)(hf:qar xs a=some i)(h2:¬mode=2):plN xs mode a=(i,0):=by
 unfold plN;rw[if_neg h0,if_neg hz,hf];exact if_neg h2
def qi6 (mode:Int)(a:ByteArray):Value:=.agg #[.int .i64 mode,.string a]
theorem qrs (K:Nat)(A:Option Addr)(n c:Nat)(xs:List Mem)(mode:Int)(a:ByteArray)(w:World)(h:RdM w K A n xs)(hK:K<=w.heap.size)(hn:n<=1000):
 Calls prog 89 #[.slice A n c,qi6 mode a] w fun e w'=>e=.returned (.tuple #[.int .i64 ((plN xs mode a).1:Nat),.int .i64 (plN xs mode a).2])/\Below w.heap.size w w':=by
 have Hl:=hid h.1;have hrow:=zld w (.cells #[.int .i64 mode,.string a] 65);have hb1:=zjB w (.cells #[.int .i64 mode,.string a] 65);have hs1:=zlr w (.cells #[.int .i64 mode,.string a] 65);have HF:=hid (qi4 K A n c xs a _ (h.below (hb1.mono hK)) (by omega) (by omega));unfold qi6;clear h;go_enter func89,ntmps89;go_upto_region 1 with fail
 generalize w.alloc (.cells #[.int .i64 mode,.string a] 65)=w1 at *;obtain⟨g,hg⟩:∃g,w.heap.size=g:=⟨_,rfl⟩;rw[hg] at hrow hs1 |-;have HB1:=hid hb1;have hg1:g<w1.heap.size:=by omega
 have HR:=hid hrow;have d0:=zjc g 0 hrow;have d1:=zjc g 1 hrow;clear hrow hb1 hs1;by_cases m0:mode<0
 ·have HP:Hid (plN xs mode a=(0,13)):=hid (by unfold plN;rw[if_pos (.inl m0)]);go_wp2_with fail
  exact zlf (v:=.tuple #[.int .i64 0,.int .i64 13]) (by simp[results,results89,asAddr]) rfl ⟨by rw[HP.out];rfl,by first|exact HB1.out|(rw[<-hg];exact HB1.out)⟩
 by_cases m2:2<mode
 ·have HP:Hid (plN xs mode a=(0,13)):=hid (by unfold plN;rw[if_pos (.inr m2)]);go_wp2_with fail
  exact zlf (v:=.tuple #[.int .i64 0,.int .i64 13]) (by simp[results,results89,asAddr]) rfl ⟨by rw[HP.out];rfl,by first|exact HB1.out|(rw[<-hg];exact HB1.out)⟩
 by_cases mz:mode=0
 ·have HP:Hid (plN xs mode a=(xs.length,0)):=hid (by unfold plN;rw[if_neg (by omega),if_pos mz]);subst mz;clear m0 m2;go_wp2_with fail
  exact zlf (v:=.tuple #[.int .i64 (n:Int),.int .i64 0]) (by simp[results,results89,asAddr]) rfl ⟨by rw[HP.out,Hl.out],by first|exact HB1.out|(rw[<-hg];exact HB1.out)⟩
 have mzb:(mode==0)=false:=by simpa using mz
 have Hm0:Hid (¬(mode<0∨2<mode)):=hid (by omega);have Hmz:=hid mz;clear mz;go_wp2_with fail
 refine HF.out.mono ?_;rintro e w2 ⟨rfl,hb2⟩;have HB2:=hid (HB1.out.trans (hb2.mono (by omega)));have d0:=zjc g 0 ((hb2.block g hg1).trans HR.out);clear hb2 HF
 cases hf:qar xs a with
 |none=>
  have hfi:qaz xs a= -1:=by unfold qaz;rw[hf]
  rw[hfi];have HP:=hid (qtc Hm0.out Hmz.out hf);clear hf hfi;go_wp2_with fail
  exact zlf (v:=.tuple #[.int .i64 0,.int .i64 11]) (by simp[results,results89,asAddr]) rfl ⟨by rw[HP.out];rfl,by first|exact HB2.out|(rw[<-hg];exact HB2.out)⟩
 |some i=>
  have hfi:qaz xs a=(i:Int):=by unfold qaz;rw[hf]
  rw[hfi];have Hf:=hid hf;have hil:i<n:=by have:=(qb6 hf).1;have:=Hl.out;omega
  have hi0:¬(i:Int)<0:=by omega
  clear hf hfi;by_cases mt:mode=2
  ·have HP2:Hid (plN xs mode a=(i+1,0)):=hid (Qet Hm0.out Hmz.out Hf.out mt);subst mt;have hw:IntKind.i64.wrap ((i:Int)+1)=((i+1:Nat):Int):=by rw[IntKind.wrap_i64];omega
   clear m0 m2;go_wp2_with fail
   exact zlf (v:=.tuple #[.int .i64 ((i+1:Nat):Int),.int .i64 0]) (by simp[results,results89,asAddr,hw]) rfl ⟨by rw[HP2.out],by first|exact HB2.out|(rw[<-hg];exact HB2.out)⟩
  ·have HP2:Hid (plN xs mode a=(i,0)):=hid (Qeu Hm0.out Hmz.out Hf.out mt);have mtb:(mode==2)=false:=by simpa using mt
   clear mt;go_wp2_with fail
   exact zlf (v:=.tuple #[.int .i64 (i:Int),.int .i64 0]) (by simp[results,results89,asAddr]) rfl ⟨by rw[HP2.out],by first|exact HB2.out|(rw[<-hg];exact HB2.out)⟩
end JE
end Go.Proofs.YtlmolmohhpdhdaaGreatDoor
