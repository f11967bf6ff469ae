/-
  edit: the program's copies, and the list of
-/
import Derived.Test.YtlmolmohhpdhdaaGreatDoorYEe
import Derived.Lib.AppendZeros
set_option maxRecDepth 100000
set_option maxHeartbeats 16000000
set_option linter.all false
namespace Go.Proofs.YtlmolmohhpdhdaaGreatDoor
open Go.RowKit Go.Proofs Tryz
namespace JC
theorem qm5 {st t:TypeId}{sz bs:Nat}{z:Value}(hk:Qar st t sz bs z){ops:Array Oper}{rest:List Oper}{o:Oper}{a:Act}{Q:Exit->Act->World->Prop}(w:World)(c:Nat)(hc:c<=1000000)(hby:c * bs<=140737488355328)(K:Nat)(hK:K<=w.heap.size)(hgd:o.guard=none)(l x:Operand)
 (ho:o.op=Op.makeSlice st l x)(kl kc:IntKind)(hl:a.eval l=.int kl 0)(hx:a.eval x=.int kc (c:Int))
 (h:∀v' w',Own t sz w' K v' 0 []->Below w.heap.size w w'->wpList prog ops Q rest (a.put o.dst v') w'):
 wpList prog ops Q (o::rest) a w:=by
 obtain⟨i,hi,hz0,hz1,hz2⟩:=info_parts hk.info;refine wpList_make_own w hgd l x st ho K t i z sz hk.under hi hz0 hz1 kl kc (c:Int) c hl hx rfl (by rw[hz2,Nat.mul_comm];omega) (by unfold maxLen;omega) hK (fun w' h1 h2=>?_);refine h _ w' ⟨h1.1,?_⟩ ((Below.refl _ _).grown h2 zjn (fun k hk=>by cases hk));rcases h1.2 with h|⟨g,cap,cur,hv,hg,hh,hn,hm,hs,ht⟩
 ·exact .inl h
 ·exact .inr ⟨g,cap,cur,(0,0),hv,hg,hh,hn,hm,hs,ht,fun j _ hj=>by simp at hj⟩
end JC
namespace JS
theorem qm5 {ops:Array Oper}{rest:List Oper}{o:Oper}{a:Act}{Q:Exit->Act->World->Prop}(w:World)(c:Nat)(hc:c<=1000000)(K:Nat)(hK:K<=w.heap.size)(hgd:o.guard=none)(l x:Operand)
 (ho:o.op=Op.makeSlice 26 l x)(kl kc:IntKind)(hl:a.eval l=.int kl 0)(hx:a.eval x=.int kc (c:Int))
 (h:∀v' w',Own w' K v' 0 []->Below w.heap.size w w'->wpList prog ops Q rest (a.put o.dst v') w'):
 wpList prog ops Q (o::rest) a w:=by
 obtain⟨i,hi,hz0,hz1,hz2⟩:=info_parts qjd;refine wpList_make_own w hgd l x 26 ho K 9 i (.string ⟨#[]⟩) 1 underlying26 hi hz0 hz1 kl kc (c:Int) c hl hx rfl (by rw[hz2];omega) (by unfold maxLen;omega) hK (fun w' h1 h2=>?_);exact h _ w' (Own.of_row (l:=[]) h1) ((Below.refl _ _).grown h2 zjn (fun k hk=>by cases hk))
end JS
namespace JE
open JB
open JS (Oth)
open JR (Mem RdM qft qa8 qag kM qrc qdn qaq)
open JW (core MOk qai qfg)
def ClP (n:Nat)(l:List UInt8)(w:World)(e:Ending)(w':World):Prop:=
 ∃D k,e=.returned (.slice D n k)/\JB.Own w' w.heap.size (.slice D n k) n l/\Below w.heap.size w w'
theorem qc7 (K:Nat)(A:Option Addr)(n c:Nat)(l:List UInt8)(w:World)(hr:JB.Rd w K A n l)(hn:n<=140737488355328):
 Calls prog 20 #[.slice A n c] w (ClP n l w):=by
 rcases A with _|a
 ·have hl:l=[]:=by
   rcases l with _|⟨u,r⟩
   ·rfl
   ·obtain⟨_,_,e,_⟩:=hr.2 0 (by simp);cases e
  have h0:n=0:=by rw[<-hr.1,hl];rfl
  subst h0 hl;exact (Go.Proofs.Any.bytes_Clone_nil Tryz.laysSlK4 0 c w).mono fun e w' h=>⟨none,0,h.1,by rw[h.2];exact JB.Own.nil _ _,by rw[h.2];exact Below.refl _ _⟩
 ·exact JR.qge K a n c l w hr hn
theorem qd4 (K:Nat)(A:Option Addr)(n c:Nat)(xs:List Mem)(w:World)(h:RdM w K A n xs)(hK:K<=w.heap.size)(hok:∀x∈xs,MOk x)(hn:n<=1000):
 Calls prog 161 #[.slice A n c] w (qd1 xs w):=by
 have Hl:=hid h.1;go_enter func161,ntmps161;go_wp2_with (at_make;refine JC.qm5 kM w n (by omega) (by omega) w.heap.size zjn rfl _ _ rfl _ _ rfl rfl ?_;intro v0 w0 ho0 hb0;obtain⟨A0,c0,rfl,_⟩:=ho0.reads)
 have hs0:=hb0.size;go_loopw [11,3] (fun i v W=>∃(k:Nat)(A1:Option Addr)(c1:Nat)(ys:List Mem),i=.int .i64 (k:Int)/\v=.slice A1 k c1/\k<=n/\JC.Own 46 6 W w.heap.size (.slice A1 k c1) k (qa8 ys)/\qft W w.heap.size ys/\Hid (ys.map core=(xs.take k).map core)/\Below w.heap.size w W) (fun i _ _=>n-(intOf i).toNat)
 case atStart=>exact⟨0,A0,c0,[],rfl,rfl,by omega,ho0,fun x hx=>(by cases hx),hid (by simp),hb0⟩
 case round=>
  obtain⟨k,A1,c1,ys,rfl,rfl,hk,hO,hD,hC,hb⟩:=hrel;by_cases hlt:k<n
  ·have hkl:k<xs.length:=by have:=Hl.out;omega
   have hki:(k:Int)<(n:Int):=by omega
   have hxk:=(hok xs[k] (zlq hkl)).len;obtain⟨⟨b,o,rfl,hbK,hcell⟩,hxd,_⟩:=(h.below (hb.mono hK)).2 k hkl;have HT:Hid ((xs.take (k+1)).map core=(xs.take k).map core++[core xs[k]]):=hid (by rw[zlg hkl,List.map_append];rfl);generalize xs[k]=x at *;obtain⟨x0,x1,x2,x3,x4,x5,x6,x7,x8⟩:=x;obtain⟨p0,p1,p2,p3,p4,p5⟩:=hcell;simp only at *;have hrow:=zld wr (.cells #[.string x0,.int .i64 x1,.int .i64 x2,.int .i64 x3,.int .i64 x4,.slice x5 x6 x7] 46);have hb1:=zjB wr (.cells #[.string x0,.int .i64 x1,.int .i64 x2,.int .i64 x3,.int .i64 x4,.slice x5 x6 x7] 46);have hs1:(wr.alloc (.cells #[.string x0,.int .i64 x1,.int .i64 x2,.int .i64 x3,.int .i64 x4,.slice x5 x6 x7] 46)).heap.size=wr.heap.size+1:=zlr _ _;go_upto_region 5 with fail
   generalize wr.alloc (.cells #[.string x0,.int .i64 x1,.int .i64 x2,.int .i64 x3,.int .i64 x4,.slice x5 x6 x7] 46)=w1 at *;have hgl:wr.heap.size<w1.heap.size:=by omega
   have hxd1:=hxd.below (hb1.mono (by have:=hb.size;omega));have HC:=hid (qc7 K x5 x6 x7 x8 w1 hxd1 (by omega));have d5:=zjc wr.heap.size 5 hrow;clear hs1 hxd1 hxd p0 p1 p2 p3 p4 p5;go_wp2_with fail
   refine HC.out.mono ?_;rintro e w2 ⟨A2,c2,rfl,ho2,hb2⟩;have hrow2:=(hb2.block _ hgl).trans hrow;have f2:∀o,w2.frozen? ⟨wr.heap.size,o,none⟩=false:=(fun o=>by simp[World.frozen?,hrow2]);have e5:=zjc wr.heap.size 5 hrow2;clear HC;go_upto_region 6 with fail
   have hrow3:=zle w2 wr.heap.size 5 _ _ (.slice A2 x6 c2) hrow2;have hb03:Below wr.heap.size wr (w2.setCell ⟨wr.heap.size,5,none⟩ (.slice A2 x6 c2)):=(hb1.trans (hb2.mono (Nat.le_of_lt hgl))).setCell (p:=⟨wr.heap.size,5,none⟩) zjn _;have o3:=Own.cel.2 ((Own.cel.1 ho2).setc hrow2 (by decide) 5 (.slice A2 x6 c2));clear hrow hrow2 f2 e5 d5 hb1 hb2 ho2;generalize w2.setCell ⟨wr.heap.size,5,none⟩ (.slice A2 x6 c2)=w3 at *;have hO3:=hO.below hb03;have hD3:=hD.keep hb03;have hb3:=hb.trans (hb03.mono hb.size);have hwr:=hb.size;have d0:=zjc wr.heap.size 0 hrow3;have d1:=zjc wr.heap.size 1 hrow3;have d2:=zjc wr.heap.size 2 hrow3;have d3:=zjc wr.heap.size 3 hrow3;have d4:=zjc wr.heap.size 4 hrow3;have d5:=zjc wr.heap.size 5 hrow3;clear hO hD hb hb03;go_wp2_with (at_builtin;go_must (refine JC.qa4 kM w3 w.heap.size (.slice A1 k c1) k _ hO3 hb3.size 1 1 #[.string x0,.int .i64 x1,.int .i64 x2,.int .i64 x3,.int .i64 x4,.slice A2 x6 c2] (0,0) rfl (by simp[Value.oneCell']) (by omega) (by omega) rfl (.tmp 19) (.tmp 21) rfl rfl rfl ?_);intro v4 w4 ho4 hb4 hot4 _;obtain⟨A4,c4,rfl,_⟩:=ho4.reads)
   have hD4:qft w4 w.heap.size (ys++[qrc x0 x1 x2 x3 x4 A2 x6 c2 x8]):=fun y hy=>by
    rcases zlG.1 hy with hy|hy
    ·exact qai (hD3 y hy) hot4 (by decide)
    ·rw[zlw] at hy;subst hy;exact qai (o3.more (by omega)) hot4 (by decide)
   have ho4':JC.Own 46 6 w4 w.heap.size (.slice A4 (k+1) c4) (k+1) (qa8 (ys++[qrc x0 x1 x2 x3 x4 A2 x6 c2 x8])):=by rw[qag];exact ho4
   have hC4:Hid ((ys++[qrc x0 x1 x2 x3 x4 A2 x6 c2 x8]).map core=(xs.take (k+1)).map core):=hid (by rw[HT.out,List.map_append,hC.out];rfl);have hb04:=hb3.trans hb4;clear d0 d1 d2 d3 d4 d5 hrow3 hO3 hD3 o3 hot4 hb4 hb3 ho4;go_roundw
   all_goals first
    |exact⟨k+1,A4,c4,ys++[qrc x0 x1 x2 x3 x4 A2 x6 c2 x8],by go_num,by go_num,by omega,ho4',hD4,hC4,hb04⟩
    |(simp[intOf];omega)
  ·obtain rfl:k=n:=by omega
   have hT:xs.take k=xs:=zlj (by have:=Hl.out;omega);rw[hT] at hC;have hsz:∀y∈ys,y.len<=140737488355328:=fun y hy=>by have:=(JW.qkd hC.out hok y hy).len;omega
   clear hT;go_wp2_with fail
   go_ret
   exact⟨A1,k,c1,ys,rfl,hO,hD,hC.out,hsz,hb⟩
theorem qvt (K:Nat)(A:Option Addr)(n c:Nat)(xs:List Mem)(w:World)(h:RdM w K A n xs)(hK:K<=w.heap.size)(hn:n<=1000):
 Calls prog 120 #[.slice A n c] w (ListP xs w):=by
 have Hl:=hid h.1;go_enter func120,ntmps120;go_wp2_with (at_make;refine JS.qm5 w n (by omega) w.heap.size zjn rfl _ _ rfl _ _ rfl rfl ?_;intro v0 w0 ho0 hb0;obtain⟨A0,c0,rfl,_⟩:=ho0.reads)
 have hs0:=hb0.size;go_loopw [3,11] (fun v iv W=>∃(k:Nat)(A1:Option Addr)(c1:Nat),iv=.int .i64 (k:Int)/\k<=n/\v=.slice A1 k c1/\JS.Own W w.heap.size (.slice A1 k c1) k (qbr (xs.take k))/\Below w.heap.size w W) (fun _ iv _=>n-(intOf iv).toNat)
 case atStart=>exact⟨0,A0,c0,rfl,by omega,rfl,ho0,hb0⟩
 case round=>
  obtain⟨k,A1,c1,rfl,hk,rfl,hO,hb⟩:=hrel;by_cases hlt:k<n
  ·have hkl:k<xs.length:=by have:=Hl.out;omega
   have hki:(k:Int)<(n:Int):=by omega
   obtain⟨⟨b,o,rfl,hbK,hcell⟩,_,_⟩:=(h.below (hb.mono hK)).2 k hkl;have HT:Hid (qbr (xs.take (k+1))=qbr (xs.take k)++[xs[k].name]):=hid (by unfold qbr;rw[zlg hkl,List.map_append];rfl);generalize xs[k]=x at *;obtain⟨x0,x1,x2,x3,x4,x5,x6,x7,x8⟩:=x;obtain⟨p0,p1,p2,p3,p4,p5⟩:=hcell;simp only at *;have hrow:=zld wr (.cells #[.string x0,.int .i64 x1,.int .i64 x2,.int .i64 x3,.int .i64 x4,.slice x5 x6 x7] 46);have hb1:=zjB wr (.cells #[.string x0,.int .i64 x1,.int .i64 x2,.int .i64 x3,.int .i64 x4,.slice x5 x6 x7] 46);go_upto_region 5 with fail
   generalize wr.alloc (.cells #[.string x0,.int .i64 x1,.int .i64 x2,.int .i64 x3,.int .i64 x4,.slice x5 x6 x7] 46)=w1 at *;have d0:=zjc wr.heap.size 0 hrow;have hO1:=hO.below hb1;have hb01:=hb.trans (hb1.mono hb.size);clear hrow p0 p1 p2 p3 p4 p5 hO hb hb1;go_wp2_with (at_builtin;refine JS.qa4 w1 w.heap.size (.slice A1 k c1) k (qbr (xs.take k)) x0 hO1 hb01.size (by omega) rfl (.tmp 15) (.tmp 18) rfl rfl rfl ?_;intro v4 w4 ho4 hb4 _ _;obtain⟨A4,c4,rfl,_⟩:=ho4.reads)
   have ho4':JS.Own w4 w.heap.size (.slice A4 (k+1) c4) (k+1) (qbr (xs.take (k+1))):=by rw[HT.out];exact ho4
   have hb04:=hb01.trans hb4;clear ho4 hb4 hO1 hb01 d0;go_roundw
   ·exact⟨k+1,A4,c4,by go_num,by omega,rfl,ho4',hb04⟩
   ·simp[intOf];omega
  ·obtain rfl:k=n:=by omega
   have hki:¬(k:Int)<(k:Int):=by omega
   have hT:xs.take k=xs:=zlj (by have:=Hl.out;omega);rw[hT] at hO;clear hT;go_wp2_with fail
   go_ret
   exact⟨A1,k,c1,rfl,hO,hb⟩
end JE
namespace JE
open JB
open JS (Oth)
open JR (Mem RdM qft qa8 qag kM qrc qdn qaq qhu qqc)
open JW (core MOk qai qfg)
def frA (A:Option Addr)(c k:Nat):Option Addr:=if c=k then A else A.map fun a=>a.add (k * 6)
theorem Qez {w:World}{K n m:Nat}{A:Option Addr}{xs:List Mem}(h:RdM w K A n xs)(hm:m<=n):RdM w K A m (xs.take m):=
 ⟨by rw[zlu,h.1];omega,fun k hk=>by
  have hk':k<xs.length:=by rw[zlu] at hk;omega
  rw[List.getElem_take];exact h.2 k hk'⟩
theorem qzt {w:World}{K n c k:Nat}{A:Option Addr}{xs:List Mem}(h:RdM w K A n xs)(hk:k<=n)(hc:n<=c):RdM w K (frA A c k) (n-k) (xs.drop k):=
 ⟨by rw[zlm,h.1],fun j hj=>by
  have hj':k+j<xs.length:=by rw[zlm] at hj;omega
  have hl:=h.1;rw[List.getElem_drop];obtain⟨⟨b,o,e,hb,hm⟩,r⟩:=h.2 (k+j) hj';refine⟨⟨b,o+k * 6,?_,hb,?_⟩,r⟩
  ·unfold frA;rw[if_neg (by omega),e];simp[Addr.add]
  ·rw[show o+k * 6+j * 6=o+(k+j) * 6 by omega];exact hm⟩
theorem qvu (A:Option Addr)(n c k:Nat)(hk:k<=n)(hc:n<=c)(W:World):
 (Instr.sliceAt 42 (.slice A n c) none (some (.int .i64 (k:Int))) none).run prog W=.ok (.slice A k c) W:=by
 have h1:(k:Int)<=(c:Int):=by omega
 rcases A with _|a
 ·go_simp
 ·go_simp
theorem qvv (A:Option Addr)(n c k:Nat)(hk:k<=n)(hc:n<=c)(W:World):
 (Instr.sliceAt 42 (.slice A n c) (some (.int .i64 (k:Int))) none none).run prog W=.ok (.slice (frA A c k) (n-k) (c-k)) W:=by
 have h1:(k:Int)<=(n:Int):=by omega
 have h2:(n:Int)<=(c:Int):=by omega
 have h3:(k:Int)<=(c:Int):=by omega
 unfold frA;by_cases hq:c=k
 ·subst hq;rw[if_pos rfl];rcases A with _|a
  ·go_simp
  ·go_simp
 ·rw[if_neg hq];rcases A with _|a
  ·go_simp
  ·go_simp
theorem Qf0 {w:World}{K n:Nat}{A:Option Addr}{xs:List Mem}(h:RdM w K A n xs):JC.Rd w K A n 6 (qa8 xs):=by
 have hl:=h.1;refine⟨by rw[qaq];omega,fun i hi=>?_⟩;have hi':i<xs.length * 6:=by rw[qaq] at hi;exact hi
 obtain⟨q,j,hj,rfl⟩:∃q j,j<6/\i=q * 6+j:=⟨i / 6,i%6,by omega,by omega⟩;have hq:q<xs.length:=by omega
 obtain⟨⟨b,o,e,hb,hc⟩,_⟩:=h.2 q hq;obtain⟨m0,m1,m2,m3,m4,m5⟩:=qhu xs q hq;obtain⟨p0,p1,p2,p3,p4,p5⟩:=hc;refine⟨b,o,e,hb,?_⟩;rw[<-zlh hi];rcases (show j=0∨j=1∨j=2∨j=3∨j=4∨j=5 by omega) with rfl|rfl|rfl|rfl|rfl|rfl
 ·rw[Nat.add_zero,m0];exact p0
 ·rw[m1,<-Nat.add_assoc];exact p1
 ·rw[m2,<-Nat.add_assoc];exact p2
 ·rw[m3,<-Nat.add_assoc];exact p3
 ·rw[m4,<-Nat.add_assoc];exact p4
 ·rw[m5,<-Nat.add_assoc];exact p5
theorem qin:∀{xs:List Mem},∀u∈qa8 xs,u.oneCell'=true
 |[],u,h=>by cases h
 |x::r,u,h=>by
  rw[qa8] at h;rcases zlG.1 h with h|h
  ·simp at h;rcases h with rfl|rfl|rfl|rfl|rfl|rfl<;>rfl
  ·exact qin u h
def GrowP (w:World)(e:Ending)(w':World):Prop:=
 ∃A c,e=.returned (.slice A 0 c)/\JC.Own 46 6 w' w.heap.size (.slice A 0 c) 0 []/\Below w.heap.size w w'
theorem grow_any (n:Nat)(w:World)(hn:n<=100000):
 Calls prog 221 #[.slice none 0 0,.int .i64 (n:Int)] w (GrowP w):=by
 by_cases h0:n=0
 ·subst h0;go_enter func221,ntmps221;go_wp2_with fail
  go_ret
  exact⟨none,0,rfl,JC.Own.nil _ _ _ _,Below.refl _ _⟩
 ·have hpos:(0:Int)<(n:Int):=by omega
  have hneg:¬(n:Int)<0:=by omega
  obtain⟨i,hi,hz0,hz1,hz2⟩:=info_parts kM.info;have hr:=Lib.run_append_nil_zeros (P:=prog) w 42 3 42 46 i _ .i64 .i64 kM.under underlying3 hi hz0 n (by omega) (by omega) (by omega) (by rw[hz2];omega);have Hcm:=hid (grownCap_le_maxLen w n 0 46 (by unfold maxLen;omega))
  have ho:JC.Own 46 6 (w.drew.alloc (.cells (Builtin.zeroCells (Value.agg #[.string ⟨#[]⟩,.int .i64 0,.int .i64 0,.int .i64 0,.int .i64 0,.slice none 0 0]).cells n++Builtin.zeroCells (Value.agg #[.string ⟨#[]⟩,.int .i64 0,.int .i64 0,.int .i64 0,.int .i64 0,.slice none 0 0]).cells (grownCap w n 0 46-n)) 46)) w.heap.size (.slice (some ⟨w.heap.size,0,none⟩) 0 (grownCap w n 0 46)) 0 []:=by
   have hge:n<=grownCap w n 0 46:=by have:=grownCap_ge w n 0 46;omega
   refine⟨rfl,.inr ⟨w.heap.size,_,_,(0,0),rfl,Nat.le_refl _,zld w.drew _,by omega,Hcm.out,?_,by simp,fun j _ hj=>by simp at hj⟩⟩;rw[Array.size_append,size_zeroCells,size_zeroCells,kM.cells,<-Nat.add_mul];congr 1
   omega
  have hb:Below w.heap.size w (w.drew.alloc (.cells (Builtin.zeroCells (Value.agg #[.string ⟨#[]⟩,.int .i64 0,.int .i64 0,.int .i64 0,.int .i64 0,.slice none 0 0]).cells n++Builtin.zeroCells (Value.agg #[.string ⟨#[]⟩,.int .i64 0,.int .i64 0,.int .i64 0,.int .i64 0,.slice none 0 0]).cells (grownCap w n 0 46-n)) 46)):=(Below.refl _ w).drew.alloc zjn _;generalize w.drew.alloc (.cells (Builtin.zeroCells (Value.agg #[.string ⟨#[]⟩,.int .i64 0,.int .i64 0,.int .i64 0,.int .i64 0,.slice none 0 0]).cells n++Builtin.zeroCells (Value.agg #[.string ⟨#[]⟩,.int .i64 0,.int .i64 0,.int .i64 0,.int .i64 0,.slice none 0 0]).cells (grownCap w n 0 46-n)) 46)=w1 at *;generalize grownCap w n 0 46=cap at *;have Hr:=hid hr;clear hr hi hz0 hz1 hz2 h0;go_enter func221,ntmps221;go_wp2_with (at_builtin;refine Lib.wpList_append_run _ rfl _ _ _ _ rfl _ _ rfl rfl _ _ Hr.out ?_)
  go_ret
  exact⟨_,_,rfl,ho,hb⟩
structure Seg where
 A:Option Addr
 n:Nat
 c:Nat
 xs:List Mem
def qm6 (ss:List Seg):List Mem:=ss.flatMap (·.xs)
theorem Qf1 (ss:List Seg)(s:Seg):qm6 (ss++[s])=qm6 ss++s.xs:=by simp[qm6]
theorem qvw {ss:List Seg}{k:Nat}(hk:k<ss.length):qm6 (ss.take (k+1))=qm6 (ss.take k)++ss[k].xs:=by
 rw[zlg hk,Qf1]
theorem qzu {ss:List Seg}{w:World}{K:Nat}(h:∀s∈ss,RdM w K s.A s.n s.xs/\s.n<=301):(qm6 ss).length<=ss.length * 301:=by
 induction ss with
 |nil=>simp[qm6]
 |cons s r ih=>
  have h1:=h s (by simp);have h2:=ih fun t ht=>h t (by simp[ht]);have h3:=h1.1.1;rw[show qm6 (s::r)=s.xs++qm6 r from rfl,zlb,zlk];omega
def Qf2 (xs:List Mem)(w:World)(e:Ending)(w':World):Prop:=
 ∃A c,e=.returned (.slice A xs.length c)/\JC.Own 46 6 w' w.heap.size (.slice A xs.length c) xs.length (qa8 xs)/\Below w.heap.size w w'
theorem qis (K b k:Nat)(ss:List Seg)(w:World)(hk:ss.length=k)(hk3:k<=3)(hrow:∀W,Below w.heap.size w W->∀j (h:j<ss.length),W.cell? ⟨b,j,none⟩=some (.slice ss[j].A ss[j].n ss[j].c))
 (hR:∀s∈ss,RdM w K s.A s.n s.xs/\s.n<=301)(hK:K<=w.heap.size):
 Calls prog 203 #[.slice (some ⟨b,0,none⟩) k k] w (Qf2 (qm6 ss) w):=by
 have Hk:=hid hk;have Hrow:=hid hrow;have hL:=qzu hR
 have Hlen:∀j,(qm6 (ss.take j)).length<=903:=fun j=>by
  have h1:=qzu (ss:=ss.take j) fun s hs=>hR s (List.mem_of_mem_take hs);have h2:(ss.take j).length<=3:=by rw[zlu];omega
  omega
 have HL:=hid Hlen;clear hk hrow hL Hlen;go_enter func203,ntmps203;go_wp2_with fail
 go_loopw [3,11] (fun v i W=>∃j:Nat,i=.int .i64 (j:Int)/\j<=k/\v=.int .i64 ((qm6 (ss.take j)).length:Int)/\w=W) (fun _ i _=>k-(intOf i).toNat)
 case atStart=>exact⟨0,rfl,by omega,by simp[qm6],rfl⟩
 case round=>
  obtain⟨j,rfl,hj,rfl,rfl⟩:=hrel;by_cases hlt:j<k
  ·have hjl:j<ss.length:=by have:=Hk.out;omega
   have hji:(j:Int)<(k:Int):=by omega
   have hc:=Hrow.out w zjb j hjl;obtain⟨hM,hn⟩:=hR ss[j] (zlq hjl);have HT:Hid ((qm6 (ss.take (j+1))).length=(qm6 (ss.take j)).length+ss[j].n):=hid (by rw[qvw hjl,zlb,hM.1]);have h1:=HL.out j;generalize ss[j]=s at *;obtain⟨sA,sn,sc,sx⟩:=s;simp only at *;generalize (qm6 (ss.take j)).length=q at *;clear hM;go_wp2_with fail
   go_roundw
   ·exact⟨j+1,by go_num,by omega,by rw[HT.out];go_num,by first|rfl|trivial⟩
   ·simp[intOf];omega
  ·obtain rfl:j=k:=by omega
   have hji:¬(j:Int)<(j:Int):=by omega
   have h1:=HL.out j;generalize (qm6 (ss.take j)).length=q at *;have HG:=hid (grow_any q w (by omega));go_wp2_with fail
   refine HG.out.mono ?_;rintro e w1 ⟨A0,c0,rfl,ho0,hb0⟩;have hs0:=hb0.size;clear HG;go_wp2_with fail
   go_loopw [6,27] (fun v i W=>∃(m p:Nat)(A1:Option Addr)(c1:Nat),i=.int .i64 (m:Int)/\m<=j/\v=.slice A1 p c1/\Hid (p=(qm6 (ss.take m)).length)/\JC.Own 46 6 W w.heap.size (.slice A1 p c1) p (qa8 (qm6 (ss.take m)))/\Below w.heap.size w W) (fun _ i _=>j-(intOf i).toNat)
   case atStart=>exact⟨0,0,A0,c0,rfl,by omega,rfl,hid rfl,ho0,hb0⟩
   case round=>
    obtain⟨m,p,A1,c1,rfl,hm,rfl,hp,hO,hb1⟩:=hrel;have hbs:=hb1.size;by_cases hlt2:m<j
    ·have hml:m<ss.length:=by have:=Hk.out;omega
     have hmi:(m:Int)<(j:Int):=by omega
     have hc:=Hrow.out _ hb1 m hml;obtain⟨hM,hn⟩:=hR ss[m] (zlq hml);have hM2:=Qf0 (hM.below (hb1.mono hK));have HT:Hid (qm6 (ss.take (m+1))=qm6 (ss.take m)++ss[m].xs):=hid (qvw hml);have HN:=hid hM.1;have h2:p<=903:=by rw[hp.out];exact HL.out m
     generalize ss[m]=s at *;obtain⟨sA,sn,sc,sx⟩:=s;simp only at *;clear hM;go_wp2_with (at_builtin;go_must (refine JC.Qd4 kM _ w.heap.size K (.slice A1 p c1) p _ hO hbs sA sn sc (qa8 sx) hM2 qin (by omega) (by omega) rfl (.tmp 31) (.tmp 32) rfl rfl rfl ?_;intro v4 w4 ho4 hb4;obtain⟨A4,c4,rfl,_⟩:=ho4.reads))
     have ho4':JC.Own 46 6 w4 w.heap.size (.slice A4 (p+sn) c4) (p+sn) (qa8 (qm6 (ss.take (m+1)))):=by rw[HT.out,qag];exact ho4
     have hp4:Hid (p+sn=(qm6 (ss.take (m+1))).length):=hid (by rw[HT.out,zlb,<-hp.out,HN.out]);have hb04:=hb1.trans hb4;clear ho4 hb4 hO hb1 hc hM2;go_roundw
     ·exact⟨m+1,p+sn,A4,c4,by go_num,by omega,rfl,hp4,ho4',hb04⟩
     ·simp[intOf];omega
    ·obtain rfl:m=j:=by omega
     have hmi:¬(m:Int)<(m:Int):=by omega
     have hT:ss.take m=ss:=zlj (by have:=Hk.out;omega);rw[hT] at hp hO;have HP:=hid hp.out;clear hT hp;go_wp2_with fail
     go_ret
     have e:=HP.out;subst e;exact⟨A1,c1,rfl,hO,hb1⟩
end JE
namespace JE
open JB
open JR (Mem RdM qft qa8)
open JW (core MOk)
theorem qvx (m:Mem)(g:Nat)(s:ByteArray)(b:Bool)(w:World)(hc:w.cell? ⟨g,0,none⟩=some (.string s))(hq:(m.name.toList==s.toList)=b):
 Calls prog 202 #[m.val,.pointer (some ⟨g,0,none⟩)] w fun e w'=>e=.returned (.bool b)/\Below w.heap.size w w':=by
 obtain⟨m0,m1,m2,m3,m4,m5,m6,m7,m8⟩:=m;simp only[Mem.val] at hq |-;have hb1:=zjB w (.cells #[.string m0,.int .i64 m1,.int .i64 m2,.int .i64 m3,.int .i64 m4,.slice m5 m6 m7] 46);have hrow:=zld w (.cells #[.string m0,.int .i64 m1,.int .i64 m2,.int .i64 m3,.int .i64 m4,.slice m5 m6 m7] 46);have hlt:g<w.heap.size:=World.block_lt_of_cell? _ _ hc;have hc1:=hb1.cell (p:=⟨g,0,none⟩) hlt;rw[hc] at hc1;go_enter func202,ntmps202;go_upto_region 1 with fail
 generalize w.alloc (.cells #[.string m0,.int .i64 m1,.int .i64 m2,.int .i64 m3,.int .i64 m4,.slice m5 m6 m7] 46)=w1 at *;have d0:=zjc w.heap.size 0 hrow;clear hrow hc;rcases b with _|_
 ·go_wp2_with fail
  go_ret
  exact⟨rfl,hb1⟩
 ·go_wp2_with fail
  go_ret
  exact⟨rfl,hb1⟩
theorem Qbw (K g:Nat)(A:Option Addr)(n c:Nat)(xs:List Mem)(s:ByteArray)(w:World)(h:RdM w K A n xs)(hK:K<=w.heap.size)(hn:n<=140737488355328)(hc:w.cell? ⟨g,0,none⟩=some (.string s)):
 Calls prog 201 #[.slice A n c,.func (.func 202) #[] #[.pointer (some ⟨g,0,none⟩)]] w fun e w'=>e=.returned (.int .i64 (qaz xs s))/\Below w.heap.size w w':=by
 have Hl:=hid h.1;have Hc:=hid hc;have hg:g<w.heap.size:=World.block_lt_of_cell? _ _ hc;clear hc;go_enter func201,ntmps201;go_wp2_with fail
 go_loopw [8] (fun iv W=>∃k:Nat,iv=.int .i64 (k:Int)/\k<=n/\Hid (∀j (h:j<xs.length),j<k->xs[j].name≠s)/\Below w.heap.size w W) (fun iv _=>n-(intOf iv).toNat)
 case atStart=>exact⟨0,rfl,by omega,hid (fun j _ hj=>by omega),Below.refl _ _⟩
 case round=>
  obtain⟨k,rfl,hk,hN,hb⟩:=hrel;by_cases hlt:k<n
  ·have hkl:k<xs.length:=by have:=Hl.out;omega
   have hki:(k:Int)<(n:Int):=by omega
   obtain⟨⟨b,o,rfl,hbK,hcell⟩,_,_⟩:=(h.below (hb.mono hK)).2 k hkl;have HC:=hid ((hb.cell (p:=⟨g,0,none⟩) hg).trans Hc.out);have hbs:=hb.size;by_cases hq:xs[k].name=s
   ·have hF:Hid (qaz xs s=(k:Int)):=hid (by unfold qaz;rw[qpv hkl hq hN.out]);have hq1:(xs[k].name.toList==s.toList)=true:=by rw[hq];simp
    have HF1:=hid (qvx xs[k] g s true wr HC.out hq1);clear hq hq1;generalize xs[k]=x at *;obtain⟨x0,x1,x2,x3,x4,x5,x6,x7,x8⟩:=x;obtain⟨p0,p1,p2,p3,p4,p5⟩:=hcell;simp only[Mem.val] at *;go_wp2_with fail
    refine HF1.out.mono ?_;rintro e w1 ⟨rfl,hb1⟩;clear HF1;go_wp2_with fail
    go_ret
    exact⟨by rw[hF.out];rfl,hb.trans (hb1.mono hbs)⟩
   ·have hN2:Hid (∀j (h:j<xs.length),j<k+1->xs[j].name≠s):=hid fun j hj hjk=>by
     by_cases e:j=k
     ·subst e;exact hq
     ·exact hN.out j hj (by omega)
    have hq1:(xs[k].name.toList==s.toList)=false:=by rw[zls];exact fun e=>hq (JN.qdk.1 e)
    have HF1:=hid (qvx xs[k] g s false wr HC.out hq1);clear hq hq1;generalize xs[k]=x at *;obtain⟨x0,x1,x2,x3,x4,x5,x6,x7,x8⟩:=x;obtain⟨p0,p1,p2,p3,p4,p5⟩:=hcell;simp only[Mem.val] at *;go_wp2_with fail
    refine HF1.out.mono ?_;rintro e w1 ⟨rfl,hb1⟩;have hb01:=hb.trans (hb1.mono hbs);clear HF1 hb1 hb p0 p1 p2 p3 p4 p5;go_wp2_with fail
    go_roundw
    ·exact⟨k+1,by go_num,by omega,hN2,hb01⟩
    ·simp[intOf];omega
  ·obtain rfl:k=n:=by omega
   have hki:¬(k:Int)<(k:Int):=by omega
   have hF:Hid (qaz xs s= -1):=hid (by unfold qaz;rw[qm4 fun j hj=>hN.out j hj (by have:=Hl.out;omega)]);go_wp2_with fail
   go_ret
   exact⟨by rw[hF.out];rfl,hb⟩
theorem qfi (K:Nat)(A:Option Addr)(n c:Nat)(xs:List Mem)(s:ByteArray)(w:World)(h:RdM w K A n xs)(hK:K<=w.heap.size)(hn:n<=140737488355328):
 Calls prog 162 #[.slice A n c,.string s] w fun e w'=>e=.returned (.int .i64 (qaz xs s))/\Below w.heap.size w w':=by
 have hb1:=zjB w (.cells #[.string s] 9);have hrow:=zld w (.cells #[.string s] 9);have HI:=hid (Qbw K w.heap.size A n c xs s _ (h.below (hb1.mono hK)) (Nat.le_trans hK hb1.size) hn (zlc _ w.heap.size 0 _ _ _ hrow));have hs1:=hb1.size;clear h hrow;go_enter func162,ntmps162;go_upto_region 1 with fail
 generalize w.alloc (.cells #[.string s] 9)=w1 at *;go_wp2_with fail
 refine HI.out.mono ?_;rintro e w2 ⟨rfl,hb2⟩;go_wp2_with fail
 go_ret
 exact⟨rfl,hb1.trans (hb2.mono hs1)⟩
end JE
end Go.Proofs.YtlmolmohhpdhdaaGreatDoor
