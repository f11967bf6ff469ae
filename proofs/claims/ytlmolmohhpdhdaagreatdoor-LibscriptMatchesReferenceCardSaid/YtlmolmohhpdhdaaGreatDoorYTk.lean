/-
  libscript: the program's map of forms;
-/
import Derived.Test.YtlmolmohhpdhdaaGreatDoorYTh
set_option maxRecDepth 100000
set_option maxHeartbeats 16000000
set_option linter.all false
namespace Go.Proofs.YtlmolmohhpdhdaaGreatDoor
open Go.RowKit Go.Proofs Tryz
namespace Lsc
open JB
open JN (bts str qac qaw qa2)
open JR (Mem ar)
open JL
def qg1:Array MapEntry:=#[⟨.string ⟨#[114]⟩,.agg #[.int .u8 114,.int .i64 2,.bool true,fnV 48],0⟩,⟨.string ⟨#[113]⟩,.agg #[.int .u8 113,.int .i64 2,.bool false,fnV 48],1⟩,⟨.string ⟨#[100]⟩,.agg #[.int .u8 100,.int .i64 1,.bool false,fnV 48],2⟩,⟨.string ⟨#[109]⟩,.agg #[.int .u8 109,.int .i64 1,.bool true,fnV 48],3⟩,⟨.string ⟨#[120]⟩,.agg #[.int .u8 120,.int .i64 1,.bool false,fnV 49],4⟩,⟨.string ⟨#[116]⟩,.agg #[.int .u8 116,.int .i64 0,.bool false,fnV 50],5⟩]
theorem qgj:prog.underlying 80=some (.map 9 52):=by kernel_rfl
theorem qry (w:World):Calls prog 30 #[] w fun e w'=>∃b,e=.returned (.map (some b))/\w'.heap[b]?=some (.map qg1 6)/\Below w.heap.size w w':=by
 have Xb:=@run_makeMap prog;have Xa:=zjB w (.map #[] 0);have r0:=zld w (.map #[] 0);obtain⟨w1,h1,r1,b1⟩:=qem (z:=.string ⟨#[114]⟩) qgj underlying9 r0 trivial (.agg #[.int .u8 114,.int .i64 2,.bool true,fnV 48]) rfl;obtain⟨w2,h2,r2,b2⟩:=qem (z:=.string ⟨#[113]⟩) qgj underlying9 r1 trivial (.agg #[.int .u8 113,.int .i64 2,.bool false,fnV 48]) rfl;obtain⟨w3,h3,r3,b3⟩:=qem (z:=.string ⟨#[100]⟩) qgj underlying9 r2 trivial (.agg #[.int .u8 100,.int .i64 1,.bool false,fnV 48]) rfl;obtain⟨w4,h4,r4,b4⟩:=qem (z:=.string ⟨#[109]⟩) qgj underlying9 r3 trivial (.agg #[.int .u8 109,.int .i64 1,.bool true,fnV 48]) rfl;obtain⟨w5,h5,r5,b5⟩:=qem (z:=.string ⟨#[120]⟩) qgj underlying9 r4 trivial (.agg #[.int .u8 120,.int .i64 1,.bool false,fnV 49]) rfl;obtain⟨w6,h6,r6,b6⟩:=qem (z:=.string ⟨#[116]⟩) qgj underlying9 r5 trivial (.agg #[.int .u8 116,.int .i64 0,.bool false,fnV 50]) rfl;have hb:Below w.heap.size w w6:=((((((Xa.trans (b1 _ zjn)).trans (b2 _ zjn)).trans (b3 _ zjn)).trans (b4 _ zjn)).trans (b5 _ zjn)).trans (b6 _ zjn));have HR:Hid (w6.heap[w.heap.size]?=some (.map qg1 6)):=hid r6;clear r0 r1 r2 r3 r4 r5 r6 b1 b2 b3 b4 b5 b6 Xa;unfold fnV at h1 h2 h3 h4 h5 h6;go_enter func30,ntmps30;go_wp2_with fail
 go_ret
 exact⟨_,rfl,HR.out,hb⟩
theorem qy9 (ov kv:Int)(p:Bool)(G:FuncId)(K:Nat)(A:Option Addr)(n c:Nat)(ws:List ByteArray)(w:World)(h:JS.Rd w K A n ws)(hK:K<=w.heap.size)(hn:n<=100000):
 Calls prog 31 #[.agg #[.int .u8 ov,.int .i64 kv,.bool p,fnV G],.slice A n c] w fun e w'=>e=.returned (.tuple #[plaO (plW p ws),.bool (plW p ws).isSome])/\Below w.heap.size w w':=by
 have Hl:=hid h.1;obtain⟨w1,e1,Xc,Xb,Xa,Xd⟩:=qda w (.cells #[.int .u8 ov,.int .i64 kv,.bool p,fnV G] 52) (.cells #[.int .i64 0,.string ⟨#[]⟩] 54);have H1:=hid (h.below (Xc.mono hK));unfold fnV at e1 Xb |-;clear h;go_enter func31,ntmps31;go_upto_region 1 with fail
 rw[<-e1];clear e1;obtain⟨g,hg⟩:∃g,w.heap.size=g:=⟨_,rfl⟩;have HB:=hid fun (v0 v1:Value)=>qct (Nat.le_succ w.heap.size) [v0,v1] 0 _ Xc;have HG:=hid hg;rw[hg] at Xa Xd Xb |-;have HL:=hid fun (v0 v1:Value)=>run_loadVar_row (P:=prog) _ (g+1) 54 54 #[v0,v1] (0,0) _ (qeg [v0,v1] [.int .i64 0,.string ⟨#[]⟩] w1 rfl Xa) underlying54 rfl (by kernel_rfl);have e0:=zjc (g+1) 0 Xa;have e1:=zjc (g+1) 1 Xa;have d2:=zjc g 2 Xb;have fw:∀o,w1.frozen? ⟨g+1,o,none⟩=false:=fun o=>zlp _ _ o _ _ Xa;clear Xa Xc Xd hg Xb;rcases ws with _|⟨b,_|⟨a,_|⟨x,r⟩⟩⟩
 ·obtain rfl:n=0:=Hl.out.symm;have hl:=HL.out (.int .i64 0) (.string ⟨#[]⟩);simp only[qcy,Nat.reduceAdd] at hl;go_wp2_with fail
  exact zlf (v:=.tuple #[.agg #[.int .i64 0,.string ⟨#[]⟩],.bool true]) (by simp[results,results31,asAddr,hl]) rfl ⟨rfl,by have:=HB.out;rw[HG.out] at this;rw[HG.out];exact this _ _⟩
 ·obtain rfl:n=1:=Hl.out.symm;have hl:=HL.out (.int .i64 0) (.string ⟨#[]⟩);simp only[qcy,Nat.reduceAdd] at hl;cases p;all_goals go_wp2_with fail
  all_goals exact zlf (v:=.tuple #[.agg #[.int .i64 0,.string ⟨#[]⟩],.bool false]) (by simp[results,results31,asAddr,hl]) rfl ⟨rfl,by have:=HB.out;rw[HG.out] at this;rw[HG.out];exact this _ _⟩
 ·obtain rfl:n=2:=Hl.out.symm;obtain⟨b',o,rfl,Xe,c0⟩:=H1.out.2 0 (by simp);obtain⟨b2,o2,e2,Xg,c1⟩:=H1.out.2 1 (by simp);injection e2 with e2;injection e2 with e21 e22;subst e21 e22;simp only[zlH,List.getElem_cons_succ,Nat.add_zero] at c0 c1;have Hd:=hid (show plW true [b,a]=if b=befN then some (1,a) else if b=aftN then some (2,a) else none from by simp[plW]);cases p
  ·have hl:=HL.out (.int .i64 0) (.string ⟨#[]⟩);simp only[qcy,Nat.reduceAdd] at hl;have HD:=hid (show plW false [b,a]=none from by simp[plW]);go_wp2_with fail
   exact zlf (v:=.tuple #[.agg #[.int .i64 0,.string ⟨#[]⟩],.bool false]) (by simp[results,results31,asAddr,hl]) rfl ⟨by rw[HD.out];rfl,by have:=HB.out;rw[HG.out] at this;rw[HG.out];exact this _ _⟩
  by_cases q1:b=befN
  ·have t1:(b.toList==[98,101,102,111,114,101])=true:=by rw[q1,bef_l];rfl
   have HD:=hid (Hd.out.trans (if_pos q1));clear q1;have hl:=HL.out (.int .i64 1) (.string a);simp only[qcy,Nat.reduceAdd] at hl;go_wp2_with fail
   exact zlf (v:=.tuple #[.agg #[.int .i64 1,.string a],.bool true]) (by simp[results,results31,asAddr,hl]) rfl ⟨by rw[HD.out];rfl,by have:=HB.out;rw[HG.out] at this;rw[HG.out];exact this _ _⟩
  ·have t1:(b.toList==[98,101,102,111,114,101])=false:=by rw[zls];exact fun e=>q1 (JN.qdk.1 (e.trans bef_l.symm))
   by_cases q2:b=aftN
   ·have t2:(b.toList==[97,102,116,101,114])=true:=by rw[q2,aft_l];rfl
    have HD:=hid (Hd.out.trans ((if_neg q1).trans (if_pos q2)));clear q1 q2;have hl:=HL.out (.int .i64 2) (.string a);simp only[qcy,Nat.reduceAdd] at hl;go_wp2_with fail
    exact zlf (v:=.tuple #[.agg #[.int .i64 2,.string a],.bool true]) (by simp[results,results31,asAddr,hl]) rfl ⟨by rw[HD.out];rfl,by have:=HB.out;rw[HG.out] at this;rw[HG.out];exact this _ _⟩
   ·have t2:(b.toList==[97,102,116,101,114])=false:=by rw[zls];exact fun e=>q2 (JN.qdk.1 (e.trans aft_l.symm))
    have HD:=hid (Hd.out.trans ((if_neg q1).trans (if_neg q2)));clear q1 q2;have hl:=HL.out (.int .i64 0) (.string ⟨#[]⟩);simp only[qcy,Nat.reduceAdd] at hl;go_wp2_with fail
    exact zlf (v:=.tuple #[.agg #[.int .i64 0,.string ⟨#[]⟩],.bool false]) (by simp[results,results31,asAddr,hl]) rfl ⟨by rw[HD.out];rfl,by have:=HB.out;rw[HG.out] at this;rw[HG.out];exact this _ _⟩
 ·have Xh:((n:Int)==0)=false:=by rw[zls];have:=Hl.out;simp at this;omega
  have Xf:((n:Int) !=2)=true:=by rw[bne_iff_ne];have:=Hl.out;simp at this;omega
  have hl:=HL.out (.int .i64 0) (.string ⟨#[]⟩);simp only[qcy,Nat.reduceAdd] at hl;cases p;all_goals go_wp2_with fail
  all_goals exact zlf (v:=.tuple #[.agg #[.int .i64 0,.string ⟨#[]⟩],.bool false]) (by simp[results,results31,asAddr,hl]) rfl ⟨rfl,by have:=HB.out;rw[HG.out] at this;rw[HG.out];exact this _ _⟩
theorem Qfw (s t:ByteArray)(P:Option Addr)(l k g:Nat)(A:Option Addr)(n c:Nat)(q:Bool)(w:World)(hc:w.cell? ⟨g,0,none⟩=some (.slice A n c))(h1:1<n)(ht:∃b o:Nat,A=some ⟨b,o,none⟩/\w.cell? ⟨b,o+1,none⟩=some (.string t))(hq:(s.toList==t.toList)=q):
 Calls prog 52 #[.agg #[.string s,.slice P l k],.pointer (some ⟨g,0,none⟩)] w fun e w'=>e=.returned (.bool q)/\Below w.heap.size w w':=by
 have Xb:=zjB w (.cells #[.string s,.slice P l k] 41);have Xa:=zld w (.cells #[.string s,.slice P l k] 41);have Xc:g<w.heap.size:=World.block_lt_of_cell? _ _ hc;have Xd:=Xb.cell (p:=⟨g,0,none⟩) Xc;rw[hc] at Xd;obtain⟨b,o,rfl,ht⟩:=ht;have Xe:=Xb.cell (p:=⟨b,o+1,none⟩) (World.block_lt_of_cell? _ _ ht);rw[ht] at Xe;have Xf:(1:Int)<(n:Int):=by omega
 go_enter func52,ntmps52;go_upto_region 1 with fail
 generalize w.alloc (.cells #[.string s,.slice P l k] 41)=w1 at *;have d0:=zjc w.heap.size 0 Xa;have HB:=hid Xb;clear Xa hc ht Xb;go_quiet (fail)
 go_wp2_with fail
 go_ret
 exact⟨rfl,Below.trans HB.out (JD.qa0 _ _)⟩
theorem Qc3 (K g:Nat)(A:Option Addr)(n c:Nat)(xs:List Mem)(W0:Option Addr)(m d:Nat)(t:ByteArray)(w:World)(h:RdF w K A n xs)(hK:K<=w.heap.size)(hn:n<=140737488355328)(hc:w.cell? ⟨g,0,none⟩=some (.slice W0 m d))(hm:1<m)(ht:∃b o:Nat,W0=some ⟨b,o,none⟩/\w.cell? ⟨b,o+1,none⟩=some (.string t)):
 Calls prog 51 #[.slice A n c,.func (.func 52) #[] #[.pointer (some ⟨g,0,none⟩)]] w fun e w'=>e=.returned (.int .i64 (qu2 xs t))/\Below w.heap.size w w':=by
 have Hl:=hid h.1;have Hm:=hid hm;have HT:=hid fun (W:World) (hb:Below w.heap.size w W)=>(show W.cell? ⟨g,0,none⟩=some (.slice W0 m d)/\∃b o:Nat,W0=some ⟨b,o,none⟩/\W.cell? ⟨b,o+1,none⟩=some (.string t) from ⟨(hb.cell (p:=⟨g,0,none⟩) (World.block_lt_of_cell? _ _ hc)).trans hc,by obtain⟨b,o,e,h2⟩:=ht;exact⟨b,o,e,(hb.cell (p:=⟨b,o+1,none⟩) (World.block_lt_of_cell? _ _ h2)).trans h2⟩⟩);clear hc ht hm;go_enter func51,ntmps51;go_wp2_with fail
 go_loopw [8] (fun iv W=>∃k:Nat,iv=.int .i64 (k:Int)/\k<=n/\Hid (∀j (h:j<xs.length),j<k->xs[j].name≠t)/\Below w.heap.size w W) (fun iv _=>n-(intOf iv).toNat)
 case atStart=>exact⟨0,rfl,by omega,hid (fun j _ hj=>by omega),Below.refl _ _⟩
 case round=>
  obtain⟨k,rfl,hk,hN,hb⟩:=hrel;by_cases hlt:k<n
  ·have Xe:k<xs.length:=by have:=Hl.out;omega
   have Xg:(k:Int)<(n:Int):=by omega
   obtain⟨⟨b,o,rfl,Xh,p0,p1⟩,_⟩:=(h.below (hb.mono hK)).2 k Xe;have HC:=hid (HT.out wr hb);have Xd:=hb.size;obtain⟨q,hq⟩:∃q,(xs[k].name.toList==t.toList)=q:=⟨_,rfl⟩;have Xa:=hid (Qfw xs[k].name t xs[k].ptr xs[k].len xs[k].cap g W0 m d q wr HC.out.1 Hm.out HC.out.2 hq);rcases q with _|_
   ·have Xf:Hid (∀j (h:j<xs.length),j<k+1->xs[j].name≠t):=hid fun j hj hjk=>by
     by_cases e:j=k
     ·subst e;intro e2;rw[e2] at hq;simp at hq
     ·exact hN.out j hj (by omega)
    clear hq;generalize xs[k].name=nm at *;generalize xs[k].ptr=pp at *;generalize xs[k].len=pl at *;generalize xs[k].cap=pc at *;go_wp2_with fail
    refine Xa.out.mono ?_;rintro e w1 ⟨rfl,Xb⟩;have Xc:=hb.trans (Xb.mono Xd);clear Xa Xb hb p0 p1 HC;go_wp2_with fail
    go_roundw
    ·exact⟨k+1,by go_num,by omega,Xf,Xc⟩
    ·simp[intOf];omega
   ·have hF:Hid (qu2 xs t=(k:Int)):=hid (by unfold qu2;rw[qtj Xe (JN.qdk.1 (by simpa using hq)) hN.out]);clear hq;generalize xs[k].name=nm at *;generalize xs[k].ptr=pp at *;generalize xs[k].len=pl at *;generalize xs[k].cap=pc at *;go_wp2_with fail
    refine Xa.out.mono ?_;rintro e w1 ⟨rfl,Xb⟩;clear Xa;go_wp2_with fail
    go_ret
    exact⟨by rw[hF.out];rfl,hb.trans (Xb.mono Xd)⟩
  ·obtain rfl:k=n:=by omega
   have Xg:¬(k:Int)<(k:Int):=by omega
   have hF:Hid (qu2 xs t= -1):=hid (by unfold qu2;rw[qq3 fun j hj=>hN.out j hj (by have:=Hl.out;omega)]);go_wp2_with fail
   go_ret
   exact⟨by rw[hF.out];rfl,hb⟩
def Qfx (o:Option Mem)(op:UInt8)(nm:ByteArray)(z:Int)(a:ByteArray):Cmd×Int:=match o with|none=>(qZ,15)|some x=>(qW op nm x z a,0)
def CmdQ (x:Cmd×Int)(w:World)(e:Ending)(w':World):Prop:=
 ∃q:Cmd,e=.returned (.tuple #[q.val,.int .i64 x.2])/\(x.2=0->q=x.1)/\Below w.heap.size w w'
theorem nW_cases (op:UInt8):nW op=0∨nW op=1∨nW op=2:=by
 unfold nW;split
 ·exact .inl rfl
 ·split
  ·exact .inr (.inr rfl)
  ·exact .inr (.inl rfl)
theorem qrz {W:World}{B:Nat}{cs:Array Value}(h:W.heap[B]?=some (.cells cs 56 (0,0)))(hs:cs.size=10):(loadVar 56 ⟨B,0,none⟩).run prog W=.ok (.agg cs) W:=
 run_loadVar_row _ B 56 56 cs (0,0) _ h underlying56 rfl (by rw[hs];kernel_rfl)
structure StP (w W0 W:World) (g u:Nat) (cs:Array Value):Prop where
 b:Below w.heap.size w W
 k:Below u W0 W
 l:w.heap.size<=g
 lt:g<u
 s:u<W.heap.size
 z:cs.size=10
 r0:W.heap[g]?=some (.cells #[.int .u8 0,.string ⟨#[]⟩,.int .i64 0,.int .i64 0,.int .i64 0,.int .i64 0,.slice none 0 0,.string ⟨#[]⟩,.int .i64 0,.string ⟨#[]⟩] 56 (0,0))
 r1:W.heap[u]?=some (.cells cs 56 (0,0))
theorem StP.on {w W0 W W':World}{g u:Nat}{cs:Array Value}(h:StP w W0 W g u cs)(hb:Below W.heap.size W W'):StP w W0 W' g u cs:=
 ⟨h.b.trans (hb.mono h.b.size),h.k.trans (hb.mono (Nat.le_of_lt h.s)),h.l,h.lt,by have:=h.s;have:=hb.size;omega,h.z,(hb.block g (by have:=h.s;have:=h.lt;omega)).trans h.r0,(hb.block u h.s).trans h.r1⟩
theorem StP.put {w W0 W:World}{g u:Nat}{cs:Array Value}(h:StP w W0 W g u cs)(k:Nat)(v:Value):StP w W0 (W.setCell ⟨u,k,none⟩ v) g u (cs.setIfInBounds k v):=
 ⟨h.b.setCell (p:=⟨u,k,none⟩) (by have:=h.l;have:=h.lt;show w.heap.size<=u;omega) v,h.k.setCell (p:=⟨u,k,none⟩) zjn v,h.l,h.lt,by rw[World.size_setCell];exact h.s,by rw[Array.size_setIfInBounds];exact h.z,(zly _ ⟨u,k,none⟩ _ g (by have:=h.lt;show g≠u;omega)).trans h.r0,zle W u k _ _ v h.r1⟩
theorem StP.at_ {w W0 W:World}{g u:Nat}{cs cs':Array Value}(h:StP w W0 W g u cs)(e:cs=cs'):StP w W0 W g u cs':=e ▸ h
theorem StP.load {w W0 W:World}{g u:Nat}{cs:Array Value}(h:StP w W0 W g u cs):(loadVar 56 ⟨u,0,none⟩).run prog W=.ok (.agg cs) W:=qrz h.r1 h.z
theorem StP.fin {w W0 W:World}{g u:Nat}{cs ds:Array Value}(h:StP w W0 W g u cs)(hd:ds.size=10):(loadVar 56 ⟨g,0,none⟩).run prog (qcy W g 0 ds.toList)=.ok (.agg ds) (qcy W g 0 ds.toList)/\Below w.heap.size w (qcy W g 0 ds.toList):=
 ⟨qrz (qeg ds.toList [.int .u8 0,.string ⟨#[]⟩,.int .i64 0,.int .i64 0,.int .i64 0,.int .i64 0,.slice none 0 0,.string ⟨#[]⟩,.int .i64 0,.string ⟨#[]⟩] W (by simp[hd]) h.r0) hd,qct h.l _ _ _ h.b⟩
theorem qw8 (op:UInt8)(kv z:Int)(p:Bool)(G:FuncId)(a:ByteArray)(K:Nat)(A:Option Addr)(n c:Nat)(r:List ByteArray)(F:Option Addr)(fn fc:Nat)(fs:List Mem)(w:World)(hkv:kv=(nW op:Int))(hf:RdF w K F fn fs)(h:JS.Rd w K A n r)(hK:K<=w.heap.size)(hn:n<=100000)(hnn:nW op<=n)(h0:nW op=0->r=[])(hfn:fn<=1000):
 Calls prog 32 #[.agg #[.int .u8 (op.toNat:Int),.int .i64 kv,.bool p,fnV G],.slice A n c,.agg #[.int .i64 z,.string a],.slice F fn fc] w (CmdQ (Qfx (qen fs op r) op (atW r 0) z a) w):=by
 have Hl:=hid h.1;have HF:=hid fun (W:World) (hW:Below w.heap.size w W)=>hf.below (hW.mono hK);have HW:=hid fun (W:World) (hW:Below w.heap.size w W)=>h.below (hW.mono hK);have Xg:=hid hkv;have Xa:=hid hnn;have H0:=hid h0;obtain⟨w1,e1,Xm,Xf,Xk,Xq⟩:=qda w (.cells #[.int .u8 (op.toNat:Int),.int .i64 kv,.bool p,fnV G] 52) (.cells #[.slice A n c] 26);obtain⟨w2,e2,Xb,Xh,Xp,Xn⟩:=qda w1 (.cells #[.int .i64 z,.string a] 54) (.cells #[.int .u8 0,.string ⟨#[]⟩,.int .i64 0,.int .i64 0,.int .i64 0,.int .i64 0,.slice none 0 0,.string ⟨#[]⟩,.int .i64 0,.string ⟨#[]⟩] 56);unfold fnV at e1 Xf |-;clear hf h hkv hnn h0;go_enter func32,ntmps32;go_upto_region 1 with fail
 rw[<-e1,<-e2];clear e1 e2;have ba:=(Below.refl w2.heap.size w2).alloc zjn (.cells #[.int .u8 (op.toNat:Int),.string ⟨#[]⟩,.int .i64 0,.int .i64 0,.int .i64 0,.int .i64 0,.slice none 0 0,.string ⟨#[]⟩,.int .i64 z,.string a] 56);have ha:=zld w2 (.cells #[.int .u8 (op.toNat:Int),.string ⟨#[]⟩,.int .i64 0,.int .i64 0,.int .i64 0,.int .i64 0,.slice none 0 0,.string ⟨#[]⟩,.int .i64 z,.string a] 56);have sa:=zlr w2 (.cells #[.int .u8 (op.toNat:Int),.string ⟨#[]⟩,.int .i64 0,.int .i64 0,.int .i64 0,.int .i64 0,.slice none 0 0,.string ⟨#[]⟩,.int .i64 z,.string a] 56);obtain⟨g,hg⟩:∃g,w.heap.size=g:=⟨_,rfl⟩;have HG:=hid hg;have Xd:=Xm.trans (Xb.mono Xm.size);rw[hg] at Xf Xk Xq;rw[Xq] at Xb Xh Xp Xn;rw[Xn] at ba ha sa;have g0:=zlc _ g 0 _ _ _ ((Xb.block g (by omega)).trans Xf);have Xu:=fun k=>zjc (g+2) k Xh;have Xv:=run_loadVar_row (P:=prog) _ _ 54 54 _ (0,0) _ Xh underlying54 rfl (by kernel_rfl);rw[hg];go_upto_region 2 with fail
 simp only[Nat.add_assoc,Nat.reduceAdd];clear g0 Xu Xv;generalize w2.alloc (.cells #[.int .u8 (op.toNat:Int),.string ⟨#[]⟩,.int .i64 0,.int .i64 0,.int .i64 0,.int .i64 0,.slice none 0 0,.string ⟨#[]⟩,.int .i64 z,.string a] 56)=w3 at *;have HS:Hid (StP w w3 w3 (g+3) (g+4) #[.int .u8 (op.toNat:Int),.string ⟨#[]⟩,.int .i64 0,.int .i64 0,.int .i64 0,.int .i64 0,.slice none 0 0,.string ⟨#[]⟩,.int .i64 z,.string a]):=hid ⟨Xd.trans (ba.mono (by omega)),Below.refl _ _,by omega,by omega,by omega,rfl,(ba.block (g+3) (by omega)).trans Xp,ha⟩;have HC:=hid fun (W:World) (h:Below (g+4) w3 W)=>(⟨(h.block g (by omega)).trans ((ba.block g (by omega)).trans ((Xb.block g (by omega)).trans Xf)),(h.block (g+1) (by omega)).trans ((ba.block (g+1) (by omega)).trans ((Xb.block (g+1) (by omega)).trans Xk))⟩:_/\_);clear Xm Xf Xk Xq Xb Xh Xp Xn ba ha sa Xd hg;have g1:=zlc _ g 1 _ _ _ (HC.out w3 HS.out.k).1;rcases nW_cases op with hN|hN|hN
 ·obtain rfl:kv=0:=by rw[Xg.out,hN];rfl
  have HX:Hid (Qfx (qen fs op r) op (atW r 0) z a=(qW op eN zM z a,0)):=hid (by rw[qni (by omega),H0.out hN];rfl);have Xc:Hid (qW op eN zM z a=⟨op,zM,eN,z,a⟩):=hid (by unfold qW;rw[if_neg (by omega)];rfl);clear hN Xg H0 Xa HC;have Xj:=HS.out.load;have hl:=(HS.out.fin (ds:=#[.int .u8 (op.toNat:Int),.string ⟨#[]⟩,.int .i64 0,.int .i64 0,.int .i64 0,.int .i64 0,.slice none 0 0,.string ⟨#[]⟩,.int .i64 z,.string a]) rfl).1;have HB:=hid (HS.out.fin (ds:=#[.int .u8 (op.toNat:Int),.string ⟨#[]⟩,.int .i64 0,.int .i64 0,.int .i64 0,.int .i64 0,.slice none 0 0,.string ⟨#[]⟩,.int .i64 z,.string a]) rfl).2;simp only[qcy,Nat.reduceAdd] at hl HB;have e0:=zjc (g+3) 0 HS.out.r0;have e1:=zjc (g+3) 1 HS.out.r0;have e2:=zjc (g+3) 2 HS.out.r0;have e3:=zjc (g+3) 3 HS.out.r0;have e4:=zjc (g+3) 4 HS.out.r0;have e5:=zjc (g+3) 5 HS.out.r0;have e6:=zjc (g+3) 6 HS.out.r0;have e7:=zjc (g+3) 7 HS.out.r0;have e8:=zjc (g+3) 8 HS.out.r0;have e9:=zjc (g+3) 9 HS.out.r0;have x0:=zjc (g+4) 0 HS.out.r1;have x1:=zjc (g+4) 1 HS.out.r1;have x2:=zjc (g+4) 2 HS.out.r1;have x3:=zjc (g+4) 3 HS.out.r1;have x4:=zjc (g+4) 4 HS.out.r1;have x5:=zjc (g+4) 5 HS.out.r1;have x6:=zjc (g+4) 6 HS.out.r1;have x7:=zjc (g+4) 7 HS.out.r1;have x8:=zjc (g+4) 8 HS.out.r1;have x9:=zjc (g+4) 9 HS.out.r1;have fw:∀o,w3.frozen? ⟨g+3,o,none⟩=false:=fun o=>zlp _ _ o _ _ HS.out.r0;have HP:=hid (show CmdQ (Qfx (qen fs op r) op (atW r 0) z a) w (.returned (.tuple #[.agg #[.int .u8 (op.toNat:Int),.string ⟨#[]⟩,.int .i64 0,.int .i64 0,.int .i64 0,.int .i64 0,.slice none 0 0,.string ⟨#[]⟩,.int .i64 z,.string a],.int .i64 0])) _ from ⟨⟨op,zM,eN,z,a⟩,by rw[HX.out];rfl,fun _=>by rw[HX.out];exact Xc.out.symm,HB.out⟩);clear HS HB HX HF HW;go_wp2_with fail
  exact zlf (v:=.tuple #[.agg #[.int .u8 (op.toNat:Int),.string ⟨#[]⟩,.int .i64 0,.int .i64 0,.int .i64 0,.int .i64 0,.slice none 0 0,.string ⟨#[]⟩,.int .i64 z,.string a],.int .i64 0]) (by simp[results,results32,asAddr,hl]) rfl HP.out
 all_goals
  have Yb:0<n:=by have:=Xa.out;omega
  obtain⟨nm,r2,Xz⟩:∃nm r2,r=nm::r2:=List.exists_cons_of_ne_nil (fun e=>by have:=Hl.out;rw[e] at this;simp at this;omega);subst Xz
  have c1:∃b o:Nat,A=some ⟨b,o,none⟩/\w3.cell? ⟨b,o,none⟩=some (.string nm):=by
   obtain⟨b1,o1,e1,_,h1⟩:=(HW.out w3 HS.out.b).2 0 (by simp);exact⟨b1,o1,e1,h1⟩
  obtain⟨b0,o0,rfl,c0⟩:=c1;have Xt:=zlc _ (g+1) 0 _ _ _ (HC.out w3 HS.out.k).2;have x7:=zjc (g+4) 7 HS.out.r1;have fx:∀o,w3.frozen? ⟨g+4,o,none⟩=false:=fun o=>zlp _ _ o _ _ HS.out.r1;have Ya:(0:Int)<(n:Int):=by omega
  have HN:=hid hN;have Xs:=Xg.out;rw[hN] at Xs;subst Xs;clear hN Xg H0;have Xe:=hid (HS.out.put 7 (.string nm));go_upto_region 4 with fail
  generalize w3.setCell ⟨g+4,7,none⟩ (.string nm)=w4 at *;replace HS:=hid (Xe.out.at_ (show _=#[.int .u8 (op.toNat:Int),.string ⟨#[]⟩,.int .i64 0,.int .i64 0,.int .i64 0,.int .i64 0,.slice none 0 0,.string nm,.int .i64 z,.string a] from rfl));clear Xe x7 fx c0 Xt g1;have g1:=zlc _ g 1 _ _ _ (HC.out w4 HS.out.k).1
 ·have HX:Hid (Qfx (qen fs op (nm::r2)) op (atW (nm::r2) 0) z a=(qW op nm zM z a,0)):=hid (by rw[qni (by rw[HN.out];decide)];rfl);have Xc:Hid (qW op nm zM z a=⟨op,zM,nm,z,a⟩):=hid (by unfold qW;rw[if_neg (by rw[HN.out];decide)];rfl);clear HC Xa HN;have Xj:=HS.out.load;have hl:=(HS.out.fin (ds:=#[.int .u8 (op.toNat:Int),.string ⟨#[]⟩,.int .i64 0,.int .i64 0,.int .i64 0,.int .i64 0,.slice none 0 0,.string nm,.int .i64 z,.string a]) rfl).1;have HB:=hid (HS.out.fin (ds:=#[.int .u8 (op.toNat:Int),.string ⟨#[]⟩,.int .i64 0,.int .i64 0,.int .i64 0,.int .i64 0,.slice none 0 0,.string nm,.int .i64 z,.string a]) rfl).2;simp only[qcy,Nat.reduceAdd] at hl HB;have e0:=zjc (g+3) 0 HS.out.r0;have e1:=zjc (g+3) 1 HS.out.r0;have e2:=zjc (g+3) 2 HS.out.r0;have e3:=zjc (g+3) 3 HS.out.r0;have e4:=zjc (g+3) 4 HS.out.r0;have e5:=zjc (g+3) 5 HS.out.r0;have e6:=zjc (g+3) 6 HS.out.r0;have e7:=zjc (g+3) 7 HS.out.r0;have e8:=zjc (g+3) 8 HS.out.r0;have e9:=zjc (g+3) 9 HS.out.r0;have x0:=zjc (g+4) 0 HS.out.r1;have x1:=zjc (g+4) 1 HS.out.r1;have x2:=zjc (g+4) 2 HS.out.r1;have x3:=zjc (g+4) 3 HS.out.r1;have x4:=zjc (g+4) 4 HS.out.r1;have x5:=zjc (g+4) 5 HS.out.r1;have x6:=zjc (g+4) 6 HS.out.r1;have x7:=zjc (g+4) 7 HS.out.r1;have x8:=zjc (g+4) 8 HS.out.r1;have x9:=zjc (g+4) 9 HS.out.r1;have fw:∀o,w4.frozen? ⟨g+3,o,none⟩=false:=fun o=>zlp _ _ o _ _ HS.out.r0;have HP:=hid (show CmdQ (Qfx (qen fs op (nm::r2)) op (atW (nm::r2) 0) z a) w (.returned (.tuple #[.agg #[.int .u8 (op.toNat:Int),.string ⟨#[]⟩,.int .i64 0,.int .i64 0,.int .i64 0,.int .i64 0,.slice none 0 0,.string nm,.int .i64 z,.string a],.int .i64 0])) _ from ⟨⟨op,zM,nm,z,a⟩,by rw[HX.out];rfl,fun _=>by rw[HX.out];exact Xc.out.symm,HB.out⟩);clear HS HB HX HF HW;go_wp2_with fail
  exact zlf (v:=.tuple #[.agg #[.int .u8 (op.toNat:Int),.string ⟨#[]⟩,.int .i64 0,.int .i64 0,.int .i64 0,.int .i64 0,.slice none 0 0,.string nm,.int .i64 z,.string a],.int .i64 0]) (by simp[results,results32,asAddr,hl]) rfl HP.out
 ·have Xy:1<n:=by have:=Xa.out;have:=HN.out;omega
  obtain⟨f,r3,Xx⟩:∃f r3,r2=f::r3:=List.exists_cons_of_ne_nil (fun e=>by have:=Hl.out;rw[e] at this;simp at this;omega);subst Xx
  have c1:w4.cell? ⟨b0,o0+1,none⟩=some (.string f):=by
   obtain⟨b1,o1,e1,_,h1⟩:=(HW.out w4 HS.out.b).2 1 (by simp);injection e1 with e1;injection e1 with e2 e3;rw[e2,e3];exact h1
  have Xr:=hid (Qc3 K (g+1) F fn fc fs (some ⟨b0,o0,none⟩) n c f w4 (HF.out w4 HS.out.b) (Nat.le_trans hK HS.out.b.size) (by omega) (zlc _ (g+1) 0 _ _ _ (HC.out w4 HS.out.k).2) Xy ⟨b0,o0,rfl,c1⟩);clear c1;go_wp2_with fail
  refine Xr.out.mono ?_;rintro e w5 ⟨rfl,b5⟩;replace HS:=hid (HS.out.on b5);clear Xr b5 g1 HC
  cases hfi:qwz fs f with
  |none=>
   have e1:qu2 fs f= -1:=by unfold qu2;rw[hfi]
   rw[e1];have HX:Hid (Qfx (qen fs op (nm::f::r3)) op (atW (nm::f::r3) 0) z a=(qZ,15)):=hid (by rw[qs3 HN.out hfi];rfl);clear hfi e1 HN Xa;have Xj:=HS.out.load;have hl:=(HS.out.fin (ds:=#[.int .u8 0,.string ⟨#[]⟩,.int .i64 0,.int .i64 0,.int .i64 0,.int .i64 0,.slice none 0 0,.string ⟨#[]⟩,.int .i64 0,.string ⟨#[]⟩]) rfl).1;have HB:=hid (HS.out.fin (ds:=#[.int .u8 0,.string ⟨#[]⟩,.int .i64 0,.int .i64 0,.int .i64 0,.int .i64 0,.slice none 0 0,.string ⟨#[]⟩,.int .i64 0,.string ⟨#[]⟩]) rfl).2;simp only[qcy,Nat.reduceAdd] at hl HB;have e0:=zjc (g+3) 0 HS.out.r0;have e1:=zjc (g+3) 1 HS.out.r0;have e2:=zjc (g+3) 2 HS.out.r0;have e3:=zjc (g+3) 3 HS.out.r0;have e4:=zjc (g+3) 4 HS.out.r0;have e5:=zjc (g+3) 5 HS.out.r0;have e6:=zjc (g+3) 6 HS.out.r0;have e7:=zjc (g+3) 7 HS.out.r0;have e8:=zjc (g+3) 8 HS.out.r0;have e9:=zjc (g+3) 9 HS.out.r0;have x0:=zjc (g+4) 0 HS.out.r1;have x1:=zjc (g+4) 1 HS.out.r1;have x2:=zjc (g+4) 2 HS.out.r1;have x3:=zjc (g+4) 3 HS.out.r1;have x4:=zjc (g+4) 4 HS.out.r1;have x5:=zjc (g+4) 5 HS.out.r1;have x6:=zjc (g+4) 6 HS.out.r1;have x7:=zjc (g+4) 7 HS.out.r1;have x8:=zjc (g+4) 8 HS.out.r1;have x9:=zjc (g+4) 9 HS.out.r1;have fw:∀o,w5.frozen? ⟨g+3,o,none⟩=false:=fun o=>zlp _ _ o _ _ HS.out.r0;have HP:=hid (show CmdQ (Qfx (qen fs op (nm::f::r3)) op (atW (nm::f::r3) 0) z a) w (.returned (.tuple #[.agg #[.int .u8 0,.string ⟨#[]⟩,.int .i64 0,.int .i64 0,.int .i64 0,.int .i64 0,.slice none 0 0,.string ⟨#[]⟩,.int .i64 0,.string ⟨#[]⟩],.int .i64 15])) _ from ⟨qZ,by rw[HX.out];rfl,fun e0=>absurd ((congrArg Prod.snd HX.out).symm.trans e0) (by decide),HB.out⟩);clear HS HB HX HF HW;go_wp2_with fail
   exact zlf (v:=.tuple #[.agg #[.int .u8 0,.string ⟨#[]⟩,.int .i64 0,.int .i64 0,.int .i64 0,.int .i64 0,.slice none 0 0,.string ⟨#[]⟩,.int .i64 0,.string ⟨#[]⟩],.int .i64 15]) (by simp[results,results32,asAddr,hl]) rfl HP.out
  |some k=>
   have e1:qu2 fs f=(k:Int):=by unfold qu2;rw[hfi]
   rw[e1];have hk:=qyb hfi;have HX:Hid (Qfx (qen fs op (nm::f::r3)) op (atW (nm::f::r3) 0) z a=(qW op nm fs[k] z a,0)):=hid (by rw[qs4 HN.out hfi hk];rfl);have Xc:Hid (qW op nm fs[k] z a=⟨op,⟨nm,0,0,0,0,fs[k].ptr,fs[k].len,fs[k].cap,fs[k].data⟩,nm,z,a⟩):=hid (by unfold qW;rw[if_pos HN.out]);have Xi:=HF.out w5 HS.out.b;have Ye:k<fn:=by rw[<-Xi.1];exact hk
   obtain⟨⟨b,o,rfl,_,_,d1⟩,_⟩:=Xi.2 k hk;clear hfi e1 Xi HN Xa;generalize fs[k]=x at *;obtain⟨x0,x1,x2,x3,x4,y5,y6,y7,y8⟩:=x;simp only at d1 Xc;have Yd:(k:Int)<(fn:Int):=by omega
   have Yc:¬(k:Int)<0:=by omega
   have Xw:(fn:Int)<=1000:=by omega
   have x1:=zjc (g+4) 1 HS.out.r1;have x2:=zjc (g+4) 2 HS.out.r1;have x3:=zjc (g+4) 3 HS.out.r1;have x4:=zjc (g+4) 4 HS.out.r1;have x5:=zjc (g+4) 5 HS.out.r1;have x6:=zjc (g+4) 6 HS.out.r1;have x7:=zjc (g+4) 7 HS.out.r1;have fx:∀o,w5.frozen? ⟨g+4,o,none⟩=false:=fun o=>zlp _ _ o _ _ HS.out.r1;have Xe:=hid (((((((HS.out.put 1 (.string nm)).put 2 (.int .i64 0)).put 3 (.int .i64 0)).put 4 (.int .i64 0)).put 5 (.int .i64 0)).put 6 (.slice y5 y6 y7)).on (Below.refl _ _).drew);go_upto_region 8 with fail
   go_region
   generalize ((((((w5.setCell ⟨g+4,1,none⟩ (.string nm)).setCell ⟨g+4,2,none⟩ (.int .i64 0)).setCell ⟨g+4,3,none⟩ (.int .i64 0)).setCell ⟨g+4,4,none⟩ (.int .i64 0)).setCell ⟨g+4,5,none⟩ (.int .i64 0)).setCell ⟨g+4,6,none⟩ (.slice y5 y6 y7)).drew=w6 at *;replace HS:=hid (Xe.out.at_ (show _=#[.int .u8 (op.toNat:Int),.string nm,.int .i64 0,.int .i64 0,.int .i64 0,.int .i64 0,.slice y5 y6 y7,.string nm,.int .i64 z,.string a] from rfl));clear Xe fx d1 x1 x2 x3 x4 x5 x6 x7;have Xj:=HS.out.load;have hl:=(HS.out.fin (ds:=#[.int .u8 (op.toNat:Int),.string nm,.int .i64 0,.int .i64 0,.int .i64 0,.int .i64 0,.slice y5 y6 y7,.string nm,.int .i64 z,.string a]) rfl).1;have HB:=hid (HS.out.fin (ds:=#[.int .u8 (op.toNat:Int),.string nm,.int .i64 0,.int .i64 0,.int .i64 0,.int .i64 0,.slice y5 y6 y7,.string nm,.int .i64 z,.string a]) rfl).2;simp only[qcy,Nat.reduceAdd] at hl HB;have e0:=zjc (g+3) 0 HS.out.r0;have e1:=zjc (g+3) 1 HS.out.r0;have e2:=zjc (g+3) 2 HS.out.r0;have e3:=zjc (g+3) 3 HS.out.r0;have e4:=zjc (g+3) 4 HS.out.r0;have e5:=zjc (g+3) 5 HS.out.r0;have e6:=zjc (g+3) 6 HS.out.r0;have e7:=zjc (g+3) 7 HS.out.r0;have e8:=zjc (g+3) 8 HS.out.r0;have e9:=zjc (g+3) 9 HS.out.r0;have x0:=zjc (g+4) 0 HS.out.r1;have x1:=zjc (g+4) 1 HS.out.r1;have x2:=zjc (g+4) 2 HS.out.r1;have x3:=zjc (g+4) 3 HS.out.r1;have x4:=zjc (g+4) 4 HS.out.r1;have x5:=zjc (g+4) 5 HS.out.r1;have x6:=zjc (g+4) 6 HS.out.r1;have x7:=zjc (g+4) 7 HS.out.r1;have x8:=zjc (g+4) 8 HS.out.r1;have x9:=zjc (g+4) 9 HS.out.r1;have fw:∀o,w6.frozen? ⟨g+3,o,none⟩=false:=fun o=>zlp _ _ o _ _ HS.out.r0;have HP:=hid (show CmdQ (Qfx (qen fs op (nm::f::r3)) op (atW (nm::f::r3) 0) z a) w (.returned (.tuple #[.agg #[.int .u8 (op.toNat:Int),.string nm,.int .i64 0,.int .i64 0,.int .i64 0,.int .i64 0,.slice y5 y6 y7,.string nm,.int .i64 z,.string a],.int .i64 0])) _ from ⟨⟨op,⟨nm,0,0,0,0,y5,y6,y7,y8⟩,nm,z,a⟩,by rw[HX.out];rfl,fun _=>by rw[HX.out];exact Xc.out.symm,HB.out⟩);clear HS HB HX HF HW;go_wp2_with fail
   exact zlf (v:=.tuple #[.agg #[.int .u8 (op.toNat:Int),.string nm,.int .i64 0,.int .i64 0,.int .i64 0,.int .i64 0,.slice y5 y6 y7,.string nm,.int .i64 z,.string a],.int .i64 0]) (by simp[results,results32,asAddr,hl]) rfl HP.out
end Lsc
end Go.Proofs.YtlmolmohhpdhdaaGreatDoor
