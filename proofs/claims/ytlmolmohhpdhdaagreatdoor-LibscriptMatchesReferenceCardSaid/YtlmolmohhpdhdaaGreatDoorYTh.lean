/-
  libscript's reference:
-/
import Derived.Test.YtlmolmohhpdhdaaGreatDoorYTf
import Derived.Test.YtlmolmohhpdhdaaGreatDoorYLyc
set_option maxRecDepth 100000
set_option maxHeartbeats 16000000
set_option linter.all false
namespace Go.Proofs.YtlmolmohhpdhdaaGreatDoor
open Go.RowKit Go.Proofs Tryz
namespace Lsc
open JB
open JN (bts str qac qaw qa2)
open JR (Mem ar)
open JL
def frS (A:Option Addr)(c k:Nat):Option Addr:=if c=k then A else A.map fun a=>a.add k
theorem qq9 (A:Option Addr)(n c k:Nat)(hk:k<=n)(hc:n<=c)(W:World):
 (Instr.slice 26 (.slice A n c) (some (.int .i64 (k:Int))) none none).run prog W=.ok (.slice (frS A c k) (n-k) (c-k)) W:=by
 have h1:(k:Int)<=(n:Int):=by omega
 have h2:(n:Int)<=(c:Int):=by omega
 have h3:(k:Int)<=(c:Int):=by omega
 unfold frS;by_cases hq:c=k
 ·subst hq;rw[if_pos rfl];rcases A with _|a
  ·go_simp
  ·go_simp
 ·rw[if_neg hq];rcases A with _|a
  ·go_simp
  ·go_simp
theorem qtn {w:World}{K n c k:Nat}{A:Option Addr}{ws:List ByteArray}(h:JS.Rd w K A n ws)(hk:k<=n)(hc:n<=c):JS.Rd w K (frS A c k) (n-k) (ws.drop k):=by
 unfold frS;by_cases hq:c=k
 ·rw[if_pos hq];exact h.cut_at k (by omega)
 ·rw[if_neg hq];refine⟨by rw[zlm,h.1],fun j hj=>?_⟩;rw[zlm] at hj;obtain⟨b,o,rfl,hl,Xa⟩:=h.2 (k+j) (by omega);refine⟨b,o+k,by simp[Addr.add],hl,?_⟩;rw[Nat.add_assoc,Xa,List.getElem_drop]
structure StC (w W:World) (g:Nat) (cs:Array Value):Prop where
 b:Below g w W
 s:g+1<W.heap.size
 z:cs.size=10
 r0:W.heap[g]?=some (.cells #[.int .u8 0,.string ⟨#[]⟩,.int .i64 0,.int .i64 0,.int .i64 0,.int .i64 0,.slice none 0 0,.string ⟨#[]⟩,.int .i64 0,.string ⟨#[]⟩] 67 (0,0))
 r1:W.heap[g+1]?=some (.cells cs 67 (0,0))
theorem StC.on {w W W':World}{g:Nat}{cs:Array Value}(h:StC w W g cs)(hb:Below W.heap.size W W'):StC w W' g cs:=
 ⟨h.b.trans (hb.mono (by have:=h.s;omega)),by have:=h.s;have:=hb.size;omega,h.z,(hb.block g (by have:=h.s;omega)).trans h.r0,(hb.block (g+1) h.s).trans h.r1⟩
theorem StC.put {w W:World}{g:Nat}{cs:Array Value}(h:StC w W g cs)(k:Nat)(v:Value):StC w (W.setCell ⟨g+1,k,none⟩ v) g (cs.setIfInBounds k v):=
 ⟨h.b.setCell (p:=⟨g+1,k,none⟩) (Nat.le_succ _) v,by rw[World.size_setCell];exact h.s,by rw[Array.size_setIfInBounds];exact h.z,(zly _ ⟨g+1,k,none⟩ _ g (by show g≠g+1;omega)).trans h.r0,zle W (g+1) k _ _ v h.r1⟩
theorem StC.at_ {w W:World}{g:Nat}{cs cs':Array Value}(h:StC w W g cs)(e:cs=cs'):StC w W g cs':=e ▸ h
theorem loadC {W:World}{B:Nat}{cs:Array Value}(h:W.heap[B]?=some (.cells cs 67 (0,0)))(hs:cs.size=10):(loadVar 67 ⟨B,0,none⟩).run prog W=.ok (.agg cs) W:=
 run_loadVar_row _ B 67 67 cs (0,0) _ h underlying67 rfl (by rw[hs];kernel_rfl)
theorem StC.load {w W:World}{g:Nat}{cs:Array Value}(h:StC w W g cs):(loadVar 67 ⟨g+1,0,none⟩).run prog W=.ok (.agg cs) W:=loadC h.r1 h.z
theorem StC.fin {w W:World}{g:Nat}{cs:Array Value}(h:StC w W g cs):(loadVar 67 ⟨g,0,none⟩).run prog (qcy W g 0 cs.toList)=.ok (.agg cs) (qcy W g 0 cs.toList)/\Below g w (qcy W g 0 cs.toList):=
 ⟨loadC (qeg cs.toList [.int .u8 0,.string ⟨#[]⟩,.int .i64 0,.int .i64 0,.int .i64 0,.int .i64 0,.slice none 0 0,.string ⟨#[]⟩,.int .i64 0,.string ⟨#[]⟩] W (by have:=h.z;simp[this]) h.r0) h.z,qct zjn _ _ _ h.b⟩
def CmdP (x:Cmd×Int)(w:World)(e:Ending)(w':World):Prop:=
 ∃q:Cmd,e=.returned (.tuple #[q.val,.int .i64 x.2])/\(x.2=0->q=rq x.1)/\Below w.heap.size w w'
theorem opW_no {w:ByteArray}(h:w.size≠1):opW w=none:=by
 unfold opW;split
 ·rename_i c e
  have:=qa2 w;rw[e] at this;exact absurd this.symm h
 ·rfl
theorem opW_one {w:ByteArray}(h:w.size=1):opW w=if qju (w[0]'(by omega)) then some (w[0]'(by omega)) else none:=by
 have h0:0<w.size:=by omega
 have h1:=JN.qkm w 0 h0;have h2:(bts w).length=1:=by rw[qa2];exact h
 match hb:bts w,h2 with
 |[c],_=>
  rw[hb] at h1;injection h1 with h1;unfold opW;rw[hb,<-h1]
theorem Qg2 {fs:List Mem}{w:ByteArray}{r:List ByteArray}(h:opW w=none):ask fs (w::r)=(qZ,17):=by
 unfold ask;rw[show atW (w::r) 0=w from rfl,h]
theorem qqa {fs:List Mem}{w:ByteArray}{r:List ByteArray}{op:UInt8}(h:opW w=some op)(hb:r.length<nW op∨plW (mvW op) (r.drop (nW op))=none):ask fs (w::r)=(qZ,17):=by
 unfold ask;rw[show atW (w::r) 0=w from rfl,h];simp only[List.drop_succ_cons,List.drop_zero];split
 ·rfl
 ·rcases hb with hb|hb
  ·contradiction
  ·rw[hb]
theorem qw9 {fs:List Mem}{w:ByteArray}{r:List ByteArray}{op:UInt8}{z:Int}{a:ByteArray}(h:opW w=some op)(h1:¬r.length<nW op)(h2:plW (mvW op) (r.drop (nW op))=some (z,a)):ask fs (w::r)=match qen fs op r with|none=>(qZ,15)|some x=>(qW op (atW r 0) x z a,0):=by
 unfold ask;rw[show atW (w::r) 0=w from rfl,h];simp only[List.drop_succ_cons,List.drop_zero,if_neg h1,h2];cases qen fs op r<;>rfl
theorem op_tabM (op:UInt8)(M:Int)(hM:M=(nW op:Int)+1):(¬qju op/\OpT op false false false false false false true true)∨(op=116/\M=1/\OpT op false false false false false true true false)∨(op=120/\M=2/\OpT op false false false false true false false true)∨(op=114/\M=3/\OpT op true false false false false false true true)∨(op=113/\M=3/\OpT op false true false false false false true true)∨(op=100/\M=2/\OpT op false false true false false false true true)∨(op=109/\M=2/\OpT op false false false true false false true true):=by
 rcases op_tab op with h|⟨rfl,t⟩|⟨rfl,t⟩|⟨rfl,t⟩|⟨rfl,t⟩|⟨rfl,t⟩|⟨rfl,t⟩
 ·exact .inl h
 ·exact .inr (.inl ⟨rfl,hM,t⟩)
 ·exact .inr (.inr (.inl ⟨rfl,hM,t⟩))
 ·exact .inr (.inr (.inr (.inl ⟨rfl,hM,t⟩)))
 ·exact .inr (.inr (.inr (.inr (.inl ⟨rfl,hM,t⟩))))
 ·exact .inr (.inr (.inr (.inr (.inr (.inl ⟨rfl,hM,t⟩)))))
 ·exact .inr (.inr (.inr (.inr (.inr (.inr ⟨rfl,hM,t⟩)))))
theorem Qg3 {r:List ByteArray}{x:Int×ByteArray}(h:plW false r=some x):r=[]:=by
 unfold plW at h;split at h
 ·rfl
 ·simp at h
 ·cases h
theorem qni {fs:List Mem}{op:UInt8}{r:List ByteArray}(h:nW op≠2):qen fs op r=some zM:=by unfold qen;rw[if_neg h]
theorem qs3 {fs:List Mem}{op:UInt8}{nm f:ByteArray}{r:List ByteArray}(h:nW op=2)(hf:qwz fs f=none):qen fs op (nm::f::r)=none:=by
 unfold qen;rw[if_pos h,show atW (nm::f::r) 1=f from rfl,hf];rfl
theorem qs4 {fs:List Mem}{op:UInt8}{nm f:ByteArray}{r:List ByteArray}{k:Nat}(h:nW op=2)(hf:qwz fs f=some k)(hk:k<fs.length):qen fs op (nm::f::r)=some fs[k]:=by
 unfold qen;rw[if_pos h,show atW (nm::f::r) 1=f from rfl,hf];exact zlh hk
theorem qyb:∀{xs:List Mem} {s:ByteArray} {k:Nat},qwz xs s=some k->k<xs.length
 |x::r,s,k,h=>by
  unfold qwz at h;split at h
  ·injection h with h;rw[zlk];omega
  ·rcases hr:qwz r s with _|j
   ·rw[hr] at h;cases h
   ·rw[hr] at h;simp at h;have:=qyb hr;rw[zlk];omega
theorem plW_off {r:List ByteArray}(h:r≠[]):plW false r=none:=by
 unfold plW;split
 ·contradiction
 ·simp
 ·rfl
theorem plW_mv {p:Bool}{r:List ByteArray}(h:p=true∨r=[]):plW p r=plW true r:=by
 rcases h with rfl|rfl<;>rfl
theorem qwa (K:Nat)(F:Option Addr)(fn fc:Nat)(fs:List Mem)(A:Option Addr)(n c:Nat)(w0:ByteArray)(r:List ByteArray)(w:World)(hf:RdF w K F fn fs)(h:JS.Rd w K A n (w0::r))(hK:K<=w.heap.size)(hn:n<=100000)(hnc:n<=c)(hc:c<=maxLen)(hfn:fn<=1000):
 Calls prog 26 #[.slice F fn fc,.slice A n c] w (CmdP (ask fs (w0::r)) w):=by
 have Hl:Hid (n=r.length+1):=hid (by have:=h.1;rw[zlk] at this;exact this.symm);have Ym:0<n:=by have:=Hl.out;omega
 have HF:=hid fun (W:World) (hW:Below w.heap.size w W)=>hf.below (hW.mono hK);have HW:=hid fun (W:World) (hW:Below w.heap.size w W)=>h.below (hW.mono hK);obtain⟨w1,e1,Xj,Xr,Xt,Xy⟩:=qda w (.cells #[.int .u8 0,.string ⟨#[]⟩,.int .i64 0,.int .i64 0,.int .i64 0,.int .i64 0,.slice none 0 0,.string ⟨#[]⟩,.int .i64 0,.string ⟨#[]⟩] 67) (.cells #[.int .u8 0,.string ⟨#[]⟩,.int .i64 0,.int .i64 0,.int .i64 0,.int .i64 0,.slice none 0 0,.string ⟨#[]⟩,.int .i64 0,.string ⟨#[]⟩] 67);obtain⟨b0,o0,rfl,Yn,c0⟩:=(HW.out w1 Xj).2 0 (by simp);simp only[zlH,Nat.add_zero] at c0;clear hf h;go_enter func26,ntmps26;go_upto_region 2 with fail
 rw[<-e1];clear e1;obtain⟨g,hg⟩:∃g,w.heap.size=g:=⟨_,rfl⟩;have HG:=hid hg;rw[hg] at Xj Xr Xt Xy HF HW |-;have HS:Hid (StC w w1 g #[.int .u8 0,.string ⟨#[]⟩,.int .i64 0,.int .i64 0,.int .i64 0,.int .i64 0,.slice none 0 0,.string ⟨#[]⟩,.int .i64 0,.string ⟨#[]⟩]):=hid ⟨Xj,by omega,rfl,Xr,Xt⟩;clear hg Xj Xr Xt Xy;by_cases hz:w0.size=1
 case neg=>
  have Xu:((w0.size:Int) !=1)=true:=by rw[bne_iff_ne];omega
  have HA:=hid (Qg2 (fs:=fs) (r:=r) (opW_no hz));clear hz;have Xd:=HS.out.load;have hl:=HS.out.fin.1;have HB:=hid HS.out.fin.2;simp only[qcy,Nat.reduceAdd] at hl HB;have e0:=zjc g 0 HS.out.r0;have e1:=zjc g 1 HS.out.r0;have e2:=zjc g 2 HS.out.r0;have e3:=zjc g 3 HS.out.r0;have e4:=zjc g 4 HS.out.r0;have e5:=zjc g 5 HS.out.r0;have e6:=zjc g 6 HS.out.r0;have e7:=zjc g 7 HS.out.r0;have e8:=zjc g 8 HS.out.r0;have e9:=zjc g 9 HS.out.r0;have x0:=zjc (g+1) 0 HS.out.r1;have x1:=zjc (g+1) 1 HS.out.r1;have x2:=zjc (g+1) 2 HS.out.r1;have x3:=zjc (g+1) 3 HS.out.r1;have x4:=zjc (g+1) 4 HS.out.r1;have x5:=zjc (g+1) 5 HS.out.r1;have x6:=zjc (g+1) 6 HS.out.r1;have x7:=zjc (g+1) 7 HS.out.r1;have x8:=zjc (g+1) 8 HS.out.r1;have x9:=zjc (g+1) 9 HS.out.r1;have fw:∀o,w1.frozen? ⟨g,o,none⟩=false:=fun o=>zlp _ _ o _ _ HS.out.r0;have HP:=hid (show CmdP (ask fs (w0::r)) w (.returned (.tuple #[.agg #[.int .u8 0,.string ⟨#[]⟩,.int .i64 0,.int .i64 0,.int .i64 0,.int .i64 0,.slice none 0 0,.string ⟨#[]⟩,.int .i64 0,.string ⟨#[]⟩],.int .i64 17])) _ from ⟨qZ,by rw[HA.out];rfl,fun e0=>absurd ((congrArg Prod.snd HA.out).symm.trans e0) (by decide),by rw[HG.out];exact HB.out⟩);clear HS HB HA HF HW;go_wp2_with fail
  exact zlf (v:=.tuple #[.agg #[.int .u8 0,.string ⟨#[]⟩,.int .i64 0,.int .i64 0,.int .i64 0,.int .i64 0,.slice none 0 0,.string ⟨#[]⟩,.int .i64 0,.string ⟨#[]⟩],.int .i64 17]) (by simp[results,results26,asAddr,hl]) rfl HP.out
 have Xu:((w0.size:Int) !=1)=false:=by rw[hz];rfl
 have h0:0<w0.size:=by omega
 have HO:=hid (opW_one hz);obtain⟨op,Xx⟩:∃op,w0[0]'h0=op:=⟨_,rfl⟩;rw[Xx] at HO;obtain⟨M,hM⟩:∃M:Nat,M=nW op+1:=⟨_,rfl⟩;obtain⟨Mi,Xe⟩:∃Mi:Int,Mi=(M:Int):=⟨_,rfl⟩;have HT:=hid (op_tabM op Mi (by rw[Xe,hM];rfl));have HM:=hid hM;have Xf:=hid Xe;clear hM Xe;have Xa:=hid (HS.out.put 0 (.int .u8 (op.toNat:Int)));have x0:=zjc (g+1) 0 HS.out.r1;have fx:∀o,w1.frozen? ⟨g+1,o,none⟩=false:=fun o=>zlp _ _ o _ _ HS.out.r1;clear hz HS;go_upto_region 5 with fail
 generalize w1.setCell ⟨g+1,0,none⟩ (.int .u8 (op.toNat:Int))=w2 at *;have HS:=hid (Xa.out.at_ (show _=#[.int .u8 (op.toNat:Int),.string ⟨#[]⟩,.int .i64 0,.int .i64 0,.int .i64 0,.int .i64 0,.slice none 0 0,.string ⟨#[]⟩,.int .i64 0,.string ⟨#[]⟩] from rfl));have y0:=zjc (g+1) 0 HS.out.r1;clear Xa x0 fx c0 Xu Xx h0;rcases HT.out with ⟨ho,t1,t2,t3,t4,t5,t6,t7,t8⟩|⟨ho,hM3,t1,t2,t3,t4,t5,t6,t7,t8⟩|⟨ho,hM3,t1,t2,t3,t4,t5,t6,t7,t8⟩|⟨ho,hM3,t1,t2,t3,t4,t5,t6,t7,t8⟩|⟨ho,hM3,t1,t2,t3,t4,t5,t6,t7,t8⟩|⟨ho,hM3,t1,t2,t3,t4,t5,t6,t7,t8⟩|⟨ho,hM3,t1,t2,t3,t4,t5,t6,t7,t8⟩
 ·have HA:=hid (Qg2 (fs:=fs) (r:=r) (HO.out.trans (if_neg ho)));clear HT HO ho;have Xd:=HS.out.load;have hl:=HS.out.fin.1;have HB:=hid HS.out.fin.2;simp only[qcy,Nat.reduceAdd] at hl HB;have e0:=zjc g 0 HS.out.r0;have e1:=zjc g 1 HS.out.r0;have e2:=zjc g 2 HS.out.r0;have e3:=zjc g 3 HS.out.r0;have e4:=zjc g 4 HS.out.r0;have e5:=zjc g 5 HS.out.r0;have e6:=zjc g 6 HS.out.r0;have e7:=zjc g 7 HS.out.r0;have e8:=zjc g 8 HS.out.r0;have e9:=zjc g 9 HS.out.r0;have x0:=zjc (g+1) 0 HS.out.r1;have x1:=zjc (g+1) 1 HS.out.r1;have x2:=zjc (g+1) 2 HS.out.r1;have x3:=zjc (g+1) 3 HS.out.r1;have x4:=zjc (g+1) 4 HS.out.r1;have x5:=zjc (g+1) 5 HS.out.r1;have x6:=zjc (g+1) 6 HS.out.r1;have x7:=zjc (g+1) 7 HS.out.r1;have x8:=zjc (g+1) 8 HS.out.r1;have x9:=zjc (g+1) 9 HS.out.r1;have fw:∀o,w2.frozen? ⟨g,o,none⟩=false:=fun o=>zlp _ _ o _ _ HS.out.r0;have HP:=hid (show CmdP (ask fs (w0::r)) w (.returned (.tuple #[.agg #[.int .u8 (op.toNat:Int),.string ⟨#[]⟩,.int .i64 0,.int .i64 0,.int .i64 0,.int .i64 0,.slice none 0 0,.string ⟨#[]⟩,.int .i64 0,.string ⟨#[]⟩],.int .i64 17])) _ from ⟨⟨op,zM,eN,0,eN⟩,by rw[HA.out];rfl,fun e0=>absurd ((congrArg Prod.snd HA.out).symm.trans e0) (by decide),by rw[HG.out];exact HB.out⟩);clear HS HB HA HF HW;go_wp2_with fail
  exact zlf (v:=.tuple #[.agg #[.int .u8 (op.toNat:Int),.string ⟨#[]⟩,.int .i64 0,.int .i64 0,.int .i64 0,.int .i64 0,.slice none 0 0,.string ⟨#[]⟩,.int .i64 0,.string ⟨#[]⟩],.int .i64 17]) (by simp[results,results26,asAddr,hl]) rfl HP.out
 all_goals
  have Xb:=hid (HO.out.trans (if_pos (by rw[ho];decide)));clear HO HT;have hM:=HM.out;have Xe:=Xf.out;have Xs:((op.toNat:Int) !=114)=_:=congrArg not t1;have Xq:((op.toNat:Int) !=109)=_:=congrArg not t4;simp only[Bool.not_true,Bool.not_false] at Xs Xq;by_cases hlt:n<M
  case pos=>
   first
   |exact absurd hlt (by omega)
   |(
    have i1:(n:Int)<Mi:=by omega
    have HA:=hid (qqa (fs:=fs) (r:=r) Xb.out (.inl (by have:=Hl.out;omega)));clear hM Xe HM Xf hlt ho Xb;subst hM3;have Xd:=HS.out.load;have hl:=HS.out.fin.1;have HB:=hid HS.out.fin.2;simp only[qcy,Nat.reduceAdd] at hl HB;have e0:=zjc g 0 HS.out.r0;have e1:=zjc g 1 HS.out.r0;have e2:=zjc g 2 HS.out.r0;have e3:=zjc g 3 HS.out.r0;have e4:=zjc g 4 HS.out.r0;have e5:=zjc g 5 HS.out.r0;have e6:=zjc g 6 HS.out.r0;have e7:=zjc g 7 HS.out.r0;have e8:=zjc g 8 HS.out.r0;have e9:=zjc g 9 HS.out.r0;have x0:=zjc (g+1) 0 HS.out.r1;have x1:=zjc (g+1) 1 HS.out.r1;have x2:=zjc (g+1) 2 HS.out.r1;have x3:=zjc (g+1) 3 HS.out.r1;have x4:=zjc (g+1) 4 HS.out.r1;have x5:=zjc (g+1) 5 HS.out.r1;have x6:=zjc (g+1) 6 HS.out.r1;have x7:=zjc (g+1) 7 HS.out.r1;have x8:=zjc (g+1) 8 HS.out.r1;have x9:=zjc (g+1) 9 HS.out.r1;have fw:∀o,w2.frozen? ⟨g,o,none⟩=false:=fun o=>zlp _ _ o _ _ HS.out.r0;have HP:=hid (show CmdP (ask fs (w0::r)) w (.returned (.tuple #[.agg #[.int .u8 (op.toNat:Int),.string ⟨#[]⟩,.int .i64 0,.int .i64 0,.int .i64 0,.int .i64 0,.slice none 0 0,.string ⟨#[]⟩,.int .i64 0,.string ⟨#[]⟩],.int .i64 17])) _ from ⟨⟨op,zM,eN,0,eN⟩,by rw[HA.out];rfl,fun e0=>absurd ((congrArg Prod.snd HA.out).symm.trans e0) (by decide),by rw[HG.out];exact HB.out⟩);clear HS HB HA HF HW;go_wp2_with fail
    exact zlf (v:=.tuple #[.agg #[.int .u8 (op.toNat:Int),.string ⟨#[]⟩,.int .i64 0,.int .i64 0,.int .i64 0,.int .i64 0,.slice none 0 0,.string ⟨#[]⟩,.int .i64 0,.string ⟨#[]⟩],.int .i64 17]) (by simp[results,results26,asAddr,hl]) rfl HP.out)
  have i1:¬(n:Int)<Mi:=by omega
  by_cases hne:n=M∨op=114∨op=109
  case neg=>
   have Xh:=hne;simp[ho] at Xh
   all_goals
    have i2:((n:Int) !=Mi)=true:=by rw[bne_iff_ne];intro e;exact hne (.inl (by omega))
    have Xz:mvW op=false:=by unfold mvW;simp;exact⟨fun e=>hne (.inr (.inl e)),fun e=>hne (.inr (.inr e))⟩
    have HA:=hid (qqa (fs:=fs) (r:=r) Xb.out (.inr (by rw[Xz];exact plW_off (fun e=>by have h1:=zlm (i:=nW op) (l:=r);rw[e] at h1;have:=Hl.out;simp at h1;exact hne (.inl (by omega))))));clear hM Xe HM Xf hlt hne Xh ho Xb Xz;subst hM3;have Xd:=HS.out.load;have hl:=HS.out.fin.1;have HB:=hid HS.out.fin.2;simp only[qcy,Nat.reduceAdd] at hl HB;have e0:=zjc g 0 HS.out.r0;have e1:=zjc g 1 HS.out.r0;have e2:=zjc g 2 HS.out.r0;have e3:=zjc g 3 HS.out.r0;have e4:=zjc g 4 HS.out.r0;have e5:=zjc g 5 HS.out.r0;have e6:=zjc g 6 HS.out.r0;have e7:=zjc g 7 HS.out.r0;have e8:=zjc g 8 HS.out.r0;have e9:=zjc g 9 HS.out.r0;have x0:=zjc (g+1) 0 HS.out.r1;have x1:=zjc (g+1) 1 HS.out.r1;have x2:=zjc (g+1) 2 HS.out.r1;have x3:=zjc (g+1) 3 HS.out.r1;have x4:=zjc (g+1) 4 HS.out.r1;have x5:=zjc (g+1) 5 HS.out.r1;have x6:=zjc (g+1) 6 HS.out.r1;have x7:=zjc (g+1) 7 HS.out.r1;have x8:=zjc (g+1) 8 HS.out.r1;have x9:=zjc (g+1) 9 HS.out.r1;have fw:∀o,w2.frozen? ⟨g,o,none⟩=false:=fun o=>zlp _ _ o _ _ HS.out.r0;have HP:=hid (show CmdP (ask fs (w0::r)) w (.returned (.tuple #[.agg #[.int .u8 (op.toNat:Int),.string ⟨#[]⟩,.int .i64 0,.int .i64 0,.int .i64 0,.int .i64 0,.slice none 0 0,.string ⟨#[]⟩,.int .i64 0,.string ⟨#[]⟩],.int .i64 17])) _ from ⟨⟨op,zM,eN,0,eN⟩,by rw[HA.out];rfl,fun e0=>absurd ((congrArg Prod.snd HA.out).symm.trans e0) (by decide),by rw[HG.out];exact HB.out⟩);clear HS HB HA HF HW;go_wp2_with fail
    exact zlf (v:=.tuple #[.agg #[.int .u8 (op.toNat:Int),.string ⟨#[]⟩,.int .i64 0,.int .i64 0,.int .i64 0,.int .i64 0,.slice none 0 0,.string ⟨#[]⟩,.int .i64 0,.string ⟨#[]⟩],.int .i64 17]) (by simp[results,results26,asAddr,hl]) rfl HP.out
  have Xc:Hid (plW (mvW op) (r.drop (nW op))=plW true (r.drop (nW op))):=hid (plW_mv (hne.elim (fun e=>.inr (zlD (by have:=Hl.out;omega))) (fun e=>.inl (e.elim (fun e=>by rw[e];rfl) (fun e=>by rw[e];rfl)))))
  have i2:∀b d,((op.toNat:Int) !=114)=b->((op.toNat:Int) !=109)=d->(b&&d)=true->Hid (((n:Int) !=Mi)=false):=fun b d hb hd hbd=>hid (by
   rcases hne with e|e|e
   ·rw[bne_eq_false_iff_eq];omega
   ·rw[e] at hb;subst hb;simp at hbd
   ·rw[e] at hd;subst hd;simp at hbd)
  replace i2:=i2 _ _ Xs Xq;simp only[Bool.true_and,Bool.false_and,Bool.and_false,reduceCtorEq,false_implies,forall_const] at i2;try replace i2:=i2.out
  clear hne;have Xg:Hid (M<=n):=hid (by omega);clear hM Xe hlt;subst hM3;go_upto_region 18 with fail
  have Xv:=qq9 (some ⟨b0,o0,none⟩) n c M Xg.out hnc w2;rw[<-Xf.out] at Xv;have HD:Hid ((w0::r).drop M=r.drop (nW op)):=hid (by rw[HM.out];rfl);have Xk:=hid (qy8 K (frS (some ⟨b0,o0,none⟩) c M) (n-M) (c-M) ((w0::r).drop M) w2 (qtn (HW.out w2 HS.out.b) Xg.out hnc) (by have:=HS.out.b.size;have:=HG.out;omega) (by omega));rw[HD.out] at Xk;obtain⟨PL,Xn⟩:∃PL,plW true (r.drop (nW op))=PL:=⟨_,rfl⟩;rw[Xn] at Xk Xc;have Xp:=hid Xn;have HR:Hid (¬r.length<nW op):=hid (by have:=Hl.out;have:=HM.out;have:=Xg.out;omega);clear Xn HD;have HO:=hid ho;clear ho;go_wp2_with fail
  refine Xk.out.mono ?_;rintro e w3 ⟨rfl,b3⟩;clear Xk Xv i1 y0 t1 t2 t3 t4 t5 t6 t7 t8 Xs Xq;try clear i2
  replace HS:=hid (HS.out.on b3);have s3:=b3.size;clear b3;rcases PL with _|⟨z,a⟩
  case none=>
   have HA:=hid (qqa (fs:=fs) (r:=r) Xb.out (.inr Xc.out));have ba:=(Below.refl w3.heap.size w3).alloc zjn (.cells #[.int .i64 0,.string ⟨#[]⟩] 65);simp only[plaO];go_upto_region 19 with fail
   generalize w3.alloc (.cells #[.int .i64 0,.string ⟨#[]⟩] 65)=w4 at *;replace HS:=hid (HS.out.on ba);clear ba Xc Xb HO Xp HR;have Xd:=HS.out.load;have hl:=HS.out.fin.1;have HB:=hid HS.out.fin.2;simp only[qcy,Nat.reduceAdd] at hl HB;have e0:=zjc g 0 HS.out.r0;have e1:=zjc g 1 HS.out.r0;have e2:=zjc g 2 HS.out.r0;have e3:=zjc g 3 HS.out.r0;have e4:=zjc g 4 HS.out.r0;have e5:=zjc g 5 HS.out.r0;have e6:=zjc g 6 HS.out.r0;have e7:=zjc g 7 HS.out.r0;have e8:=zjc g 8 HS.out.r0;have e9:=zjc g 9 HS.out.r0;have x0:=zjc (g+1) 0 HS.out.r1;have x1:=zjc (g+1) 1 HS.out.r1;have x2:=zjc (g+1) 2 HS.out.r1;have x3:=zjc (g+1) 3 HS.out.r1;have x4:=zjc (g+1) 4 HS.out.r1;have x5:=zjc (g+1) 5 HS.out.r1;have x6:=zjc (g+1) 6 HS.out.r1;have x7:=zjc (g+1) 7 HS.out.r1;have x8:=zjc (g+1) 8 HS.out.r1;have x9:=zjc (g+1) 9 HS.out.r1;have fw:∀o,w4.frozen? ⟨g,o,none⟩=false:=fun o=>zlp _ _ o _ _ HS.out.r0;have HP:=hid (show CmdP (ask fs (w0::r)) w (.returned (.tuple #[.agg #[.int .u8 (op.toNat:Int),.string ⟨#[]⟩,.int .i64 0,.int .i64 0,.int .i64 0,.int .i64 0,.slice none 0 0,.string ⟨#[]⟩,.int .i64 0,.string ⟨#[]⟩],.int .i64 17])) _ from ⟨⟨op,zM,eN,0,eN⟩,by rw[HA.out];rfl,fun e0=>absurd ((congrArg Prod.snd HA.out).symm.trans e0) (by decide),by rw[HG.out];exact HB.out⟩);clear HS HB HA HF HW;go_wp2_with fail
   exact zlf (v:=.tuple #[.agg #[.int .u8 (op.toNat:Int),.string ⟨#[]⟩,.int .i64 0,.int .i64 0,.int .i64 0,.int .i64 0,.slice none 0 0,.string ⟨#[]⟩,.int .i64 0,.string ⟨#[]⟩],.int .i64 17]) (by simp[results,results26,asAddr,hl]) rfl HP.out
  have ba:=zjB w3 (.cells #[.int .i64 z,.string a] 65);have ha:=zld w3 (.cells #[.int .i64 z,.string a] 65);simp only[plaO];go_upto_region 19 with fail
  generalize w3.alloc (.cells #[.int .i64 z,.string a] 65)=w4 at *;replace HS:=hid (HS.out.on ba);have Ya:=run_loadVar_row (P:=prog) _ _ 65 65 _ (0,0) _ ha underlying65 rfl (by kernel_rfl);have Yc:=fun k=>zjc w3.heap.size k ha;have Yf:=fun k=>zjc (g+1) k HS.out.r1;have fx:∀o,w4.frozen? ⟨g+1,o,none⟩=false:=fun o=>zlp _ _ o _ _ HS.out.r1;have Xa:=hid ((HS.out.put 8 (.int .i64 z)).put 9 (.string a));clear ha ba s3;go_upto_region 22 with fail
  generalize (w4.setCell ⟨g+1,8,none⟩ (.int .i64 z)).setCell ⟨g+1,9,none⟩ (.string a)=w5 at *;replace HS:=hid (Xa.out.at_ (show _=#[.int .u8 (op.toNat:Int),.string ⟨#[]⟩,.int .i64 0,.int .i64 0,.int .i64 0,.int .i64 0,.slice none 0 0,.string ⟨#[]⟩,.int .i64 z,.string a] from rfl));clear Xa Ya Yc Yf fx
 ·have Yh:=hid (show r=[] from by have h1:=Xc.out;rw[HO.out] at h1;exact Qg3 h1);have HA:=hid ((qw9 (fs:=fs) Xb.out HR.out Xc.out).trans (by rw[qni (by rw[HO.out];decide)]));have Xd:=HS.out.load;have hl:=HS.out.fin.1;have HB:=hid HS.out.fin.2;simp only[qcy,Nat.reduceAdd] at hl HB;have e0:=zjc g 0 HS.out.r0;have e1:=zjc g 1 HS.out.r0;have e2:=zjc g 2 HS.out.r0;have e3:=zjc g 3 HS.out.r0;have e4:=zjc g 4 HS.out.r0;have e5:=zjc g 5 HS.out.r0;have e6:=zjc g 6 HS.out.r0;have e7:=zjc g 7 HS.out.r0;have e8:=zjc g 8 HS.out.r0;have e9:=zjc g 9 HS.out.r0;have x0:=zjc (g+1) 0 HS.out.r1;have x1:=zjc (g+1) 1 HS.out.r1;have x2:=zjc (g+1) 2 HS.out.r1;have x3:=zjc (g+1) 3 HS.out.r1;have x4:=zjc (g+1) 4 HS.out.r1;have x5:=zjc (g+1) 5 HS.out.r1;have x6:=zjc (g+1) 6 HS.out.r1;have x7:=zjc (g+1) 7 HS.out.r1;have x8:=zjc (g+1) 8 HS.out.r1;have x9:=zjc (g+1) 9 HS.out.r1;have fw:∀o,w5.frozen? ⟨g,o,none⟩=false:=fun o=>zlp _ _ o _ _ HS.out.r0;have HP:=hid (show CmdP (ask fs (w0::r)) w (.returned (.tuple #[.agg #[.int .u8 (op.toNat:Int),.string ⟨#[]⟩,.int .i64 0,.int .i64 0,.int .i64 0,.int .i64 0,.slice none 0 0,.string ⟨#[]⟩,.int .i64 z,.string a],.int .i64 0])) _ from ⟨⟨op,zM,eN,z,a⟩,by rw[HA.out];rfl,fun _=>by rw[HA.out,Yh.out];rfl,by rw[HG.out];exact HB.out⟩);clear HS HB HA HF HW;go_wp2_with fail
  exact zlf (v:=.tuple #[.agg #[.int .u8 (op.toNat:Int),.string ⟨#[]⟩,.int .i64 0,.int .i64 0,.int .i64 0,.int .i64 0,.slice none 0 0,.string ⟨#[]⟩,.int .i64 z,.string a],.int .i64 0]) (by simp[results,results26,asAddr,hl]) rfl HP.out
 all_goals
  have Yj:1<n:=by have:=Xg.out;have:=Xf.out;omega
  obtain⟨nm,r2,Yd⟩:∃nm r2,r=nm::r2:=List.exists_cons_of_ne_nil (fun e=>by have:=Hl.out;rw[e] at this;simp at this;omega);subst Yd
  have c1:w5.cell? ⟨b0,o0+1,none⟩=some (.string nm):=by
   obtain⟨b1,o1,e1,_,h1⟩:=(HW.out w5 HS.out.b).2 1 (by simp);injection e1 with e1;injection e1 with e2 e3;rw[e2,e3];exact h1
  have x7:=zjc (g+1) 7 HS.out.r1;have fx:∀o,w5.frozen? ⟨g+1,o,none⟩=false:=fun o=>zlp _ _ o _ _ HS.out.r1;have Ye:(1:Int)<(n:Int):=by omega
  have Xa:=hid (HS.out.put 7 (.string nm));go_upto_region 24 with fail
  generalize w5.setCell ⟨g+1,7,none⟩ (.string nm)=w6 at *;replace HS:=hid (Xa.out.at_ (show _=#[.int .u8 (op.toNat:Int),.string ⟨#[]⟩,.int .i64 0,.int .i64 0,.int .i64 0,.int .i64 0,.slice none 0 0,.string nm,.int .i64 z,.string a] from rfl));clear Xa x7 fx c1
  have c1:w6.cell? ⟨b0,o0+1,none⟩=some (.string nm):=by
   obtain⟨b1,o1,e1,_,h1⟩:=(HW.out w6 HS.out.b).2 1 (by simp);injection e1 with e1;injection e1 with e2 e3;rw[e2,e3];exact h1
  have x1:=zjc (g+1) 1 HS.out.r1;have fx:∀o,w6.frozen? ⟨g+1,o,none⟩=false:=fun o=>zlp _ _ o _ _ HS.out.r1;have Xa:=hid (HS.out.put 1 (.string nm));go_upto_region 25 with fail
  generalize w6.setCell ⟨g+1,1,none⟩ (.string nm)=w7 at *;replace HS:=hid (Xa.out.at_ (show _=#[.int .u8 (op.toNat:Int),.string nm,.int .i64 0,.int .i64 0,.int .i64 0,.int .i64 0,.slice none 0 0,.string nm,.int .i64 z,.string a] from rfl));clear Xa x1 fx c1
 all_goals first
  |have q1:nW op≠2:=(by rw[HO.out];decide)
   have HA:=hid ((qw9 (fs:=fs) Xb.out HR.out Xc.out).trans (by rw[qni q1]));clear q1;have Xd:=HS.out.load;have hl:=HS.out.fin.1;have HB:=hid HS.out.fin.2;simp only[qcy,Nat.reduceAdd] at hl HB;have e0:=zjc g 0 HS.out.r0;have e1:=zjc g 1 HS.out.r0;have e2:=zjc g 2 HS.out.r0;have e3:=zjc g 3 HS.out.r0;have e4:=zjc g 4 HS.out.r0;have e5:=zjc g 5 HS.out.r0;have e6:=zjc g 6 HS.out.r0;have e7:=zjc g 7 HS.out.r0;have e8:=zjc g 8 HS.out.r0;have e9:=zjc g 9 HS.out.r0;have x0:=zjc (g+1) 0 HS.out.r1;have x1:=zjc (g+1) 1 HS.out.r1;have x2:=zjc (g+1) 2 HS.out.r1;have x3:=zjc (g+1) 3 HS.out.r1;have x4:=zjc (g+1) 4 HS.out.r1;have x5:=zjc (g+1) 5 HS.out.r1;have x6:=zjc (g+1) 6 HS.out.r1;have x7:=zjc (g+1) 7 HS.out.r1;have x8:=zjc (g+1) 8 HS.out.r1;have x9:=zjc (g+1) 9 HS.out.r1;have fw:∀o,w7.frozen? ⟨g,o,none⟩=false:=fun o=>zlp _ _ o _ _ HS.out.r0;have HP:=hid (show CmdP (ask fs (w0::nm::r2)) w (.returned (.tuple #[.agg #[.int .u8 (op.toNat:Int),.string nm,.int .i64 0,.int .i64 0,.int .i64 0,.int .i64 0,.slice none 0 0,.string nm,.int .i64 z,.string a],.int .i64 0])) _ from ⟨⟨op,⟨nm,0,0,0,0,none,0,0,[]⟩,nm,z,a⟩,by rw[HA.out];rfl,fun _=>by rw[HA.out];rfl,by rw[HG.out];exact HB.out⟩);clear HS HB HA HF HW;go_wp2_with fail
   exact zlf (v:=.tuple #[.agg #[.int .u8 (op.toNat:Int),.string nm,.int .i64 0,.int .i64 0,.int .i64 0,.int .i64 0,.slice none 0 0,.string nm,.int .i64 z,.string a],.int .i64 0]) (by simp[results,results26,asAddr,hl]) rfl HP.out
  |skip
 all_goals
  have Yq:2<n:=by have:=Xg.out;have:=Xf.out;omega
  obtain⟨f,r3,Yb⟩:∃f r3,r2=f::r3:=List.exists_cons_of_ne_nil (fun e=>by have:=Hl.out;rw[e] at this;simp at this;omega);subst Yb
  have c2:w7.cell? ⟨b0,o0+2,none⟩=some (.string f):=by
   obtain⟨b1,o1,e1,_,h1⟩:=(HW.out w7 HS.out.b).2 2 (by simp);injection e1 with e1;injection e1 with e2 e3;rw[e2,e3];exact h1
  have Yg:(2:Int)<(n:Int):=by omega
  have Xw:=hid (Qft K F fn fc fs f w7 (HF.out w7 HS.out.b) (by have:=HS.out.b.size;have:=HG.out;omega) (by omega));go_wp2_with fail
  refine Xw.out.mono ?_;rintro e w8 ⟨rfl,b8⟩;replace HS:=hid (HS.out.on b8);clear Xw b8 c2;have Xi:nW op=2:=by rw[HO.out];rfl
  cases hfi:qwz fs f with
  |none=>
   have e1:qu2 fs f= -1:=by unfold qu2;rw[hfi]
   rw[e1];have HA:Hid (ask fs (w0::nm::f::r3)=(qZ,15)):=hid ((qw9 (fs:=fs) Xb.out HR.out Xc.out).trans (by rw[qs3 Xi hfi]));clear Xi hfi e1;have Xd:=HS.out.load;have hl:=HS.out.fin.1;have HB:=hid HS.out.fin.2;simp only[qcy,Nat.reduceAdd] at hl HB;have e0:=zjc g 0 HS.out.r0;have e1:=zjc g 1 HS.out.r0;have e2:=zjc g 2 HS.out.r0;have e3:=zjc g 3 HS.out.r0;have e4:=zjc g 4 HS.out.r0;have e5:=zjc g 5 HS.out.r0;have e6:=zjc g 6 HS.out.r0;have e7:=zjc g 7 HS.out.r0;have e8:=zjc g 8 HS.out.r0;have e9:=zjc g 9 HS.out.r0;have x0:=zjc (g+1) 0 HS.out.r1;have x1:=zjc (g+1) 1 HS.out.r1;have x2:=zjc (g+1) 2 HS.out.r1;have x3:=zjc (g+1) 3 HS.out.r1;have x4:=zjc (g+1) 4 HS.out.r1;have x5:=zjc (g+1) 5 HS.out.r1;have x6:=zjc (g+1) 6 HS.out.r1;have x7:=zjc (g+1) 7 HS.out.r1;have x8:=zjc (g+1) 8 HS.out.r1;have x9:=zjc (g+1) 9 HS.out.r1;have fw:∀o,w8.frozen? ⟨g,o,none⟩=false:=fun o=>zlp _ _ o _ _ HS.out.r0;have HP:=hid (show CmdP (ask fs (w0::nm::f::r3)) w (.returned (.tuple #[.agg #[.int .u8 (op.toNat:Int),.string nm,.int .i64 0,.int .i64 0,.int .i64 0,.int .i64 0,.slice none 0 0,.string nm,.int .i64 z,.string a],.int .i64 15])) _ from ⟨⟨op,⟨nm,0,0,0,0,none,0,0,[]⟩,nm,z,a⟩,by rw[HA.out];rfl,fun e0=>absurd ((congrArg Prod.snd HA.out).symm.trans e0) (by decide),by rw[HG.out];exact HB.out⟩);clear HS HB HA HF HW;go_wp2_with fail
   exact zlf (v:=.tuple #[.agg #[.int .u8 (op.toNat:Int),.string nm,.int .i64 0,.int .i64 0,.int .i64 0,.int .i64 0,.slice none 0 0,.string nm,.int .i64 z,.string a],.int .i64 15]) (by simp[results,results26,asAddr,hl]) rfl HP.out
  |some k=>
   have e1:qu2 fs f=(k:Int):=by unfold qu2;rw[hfi]
   rw[e1];have hk:=qyb hfi;have HA:=hid ((qw9 (fs:=fs) Xb.out HR.out Xc.out).trans (by rw[qs4 Xi hfi hk]));have Xm:=HF.out w8 HS.out.b;have Yp:k<fn:=by rw[<-Xm.1];exact hk
   obtain⟨⟨b,o,rfl,_,_,d1⟩,_⟩:=Xm.2 k hk;clear Xi hfi e1 Xm;generalize fs[k]=x at *;obtain⟨x0,x1,x2,x3,x4,y5,y6,y7,y8⟩:=x;simp only at d1;have x6:=zjc (g+1) 6 HS.out.r1;have fx:∀o,w8.frozen? ⟨g+1,o,none⟩=false:=fun o=>zlp _ _ o _ _ HS.out.r1;have Yk:(k:Int)<(fn:Int):=by omega
   have Yi:¬(k:Int)<0:=by omega
   have Xa:=hid (HS.out.put 6 (.slice y5 y6 y7));go_upto_region 30 with fail
   generalize w8.setCell ⟨g+1,6,none⟩ (.slice y5 y6 y7)=w9 at *;replace HS:=hid (Xa.out.at_ (show _=#[.int .u8 (op.toNat:Int),.string nm,.int .i64 0,.int .i64 0,.int .i64 0,.int .i64 0,.slice y5 y6 y7,.string nm,.int .i64 z,.string a] from rfl));clear Xa x6 fx d1;have Xd:=HS.out.load;have hl:=HS.out.fin.1;have HB:=hid HS.out.fin.2;simp only[qcy,Nat.reduceAdd] at hl HB;have e0:=zjc g 0 HS.out.r0;have e1:=zjc g 1 HS.out.r0;have e2:=zjc g 2 HS.out.r0;have e3:=zjc g 3 HS.out.r0;have e4:=zjc g 4 HS.out.r0;have e5:=zjc g 5 HS.out.r0;have e6:=zjc g 6 HS.out.r0;have e7:=zjc g 7 HS.out.r0;have e8:=zjc g 8 HS.out.r0;have e9:=zjc g 9 HS.out.r0;have x0:=zjc (g+1) 0 HS.out.r1;have x1:=zjc (g+1) 1 HS.out.r1;have x2:=zjc (g+1) 2 HS.out.r1;have x3:=zjc (g+1) 3 HS.out.r1;have x4:=zjc (g+1) 4 HS.out.r1;have x5:=zjc (g+1) 5 HS.out.r1;have x6:=zjc (g+1) 6 HS.out.r1;have x7:=zjc (g+1) 7 HS.out.r1;have x8:=zjc (g+1) 8 HS.out.r1;have x9:=zjc (g+1) 9 HS.out.r1;have fw:∀o,w9.frozen? ⟨g,o,none⟩=false:=fun o=>zlp _ _ o _ _ HS.out.r0;have HP:=hid (show CmdP (ask fs (w0::nm::f::r3)) w (.returned (.tuple #[.agg #[.int .u8 (op.toNat:Int),.string nm,.int .i64 0,.int .i64 0,.int .i64 0,.int .i64 0,.slice y5 y6 y7,.string nm,.int .i64 z,.string a],.int .i64 0])) _ from ⟨⟨op,⟨nm,0,0,0,0,y5,y6,y7,y8⟩,nm,z,a⟩,by rw[HA.out];rfl,fun _=>by rw[HA.out];rfl,by rw[HG.out];exact HB.out⟩);clear HS HB HA HF HW;go_wp2_with fail
   exact zlf (v:=.tuple #[.agg #[.int .u8 (op.toNat:Int),.string nm,.int .i64 0,.int .i64 0,.int .i64 0,.int .i64 0,.slice y5 y6 y7,.string nm,.int .i64 z,.string a],.int .i64 0]) (by simp[results,results26,asAddr,hl]) rfl HP.out
open JD (tx)
def LineP (x:List UInt8×List ByteArray×Int)(w:World)(e:Ending)(w':World):Prop:=
 ∃(A:Option Addr)(n c:Nat)(B:Option Addr)(k d:Nat),e=.returned (.tuple #[.slice A n c,.slice B k d,.int .i64 x.2.2])/\JB.Own w' w.heap.size (.slice A n c) n x.1/\JS.Rd w' w'.heap.size B k x.2.1/\Below w.heap.size w w'
theorem splS_ne (c:UInt8)(s:ByteArray):qfj c s≠[]:=fun h=>qrw c _ _ (List.map_eq_nil_iff.1 h)
theorem splS_len {c:UInt8}{s:ByteArray}:(qfj c s).length<=s.size+1:=by
 have:=qm9 c (bts s) [];unfold qfj;rw[zlB,<-qa2];exact this
theorem Qa8 (k:Nat):errL (k:Int)=[⟨#[101,114,114,111,114,32]⟩++⟨(tx 10 k).toArray⟩]:=by
 unfold errL str;rw[zlt];exact congrArg (fun x=>[x]) (JD.qf1 _ _).symm
theorem qwb (A:Option Addr)(n c:Nat)(l:List UInt8)(F:Option Addr)(fn fc:Nat)(fs:List Mem)(s:ByteArray)(w:World)(hr:JB.Rd w w.heap.size A n l)(hnc:n<=c)(hB:BOk l)(hf:RdF w w.heap.size F fn fs)(hfo:FOk fs)(hfn:fn<=1000)(hs:s.size<=1000):
 Calls prog 17 #[.slice A n c,.slice F fn fc,.string s] w (LineP (qcs l fs s) w):=by
 have hn:n<=99000:=by rw[<-hr.1];exact hB.len
 have Yi:=hid hB;have Yq:=hid hnc;have Yb:=hid hfo;have Xu:=hid (qtk hs);have FB:=hid fun (W:World) (h:Below w.heap.size w W)=>h;have FA:=hid fun (W:World) (h:Below w.heap.size w W)=>(hr.below h).more h.size;have FF:=hid fun (W:World) (h:Below w.heap.size w W)=>(hf.below h).more h.size;have Xz:=hid (qrx s 32 w (by omega));have Yz:=hid hs;obtain⟨w0,r,Xr⟩:=List.exists_cons_of_ne_nil (splS_ne 32 s);have HL:Hid (qcs l fs s=qr4 l (ask fs (w0::r)).1 (ask fs (w0::r)).2):=hid (by unfold qcs;rw[Xr]);have Yn:Hid ((w0::r).length<=s.size+1):=hid (by rw[<-Xr];exact splS_len);rw[Xr] at Xz Xu;generalize qcs l fs s=LS at *;clear hr hB hf hfo hnc hs Xr;go_enter func17,ntmps17;go_wp2_with fail
 refine Xz.out.mono ?_;rintro e w1 ⟨A1,n1,c1,rfl,ho,b1⟩;obtain⟨_,_,e1,hw,Xi,Yk⟩:=ho.reads;injection e1 with e11 _ e13;subst e11 e13;have Yt:n1<=100000:=by have h1:=hw.1;have h2:=Yn.out;have:=Yz.out;omega
 have HC:=hid (qwa w1.heap.size F fn fc fs A1 n1 c1 w0 r w1 (FF.out w1 b1) hw zjn Yt Xi Yk hfn);replace FB:=zjF FB b1;replace FA:=zjF FA b1;replace FF:=zjF FF b1;clear Xz hw Xi Yk Yt b1 ho Yn;go_wp2_with fail
 refine HC.out.mono ?_;rintro e w2 ⟨q,rfl,hq,b2⟩;replace FB:=zjF FB b2;replace FA:=zjF FA b2;replace FF:=zjF FF b2;obtain⟨az,Xq⟩:∃az,(ask fs (w0::r)).2=az:=⟨_,rfl⟩;have Kc:=hid Xq;have HE:=hid (ask_e fs (w0::r));rw[Xq] at hq HE HL |-;have HQ:=hid hq;have Xc:=hid fun (h0:az=0)=>Qfv (ws:=w0::r) (Xq.trans h0) (FF.out w2 zjb) zjn Yb.out Xu.out;have Yd:=hid fun (h0:az=0)=>rq_run (ws:=w0::r) (Xq.trans h0) l;have Xx:Hid (az=0->q.op=(ask fs (w0::r)).1.op):=hid fun h0=>by rw[hq h0];rfl
 clear HC b2 hq Xq Kc;obtain⟨op,⟨m0,m1,m2,m3,m4,m5,m6,m7,m8⟩,nm,z,a⟩:=q;simp only[Cmd.val,Cmd.cells];have ba:=zjB w2 (.cells #[.int .u8 (op.toNat:Int),.string m0,.int .i64 m1,.int .i64 m2,.int .i64 m3,.int .i64 m4,.slice m5 m6 m7,.string nm,.int .i64 z,.string a] 67);have ha:=zld w2 (.cells #[.int .u8 (op.toNat:Int),.string m0,.int .i64 m1,.int .i64 m2,.int .i64 m3,.int .i64 m4,.slice m5 m6 m7,.string nm,.int .i64 z,.string a] 67);have sa:=zlr w2 (.cells #[.int .u8 (op.toNat:Int),.string m0,.int .i64 m1,.int .i64 m2,.int .i64 m3,.int .i64 m4,.slice m5 m6 m7,.string nm,.int .i64 z,.string a] 67);go_upto_region 2 with fail
 generalize w2.alloc (.cells #[.int .u8 (op.toNat:Int),.string m0,.int .i64 m1,.int .i64 m2,.int .i64 m3,.int .i64 m4,.slice m5 m6 m7,.string nm,.int .i64 z,.string a] 67)=w3 at *;have la:w2.heap.size<w3.heap.size:=by omega
 replace FB:=zjF FB ba;replace FA:=zjF FA ba;replace Xc:=hid fun (h0:az=0)=>(⟨(Xc.out h0).1.on ba,(Xc.out h0).2.1.on ba⟩:_/\_);obtain⟨g,hg⟩:∃g,w2.heap.size=g:=⟨_,rfl⟩;rw[hg] at ha la |-;have FR:=hid fun (W:World) (h:Below w3.heap.size w3 W)=>(h.block g la).trans ha;have Xt:Hid (g<=w3.heap.size):=hid (by omega);rw[hg] at Xc;clear ba ha sa hg FF;by_cases hz:az=0
 case' neg=>
  have Kd:(az==0)=false:=by rw[zls];exact hz
  have HX:=hid (HL.out.trans (qi9 hz));clear HQ Xc Yd Xx FR Xt HL Yi Xu Yb hz;obtain⟨v,rfl⟩:∃v,v=w3:=⟨_,rfl⟩;obtain⟨zz,rfl⟩:∃zz,zz=az:=⟨_,rfl⟩;go_upto_region 12 with fail
 case' pos=>
  subst hz;have hq:=HQ.out rfl;have HR:=hid (rrun_any A n c l ⟨op,⟨m0,m1,m2,m3,m4,m5,m6,m7,m8⟩,nm,z,a⟩ w3 (FA.out w3 zjb) Yq.out Yi.out (by rw[hq];exact (Xc.out rfl).2.more Xt.out zjn));have Xe:Hid (qbs l ⟨op,⟨m0,m1,m2,m3,m4,m5,m6,m7,m8⟩,nm,z,a⟩=qbs l (ask fs (w0::r)).1):=hid (by rw[hq];exact Yd.out rfl);have Xy:Hid (op=(ask fs (w0::r)).1.op):=hid (Xx.out rfl);have Xk:=hid (runS_e l ⟨op,⟨m0,m1,m2,m3,m4,m5,m6,m7,m8⟩,nm,z,a⟩);obtain⟨rs,Yx⟩:∃rs,qbs l ⟨op,⟨m0,m1,m2,m3,m4,m5,m6,m7,m8⟩,nm,z,a⟩=rs:=⟨_,rfl⟩;unfold qy4 at HR;simp only[Cmd.val,Cmd.cells] at HR;rw[Yx] at HR Xe Xk;have y0:=zjc g 0 (FR.out w3 (Below.refl _ _));have y1:=zjc g 1 (FR.out w3 (Below.refl _ _));have y2:=zjc g 2 (FR.out w3 (Below.refl _ _));have y3:=zjc g 3 (FR.out w3 (Below.refl _ _));have y4:=zjc g 4 (FR.out w3 (Below.refl _ _));have y5:=zjc g 5 (FR.out w3 (Below.refl _ _));have y6:=zjc g 6 (FR.out w3 (Below.refl _ _));have y7:=zjc g 7 (FR.out w3 (Below.refl _ _));have y8:=zjc g 8 (FR.out w3 (Below.refl _ _));have y9:=zjc g 9 (FR.out w3 (Below.refl _ _));clear hq Yx HQ Xc Yd Xx Yi Xu Yb HE;go_wp2_with fail
  have Yp:=hid (FB.out w3 zjb).size;refine HR.out.mono ?_;rintro e w4 ⟨A4,n4,c4,B4,k4,d4,D4,j4,f4,rfl,o1,o2,o3,b4⟩;replace FB:=zjF FB b4;replace FA:=zjF FA b4;replace FR:=zjF FR b4;clear HR y0 y1 y2 y3 y4 y5 y6 y7 y8 y9;have Yu:=hid (o1.more (Yp.out));have Xn:=hid o2.reads;have Ys:=hid o3.reads;clear o1 o2 o3 b4;have ba:=zjB w4 (.cells #[.slice A4 n4 c4,.slice B4 k4 d4,.slice D4 j4 f4] 70);have ha:=zld w4 (.cells #[.slice A4 n4 c4,.slice B4 k4 d4,.slice D4 j4 f4] 70);have sa:=zlr w4 (.cells #[.slice A4 n4 c4,.slice B4 k4 d4,.slice D4 j4 f4] 70);go_upto_region 4 with fail
  generalize w4.alloc (.cells #[.slice A4 n4 c4,.slice B4 k4 d4,.slice D4 j4 f4] 70)=w5 at *;have la:w4.heap.size<w5.heap.size:=by omega
  have Xh:=hid (Yu.out.below ba)
  have Xw:Hid (JS.Rd w5 w5.heap.size B4 k4 rs.2.1):=hid (by
   obtain⟨_,_,e1,h1,_⟩:=Xn.out;injection e1 with e2 _ e3;subst e2 e3;exact (h1.below ba).more ba.size)
  have Xg:Hid (j4=rs.2.2.1.length/\j4<9223372036854775808):=hid (by
   obtain⟨_,_,e1,h1,h2,h3⟩:=Ys.out;injection e1 with e2 _ e3;subst e2 e3;exact⟨h1.1.symm,by unfold maxLen at h3;omega⟩)
  replace FB:=zjF FB ba;replace FA:=zjF FA ba;replace FR:=zjF FR ba;obtain⟨u,hu⟩:∃u,w4.heap.size=u:=⟨_,rfl⟩;rw[hu] at ha la |-;have FT:=hid fun (W:World) (h:Below w5.heap.size w5 W)=>(h.block u la).trans ha;clear ba ha sa hu Yu Xn Ys Yp la;obtain⟨rz,Yf⟩:∃rz,rs.2.2.2=rz:=⟨_,rfl⟩;have Xp:=hid Yf;rw[Yf] at Xk |-;clear Yf;by_cases hz2:rz=0
  case' neg=>
   have Kd:(rz==0)=false:=by rw[zls];exact hz2
   have HX:Hid (LS=(l,errL rz,rz)):=hid (by
    rw[HL.out,qia (by rw[<-Xe.out,Xp.out];exact hz2),<-Xe.out,Xp.out])
   have HE:=hid Xk.out;clear FR FT Xt HL Xe Xy Xk Xp Xh Xw Xg hz2;obtain⟨v,rfl⟩:∃v,v=w5:=⟨_,rfl⟩;obtain⟨zz,rfl⟩:∃zz,zz=rz:=⟨_,rfl⟩;go_upto_region 12 with fail
  case' pos=>
   subst hz2
   have HX:Hid (LS=(rs.1,outL op rs.2.1 rs.2.2.1,0)):=hid (by
    rw[HL.out,qiw (by rw[<-Xe.out];exact Xp.out),<-Xe.out,<-Xy.out])
   have y0:=zjc g 0 (FR.out w5 (Below.refl _ _));have t0:=zjc u 0 (FT.out w5 (Below.refl _ _));have t1:=zjc u 1 (FT.out w5 (Below.refl _ _));have t2:=zjc u 2 (FT.out w5 (Below.refl _ _));clear FR Xt HL Xe Xy Xk Xp FA Yq;by_cases h116:op=116
   case pos=>
    have q1:((op.toNat:Int)==116)=true:=(qcg (k:=116) (by omega)).trans (decide_eq_true h116);have Xa:=hid (HX.out.trans (by rw[h116];rfl:_=(rs.1,rs.2.1,(0:Int))));clear HX h116 FT Xg;go_upto_region 8 with fail
    go_quiet (fail)
    go_wp2_with fail
    exact zlf (v:=.tuple #[.slice A4 n4 c4,.slice B4 k4 d4,.int .i64 0]) (by simp[results,results17,asAddr]) rfl ⟨A4,n4,c4,B4,k4,d4,by rw[Xa.out],by rw[Xa.out];exact Xh.out,by rw[Xa.out];exact Xw.out,(FB.out w5 zjb).trans (JD.qa0 _ _)⟩
   have q1:((op.toNat:Int)==116)=false:=(qcg (k:=116) (by omega)).trans (decide_eq_false h116);by_cases h120:op=120
   case pos=>
    have q2:((op.toNat:Int)==120)=true:=(qcg (k:=120) (by omega)).trans (decide_eq_true h120);have Xa:=hid (HX.out.trans (by rw[h120];rfl:_=(rs.1,[str (tx 10 rs.2.2.1.length)],(0:Int))));have hj:=Xg.out.2;have HJ:=hid Xg.out.1;have HT:=hid (fun W=>JD.qhf 10 (by decide) j4 hj W);clear HX h116 h120 Xg Xw;go_upto_region 10 with fail
    have Ya:Below w5.heap.size w5 w5.drew:=(Below.refl _ _).drew;have hS:(fun W=>W.cell? ⟨u,0,none⟩=some (.slice A4 n4 c4)/\W.cell? ⟨u,2,none⟩=some (.slice D4 j4 f4)) w5.drew:=⟨t0,t2⟩;refine Ord.qaf.begin (fun W=>W.cell? ⟨u,0,none⟩=some (.slice A4 n4 c4)/\W.cell? ⟨u,2,none⟩=some (.slice D4 j4 f4)) 9 (by kernel_rfl) ?_;have Yc:=hid ((FB.out w5 zjb).trans (Ya.mono (FB.out w5 zjb).size));have Yv:=hid (Xh.out.below Ya);generalize w5.drew=wd at *;clear Ya t0 t1 t2 Xh FB;refine zjV 0 41 hS ?_;refine zjV 1 42 hS ?_;refine zjV 2 43 hS ?_;refine zjV 3 44 hS ?_;refine zjV 4 45 hS ?_;refine Ord.qaf.step 5 (by kernel_rfl) rfl (fun C hC=>?_);go_simp;go_at_call 18;refine (HT.out wd).mono ?_;rintro e w6 ⟨rfl,mm,rfl⟩;have b6:=JD.qa0 (K:=wd.heap.size) wd mm;have Xf:u<wd.heap.size:=World.block_lt_of_cell? _ _ hS.1;replace hS:(fun W=>W.cell? ⟨u,0,none⟩=some (.slice A4 n4 c4)/\W.cell? ⟨u,2,none⟩=some (.slice D4 j4 f4)) (wd.drewN mm):=⟨(b6.cell (p:=⟨u,0,none⟩) Xf).trans hS.1,(b6.cell (p:=⟨u,2,none⟩) Xf).trans hS.2⟩;go_wp2_with fail
    refine hC.out _ _ (fun _=>hS) ?_;clear hC C;try simp only[zjA]
    have Xd:=hid (Yv.out.below b6);have Yh:=hid (Yc.out.trans (b6.mono Yc.out.size));generalize wd.drewN mm=w6 at *;clear b6 Xf Yv Yc HT;have ba:=(Below.refl w6.heap.size w6).alloc zjn (.cells #[.string ⟨(tx 10 j4).toArray⟩] 9);have Xb:=JS.Rd.lit w6 [⟨(tx 10 j4).toArray⟩] #[.string ⟨(tx 10 j4).toArray⟩] rfl 1 rfl;have Xf:u<w6.heap.size:=World.block_lt_of_cell? _ _ hS.1;have Ke:=hid (Yh.out.trans (ba.mono Yh.out.size));have Yj:=hid (Xd.out.below ba);have Ye:=hid (Xb.more (show w6.heap.size+1<=(w6.alloc (.cells #[.string ⟨(tx 10 j4).toArray⟩] 9)).heap.size by simp));have Yr:(fun W=>W.cell? ⟨u,0,none⟩=some (.slice A4 n4 c4)/\W.cell? ⟨u,2,none⟩=some (.slice D4 j4 f4)) (w6.alloc (.cells #[.string ⟨(tx 10 j4).toArray⟩] 9)):=⟨(ba.cell (p:=⟨u,0,none⟩) Xf).trans hS.1,(ba.cell (p:=⟨u,2,none⟩) Xf).trans hS.2⟩;clear ba Xb Xf Yh Xd;refine zjV 7 6 hS ?_;refine Ord.qaf.step 6 (by kernel_rfl) rfl (fun C hC=>?_);go_simp;refine hC.out _ _ (fun _=>Yr) ?_;clear hC C hS;try simp only[zjA]
    have hS:=Yr;generalize w6.alloc (.cells #[.string ⟨(tx 10 j4).toArray⟩] 9)=w7 at *;refine Ord.qaf.step 8 (by kernel_rfl) rfl (fun C hC=>?_);go_simp;refine hC.out _ _ (fun _=>hS) ?_;clear hC C;try simp only[zjA]
    refine Ord.qaf.step 9 (by kernel_rfl) rfl (fun C hC=>?_);go_simp;refine hC.out _ _ (fun _=>hS) ?_;clear hC C;try simp only[zjA]
    refine Ord.qaf.done (by kernel_rfl) ?_ _;go_wp2_with fail
    exact zlf (v:=.tuple #[.slice A4 n4 c4,.slice (some ⟨w6.heap.size,0,none⟩) 1 1,.int .i64 0]) (by simp[results,results17,asAddr]) rfl ⟨A4,n4,c4,_,1,1,by rw[Xa.out],by rw[Xa.out];exact Yj.out,by rw[Xa.out,<-HJ.out];exact Ye.out,Ke.out⟩
   have q2:((op.toNat:Int)==120)=false:=(qcg (k:=120) (by omega)).trans (decide_eq_false h120);have Xa:=hid (HX.out.trans (by unfold outL;rw[if_neg h116,if_neg h120]:_=(rs.1,[okN],(0:Int))));have HF:=hid (FB.out w5 zjb);have ba:=(Below.refl w5.heap.size w5).alloc zjn (.cells #[.string ⟨#[111,107]⟩] 9);have Xb:=JS.Rd.lit w5 [okN] #[.string ⟨#[111,107]⟩] rfl 1 rfl;have Xj:=hid (HF.out.trans (ba.mono HF.out.size));have Xd:=hid (Xh.out.below ba);have Ka:=hid (Xb.more (show w5.heap.size+1<=(w5.alloc (.cells #[.string ⟨#[111,107]⟩] 9)).heap.size by simp));clear HX h116 h120 Xg Xw HF ba Xb;go_wp2_with fail
   exact zlf (v:=.tuple #[.slice A4 n4 c4,.slice (some ⟨w5.heap.size,0,none⟩) 1 1,.int .i64 0]) (by simp[results,results17,asAddr]) rfl ⟨A4,n4,c4,_,1,1,by rw[Xa.out],by rw[Xa.out];exact Xd.out,by rw[Xa.out];exact Ka.out,Xj.out⟩
 all_goals
  obtain⟨k,rfl⟩:∃k:Nat,zz=(k:Int):=⟨zz.toNat,by have:=HE.out.1;omega⟩;have hk:k<9223372036854775808:=by have:=HE.out.2;omega
  have HT:=hid (fun W=>JD.qhf 10 (by decide) k hk W);have Kb:(tx 10 k).length<=63:=by rw[JD.qb0 (by omega)];exact JD.qex (by omega) (by omega)
  have Xs:=zjB v (.cells #[] 5);have Xm:=JB.Own.lit0 v v.heap.size zjn;have Ym:=(FA.out v zjb).below Xs;have HF:=hid (FB.out v zjb);clear FA FB HE hk;go_wp2_with (at_builtin;go_must (refine qcc _ v.heap.size _ 0 [] Xm Xs.size A n c v.heap.size l Ym (by omega) rfl (.tmp 51) (.tmp 52) rfl rfl rfl ?_);intro v2 w2 Xv Yw _;rw[Nat.zero_add,zlI] at Xv;obtain⟨A2,c2,rfl,_⟩:=Xv.reads)
  have Yg:=hid (HF.out.trans ((Xs.trans Yw).mono HF.out.size));have Xn:=hid (Xv.more HF.out.size);clear Xs Xm Ym Yw Xv HF;refine (HT.out w2).mono ?_;rintro e w6 ⟨rfl,mm,rfl⟩;have b6:=JD.qa0 (K:=w2.heap.size) w2 mm;have Xj:=hid (Yg.out.trans (b6.mono Yg.out.size));have Xd:=hid (Xn.out.below b6);generalize w2.drewN mm=w6 at *;have ba:=(Below.refl w6.heap.size w6).alloc zjn (.cells #[.string (⟨#[101,114,114,111,114,32]⟩++⟨(tx 10 k).toArray⟩)] 9);have Xb:=JS.Rd.lit w6 [⟨#[101,114,114,111,114,32]⟩++⟨(tx 10 k).toArray⟩] #[.string (⟨#[101,114,114,111,114,32]⟩++⟨(tx 10 k).toArray⟩)] rfl 1 rfl;have Yy:=hid (Xj.out.trans (ba.mono Xj.out.size));have Yj:=hid (Xd.out.below ba);have Ye:=hid (Xb.more (show w6.heap.size+1<=(w6.alloc (.cells #[.string (⟨#[101,114,114,111,114,32]⟩++⟨(tx 10 k).toArray⟩)] 9)).heap.size by simp));clear b6 Yg Xn Xj Xd ba Xb HT;go_wp2_with fail
  exact zlf (v:=.tuple #[.slice A2 n c2,.slice (some ⟨w6.heap.size,0,none⟩) 1 1,.int .i64 (k:Int)]) (by simp[results,results17,asAddr]) rfl ⟨A2,n,c2,_,1,1,by rw[HX.out],by rw[HX.out];exact Yj.out,by rw[HX.out,Qa8];exact Ye.out,Yy.out⟩
end Lsc
namespace Lsc
open JB
open JN (bts str qac qaw qa2)
open JR (Mem ar)
open JL
open JS (Oth)
open JW (qai)
def ScrP (x:List UInt8×List ByteArray)(w:World)(e:Ending)(w':World):Prop:=
 ∃(A:Option Addr)(n c:Nat)(B:Option Addr)(k d:Nat),e=.returned (.tuple #[.slice A n c,.slice B k d])/\JB.Own w' w.heap.size (.slice A n c) n x.1/\JS.Rd w' w'.heap.size B k x.2/\Below w.heap.size w w'
def ArcP (W:World)(K:Nat)(A:Option Addr)(n c:Nat)(l:List UInt8):Prop:=JB.Rd W K A n l∨JB.Own W K (.slice A n c) n l
theorem ArcP.next {W W':World}{K n c:Nat}{A:Option Addr}{l:List UInt8}(h:ArcP W K A n c l)(hb:Below K W W')(ho:Oth 9 W W'):ArcP W' K A n c l:=
 h.imp (fun h=>h.below hb) (fun h=>qai h ho (by decide))
theorem ArcP.rd {W:World}{K n c:Nat}{A:Option Addr}{l:List UInt8}(h:ArcP W K A n c l)(hK:K<=W.heap.size):JB.Rd W W.heap.size A n l:=
 h.elim (fun h=>h.more hK) (fun h=>by
  obtain⟨_,_,e,h1,_⟩:=h.reads;injection e with e2 _ e3;subst e2 e3;exact h1)
structure qn4 (l:List UInt8) (fs:List Mem) (ls:List ByteArray) (N S:Nat):Prop where
 sml:Sml l N S
 n:N+ls.length<=200
 s:S+400 * ls.length<=14900
 f:FOk fs
 l:∀t∈ls,t.size<=1000
theorem qn4.at_ {l:List UInt8}{fs:List Mem}{ls:List ByteArray}{N S:Nat}(h:qn4 l fs ls N S){k:Nat}(hk:k<=ls.length):Sml (qj4 l fs (ls.take k)).1 (N+k) (S+400 * k):=by
 have h1:=Qa5 h.f (ls.take k) h.sml (by rw[zlu];have:=h.n;omega) (by rw[zlu];have:=h.s;omega) (fun t ht=>h.l t (List.mem_of_mem_take ht));rw[zlu] at h1;exact h1.wide (by omega) (by omega)
theorem qn4.bok {l:List UInt8}{fs:List Mem}{ls:List ByteArray}{N S:Nat}(h:qn4 l fs ls N S){k:Nat}(hk:k<ls.length):BOk (qj4 l fs (ls.take k)).1:=
 (h.at_ (Nat.le_of_lt hk)).bok (by have:=h.n;omega) (by have:=h.s;omega)
theorem qn4.out {l:List UInt8}{fs:List Mem}{ls:List ByteArray}{N S:Nat}(h:qn4 l fs ls N S){k:Nat}(hk:k<ls.length):(qcs (qj4 l fs (ls.take k)).1 fs ls[k]).2.1.length<=200:=
 qq6 (h.bok hk).n fs _
theorem qyc (A:Option Addr)(n c:Nat)(l:List UInt8)(F:Option Addr)(fn fc:Nat)(fs:List Mem)(s:ByteArray)(N S:Nat)(w:World)(hr:JB.Rd w w.heap.size A n l)(hnc:n<=c)(hS:qn4 l fs (qbm s) N S)(hf:RdF w w.heap.size F fn fs)(hfn:fn<=1000)(hs:s.size<=100000):
 Calls prog 11 #[.slice A n c,.slice F fn fc,.string s] w (ScrP (qj4 l fs (qbm s)) w):=by
 have HS:=hid hS;have HF:=hid fun (W:World) (h:Below w.heap.size w W)=>(hf.below h).more h.size;have Xp:=hid (qiv s w hs);have Yb:(qbm s).length<=200:=by have:=hS.n;omega
 generalize qbm s=ls at *;have Hr:=hid hr;clear hS hf hr;go_enter func11,ntmps11;go_wp2_with fail
 refine Xp.out.mono ?_;rintro e w1 ⟨L,m,d,rfl,hL,Ye,Yd,b1⟩;have HL:=hid fun (W:World) (h:Below w1.heap.size w1 W)=>(hL.below h).more h.size;have Hm:=hid hL.1;have Yh:m<=200:=by rw[<-hL.1];exact Yb
 have Xe:Hid (w.heap.size<=w1.heap.size):=hid b1.size;have Xi:=hid b1;clear Xp hL;go_wp2_with fail
 go_loopw [0,9,10] (fun b v i W=>∃(k:Nat)(A1:Option Addr)(n1 c1:Nat)(la:List UInt8)(B1:Option Addr)(m1 d1:Nat)(out:List ByteArray),b=.slice A1 n1 c1/\v=.slice B1 m1 d1/\i=.int .i64 (k:Int)/\k<=m/\n1<=c1/\m1<=200 * k/\ArcP W w1.heap.size A1 n1 c1 la/\JS.Own W w1.heap.size (.slice B1 m1 d1) m1 out/\Hid (qj4 l fs (ls.take k)=(la,out))/\Below w1.heap.size w1 W) (fun _ _ i _=>m-(intOf i).toNat)
 case atStart=>exact⟨0,A,n,c,l,none,0,0,[],rfl,rfl,rfl,by omega,hnc,by omega,.inl ((Hr.out.below Xi.out).more Xe.out),JS.Own.nil _ _,hid rfl,Below.refl _ _⟩
 case round=>
  obtain⟨k,A1,n1,c1,la,B1,m1,d1,out,rfl,rfl,rfl,hk,Xk,Yg,hA,hO,hR,hb⟩:=hrel;have Xa:=hb.size;by_cases hlt:k<m
  ·have Xb:k<ls.length:=by have:=Hm.out;omega
   have Xx:(k:Int)<(m:Int):=by omega
   obtain⟨b,o,rfl,Yi,c0⟩:=(HL.out wr hb).2 k Xb;have hB:=HS.out.bok Xb;have Xg:=HS.out.out Xb;have Xu:=HS.out.l ls[k] (zlq Xb);have HN:=hid (qw6 (l:=l) (fs:=fs) Xb);rw[hR.out] at hB Xg;have HX:=hid (qwb A1 n1 c1 la F fn fc fs ls[k] wr (hA.rd Xa) Xk hB (HF.out wr (Xi.out.trans (hb.mono Xe.out))) HS.out.f hfn Xu);rw[hR.out] at HN;clear hB Xu;generalize ls[k]=t at *;obtain⟨X,hX⟩:∃X,qcs la fs t=X:=⟨_,rfl⟩;simp only[hX] at HX HN Xg;clear hX;go_wp2_with fail
   refine HX.out.mono ?_;rintro e w2 ⟨A2,n2,c2,B2,k2,d2,rfl,oA,Xn,b2⟩;have Xy:=oA.more Xa;have Xz:=hO.below b2;have Xf:=hb.trans (b2.mono Xa);have Yj:k2<=200:=by rw[<-Xn.1];exact Xg
   obtain⟨_,_,ee,_,Xj,_⟩:=oA.reads;injection ee with ee2 _ ee3;subst ee2 ee3;have Xm:=hid Xf.size;clear HX oA b2 Xg c0 hA hO;go_wp2_with (at_builtin;go_must (refine JS.qah w2 w1.heap.size (.slice B1 m1 d1) m1 out Xz Xm.out B2 k2 d2 w2.heap.size X.2.1 Xn (by omega) rfl (.tmp 34) (.tmp 35) rfl rfl rfl ?_);intro v3 w3 Xq Xr Ya _;obtain⟨A3,d3,rfl,_⟩:=Xq.reads)
   go_roundw
   case rel=>exact⟨k+1,A2,n2,c2,X.1,A3,m1+k2,d3,out++X.2.1,rfl,rfl,by go_num,by omega,Xj,by omega,(show ArcP w2 w1.heap.size A2 n2 c2 X.1 from .inr Xy).next Xr Ya,Xq,HN,Xf.trans Xr⟩
   case measure=>simp[intOf];omega
  ·obtain rfl:k=m:=by omega
   have Xx:¬(k:Int)<(k:Int):=by omega
   have HE:Hid (qj4 l fs ls=(la,out)):=hid (by have:=hR.out;rwa [zlj (by have:=Hm.out;omega)] at this);have Xd:=zjB wr (.cells #[] 5);have Xc:=JB.Own.lit0 wr wr.heap.size zjn;have Xt:=(hA.rd Xa).below Xd
   have Yf:n1<=99000:=by
    have h1:=(HS.out.at_ (k:=k) (by have:=Hm.out;omega)).len;rw[hR.out] at h1;have h2:=(hA.rd Xa).1;have h3:la.length<=99000:=h1;omega
   have HO:=hid (hO.below Xd);have HB:=hid (Xi.out.trans ((hb.trans (Xd.mono Xa)).mono Xe.out));have Xs:=hid Xa;clear hA hO hR hb;go_wp2_with (at_builtin;go_must (refine qcc _ wr.heap.size _ 0 [] Xc Xd.size A1 n1 c1 wr.heap.size la Xt (by omega) rfl (.tmp 37) (.tmp 38) rfl rfl rfl ?_);intro v2 w2 Xh Xf ho;rw[Nat.zero_add,zlI] at Xh;obtain⟨A2,c2,rfl,_⟩:=Xh.reads)
   have HQ:=hid (JW.qbb HO.out ho (by decide));have Xw:=hid (HB.out.trans (Xf.mono (Nat.le_trans Xe.out Xs.out)));have Xv:=hid (Xh.more (Nat.le_trans Xe.out Xs.out));clear Xd Xc Xt Xf Xh HB HO ho;obtain⟨_,_,ee,hQ,_⟩:=HQ.out.reads;injection ee with ee2 _ ee3;subst ee2 ee3;have Yc:=hid hQ;clear hQ;exact zlf (v:=.tuple #[.slice A2 n1 c2,.slice B1 m1 d1]) (by simp[results,results11,asAddr]) rfl ⟨A2,n1,c2,B1,m1,d1,rfl,by rw[HE.out];exact Xv.out,by rw[HE.out];exact Yc.out,Xw.out⟩
end Lsc
end Go.Proofs.YtlmolmohhpdhdaaGreatDoor
