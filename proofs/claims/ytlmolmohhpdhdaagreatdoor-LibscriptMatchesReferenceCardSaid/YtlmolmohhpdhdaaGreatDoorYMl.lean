/-
  arparse: firstPart at every byte slice. arparse: parts, the
-/
import Derived.Test.YtlmolmohhpdhdaaGreatDoorYMk
import Derived.Deep.AppendLies
import Derived.Test.YtlmolmohhpdhdaaGreatDoorYMf
set_option maxRecDepth 100000
set_option maxHeartbeats 16000000
set_option linter.all false
namespace Go.Proofs.YtlmolmohhpdhdaaGreatDoor
open Go.RowKit Go.Proofs Tryz
namespace JR
open JB JD JN JH
theorem fin8v {w V:World}{B:Nat}(hh:V.heap[B]?=some (.cells #[.string ⟨#[]⟩,.int .i64 0,.int .i64 0,.int .i64 0,.int .i64 0,.int .i64 0,.slice none 0 0,.int .i64 0] 107 (0,0)))(hb:Below B w V)(x0 x1 x2 x3 x4 x5 x6 x7:Value):
 ((loadVar 107 ⟨B,0,none⟩).run prog ((((((((V.setCell ⟨B,0,none⟩ x0).setCell ⟨B,1,none⟩ x1).setCell ⟨B,2,none⟩ x2).setCell ⟨B,3,none⟩ x3).setCell ⟨B,4,none⟩ x4).setCell ⟨B,5,none⟩ x5).setCell ⟨B,6,none⟩ x6).setCell ⟨B,7,none⟩ x7)=.ok (.agg #[x0,x1,x2,x3,x4,x5,x6,x7]) ((((((((V.setCell ⟨B,0,none⟩ x0).setCell ⟨B,1,none⟩ x1).setCell ⟨B,2,none⟩ x2).setCell ⟨B,3,none⟩ x3).setCell ⟨B,4,none⟩ x4).setCell ⟨B,5,none⟩ x5).setCell ⟨B,6,none⟩ x6).setCell ⟨B,7,none⟩ x7))/\Below B w ((((((((V.setCell ⟨B,0,none⟩ x0).setCell ⟨B,1,none⟩ x1).setCell ⟨B,2,none⟩ x2).setCell ⟨B,3,none⟩ x3).setCell ⟨B,4,none⟩ x4).setCell ⟨B,5,none⟩ x5).setCell ⟨B,6,none⟩ x6).setCell ⟨B,7,none⟩ x7):=
 ⟨qim _ B _ (eight V B _ _ _ _ _ _ _ _ 107 hh x0 x1 x2 x3 x4 x5 x6 x7) rfl,qpc hb zjn _ _ _ _ _ _ _ _⟩
theorem qus (K b o:Nat)(n c:Nat)(l:List UInt8)(w:World)(hr:Rd w K (some ⟨b,o,none⟩) n l)(hK:K<=w.heap.size)(hc:n<=c)(h:qg6 l=0)(h2:qdi l<=l.length)(h3:psz l%2=1->l[60+psz l]?=some 10):
 Calls prog 67 #[.slice (some ⟨b,o,none⟩) n c] w fun e w'=>e=.returned (qhk (some ⟨b,o,none⟩) c l)/\Below w.heap.size w w':=by
 have Hp:=hid (qik (A:=(some ⟨b,o,none⟩)) (c:=c) (qhr h h2 (fun q=>q.2 (h3 q.1))));have h60:=(qkt h).1;have hl:=hr.1;have hn60:60<=n:=by omega
 have hsz:=qun l;have hpl:60+psz l<=n:=by unfold qdi pad at h2;omega
 have hnlt:¬((n-60:Nat):Int)<((pad (psz l):Nat):Int):=by unfold qdi at h2;omega
 have hb0:Below w.heap.size w (w.alloc (.cells #[.string ⟨#[]⟩,.int .i64 0,.int .i64 0,.int .i64 0,.int .i64 0,.int .i64 0,.slice none 0 0,.int .i64 0] 107)):=(Below.refl _ _).alloc zjn _;have hps:psz l<=n-60:=by omega
 have hpc:psz l<=c-60:=by omega
 have hcut:c≠60->qr0 (some ⟨b,o,none⟩) c 60=some ⟨b,o+60,none⟩:=qpb b o c 60;by_cases hodd:psz l%2=1
 ·have hne:(((psz l:Nat):Int) !=((pad (psz l):Nat):Int))=true:=by
   rw[bne_iff_ne];unfold pad;omega
  have hpl1:60+psz l+1<=n:=by unfold qdi pad at h2;omega
  have hps1:psz l<n-60:=by omega
  have hi:60+psz l<l.length:=by omega
  have hx:(((l[60+psz l].toNat:Int)) !=10)=false:=by
   have:=h3 hodd;rw[zlh hi] at this;injection this with this;rw[this];rfl
  obtain⟨b',o',e,hbK,hcell⟩:=hr.2 (60+psz l) hi;injection e with e;injection e with e1 e2;subst e1 e2;clear h2 h60 hl h3 hodd;go_enter func67,ntmps67;go_wp2_with fail
  refine (qdz K _ n c l _ (hr.below (hb0.mono hK)) (by simp;omega) hc).mono ?_;rintro e w1 ⟨rfl,hb1⟩;rw[h,qej l];rw[qej l] at Hp;have k2:=qa7 (B:=w.heap.size) hb1 (by simp);have f2:=qap (B:=w.heap.size) hb1 (by simp)
  have hh:w1.heap[w.heap.size]?=some (.cells #[.string ⟨#[]⟩,.int .i64 0,.int .i64 0,.int .i64 0,.int .i64 0,.int .i64 0,.slice none 0 0,.int .i64 0] 107 (0,0)):=by
   rw[hb1.block _ (by simp)];exact zld w _
  have hbw:=hb0.trans (hb1.mono hb0.size);have hck:c≠60:=by omega
  have Hf:=hid (fin8dd hh hbw (.cells #[.string (qax l),.int .i64 (qak l 0),.int .i64 (qak l 1),.int .i64 (qak l 2),.int .i64 (qak l 3),.int .i64 (psz l)] 105) (.string (qax l)) (.int .i64 (qak l 0)) (.int .i64 (qak l 1)) (.int .i64 (qak l 2)) (.int .i64 (qak l 3)) (.int .i64 (psz l)) (.slice (some ⟨b,o+60,none⟩) (psz l) (c-60)) (.int .i64 0));rw[hcut hck] at Hp;have hs1:w.heap.size<w1.heap.size:=by have:=hb1.size;simp at this;omega
  have hbs1:b<w1.heap.size:=by omega
  have hcl:w1.cell? ⟨b,o+(60+psz l),none⟩=some (.int .u8 (l[60+psz l].toNat:Int)):=(hbw.cell (p:=⟨b,o+(60+psz l),none⟩) (by show b<w.heap.size;omega)).trans hcell;rw[<-Nat.add_assoc] at hcl;clear hb0 hb1 hr hcell hbw hcut;go_wp2_with fail
  refine (qcm _ hsz _).mono ?_;rintro e w2 ⟨rfl,rfl⟩;go_wp2_with fail
  go_region_with (go_at_call 68;refine (qcm _ hsz _).mono ?_;rintro e w3 ⟨rfl,rfl⟩)
  all_goals go_wp2_with fail
  all_goals go_region
  all_goals go_wp2_with fail
  all_goals (obtain⟨hl,hbE⟩:=Hf.out)
  all_goals exact zlf (v:=.agg #[.string (qax l),.int .i64 (qak l 0),.int .i64 (qak l 1),.int .i64 (qak l 2),.int .i64 (qak l 3),.int .i64 (psz l),.slice (some ⟨b,o+60,none⟩) (psz l) (c-60),.int .i64 0]) (by simp[results,results67,asAddr,hl]) rfl ⟨by rw[Hp.out],hbE⟩
 ·have epad:pad (psz l)=psz l:=by unfold pad;omega
  rw[epad] at hnlt;have Hpad:=hid (fun W=>qcm (psz l) hsz W);rw[epad] at Hpad;have Hpad0:Hid (∀W,Calls prog 68 #[.int .i64 0] W fun e w'=>e=.returned (.int .i64 0)/\w'=W):=hid fun W=>qcm 0 (by omega) W;clear epad;have h0:c=60->psz l=0:=fun e=>by unfold qdi pad at h2;omega
  clear h2 h60 hl h3 hodd;go_enter func67,ntmps67;go_wp2_with fail
  refine (qdz K _ n c l _ (hr.below (hb0.mono hK)) (by simp;omega) hc).mono ?_;rintro e w1 ⟨rfl,hb1⟩;rw[h,qej l];rw[qej l] at Hp;have k2:=qa7 (B:=w.heap.size) hb1 (by simp);have f2:=qap (B:=w.heap.size) hb1 (by simp)
  have hh:w1.heap[w.heap.size]?=some (.cells #[.string ⟨#[]⟩,.int .i64 0,.int .i64 0,.int .i64 0,.int .i64 0,.int .i64 0,.slice none 0 0,.int .i64 0] 107 (0,0)):=by
   rw[hb1.block _ (by simp)];exact zld w _
  have hbw:=hb0.trans (hb1.mono hb0.size);have hs0:w.heap.size<w1.heap.size:=by have:=hb1.size;simp at this;omega
  have Hf:=hid (fun (q:Nat) D k=>fin8v (V:=(w1.alloc (.cells #[.string (qax l),.int .i64 (qak l 0),.int .i64 (qak l 1),.int .i64 (qak l 2),.int .i64 (qak l 3),.int .i64 (psz l)] 105)).drewN (q+1)) ((zlz w1 _ _ hs0).trans hh) ((hbw.alloc (Nat.le_of_lt hs0) _).trans (qa0 _ _)) (.string (qax l)) (.int .i64 (qak l 0)) (.int .i64 (qak l 1)) (.int .i64 (qak l 2)) (.int .i64 (qak l 3)) (.int .i64 (psz l)) (.slice (some ⟨b,D,none⟩) (psz l) k) (.int .i64 0));clear hb0 hb1 hr hbw;by_cases hck:c=60
  ·have hp0:=h0 hck;clear h0 hcut;obtain rfl:n=60:=by omega
   subst hck;rw[cutp_end,hp0] at Hp;rw[hp0] at Hf hsz hps hpc hnlt |-;clear hp0 Hpad;go_wp2_with fail
   refine (Hpad0.out _).mono ?_;rintro e w2 ⟨rfl,rfl⟩;go_wp2_with fail
   go_quiet ((go_at_call 68;refine Calls.quiet_of_same (Hpad0.out _)))
   go_wp2_with fail
   all_goals go_region
   all_goals go_wp2_with fail
   all_goals (obtain⟨hl,hbE⟩:=Hf.out nq o 0)
   all_goals exact zlf (v:=.agg #[.string (qax l),.int .i64 (qak l 0),.int .i64 (qak l 1),.int .i64 (qak l 2),.int .i64 (qak l 3),.int .i64 0,.slice (some ⟨b,o,none⟩) 0 0,.int .i64 0]) (by simp[results,results67,asAddr];exact hl) rfl ⟨by rw[Hp.out];rfl,hbE⟩
  ·rw[hcut hck] at Hp;clear h0 hcut;go_wp2_with fail
   refine (Hpad.out _).mono ?_;rintro e w2 ⟨rfl,rfl⟩;go_wp2_with fail
   go_quiet ((go_at_call 68;refine Calls.quiet_of_same (Hpad.out _)))
   go_wp2_with fail
   all_goals go_region
   all_goals go_wp2_with fail
   all_goals (obtain⟨hl,hbE⟩:=Hf.out nq (o+60) (c-60))
   all_goals exact zlf (v:=.agg #[.string (qax l),.int .i64 (qak l 0),.int .i64 (qak l 1),.int .i64 (qak l 2),.int .i64 (qak l 3),.int .i64 (psz l),.slice (some ⟨b,o+60,none⟩) (psz l) (c-60),.int .i64 0]) (by simp[results,results67,asAddr,hl]) rfl ⟨by rw[Hp.out],hbE⟩
theorem qsy (K:Nat)(A:Option Addr)(n c:Nat)(l:List UInt8)(w:World)(hr:Rd w K A n l)(hK:K<=w.heap.size)(hc:n<=c):
 Calls prog 67 #[.slice A n c] w fun e w'=>e=.returned (qhk A c l)/\Below w.heap.size w w':=by
 by_cases h:qg6 l=0
 ·have h60:=(qkt h).1;obtain⟨b,o,rfl,_⟩:=qig hr (by have:=hr.1;omega);by_cases h2:l.length<qdi l
  ·exact qpd K b o n c l w hr hK hc h h2
  ·by_cases h3:psz l%2=1/\l[60+psz l]?≠some 10
   ·exact qsx K b o n c l w hr hK hc h (by omega) h3
   ·refine qus K b o n c l w hr hK hc h (by omega) fun hp=>?_;by_cases e:l[60+psz l]?=some 10
    ·exact e
    ·exact absurd ⟨hp,e⟩ h3
 ·exact qsw K A n c l w hr hK hc h
end JR
namespace JR
open Go.RowKit Go.Shelf Go.Proofs JB JD JN JH
attribute [local go_sem] Oper.semAt_some
def qxg (t:TypeId)(W W':World):Prop:=∀(g:Nat)(cs:Array Value)(m:Nat×Nat),W.heap[g]?=some (Obj.cells cs t m)->W'.heap[g]?=some (Obj.cells cs t m)
theorem qxg.refl (t:TypeId)(W:World):qxg t W W:=fun _ _ _ h=>h
theorem qxg.trans {t:TypeId}{a b c:World}(h:qxg t a b)(k:qxg t b c):qxg t a c:=fun g cs m q=>k g cs m (h g cs m q)
theorem qxg.below {t:TypeId}{a b:World}(h:Below a.heap.size a b):qxg t a b:=fun g _ _ q=>by rw[h.block g (zla.1 q).1];exact q
def Kp (K0:Nat)(W W':World):Prop:=Below K0 W W'/\qxg 107 W W'/\qxg 22 W W'
theorem Kp.refl (K0:Nat)(W:World):Kp K0 W W:=⟨Below.refl _ _,qxg.refl _ _,qxg.refl _ _⟩
theorem Kp.trans {K0:Nat}{a b c:World}(h:Kp K0 a b)(k:Kp K0 b c):Kp K0 a c:=⟨h.1.trans k.1,h.2.1.trans k.2.1,h.2.2.trans k.2.2⟩
theorem Kp.put {K0:Nat}{w:World}(hn:K0<=w.heap.size)(W:World)(l:Nat)(o o':Obj)(hl:w.heap.size<=l)(h:W.heap[l]?=some o)(hc:o.isCells=false)(hw:o.isWalk=false):Kp K0 W (W.putObj l o'):=by
 refine⟨belowK_b hn W l o o' hl h hc hw,?_,?_⟩
 all_goals
  intro g cs m q;exact (grownBy_keeps_cells (grownBy_putObj' W l o') (fun r e=>by cases e;exact⟨_,h,hc⟩) q rfl).trans q
theorem parts_in (F:Fence)(n:Nat)(hf:F.fn 43)(hro:F.round=none)(v:Value)(hv:v.oneCell'=true)(w:World):
 CallsIn F n prog 43 #[v] w fun e w'=>e=.returned (.func (.func 66) #[] #[.pointer (some ⟨w.heap.size,0,none⟩)])/\w'=w.alloc (.cells #[v] 22):=by
 refine callsIn_of_wp func43 rfl hf ?_ hro;simp only[ntmps43,List.size_toArray,zlk,List.length_nil,Nat.reduceAdd,Nat.reduceSub,Array.replicate_succ,Array.replicate_zero,List.push_toArray,List.append_toArray,zlI,zlE];gi_wp2
 go_ret
 exact⟨rfl,rfl⟩
def encP (A:Option Addr)(c:Nat)(xs:List UInt8)(x:Nat):Array Value:=#[.int .i64 (x:Int),qhk (qr0 A c x) (c-x) (xs.drop x)]
theorem Qds (n:Nat)(hn:1<=n)(l Bn:Nat)(w0:World)(b o:Nat)(m c:Nat)(xs:List UInt8)(hr0:Rd w0 w0.heap.size (some ⟨b,o,none⟩) m xs)(hc:m<=c)(hm:m<1000000000)(h8:8<=m)(J Jx:List Nat->World->Prop)
 (W:World)(hJ:AbidesFrom W.heap.size J)
 (hY:∀pre x W1,J pre W1->pre.length<(qec 8 (xs.drop 8)).length->YieldAt Fence.wide (n-1) prog l (encP (some ⟨b,o,none⟩) c xs x) W1 fun e W'=>
  (e=.returned (.bool true)/\J (pre++[x]) W'/\Kp w0.heap.size W1 W')∨(e=.returned (.bool false)/\Jx (pre++[x]) W'))
 (hBn:Boxed W Bn 22 (.slice (some ⟨b,o,none⟩) m c))(hb0:Below w0.heap.size w0 W)(h0:J [] W):
 CallsIn Fence.wide n prog 66 #[.func (.yield l) #[] #[],.pointer (some ⟨Bn,0,none⟩)] W fun e W'=>(∃v,e=.returned v)/\
  ((∃ys,ys=qec 8 (xs.drop 8)/\J ys W')∨(∃pre,pre<+:qec 8 (xs.drop 8)/\Jx pre W')):=by
 refine callsIn_of_wp func66 rfl trivial ?_ rfl;simp only[ntmps66,List.size_toArray,zlk,List.length_nil,Nat.reduceAdd,Nat.reduceSub,Array.replicate_succ,Array.replicate_zero,List.push_toArray,List.append_toArray,zlI,zlE];gi_wp2
 gi_loopw [3] (fun p wr=>∃(pre:List Nat)(x:Nat),p=.int .i64 (x:Int)/\qec 8 (xs.drop 8)=pre++qec x (xs.drop x)/\x<=m/\J pre wr/\Below w0.heap.size w0 wr/\Boxed wr Bn 22 (.slice (some ⟨b,o,none⟩) m c))
  (fun p _=>m-(intOf p).toNat)
 case atStart=>exact⟨[],8,rfl,rfl,h8,h0,hb0,hBn⟩
 case round=>
  obtain⟨pre,x,rfl,hx,hxm,hJs,hb,hbx⟩:=hrel;have hcB:=hbx.cell;by_cases hpos:x<m
  ·have hposi:(x:Int)<(m:Int):=by omega
   have hr:=(hr0.below hb).cut x;have hl:=hr.1;have hrne:xs.drop x≠[]:=by intro e;rw[e] at hl;simp at hl;omega
   have Hfirst:=hid (qsy w0.heap.size _ (m-x) (c-x) (xs.drop x) wr hr hb.size (by omega));have hbn:Bn<wr.heap.size:=(zla.1 hbx).1;have hcx:c≠x:=by omega
   by_cases hp:qcz (xs.drop x)=0
   ·have hpo:=(qfb hp).2.1;rw[hl] at hpo;have Hx:Hid (qec 8 (xs.drop 8)=(pre++[x])++qec (x+qdi (xs.drop x)) (xs.drop (x+qdi (xs.drop x)))):=hid (by rw[hx,qk6 hrne hp,List.drop_drop];simp);have hsz:=qun (xs.drop x)
    have HEnc:Hid (encP (some ⟨b,o,none⟩) c xs x=#[.int .i64 (x:Int),.agg #[.string (qax (xs.drop x)),.int .i64 (qak (xs.drop x) 0),.int .i64 (qak (xs.drop x) 1),.int .i64 (qak (xs.drop x) 2),.int .i64 (qak (xs.drop x) 3),.int .i64 (psz (xs.drop x)),.slice (qr0 (some ⟨b,o+x,none⟩) (c-x) 60) (psz (xs.drop x)) (c-x-60),.int .i64 0]]):=hid (by
     unfold encP;rw[qpb b o c x hcx,qik hp,qej])
    rw[qik hp,qej] at Hfirst;obtain⟨nx,hnx⟩:∃nx,x+qdi (xs.drop x)=nx:=⟨_,rfl⟩;have hnxi:(x:Int)+(60+((pad (psz (xs.drop x)):Nat):Int))=(nx:Int):=by unfold qdi at hnx;omega
    have hnx1:x<nx:=by have:=qc2 (xs.drop x);omega
    have hnx2:nx<=m:=by omega
    rw[hnx] at Hx;have Hn:=hid (And.intro hnx1 (And.intro hnx2 hnxi));clear hnx hpo hp hrne hl hr hnx1 hnx2;generalize qr0 (some ⟨b,o+x,none⟩) (c-x) 60=D at *;generalize xs.drop x=r at *;have Hpad:=hid (fun W=>qcm (psz r) hsz W);generalize hps:psz r=z at *;have hpz:pad z<3000000000000:=by unfold pad;omega
    generalize pad z=z' at *;clear hps;gi_wp2_with fail
    refine⟨trivial,?_⟩;refine (callsIn_wide.2 Hfirst.out).mono ?_;rintro e w1 ⟨rfl,hb1⟩;have hb2:=hb1.alloc hb1.size (.cells #[.string (qax r),.int .i64 (qak r 0),.int .i64 (qak r 1),.int .i64 (qak r 2),.int .i64 (qak r 3),.int .i64 z,.slice D z (c-x-60),.int .i64 0] 107);have hJ2:=hJ pre wr _ none hJs (qd8 hb2) (fun r e=>by cases e);have hYx:=hY pre x _ hJ2 (by rw[Hx.out];simp);rw[HEnc.out] at hYx;obtain⟨fn,tmps,assign,body,hy,hR⟩:=hYx;have hbx2:=(hb2.block Bn hbn).trans hbx;clear hJ2;gi_wp2_with fail
    refine hR.mono ?_;rintro e W3 (⟨rfl,hJ3,hk3⟩|⟨rfl,hJx3⟩)
    ·have hrow:=hk3.2.1 _ _ _ (zld w1 _);have c5:=zjc _ 5 hrow;have c7:=zjc _ 7 hrow;have hbx3:Boxed W3 Bn 22 (.slice (some ⟨b,o,none⟩) m c):=hk3.2.2 _ _ _ hbx2;have Hb3:=hid (hb.trans ((hb2.mono hb.size).trans hk3.1));clear hy hR hrow hk3 hb1 hb2 hbx2 hbx;gi_wp2_with fail
     refine⟨trivial,?_⟩;refine (callsIn_wide.2 (Hpad.out _)).mono ?_;rintro e W4 ⟨rfl,rfl⟩;gi_wp2_with fail
     obtain⟨n1,n2,_⟩:=Hn.out;exact⟨⟨pre++[x],nx,rfl,Hx.out,n2,hJ3,Hb3.out,hbx3⟩,by simp[intOf];omega⟩
    ·gi_wp2_with fail
     refine zlf (results_none rfl _ _ _) rfl ?_;exact⟨⟨_,rfl⟩,.inr ⟨pre++[x],⟨_,Hx.out.symm⟩,hJx3⟩⟩
   ·have Hx:Hid (qec 8 (xs.drop 8)=pre++[x]):=hid (by rw[hx,qht hrne hp])
    have HEnc:Hid (encP (some ⟨b,o,none⟩) c xs x=#[.int .i64 (x:Int),.agg #[.string ⟨#[]⟩,.int .i64 0,.int .i64 0,.int .i64 0,.int .i64 0,.int .i64 0,.slice none 0 0,.int .i64 (qcz (xs.drop x))]]):=hid (by
     unfold encP;rw[qpb b o c x hcx,qgg rfl hp])
    rw[qgg rfl hp] at Hfirst;have hne:(qcz (xs.drop x) !=0)=true:=by simpa using hp
    clear hp hrne hl hr;generalize qcz (xs.drop x)=pe at *;gi_wp2_with fail
    refine⟨trivial,?_⟩;refine (callsIn_wide.2 Hfirst.out).mono ?_;rintro e w1 ⟨rfl,hb1⟩;have hb2:=hb1.alloc hb1.size (.cells #[.string ⟨#[]⟩,.int .i64 0,.int .i64 0,.int .i64 0,.int .i64 0,.int .i64 0,.slice none 0 0,.int .i64 pe] 107);have hJ2:=hJ pre wr _ none hJs (qd8 hb2) (fun r e=>by cases e);have hYx:=hY pre x _ hJ2 (by rw[Hx.out];simp);rw[HEnc.out] at hYx;obtain⟨fn,tmps,assign,body,hy,hR⟩:=hYx;clear hJ2;gi_wp2_with fail
    refine hR.mono ?_;rintro e W3 (⟨rfl,hJ3,hk3⟩|⟨rfl,hJx3⟩)
    ·have hrow:=hk3.2.1 _ _ _ (zld w1 _);have c7:=zjc _ 7 hrow;clear hy hR hrow hk3 hb1 hb2 hbx;gi_wp2_with fail
     refine zlf (results_none rfl _ _ _) rfl ?_;exact⟨⟨_,rfl⟩,.inl ⟨_,Hx.out.symm,hJ3⟩⟩
    ·gi_wp2_with fail
     refine zlf (results_none rfl _ _ _) rfl ?_;exact⟨⟨_,rfl⟩,.inr ⟨pre++[x],⟨[],by rw[zlJ];exact Hx.out.symm⟩,hJx3⟩⟩
  ·have hposi:¬(x:Int)<(m:Int):=by omega
   have hr0':xs.drop x=[]:=zlD (by have:=hr0.1;omega);have Hx:Hid (qec 8 (xs.drop 8)=pre):=hid (by rw[hx,hr0',qgf,zlJ]);clear hr0' hx;gi_wp2_with fail
   go_end0
   exact⟨⟨_,rfl⟩,.inl (by rw[Hx.out];exact hJs)⟩
theorem qxh (n:Nat)(hn:1<=n)(Bn:Nat)(w0:World)(b o:Nat)(m c:Nat)(xs:List UInt8)(hr0:Rd w0 w0.heap.size (some ⟨b,o,none⟩) m xs)(hc:m<=c)(hm:m<1000000000)(h8:8<=m)(w:World)(hBn:Bn<w.heap.size)
 (hcell:Boxed w Bn 22 (.slice (some ⟨b,o,none⟩) m c))(hb0:Below w0.heap.size w0 w):
 SeqStopsK Fence.wide n prog 66 #[.pointer (some ⟨Bn,0,none⟩)] (encP (some ⟨b,o,none⟩) c xs) (Kp w0.heap.size) (fun ys=>ys=qec 8 (xs.drop 8)) (fun pre=>pre<+:qec 8 (xs.drop 8)) (qec 8 (xs.drop 8)).length w:=
 fun l J Jx W hW hJ _ hY h0=>
  Qds n hn l Bn w0 b o m c xs hr0 hc hm h8 J Jx W hJ hY ((hW.block Bn hBn).trans hcell) (hb0.trans (hW.mono hb0.size)) h0
end JR
namespace JR
open JB JD JN JH
def Col (W:World)(B:Nat)(x:Arc)(T:Option Addr)(tn tc cnt:Nat):Prop:=
 W.heap[B]?=some (.cells #[.bool x.hasMap,.slice x.mp x.mn x.mc,.slice x.ap x.an x.ac,.slice x.op x.on x.oc,.slice T tn tc,.int .i64 (cnt:Int)] 100 (0,0))
theorem Col.cells {W:World}{B:Nat}{x:Arc}{T:Option Addr}{tn tc cnt:Nat}(h:Col W B x T tn tc cnt):
 W.cell? ⟨B,0,none⟩=some (.bool x.hasMap)/\W.cell? ⟨B,1,none⟩=some (.slice x.mp x.mn x.mc)/\W.cell? ⟨B,2,none⟩=some (.slice x.ap x.an x.ac)/\W.cell? ⟨B,3,none⟩=some (.slice x.op x.on x.oc)/\W.cell? ⟨B,4,none⟩=some (.slice T tn tc)/\W.cell? ⟨B,5,none⟩=some (.int .i64 (cnt:Int))/\
 (∀o,W.frozen? ⟨B,o,none⟩=false)/\B<W.heap.size:=by
 refine⟨zlc W B 0 _ _ _ h,zlc W B 1 _ _ _ h,zlc W B 2 _ _ _ h,zlc W B 3 _ _ _ h,zlc W B 4 _ _ _ h,zlc W B 5 _ _ _ h,fun o=>?_,(zla.1 h).1⟩;unfold Col at h;simp[World.frozen?,h]
structure But (B:Nat) (W W':World):Prop where
 os:W'.os=W.os
 tape:W'.tape=W.tape
 output:W'.output=W.output
 size:W.heap.size<=W'.heap.size
 block:∀g,g<W.heap.size->g≠B->W'.heap[g]?=W.heap[g]?
theorem But.refl (B:Nat)(W:World):But B W W:=⟨rfl,rfl,rfl,Nat.le_refl _,fun _ _ _=>rfl⟩
theorem But.trans {B:Nat}{a b c:World}(h:But B a b)(k:But B b c):But B a c:=
 ⟨k.os.trans h.os,k.tape.trans h.tape,k.output.trans h.output,Nat.le_trans h.size k.size,fun g hg hn=>(k.block g (Nat.lt_of_lt_of_le hg h.size) hn).trans (h.block g hg hn)⟩
theorem But.below {B:Nat}{W W':World}(h:Below W.heap.size W W'):But B W W':=⟨h.os,h.tape,h.output,h.size,fun g hg _=>h.block g hg⟩
theorem But.set {B:Nat}(W:World)(i:Nat)(v:Value):But B W (W.setCell ⟨B,i,none⟩ v):=
 have h:=(Below.refl B W).setCell (p:=⟨B,i,none⟩) zjn v
 ⟨h.os,h.tape,h.output,h.size,fun g _ hn=>zly W ⟨B,i,none⟩ v g hn⟩
theorem But.to {B K:Nat}{W W':World}(h:But B W W')(hK:K<=B)(hs:K<=W.heap.size):Below K W W':=⟨h.os,h.tape,h.output,h.size,fun g hg=>h.block g (by omega) (by omega)⟩
theorem qge (K:Nat)(a:Addr)(n c:Nat)(l:List UInt8)(w:World)(hr:Rd w K (some a) n l)(hn:n<=140737488355328):
 Calls prog 20 #[.slice (some a) n c] w fun e w'=>∃D k,e=.returned (.slice D n k)/\JB.Own w' w.heap.size (.slice D n k) n l/\Below w.heap.size w w':=by
 refine (Tryz.bytes_Clone_at a n c (qna l) w (by rw[qfa];exact hr.1) hn fun i hi=>?_).mono fun e w' ⟨v,he,ho,_,hb⟩=>?_
 ·have hi':i<l.length:=by have:=hr.1;omega
  obtain⟨b,o,e,_,hc⟩:=hr.2 i hi';injection e with e;subst e;have ha:(⟨b,o,none⟩:Addr).add i=⟨b,o+i,none⟩:=by unfold Addr.add;split<;>simp_all
  rw[ha,hc,qst hi']
 ·have ho':JB.Own w' w.heap.size v n l:=by
   refine JB.Own.of_row ?_;rw[show enc l=(qna l).map (Value.int .u8) from by simp[enc,qna]];exact ho
  obtain⟨D,k,e1,_⟩:=ho'.reads;exact⟨D,k,by rw[he,e1],by rw[<-e1];exact ho',hb⟩
theorem Qba (W:World)(B:Nat)(x:Arc)(T:Option Addr)(tn tc cnt:Nat)(h:Col W B x T tn tc cnt)(hc:cnt≠1)(v:Value):
 Calls prog 69 #[.pointer (some ⟨B,0,none⟩),v] W fun e w'=>e=.returned (.int .i64 8)/\w'=W:=by
 obtain⟨c0,c1,c2,c3,c4,c5,hf,hB⟩:=h.cells;have hne:((cnt:Int) !=1)=true:=by rw[bne_iff_ne];omega
 go_enter func69,ntmps69;go_wp2_with fail
 go_ret
 exact⟨rfl,rfl⟩
theorem Qdt (W:World)(B K:Nat)(x:Arc)(T:Option Addr)(tn tc:Nat)(h:Col W B x T tn tc 1)(a:Addr)(n c:Nat)(l:List UInt8)(hr:Rd W K (some a) n l)(hK:K<=B)(hn:n<=140737488355328):
 Calls prog 69 #[.pointer (some ⟨B,0,none⟩),.slice (some a) n c] W fun e w'=>e=.returned (.int .i64 0)/\
  ∃D k,Col w' B {x with hasMap:=true,mp:=D,mn:=n,mc:=k,map:=l} T tn tc 1/\JB.Own w' W.heap.size (.slice D n k) n l/\But B W w':=by
 have Hh:=hid h;obtain⟨c0,c1,c2,c3,c4,c5,hf,hB⟩:=h.cells;have Hc:=hid fun v=>qge K a n c l (W.setCell ⟨B,0,none⟩ v) (hr.below ((Below.refl K W).setCell (p:=⟨B,0,none⟩) hK v)) hn;clear h hr;go_enter func69,ntmps69;go_wp2_with fail
 refine (Hc.out _).mono ?_;rintro e w1 ⟨D,k,rfl,ho,hb⟩;have k2:=qa7 (B:=B) hb (by simpa using hB);have f2:=qap (B:=B) hb (by simpa using hB);go_wp2_with fail
 go_ret
 have h1:=zle W B 0 _ _ (.bool true) Hh.out;have h2:w1.heap[B]?=_:=(hb.block B (by simpa using hB)).trans h1;have h3:=zle w1 B 1 _ _ (.slice D n k) h2;have hs:(W.setCell ⟨B,0,none⟩ (.bool true)).heap.size=W.heap.size:=by simp
 rw[hs] at ho;refine⟨rfl,D,k,h3,?_,((But.set W 0 (.bool true)).trans (But.below hb)).trans (But.set w1 1 _)⟩;refine ho.keep fun g hg _=>zly _ _ _ g ?_;show g≠B
 omega
theorem qut (W:World)(B:Nat)(x:Arc)(T:Option Addr)(tn tc cnt:Nat)(h:Col W B x T tn tc cnt)(hc:¬(cnt=1∨(cnt=2/\x.hasMap=true)))(v:Value):
 Calls prog 70 #[.pointer (some ⟨B,0,none⟩),v] W fun e w'=>e=.returned (.int .i64 7)/\w'=W:=by
 obtain⟨c0,c1,c2,c3,c4,c5,hf,hB⟩:=h.cells;have hne:((cnt:Int) !=1)=true:=by rw[bne_iff_ne];omega
 by_cases h2:cnt=2
 ·have hm:x.hasMap=false:=by
   cases hx:x.hasMap
   ·rfl
   ·exact absurd (.inr ⟨h2,hx⟩) hc
  rw[hm] at c0;have he:((cnt:Int)==2)=true:=by simp;omega
  go_enter func70,ntmps70;go_wp2_with fail
  go_ret
  exact⟨rfl,rfl⟩
 ·have he:((cnt:Int)==2)=false:=by simp;omega
  go_enter func70,ntmps70;go_wp2_with fail
  go_ret
  exact⟨rfl,rfl⟩
theorem qxi (W:World)(hg:Gnd W)(B K:Nat)(x:Arc)(T:Option Addr)(tn tc cnt:Nat)(h:Col W B x T tn tc cnt)(hc:cnt=1∨(cnt=2/\x.hasMap=true))(D:Option Addr)(n c:Nat)(l:List UInt8)(hr:Rd W K D n l)(hK:K<=B)(hn:n<100000)(hnc:n<=c):
 Calls prog 70 #[.pointer (some ⟨B,0,none⟩),.slice D n c] W fun e w'=>e=.returned (.int .i64 (qqm l))/\Col w' B x D n c cnt/\But B W w':=by
 have Hh:=hid h;obtain⟨c0,c1,c2,c3,c4,c5,hf,hB⟩:=h.cells;have Hc:=hid (qjk K D n c l W hg hr (by omega) hnc hn);clear h hr;rcases hc with rfl|⟨rfl,hm⟩
 ·go_enter func70,ntmps70;go_wp2_with fail
  refine Hc.out.mono ?_;rintro e w1 ⟨v,rfl,_,hb⟩;have k2:=qa7 (B:=B) hb hB;have f2:=qap (B:=B) hb hB;go_wp2_with fail
  go_ret
  exact⟨rfl,zle w1 B 4 _ _ _ ((hb.block B hB).trans Hh.out),(But.below hb).trans (But.set w1 4 _)⟩
 ·rw[hm] at c0;go_enter func70,ntmps70;go_wp2_with fail
  refine Hc.out.mono ?_;rintro e w1 ⟨v,rfl,_,hb⟩;have k2:=qa7 (B:=B) hb hB;have f2:=qap (B:=B) hb hB;go_wp2_with fail
  go_ret
  exact⟨rfl,zle w1 B 4 _ _ _ ((hb.block B hB).trans Hh.out),(But.below hb).trans (But.set w1 4 _)⟩
open JS (Oth Fr)
structure Ch (K1 B:Nat) (W W':World):Prop where
 os:W'.os=W.os
 tape:W'.tape=W.tape
 output:W'.output=W.output
 size:W.heap.size<=W'.heap.size
 keep:∀(g:Nat)(o:Obj),W.heap[g]?=some o->g≠B->(g<K1∨((∀cs m,o≠Obj.cells cs 46 m)/\(∀cs m,o≠Obj.cells cs 3 m)))->W'.heap[g]?=some o
theorem Ch.refl (K1 B:Nat)(W:World):Ch K1 B W W:=⟨rfl,rfl,rfl,Nat.le_refl _,fun _ _ h _ _=>h⟩
theorem Ch.trans {K1 B:Nat}{a b c:World}(h:Ch K1 B a b)(k:Ch K1 B b c):Ch K1 B a c:=
 ⟨k.os.trans h.os,k.tape.trans h.tape,k.output.trans h.output,Nat.le_trans h.size k.size,fun g o ho hn hp=>k.keep g o (h.keep g o ho hn hp) hn hp⟩
theorem Ch.but {K1 B:Nat}{W W':World}(h:But B W W'):Ch K1 B W W':=
 ⟨h.os,h.tape,h.output,h.size,fun g _ ho hn _=>(h.block g (zla.1 ho).1 hn).trans ho⟩
theorem Ch.below {K1 B:Nat}{W W':World}(h:Below W.heap.size W W'):Ch K1 B W W':=Ch.but (But.below h)
theorem Ch.push {K1 B:Nat}{W W':World}{t:TypeId}(hb:Below K1 W W')(ho:Oth t W W')(ht:t=46∨t=3):Ch K1 B W W':=by
 refine⟨hb.os,hb.tape,hb.output,hb.size,fun g o h _ hp=>?_⟩;rcases hp with hp|⟨h1,h2⟩
 ·exact (hb.block g hp).trans h
 ·rcases ht with rfl|rfl
  ·exact ho g o h h1
  ·exact ho g o h h2
theorem Ch.to {K1 B K:Nat}{W W':World}(h:Ch K1 B W W')(h1:K<=K1)(h2:K<=B)(h3:K<=W.heap.size):Below K W W':=
 ⟨h.os,h.tape,h.output,h.size,fun g hg=>by
  have hlt:g<W.heap.size:=by omega
  rw[Array.getElem?_eq_getElem hlt];exact h.keep g _ (Array.getElem?_eq_getElem hlt) (by omega) (.inl (by omega))⟩
theorem Ch.row {K1 B:Nat}{W W':World}(h:Ch K1 B W W'){g:Nat}{cs:Array Value}{t:TypeId}{m:Nat×Nat}(hg:W.heap[g]?=some (.cells cs t m))(hn:g≠B)(h1:t≠46)(h2:t≠3):W'.heap[g]?=some (.cells cs t m):=
 h.keep g _ hg hn (.inr ⟨fun _ _ e=>by injection e with _ e;exact h1 e,fun _ _ e=>by injection e with _ e;exact h2 e⟩)
theorem qj6 {K1 B:Nat}{W W':World}{v:Value}{n:Nat}{l:List UInt8}(h:JB.Own W K1 v n l)(hc:Ch K1 B W W')(hB:B<K1):JB.Own W' K1 v n l:=by
 refine⟨h.1,?_⟩;rcases h.2 with h|⟨g,cap,cur,m,hv,hgk,hh,r⟩
 ·exact .inl h
 ·exact .inr ⟨g,cap,cur,m,hv,hgk,hc.row hh (by omega) (by decide) (by decide),r⟩
theorem qd9 {K1 B:Nat}{W W':World}{t:TypeId}{sz:Nat}{v:Value}{n:Nat}{l:List Value}(h:JC.Own t sz W K1 v n l)(hc:But B W W')(hB:B<K1):JC.Own t sz W' K1 v n l:=
 h.keep fun g hg hlt=>hc.block g hlt (by omega)
theorem qft.ch {K1 B:Nat}{W W':World}{xs:List Mem}(h:qft W K1 xs)(hc:Ch K1 B W W')(hB:B<K1):qft W' K1 xs:=fun x hx=>qj6 (h x hx) hc hB
theorem qhv.but {K1 B:Nat}{W W':World}{x:Arc}(h:qhv W K1 x)(hc:But B W W')(hB:B<K1):qhv W' K1 x:=
 ⟨qj6 h.map (Ch.but hc) hB,qd9 h.mems hc hB,h.data.ch (Ch.but hc) hB,qd9 h.offs hc hB,h.small⟩
def partM (nm:ByteArray)(t u g m:Int)(z:Nat)(a:Addr)(n c:Nat):Value:=.agg #[.string nm,.int .i64 t,.int .i64 u,.int .i64 g,.int .i64 m,.int .i64 (z:Int),.slice (some a) n c,.int .i64 0]
theorem qsz (W:World)(hg:Gnd W)(B K0:Nat)(x:Arc)(T:Option Addr)(tn tc cnt:Nat)(h:Col W B x T tn tc cnt)(tb:List UInt8)(hT:Rd W K0 T tn tb)(hK0:K0<=W.heap.size)(htn:tn<100000)(htc:tn<=tc)(at_:Int)
 (nm:ByteArray)(t u g m:Int)(z:Nat)(a:Addr)(n c:Nat)(hnm:nm.size<=140737488355328)(hbad:qj0 (bts nm) tb=none):
 Calls prog 71 #[.pointer (some ⟨B,0,none⟩),.int .i64 at_,partM nm t u g m z a n c] W fun e w'=>e=.returned (.int .i64 6)/\Below W.heap.size W w':=by
 obtain⟨c0,c1,c2,c3,c4,c5,hf,hB⟩:=h.cells;have hb0:Below W.heap.size W (W.alloc (.cells #[.string nm,.int .i64 t,.int .i64 u,.int .i64 g,.int .i64 m,.int .i64 (z:Int),.slice (some a) n c,.int .i64 0] 107)):=(Below.refl _ _).alloc zjn _;have Hr:=hid (fun V (hb:Below W.heap.size W V)=>qqp K0 T tn tc tb nm V (hg.on hb) (hT.below (hb.mono hK0)) (Nat.le_trans hK0 hb.size) htc (by omega) hnm);rw[hbad] at Hr;have Hb0:=hid hb0;clear hT hg h hb0;simp only[partM];go_enter func71,ntmps71;go_wp2_with fail
 go_region_with (go_at_call 105;refine (Hr.out _ (by first|exact Hb0.out|exact Hb0.out.drew)).mono ?_;rintro e w1 ⟨rfl,hb1⟩)
 all_goals go_wp2_with fail
 all_goals go_ret
 all_goals exact⟨rfl,by first|exact Hb0.out.trans (hb1.mono (by simp))|exact Hb0.out.drew.trans (hb1.mono (by simp))⟩
def qrc (nm:ByteArray)(t u g m:Int)(D:Option Addr)(n k:Nat)(d:List UInt8):Mem:=⟨nm,t,u,g,m,D,n,k,d⟩
theorem quu (W:World)(hg:Gnd W)(B K0 K1:Nat)(x:Arc)(T:Option Addr)(tn tc cnt:Nat)(h:Col W B x T tn tc cnt)(tb:List UInt8)(hT:Rd W K0 T tn tb)(hK0:K0<=B)(hK1:B<K1)(hK2:K1<=W.heap.size)(htn:tn<100000)(htc:tn<=tc)(at_:Int)
 (hO:qhv W K1 x)(han:x.an<=100000)(hon:x.on<=100000)
 (nm:ByteArray)(t u g m:Int)(z:Nat)(a:Addr)(n c:Nat)(d:List UInt8)(hd:Rd W K0 (some a) n d)(hn:n<=140737488355328)(hnm:nm.size<=140737488355328)(r:ByteArray)(hok:qj0 (bts nm) tb=some r):
 Calls prog 71 #[.pointer (some ⟨B,0,none⟩),.int .i64 at_,partM nm t u g m z a n c] W fun e w'=>e=.returned (.int .i64 0)/\
  ∃(D:Option Addr)(k:Nat)(ap op:Option Addr)(ac oc:Nat),
   Col w' B {x with ap:=ap,an:=x.an+1,ac:=ac,mems:=x.mems++[qrc r t u g m D n k d],op:=op,on:=x.on+1,oc:=oc,offs:=x.offs++[at_]} T tn tc cnt/\
   qhv w' K1 {x with ap:=ap,an:=x.an+1,ac:=ac,mems:=x.mems++[qrc r t u g m D n k d],op:=op,on:=x.on+1,oc:=oc,offs:=x.offs++[at_]}/\Ch K1 B W w':=by
 have Hh:=hid h;obtain⟨c0,c1,c2,c3,c4,c5,hf,hB⟩:=h.cells;have hb0:Below W.heap.size W (W.alloc (.cells #[.string nm,.int .i64 t,.int .i64 u,.int .i64 g,.int .i64 m,.int .i64 (z:Int),.slice (some a) n c,.int .i64 0] 107)):=(Below.refl _ _).alloc zjn _;have Hr:=hid (fun V (hb:Below W.heap.size W V)=>qqp K0 T tn tc tb nm V (hg.on hb) (hT.below (hb.mono (by omega))) (by have:=hb.size;omega) htc (by omega) hnm);rw[hok,show re (some r)=0 from rfl,show rs (some r)=r from rfl] at Hr;have Hd:=hid (fun V (hb:Below W.heap.size W V)=>qge K0 a n c d V (hd.below (hb.mono (by omega))) hn);have HO:=hid hO;have Hb0:=hid hb0;have hrow0:((W.alloc (.cells #[.string nm,.int .i64 t,.int .i64 u,.int .i64 g,.int .i64 m,.int .i64 (z:Int),.slice (some a) n c,.int .i64 0] 107)).heap[W.heap.size]?=_):=zld W _;have Hrow0:=hid hrow0;clear hT hg h hb0 hd hO hrow0;simp only[partM];go_enter func71,ntmps71;go_wp2_with fail
 go_region_with (go_at_call 105;refine (Hr.out _ (by first|exact Hb0.out|exact Hb0.out.drew)).mono ?_;rintro e w1 ⟨rfl,hb1⟩)
 all_goals
  have hB1:w1.heap[B]?=_:=(hb1.block B (by simp;omega)).trans ((zlz W _ B hB).trans Hh.out);have hP1:w1.heap[W.heap.size]?=_:=(hb1.block W.heap.size (by simp)).trans Hrow0.out;have hsz1:W.heap.size<w1.heap.size:=by have:=hb1.size;simp at this;omega
  have hbW:Below W.heap.size W w1:=by first|exact Hb0.out.trans (hb1.mono (by simp))|exact Hb0.out.drew.trans (hb1.mono (by simp))
  have p1:=zjc _ 1 hP1;have p2:=zjc _ 2 hP1;have p3:=zjc _ 3 hP1;have p4:=zjc _ 4 hP1;have p6:=zjc _ 6 hP1;have b2:=zjc _ 2 hB1;have b3:=zjc _ 3 hB1;have fB:∀o,w1.frozen? ⟨B,o,none⟩=false:=fun o=>by simp[World.frozen?,hB1]
  clear c0 c1 c2 c3 c4 c5 hf hb1;go_wp2_with fail
  refine Ord.qaf.begin (fun w'=>w'.cell? ⟨B,2,none⟩=some (.slice x.ap x.an x.ac)/\w'.cell? ⟨W.heap.size,1,none⟩=some (.int .i64 t)/\w'.cell? ⟨W.heap.size,2,none⟩=some (.int .i64 u)/\w'.cell? ⟨W.heap.size,3,none⟩=some (.int .i64 g)/\w'.cell? ⟨W.heap.size,4,none⟩=some (.int .i64 m)/\w'.cell? ⟨W.heap.size,6,none⟩=some (.slice (some a) n c)) 28 (by kernel_rfl) ?_;have hS0:(fun w'=>w'.cell? ⟨B,2,none⟩=some (.slice x.ap x.an x.ac)/\w'.cell? ⟨W.heap.size,1,none⟩=some (.int .i64 t)/\w'.cell? ⟨W.heap.size,2,none⟩=some (.int .i64 u)/\w'.cell? ⟨W.heap.size,3,none⟩=some (.int .i64 g)/\w'.cell? ⟨W.heap.size,4,none⟩=some (.int .i64 m)/\w'.cell? ⟨W.heap.size,6,none⟩=some (.slice (some a) n c)) w1.drew:=⟨b2,p1,p2,p3,p4,p6⟩;refine zjW 0 hS0 ?_ (hy:=by rintro v ⟨s2,q1,q2,q3,q4,q6⟩;go_simp;first|done|rfl);refine zjW 1 hS0 ?_ (hy:=by rintro v ⟨s2,q1,q2,q3,q4,q6⟩;go_simp;first|done|rfl);refine zjW 2 hS0 ?_ (hy:=by rintro v ⟨s2,q1,q2,q3,q4,q6⟩;go_simp;first|done|rfl);refine zjW 3 hS0 ?_ (hy:=by rintro v ⟨s2,q1,q2,q3,q4,q6⟩;go_simp;first|done|rfl);refine zjW 4 hS0 ?_ (hy:=by rintro v ⟨s2,q1,q2,q3,q4,q6⟩;go_simp;first|done|rfl);refine zjW 5 hS0 ?_ (hy:=by rintro v ⟨s2,q1,q2,q3,q4,q6⟩;go_simp;first|done|rfl);refine zjW 6 hS0 ?_ (hy:=by rintro v ⟨s2,q1,q2,q3,q4,q6⟩;go_simp;first|done|rfl);refine zjW 7 hS0 ?_ (hy:=by rintro v ⟨s2,q1,q2,q3,q4,q6⟩;go_simp;first|done|rfl);refine zjW 8 hS0 ?_ (hy:=by rintro v ⟨s2,q1,q2,q3,q4,q6⟩;go_simp;first|done|rfl);refine zjW 9 hS0 ?_ (hy:=by rintro v ⟨s2,q1,q2,q3,q4,q6⟩;go_simp;first|done|rfl);refine zjW 10 hS0 ?_ (hy:=by rintro v ⟨s2,q1,q2,q3,q4,q6⟩;go_simp;first|done|rfl);refine zjW 11 hS0 ?_ (hy:=by rintro v ⟨s2,q1,q2,q3,q4,q6⟩;go_simp;first|done|rfl);refine zjW 12 hS0 ?_ (hy:=by rintro v ⟨s2,q1,q2,q3,q4,q6⟩;go_simp;first|done|rfl);refine zjW 13 hS0 ?_ (hy:=by rintro v ⟨s2,q1,q2,q3,q4,q6⟩;go_simp;first|done|rfl);refine zjW 14 hS0 ?_ (hy:=by rintro v ⟨s2,q1,q2,q3,q4,q6⟩;go_simp;first|done|rfl);refine zjW 15 hS0 ?_ (hy:=by rintro v ⟨s2,q1,q2,q3,q4,q6⟩;go_simp;first|done|rfl);refine zjW 16 hS0 ?_ (hy:=by rintro v ⟨s2,q1,q2,q3,q4,q6⟩;go_simp;first|done|rfl);refine zjW 17 hS0 ?_ (hy:=by rintro v ⟨s2,q1,q2,q3,q4,q6⟩;go_simp;first|done|rfl);refine zjW 18 hS0 ?_ (hy:=by rintro v ⟨s2,q1,q2,q3,q4,q6⟩;go_simp;first|done|rfl);refine zjW 19 hS0 ?_ (hy:=by rintro v ⟨s2,q1,q2,q3,q4,q6⟩;go_simp;first|done|rfl);refine zjW 20 hS0 ?_ (hy:=by rintro v ⟨s2,q1,q2,q3,q4,q6⟩;go_simp;first|done|rfl);refine Ord.qaf.step 21 (by kernel_rfl) rfl (fun C hC=>?_);go_simp;go_at_call 20;refine (Hd.out _ hbW.drew).mono ?_;rintro e w2 ⟨D,k,rfl,ho,hb2⟩;have hq2:w1.heap.size<=w2.heap.size:=hb2.size;have hs2:W.heap.size<w2.heap.size:=by omega
  have hB2:w2.heap[B]?=_:=(hb2.block B (show B<w1.heap.size by omega)).trans hB1;have hP2:w2.heap[W.heap.size]?=_:=(hb2.block W.heap.size (show W.heap.size<w1.heap.size by omega)).trans hP1;have om2:JC.Own 46 6 w2 K1 (.slice x.ap x.an x.ac) x.an (qa8 x.mems):=(HO.out.mems.below hbW).keep fun g _ hlt=>hb2.block g hlt;have hS2:(fun w'=>w'.cell? ⟨B,2,none⟩=some (.slice x.ap x.an x.ac)/\w'.cell? ⟨W.heap.size,1,none⟩=some (.int .i64 t)/\w'.cell? ⟨W.heap.size,2,none⟩=some (.int .i64 u)/\w'.cell? ⟨W.heap.size,3,none⟩=some (.int .i64 g)/\w'.cell? ⟨W.heap.size,4,none⟩=some (.int .i64 m)/\w'.cell? ⟨W.heap.size,6,none⟩=some (.slice (some a) n c)) w2:=⟨zlc w2 _ 2 _ _ _ hB2,zlc w2 _ 1 _ _ _ hP2,zlc w2 _ 2 _ _ _ hP2,zlc w2 _ 3 _ _ _ hP2,zlc w2 _ 4 _ _ _ hP2,zlc w2 _ 6 _ _ _ hP2⟩;go_wp2_with fail
  refine hC.out _ _ (fun hz=>hS2) ?_;clear hC C;try simp only[zjA]
  refine Ord.qaf.step 22 (by kernel_rfl) rfl (fun C hC=>?_);go_simp;refine hC.out _ _ (fun hz=>hS2) ?_;clear hC C;try simp only[zjA]
  have hS2':(fun w'=>w'.cell? ⟨B,2,none⟩=some (.slice x.ap x.an x.ac)/\w'.cell? ⟨W.heap.size,1,none⟩=some (.int .i64 t)/\w'.cell? ⟨W.heap.size,2,none⟩=some (.int .i64 u)/\w'.cell? ⟨W.heap.size,3,none⟩=some (.int .i64 g)/\w'.cell? ⟨W.heap.size,4,none⟩=some (.int .i64 m)/\w'.cell? ⟨W.heap.size,6,none⟩=some (.slice (some a) n c)) (w2.alloc (.cells #[.string r,.int .i64 t,.int .i64 u,.int .i64 g,.int .i64 m,.slice D n k] 46)):=⟨Lib.cell?_alloc_some _ hS2.1,Lib.cell?_alloc_some _ hS2.2.1,Lib.cell?_alloc_some _ hS2.2.2.1,Lib.cell?_alloc_some _ hS2.2.2.2.1,Lib.cell?_alloc_some _ hS2.2.2.2.2.1,Lib.cell?_alloc_some _ hS2.2.2.2.2.2⟩;refine Ord.qaf.step 23 (by kernel_rfl) rfl (fun C hC=>?_);go_simp;refine hC.out _ _ (fun hz=>hS2') ?_;clear hC C;try simp only[zjA]
  refine Ord.qaf.step 24 (by kernel_rfl) rfl (fun C hC=>?_);refine JC.qyy kM _ K1 (.slice x.ap x.an x.ac) x.an (qa8 x.mems) (om2.alloc _) (show K1<=(World.alloc w2 _).heap.size by rw[zlr];omega) ⟨w2.heap.size,0,none⟩ 1 1 [.string r,.int .i64 t,.int .i64 u,.int .i64 g,.int .i64 m,.slice D n k] rfl (by simp[Value.oneCell']) (World.news_of_block (cs:=#[.string r,.int .i64 t,.int .i64 u,.int .i64 g,.int .i64 m,.slice D n k]) (t:=46) (fr:=(0,0)) (zld w2 _)) (by omega) (by omega) (by rfl) _ _ (by rfl) (by rfl) (by rfl) ?_;intro v' w3 hown3 hb3 ho3 hf3;obtain⟨A',c',rfl,hrd3,_⟩:=hown3.reads;have hB3:w3.heap[B]?=_:=(hb3.block B hK1).trans ((zlz w2 _ B (by omega)).trans hB2);have hP3:=ho3 _ _ ((zlz w2 _ _ hs2).trans hP2) (fun _ _ e=>by simp at e);have hS3:(fun w'=>w'.cell? ⟨B,2,none⟩=some (.slice x.ap x.an x.ac)/\w'.cell? ⟨W.heap.size,1,none⟩=some (.int .i64 t)/\w'.cell? ⟨W.heap.size,2,none⟩=some (.int .i64 u)/\w'.cell? ⟨W.heap.size,3,none⟩=some (.int .i64 g)/\w'.cell? ⟨W.heap.size,4,none⟩=some (.int .i64 m)/\w'.cell? ⟨W.heap.size,6,none⟩=some (.slice (some a) n c)) w3:=⟨zlc w3 _ 2 _ _ _ hB3,zlc w3 _ 1 _ _ _ hP3,zlc w3 _ 2 _ _ _ hP3,zlc w3 _ 3 _ _ _ hP3,zlc w3 _ 4 _ _ _ hP3,zlc w3 _ 6 _ _ _ hP3⟩;refine hC.out _ _ (fun hz=>hS3) ?_;clear hC C;try simp only[zjA]
  refine Ord.qaf.step 25 (by kernel_rfl) rfl (fun C hC=>?_);go_simp;refine hC.out _ _ (fun hz=>hS3) ?_;clear hC C;try simp only[zjA]
  refine Ord.qaf.step 26 (by kernel_rfl) rfl (fun C hC=>?_);go_simp;refine hC.out _ _ (fun hz=>hS3) ?_;clear hC C;try simp only[zjA]
  refine Ord.qaf.step 27 (by kernel_rfl) rfl (fun C hC=>?_);go_simp;refine hC.out _ _ (fun hz=>hS3) ?_;clear hC C;try simp only[zjA]
  have z3:=hS3.1;have f3:∀o,w3.frozen? ⟨B,o,none⟩=false:=fun o=>by simp[World.frozen?,hB3]
  refine Ord.qaf.step 28 (by kernel_rfl) rfl (fun C hC=>?_);go_simp;refine hC.out _ _ (fun hz=>absurd rfl hz) ?_;clear hC C;try simp only[zjA]
  refine Ord.qaf.done (by kernel_rfl) ?_ _;clear hS0 hS2 hS2' hS3 z3 f3 p1 p2 p3 p4 p6 b2 b3 fB;have hB4:=zle w3 B 2 _ _ (Value.slice A' (x.an+1) c') hB3;have hch24:Ch K1 B w2 (w3.setCell ⟨B,2,none⟩ (Value.slice A' (x.an+1) c')):=((Ch.below ((Below.refl _ _).alloc zjn _)).trans (Ch.push hb3 ho3 (.inl rfl))).trans (Ch.but (But.set w3 2 _));have hch4:Ch K1 B W (w3.setCell ⟨B,2,none⟩ (Value.slice A' (x.an+1) c')):=((Ch.below hbW.drew).trans (Ch.below hb2)).trans hch24;have oo2:JC.Own 3 1 w2 K1 (.slice x.op x.on x.oc) x.on (x.offs.map (Value.int .i64)):=(HO.out.offs.below hbW).keep fun g _ hlt=>hb2.block g hlt;have oo4:=qd9 ((oo2.alloc _).oth ho3 (by decide)) (But.set (B:=B) w3 2 (Value.slice A' (x.an+1) c')) hK1;have om4:=qd9 hown3 (But.set (B:=B) w3 2 (Value.slice A' (x.an+1) c')) hK1;have hqd:K1<=w1.drew.heap.size:=by show K1<=w1.heap.size;omega
  have hod:=qj6 (ho.more hqd) hch24 hK1;have hs4:K1<=(w3.setCell ⟨B,2,none⟩ (Value.slice A' (x.an+1) c')).heap.size:=by have:=hch4.size;omega
  clear hP3 hB3 hrd3 hf3 hown3 ho3 hb3 om2 hP2 hB2 oo2 hch24 ho hqd;generalize w3.setCell ⟨B,2,none⟩ (Value.slice A' (x.an+1) c')=w4 at *;have b43:=zjc B 3 hB4;have fB4:∀o,w4.frozen? ⟨B,o,none⟩=false:=fun o=>by simp[World.frozen?,hB4]
  go_wp2_with (at_builtin;refine JC.qa4 kI w4 K1 (.slice x.op x.on x.oc) x.on (x.offs.map (Value.int .i64)) oo4 hs4 1 1 #[.int .i64 at_] (0,0) rfl (by simp[Value.oneCell']) (by omega) (by omega) rfl (.tmp 56) (.tmp 58) rfl rfl rfl ?_;intro v5 w5 hown5 hb5 ho5 hf5;obtain⟨A5,k5,rfl,_⟩:=hown5.reads;have hB5:w5.heap[B]?=_:=(hb5.block B hK1).trans hB4;have fB5:∀o,w5.frozen? ⟨B,o,none⟩=false:=(fun o=>by simp[World.frozen?,hB5]);have b53:=zlc w5 B 3 _ _ _ hB5)
  go_ret
  have hch5:Ch K1 B w4 (w5.setCell ⟨B,3,none⟩ (Value.slice A5 (x.on+1) k5)):=(Ch.push hb5 ho5 (.inr rfl)).trans (Ch.but (But.set w5 3 _));have hsm:=HO.out.small;refine⟨rfl,D,k,A',A5,c',k5,zle w5 B 3 _ _ _ hB5,⟨qj6 HO.out.map (hch4.trans hch5) hK1,?_,?_,?_,hsm.1,by show x.an+1<=_;omega,by show x.on+1<=_;omega,?_⟩,hch4.trans hch5⟩
  ·have:=qd9 (om4.oth ho5 (by decide)) (But.set (B:=B) w5 3 (Value.slice A5 (x.on+1) k5)) hK1;show JC.Own _ _ _ _ _ _ (qa8 (x.mems++[qrc r t u g m D n k d]))
   rw[qag];exact this
  ·intro y hy;rcases zlG.1 hy with hy|hy
   ·exact (HO.out.data.ch (hch4.trans hch5) hK1) y hy
   ·rw[zlw] at hy;subst hy;exact qj6 hod hch5 hK1
  ·have:=qd9 hown5 (But.set (B:=B) w5 3 (Value.slice A5 (x.on+1) k5)) hK1;show JC.Own _ _ _ _ _ _ ((x.offs++[at_]).map (Value.int .i64))
   rw[List.map_append];exact this
  ·intro y hy;rcases zlG.1 hy with hy|hy
   ·exact hsm.2.2.2 y hy
   ·rw[zlw] at hy;subst hy;exact hn
end JR
namespace JR
open JB JD JN JH
structure Inv (W:World) (K0 K1 B:Nat) (s:St) (x:Arc) (T:Option Addr) (tn tc:Nat):Prop where
 col:Col W B x T tn tc s.cnt
 own:qhv W K1 x
 is:x.is s
 tab:Rd W K0 T tn (s.tbl.getD [])
 small:tn<100000
 cap:tn<=tc
theorem qhv.lens {W:World}{K1:Nat}{x:Arc}(h:qhv W K1 x):x.mems.length=x.an/\x.offs.length=x.on:=by
 have h1:=h.mems.1;have h2:=h.offs.1;rw[qaq] at h1;rw[zlB] at h2;exact⟨by omega,by omega⟩
theorem Inv.lens {W:World}{K0 K1 B:Nat}{s:St}{x:Arc}{T:Option Addr}{tn tc:Nat}(h:Inv W K0 K1 B s x T tn tc)(ho:Ok s):x.an=s.mems.length/\x.on=s.mems.length:=by
 obtain⟨h1,h2⟩:=h.own.lens;have h3:=congrArg List.length h.is.2.2.1;have h4:=congrArg List.length h.is.2.2.2;rw[zlB] at h3;rw[ho.len] at h4;exact⟨by omega,by omega⟩
theorem Qdu (s:ByteArray)(l:List UInt8)(t:ByteArray)(ht:t.toList=l):(s.toList==l)=decide (s=t):=by
 by_cases h:s=t
 ·subst h;rw[ht];simp
 ·have:¬s.toList=l:=by
   intro e;apply h;rw[<-ht] at e;rw[Lib.toList_data,Lib.toList_data] at e;cases s;cases t;simp at e;rw[e]
  simp[h,this]
theorem qk7:qhj.toList=[47]:=by decide+kernel
theorem qnc:qj3.toList=[47,47]:=by decide+kernel
def Adds (K0 K1 B:Nat)(s:St)(at_:Nat)(r:List UInt8)(W:World)(e:Ending)(w':World):Prop:=
 e=.returned (.int .i64 (qaj s r))/\Ch K1 B W w'/\(qaj s r=0->∃x T tn tc,Inv w' K0 K1 B (qbf s at_ r) x T tn tc)
theorem Qdv (W:World)(B K0 K1:Nat)(s:St)(at_:Nat)(A:Option Addr)(c:Nat)(r:List UInt8)(hp:qcz r≠0):
 Calls prog 44 #[.pointer (some ⟨B,0,none⟩),.int .i64 (at_:Int),qhk A c r] W (Adds K0 K1 B s at_ r W):=by
 have HE:Hid (qaj s r=qcz r):=hid (by unfold qaj;rw[if_pos hp]);have hne:(qcz r !=0)=true:=by simpa using hp
 have Hp:=hid hp;rw[qgg rfl hp];clear hp;generalize qcz r=pe at *;go_enter func44,ntmps44;go_wp2_with fail
 go_ret
 exact⟨by rw[HE.out];rfl,Ch.below ((Below.refl _ _).alloc zjn _),fun h=>absurd (HE.out.symm.trans h) Hp.out⟩
theorem qpe {s:St}{r:List UInt8}(hp:qcz r=0)(hn:qax r=qhj):qaj s r=if s.cnt=0 then 0 else 8:=by
 unfold qaj;rw[if_neg (by simp[hp]),if_pos hn]
theorem qt0:¬qj3=qhj:=by decide
theorem quv {s:St}{r:List UInt8}(hp:qcz r=0)(hn:qax r=qj3):qaj s r=if s.mayTab=true/\good (qbv r)=true then 0 else 7:=by
 unfold qaj;rw[if_neg (by simp[hp]),if_neg (by rw[hn];exact qt0),if_pos hn]
theorem qpf {s:St}{r:List UInt8}(hp:qcz r=0)(h1:qax r≠qhj)(h2:qax r≠qj3):qaj s r=re (qk5 s r):=by
 unfold qaj;rw[if_neg (by simp[hp]),if_neg h1,if_neg h2]
theorem qxj {W:World}{B K0 K1:Nat}{s:St}{x:Arc}{T:Option Addr}{tn tc:Nat}(h:Inv W K0 K1 B s x T tn tc)(o:Obj)(hB:B<W.heap.size):
 Col ((W.setCell ⟨B,5,none⟩ (.int .i64 ((s.cnt:Int)+1))).alloc o) B x T tn tc (s.cnt+1)/\But B W ((W.setCell ⟨B,5,none⟩ (.int .i64 ((s.cnt:Int)+1))).alloc o):=by
 have h1:=zle W B 5 _ _ (.int .i64 ((s.cnt:Int)+1)) h.col;have h2:=(zlz (W.setCell ⟨B,5,none⟩ (.int .i64 ((s.cnt:Int)+1))) o B (by simpa using hB)).trans h1;exact⟨h2,(But.set W 5 _).trans (But.below ((Below.refl _ _).alloc zjn _))⟩
theorem qxk {W:World}{K0 b o n c:Nat}{r:List UInt8}(hr:Rd W K0 (some ⟨b,o,none⟩) n r)(hnc:n<=c)(hp:qcz r=0):(∃a,qr0 (some ⟨b,o,none⟩) c 60=some a)/\Rd W K0 (qr0 (some ⟨b,o,none⟩) c 60) (psz r) (qbv r)/\psz r<=n/\psz r<=c-60:=by
 obtain⟨_,h2,_⟩:=qfb hp;have hl:=hr.1;unfold qdi pad at h2;refine⟨?_,(rd_cutp hr hnc).pre (by omega),by omega,by omega⟩;unfold qr0;split
 ·exact⟨_,rfl⟩
 ·exact⟨_,rfl⟩
theorem qnd {s:ByteArray}{l:List UInt8}{t:ByteArray}(ht:t.toList=l)(h:s=t):(s.toList==l)=true:=by rw[Qdu s l t ht,decide_eq_true h]
theorem qpg {s:ByteArray}{l:List UInt8}{t:ByteArray}(ht:t.toList=l)(h:s≠t):(s.toList==l)=false:=by rw[Qdu s l t ht,decide_eq_false h]
theorem add_map (W:World)(B K0 K1:Nat)(s:St)(hs:Ok s)(x:Arc)(T:Option Addr)(tn tc:Nat)(hI:Inv W K0 K1 B s x T tn tc)(hcnt:s.cnt<=100000)(hK0:K0<=B)(hK1:B<K1)(hK2:K1<=W.heap.size)(at_:Nat)(b o n c:Nat)(r:List UInt8)
 (hr:Rd W K0 (some ⟨b,o,none⟩) n r)(hnc:n<=c)(hn:n<100000)(hp:qcz r=0)(hnm:qax r=qhj):
 Calls prog 44 #[.pointer (some ⟨B,0,none⟩),.int .i64 (at_:Int),qhk (some ⟨b,o,none⟩) c r] W (Adds K0 K1 B s at_ r W):=by
 have HE:Hid (qaj s r=if s.cnt=0 then 0 else 8):=hid (qpe hp hnm);have HS:Hid (qaj s r=0->(qbf s at_ r).cnt=s.cnt+1/\qbf s at_ r={s with hasMap:=true,map:=qbv r}):=hid fun h=>⟨(qkx (a:=at_) hs h).2,by unfold qbf;rw[if_pos hnm]⟩;obtain⟨⟨a,ha⟩,hrd,hpn,hpc⟩:=qxk hr hnc hp;rw[ha] at hrd;obtain⟨c0,c1,c2,c3,c4,c5,hf,hB⟩:=hI.col.cells;have hb1:=qnd qk7 hnm;rw[qik hp,ha];have Hcb:=hid (fun ob=>qxj hI ob hB);have Hrd:=hid hrd;have HI:=hid hI;clear hr hrd hI hnm hp;generalize qax r=d at *;generalize psz r=z at *;go_enter func44,ntmps44;by_cases h0:s.cnt=0
 ·rw[h0] at c5 Hcb;go_wp2_with fail
  obtain⟨hcol,hbut⟩:=Hcb.out (.cells #[.string d,.int .i64 (qak r 0),.int .i64 (qak r 1),.int .i64 (qak r 2),.int .i64 (qak r 3),.int .i64 (qak r 4),.slice (some a) z (c-60),.int .i64 0] 107);refine (Qdt _ B K0 x T tn tc hcol a z (c-60) (qbv r) (Hrd.out.below (hbut.to hK0 (by omega))) hK0 (by omega)).mono ?_;rintro e w2 ⟨rfl,D,k,hcol2,hown2,hbut2⟩;go_wp2_with fail
  go_ret
  have hE0:qaj s r=0:=by rw[HE.out,if_pos h0]
  have hbA:=hbut.trans hbut2;have hsz:=hbut.size;refine⟨by rw[hE0];rfl,Ch.but hbA,fun h=>?_⟩;obtain⟨q1,q2⟩:=HS.out h;have hO:=HI.out.own.but hbA hK1;refine⟨{x with hasMap:=true,mp:=D,mn:=z,mc:=k,map:=qbv r},T,tn,tc,⟨?_,⟨hown2.more (by omega),hO.mems,hO.data,hO.offs,by show z<=_;omega,hO.small.2⟩,?_,?_,HI.out.small,HI.out.cap⟩⟩
  ·rw[q1,h0];exact hcol2
  ·rw[q2];exact⟨rfl,rfl,HI.out.is.2.2⟩
  ·rw[q2];exact HI.out.tab.below (hbA.to hK0 (by omega))
 ·have hc1:s.cnt+1≠1:=by omega
  go_wp2_with fail
  obtain⟨hcol,hbut⟩:=Hcb.out (.cells #[.string d,.int .i64 (qak r 0),.int .i64 (qak r 1),.int .i64 (qak r 2),.int .i64 (qak r 3),.int .i64 (qak r 4),.slice (some a) z (c-60),.int .i64 0] 107);refine (Qba _ B x T tn tc _ hcol hc1 _).mono ?_;rintro e w2 ⟨rfl,rfl⟩;go_wp2_with fail
  go_ret
  have hE8:qaj s r=8:=by rw[HE.out,if_neg h0]
  exact⟨by rw[hE8];rfl,Ch.but hbut,fun h=>absurd (hE8.symm.trans h) (by decide)⟩
theorem add_tab (W:World)(B K0 K1:Nat)(hg:∀V,Below K0 W V->Gnd V)(s:St)(hs:Ok s)(x:Arc)(T:Option Addr)(tn tc:Nat)(hI:Inv W K0 K1 B s x T tn tc)(hcnt:s.cnt<=100000)(hK0:K0<=B)(hK1:B<K1)(_hK2:K1<=W.heap.size)(at_:Nat)(b o n c:Nat)(r:List UInt8)
 (hr:Rd W K0 (some ⟨b,o,none⟩) n r)(hnc:n<=c)(hn:n<100000)(hp:qcz r=0)(hnm:qax r=qj3):
 Calls prog 44 #[.pointer (some ⟨B,0,none⟩),.int .i64 (at_:Int),qhk (some ⟨b,o,none⟩) c r] W (Adds K0 K1 B s at_ r W):=by
 have HE:Hid (qaj s r=if s.mayTab=true/\good (qbv r)=true then 0 else 7):=hid (quv hp hnm);have HS:Hid (qaj s r=0->(qbf s at_ r).cnt=s.cnt+1/\qbf s at_ r={s with tbl:=some (qbv r)}):=hid fun h=>⟨(qkx (a:=at_) hs h).2,by unfold qbf;rw[if_neg (by rw[hnm];exact qt0),if_pos hnm]⟩;obtain⟨⟨a,ha⟩,hrd,hpn,hpc⟩:=qxk hr hnc hp;rw[ha] at hrd;obtain⟨c0,c1,c2,c3,c4,c5,hf,hB⟩:=hI.col.cells;have hb1:=qpg qk7 (show qax r≠qhj by rw[hnm];exact qt0);have hb2:=qnd qnc hnm;rw[qik hp,ha];have Hcb:=hid (fun ob=>qxj hI ob hB);have Hrd:=hid hrd;have HI:=hid hI;have Hg:=hid hg;have Hm:Hid (s.mayTab=true↔(s.cnt+1=1∨(s.cnt+1=2/\x.hasMap=true))):=hid (by rw[Qb7,hI.is.1];constructor<;>(rintro (h|⟨h,h'⟩)<;>first|(left;omega)|exact .inr ⟨by omega,h'⟩));clear hr hrd hI hnm hp hg;generalize qax r=d at *;generalize psz r=z at *;go_enter func44,ntmps44;go_wp2_with fail
 obtain⟨hcol,hbut⟩:=Hcb.out (.cells #[.string d,.int .i64 (qak r 0),.int .i64 (qak r 1),.int .i64 (qak r 2),.int .i64 (qak r 3),.int .i64 (qak r 4),.slice (some a) z (c-60),.int .i64 0] 107);have hbl:=hbut.to hK0 (by omega);have hsz:=hbut.size;by_cases hm:s.cnt+1=1∨(s.cnt+1=2/\x.hasMap=true)
 ·refine (qxi _ (Hg.out _ hbl) B K0 x T tn tc _ hcol hm (some a) z (c-60) (qbv r) (Hrd.out.below hbl) hK0 (by omega) hpc).mono ?_;rintro e w2 ⟨rfl,hcol2,hbut2⟩;go_wp2_with fail
  go_ret
  have hE2:qaj s r=qqm (qbv r):=by
   rw[HE.out];unfold qqm;by_cases hgd:good (qbv r)=true
   ·rw[if_pos ⟨Hm.out.2 hm,hgd⟩,if_pos hgd]
   ·rw[if_neg (fun q=>hgd q.2),if_neg hgd]
  have hbA:=hbut.trans hbut2;refine⟨by rw[hE2];rfl,Ch.but hbA,fun h=>?_⟩;obtain⟨q1,q2⟩:=HS.out h;refine⟨x,some a,z,c-60,⟨by rw[q1];exact hcol2,HI.out.own.but hbA hK1,by rw[q2];exact HI.out.is,by rw[q2];exact Hrd.out.below (hbA.to hK0 (by omega)),by omega,hpc⟩⟩
 ·refine (qut _ B x T tn tc _ hcol hm _).mono ?_;rintro e w2 ⟨rfl,rfl⟩;go_wp2_with fail
  go_ret
  have hE7:qaj s r=7:=by rw[HE.out,if_neg (fun q=>hm (Hm.out.1 q.1))]
  exact⟨by rw[hE7];rfl,Ch.but hbut,fun h=>absurd (hE7.symm.trans h) (by decide)⟩
theorem qrd (r:List UInt8):(qax r).size<=16:=by
 unfold qax;split
 ·exact qks r
 ·decide
theorem add_mem (W:World)(B K0 K1:Nat)(hg:∀V,Below K0 W V->Gnd V)(s:St)(hs:Ok s)(x:Arc)(T:Option Addr)(tn tc:Nat)(hI:Inv W K0 K1 B s x T tn tc)(hcnt:s.cnt<=100000)(hK0:K0<=B)(hK1:B<K1)(hK2:K1<=W.heap.size)(at_:Nat)(b o n c:Nat)(r:List UInt8)
 (hr:Rd W K0 (some ⟨b,o,none⟩) n r)(hnc:n<=c)(hn:n<100000)(hp:qcz r=0)(hn1:qax r≠qhj)(hn2:qax r≠qj3):
 Calls prog 44 #[.pointer (some ⟨B,0,none⟩),.int .i64 (at_:Int),qhk (some ⟨b,o,none⟩) c r] W (Adds K0 K1 B s at_ r W):=by
 have HE:Hid (qaj s r=re (qk5 s r)):=hid (qpf hp hn1 hn2);have HS:Hid (qaj s r=0->(qbf s at_ r).cnt=s.cnt+1/\qbf s at_ r={s with mems:=s.mems++[⟨rs (qk5 s r),qak r 0,qak r 1,qak r 2,qak r 3,qbv r⟩],offs:=s.offs++[(at_:Int)]}):=hid fun h=>⟨(qkx (a:=at_) hs h).2,by unfold qbf;rw[if_neg hn1,if_neg hn2]⟩;obtain⟨⟨a,ha⟩,hrd,hpn,hpc⟩:=qxk hr hnc hp;rw[ha] at hrd;obtain⟨c0,c1,c2,c3,c4,c5,hf,hB⟩:=hI.col.cells;have hb1:=qpg qk7 hn1;have hb2:=qpg qnc hn2;rw[qik hp,ha,qej];have Hcb:=hid (fun ob=>qxj hI ob hB);have Hrd:=hid hrd;have HI:=hid hI;have Hg:=hid hg;have hd16:=qrd r;have hml:s.mems.length<=s.cnt:=by unfold St.cnt;omega
 obtain⟨hl1,hl2⟩:=hI.lens hs;have HN:Hid (qk5 s r=qj0 (bts (qax r)) (s.tbl.getD [])):=hid rfl;clear hr hrd hI hn1 hn2 hp hg;generalize qk5 s r=pn at *;generalize qax r=d at *;generalize psz r=z at *;go_enter func44,ntmps44;go_wp2_with fail
 obtain⟨hcol,hbut⟩:=Hcb.out (.cells #[.string d,.int .i64 (qak r 0),.int .i64 (qak r 1),.int .i64 (qak r 2),.int .i64 (qak r 3),.int .i64 (z:Int),.slice (some a) z (c-60),.int .i64 0] 107);have hbl:=hbut.to hK0 (by omega);have hsz:=hbut.size
 cases hpn':pn with
 |none=>
  rw[hpn'] at HN HE;refine (qsz _ (Hg.out _ hbl) B K0 x T tn tc _ hcol (s.tbl.getD []) (HI.out.tab.below hbl) (by omega) HI.out.small HI.out.cap at_ d (qak r 0) (qak r 1) (qak r 2) (qak r 3) z a z (c-60) (by omega) HN.out.symm).mono ?_;rintro e w2 ⟨rfl,hb2⟩;go_wp2_with fail
  go_ret
  have hE6:qaj s r=6:=HE.out;exact⟨by rw[hE6];rfl,(Ch.but hbut).trans (Ch.below hb2),fun h=>absurd (hE6.symm.trans h) (by decide)⟩
 |some q=>
  rw[hpn'] at HN HE HS;refine (quu _ (Hg.out _ hbl) B K0 K1 x T tn tc _ hcol (s.tbl.getD []) (HI.out.tab.below hbl) hK0 hK1 (by omega) HI.out.small HI.out.cap at_ (HI.out.own.but hbut hK1) (by omega) (by omega) d (qak r 0) (qak r 1) (qak r 2) (qak r 3) z a z (c-60) (qbv r) (Hrd.out.below hbl) (by omega) (by omega) q HN.out.symm).mono ?_;rintro e w2 ⟨rfl,D,k,ap,op,ac,oc,hcol2,hown2,hch2⟩;go_wp2_with fail
  go_ret
  have hE0:qaj s r=0:=HE.out;have hchA:=(Ch.but hbut).trans hch2;refine⟨by rw[hE0];rfl,hchA,fun h=>?_⟩;obtain⟨q1,q2⟩:=HS.out h;refine⟨_,T,tn,tc,⟨by rw[q1];exact hcol2,hown2,?_,?_,HI.out.small,HI.out.cap⟩⟩
  ·rw[q2];obtain⟨i1,i2,i3,i4⟩:=HI.out.is;exact⟨i1,i2,by rw[<-i3];simp[qrc,Mem.pure,rs],by rw[<-i4]⟩
  ·rw[q2];exact HI.out.tab.below (hchA.to (by omega) hK0 (by omega))
theorem qg7 (W:World)(B K0 K1:Nat)(hg:∀V,Below K0 W V->Gnd V)(s:St)(hs:Ok s)(x:Arc)(T:Option Addr)(tn tc:Nat)(hI:Inv W K0 K1 B s x T tn tc)(hcnt:s.cnt<=100000)(hK0:K0<=B)(hK1:B<K1)(hK2:K1<=W.heap.size)(at_:Nat)(b o n c:Nat)(r:List UInt8)
 (hr:Rd W K0 (some ⟨b,o,none⟩) n r)(hnc:n<=c)(hn:n<100000):
 Calls prog 44 #[.pointer (some ⟨B,0,none⟩),.int .i64 (at_:Int),qhk (some ⟨b,o,none⟩) c r] W (Adds K0 K1 B s at_ r W):=by
 by_cases hp:qcz r=0
 ·by_cases h1:qax r=qhj
  ·exact add_map W B K0 K1 s hs x T tn tc hI hcnt hK0 hK1 hK2 at_ b o n c r hr hnc hn hp h1
  ·by_cases h2:qax r=qj3
   ·exact add_tab W B K0 K1 hg s hs x T tn tc hI hcnt hK0 hK1 hK2 at_ b o n c r hr hnc hn hp h2
   ·exact add_mem W B K0 K1 hg s hs x T tn tc hI hcnt hK0 hK1 hK2 at_ b o n c r hr hnc hn hp h1 h2
 ·exact Qdv W B K0 K1 s at_ _ c r hp
end JR
namespace JR
open JB JD JN
theorem qxm (l:List UInt8):Lib.hasPrefix l qbd=qk4 l:=by
 unfold Lib.hasPrefix qk4;rw[Bool.eq_iff_iff,List.isPrefixOf_iff_prefix,List.prefix_iff_eq_take];simp only[zlx,decide_eq_true_eq,beq_iff_eq];have hm:qbd.length=8:=rfl;rw[hm];constructor
 ·intro h;refine⟨?_,h.symm⟩;have:=congrArg List.length h;rw[hm,zlu] at this;omega
 ·exact fun h=>h.2.symm
theorem is_any (K:Nat)(A:Option Addr)(n c:Nat)(l:List UInt8)(w:World)(hr:Rd w K A n l)(hK:K<=w.heap.size)(hc:n<=c):
 Calls prog 42 #[.slice A n c] w fun e w'=>e=.returned (.bool (qk4 l))/\Below w.heap.size w w':=by
 have Hl:=hid hr.1;have Hb:=hid (hr.more hK);have Hp:=hid (qxm l);clear hr;go_enter func42,ntmps42;have kc:=Lib.run_convert_bytes_const (P:=prog) w 22 5 #[.int .u8 33,.int .u8 60,.int .u8 97,.int .u8 114,.int .u8 99,.int .u8 104,.int .u8 62,.int .u8 10] 8 8 underlying22 underlying5;go_wp2_with fail
 have hb:=zjB w (.cells #[.int .u8 33,.int .u8 60,.int .u8 97,.int .u8 114,.int .u8 99,.int .u8 104,.int .u8 62,.int .u8 10] 5 (8,9));have hm:=Rd.lit w qbd #[.int .u8 33,.int .u8 60,.int .u8 97,.int .u8 114,.int .u8 99,.int .u8 104,.int .u8 62,.int .u8 10] rfl 8 rfl (8,9);refine (Tryz.bytes_HasPrefix_all A (some ⟨w.heap.size,0,none⟩) n c 8 8 (qna l) (qna qbd) _ (by rw[qfa];exact Hl.out) rfl hc (Rd.bytesIn (Hb.out.below hb)) (Rd.bytesIn hm)).mono ?_;rintro e w2 ⟨rfl,rfl⟩;rw[qiz,qiz,Hp.out];clear kc;go_wp2_with fail
 go_ret
 exact⟨rfl,hb⟩
end JR
namespace JR
open Go.RowKit Go.Shelf Go.Proofs JB JD JN JH
attribute [local go_sem] Oper.semAt_some
theorem cel_on {t:TypeId}{sz:Nat}{W W':World}{row:Option Nat}{K n:Nat}{v:Value}{l:List Value}(h:JC.Own t sz W K v n l)(hg:W.grownBy W' row)(hr:∀r,row=some r->∃o:Obj,W.heap[r]?=some o/\o.isCells=false):JC.Own t sz W' K v n l:=by
 refine⟨h.1,?_⟩;rcases h.2 with h|⟨g,cap,cur,m,hv,hgk,hh,r⟩
 ·exact .inl h
 ·exact .inr ⟨g,cap,cur,m,hv,hgk,(grownBy_keeps_cells hg hr hh rfl).trans hh,r⟩
theorem byt_on {W W':World}{row:Option Nat}{K n:Nat}{v:Value}{l:List UInt8}(h:JB.Own W K v n l)(hg:W.grownBy W' row)(hr:∀r,row=some r->∃o:Obj,W.heap[r]?=some o/\o.isCells=false):JB.Own W' K v n l:=by
 refine⟨h.1,?_⟩;rcases h.2 with h|⟨g,cap,cur,m,hv,hgk,hh,r⟩
 ·exact .inl h
 ·exact .inr ⟨g,cap,cur,m,hv,hgk,(grownBy_keeps_cells hg hr hh rfl).trans hh,r⟩
theorem qhv.on {W W':World}{row:Option Nat}{K:Nat}{x:Arc}(h:qhv W K x)(hg:W.grownBy W' row)(hr:∀r,row=some r->∃o:Obj,W.heap[r]?=some o/\o.isCells=false):qhv W' K x:=
 ⟨byt_on h.map hg hr,cel_on h.mems hg hr,fun m hm=>byt_on (h.data m hm) hg hr,cel_on h.offs hg hr,h.small⟩
theorem Inv.on {W W':World}{row:Option Nat}{K0 K1 B:Nat}{s:St}{x:Arc}{T:Option Addr}{tn tc:Nat}(h:Inv W K0 K1 B s x T tn tc)(hg:W.grownBy W' row)(hr:∀r,row=some r->K0<=r/\∃o:Obj,W.heap[r]?=some o/\o.isCells=false)(hK:K0<=W.heap.size):Inv W' K0 K1 B s x T tn tc:=
 ⟨(grownBy_keeps_cells hg (fun r e=>(hr r e).2) h.col rfl).trans h.col,h.own.on hg fun r e=>(hr r e).2,h.is,
  h.tab.below ((Below.refl K0 W).grown hg hK (fun k e=>(hr k e).1)),h.small,h.cap⟩
def Res (W:World)(K:Nat)(n e:Int):Prop:=
 W.heap[K]?=some (.cells #[.bool false,.slice none 0 0,.slice none 0 0,.slice none 0 0] 75 (0,0))/\Boxed W (K+1) 3 (.int .i64 n)/\Boxed W (K+1+1) 32 (.int .i64 e)
theorem Res.on {W W':World}{row:Option Nat}{K:Nat}{n e:Int}(h:Res W K n e)(hg:W.grownBy W' row)(hr:∀r,row=some r->∃o:Obj,W.heap[r]?=some o/\o.isCells=false):Res W' K n e:=
 ⟨(grownBy_keeps_cells hg hr h.1 rfl).trans h.1,(grownBy_keeps_cells hg hr h.2.1 rfl).trans h.2.1,(grownBy_keeps_cells hg hr h.2.2 rfl).trans h.2.2⟩
theorem Res.ch {W W':World}{K K1 B:Nat}{n e:Int}(h:Res W K n e)(hc:Ch K1 B W W')(hK:K+2<K1)(hB:K+2<B):Res W' K n e:=
 ⟨hc.keep _ _ h.1 (by omega) (.inl (by omega)),hc.keep _ _ h.2.1 (by omega) (.inl (by omega)),hc.keep _ _ h.2.2 (by omega) (.inl (by omega))⟩
def EIP (w:World)(B:Nat)(l:List UInt8)(pre:List Nat)(W:World):Prop:=
 (∃s x T tn tc,qwy l St.zero pre=some s/\Inv W w.heap.size (B+1) B s x T tn tc)/\Res W w.heap.size 0 0/\Below w.heap.size w W
def EXP (w:World)(l:List UInt8)(c:Code)(pre:List Nat)(W:World):Prop:=
 c=.ret/\(∃q b s,pre=q++[b]/\qwy l St.zero q=some s/\qaj s (l.drop b)≠0/\Res W w.heap.size (b:Int) (qaj s (l.drop b)))/\Below w.heap.size w W
theorem Qdw (w:World)(B:Nat)(l:List UInt8)(B':Nat)(hB:w.heap.size<=B'):OwnFrom B' (EIP w B l):=fun s W W' row ⟨⟨st,x,T,tn,tc,h1,h2⟩,h3,h5⟩ hg hr=>
 ⟨⟨st,x,T,tn,tc,h1,h2.on hg (fun r e=>⟨Nat.le_trans hB (hr r e).1,(hr r e).2⟩) h5.size⟩,h3.on hg fun r e=>(hr r e).2,ownFrom_below zjn hB s W W' row h5 hg hr⟩
theorem EXP_own (w:World)(l:List UInt8)(B':Nat)(hB:w.heap.size<=B')(c:Code):OwnFrom B' (EXP w l c):=fun s W W' row ⟨h1,⟨q,b,st,e1,e2,e3,h3⟩,h5⟩ hg hr=>
 ⟨h1,⟨q,b,st,e1,e2,e3,h3.on hg fun r e=>(hr r e).2⟩,ownFrom_below zjn hB s W W' row h5 hg hr⟩
theorem qxn (w:World)(n e:Int):Res (((w.alloc (.cells #[.bool false,.slice none 0 0,.slice none 0 0,.slice none 0 0] 75)).alloc (.cells #[.int .i64 n] 3)).alloc (.cells #[.int .i64 e] 32)) w.heap.size n e:=by
 have b0:=zld w (.cells #[.bool false,.slice none 0 0,.slice none 0 0,.slice none 0 0] 75);have b1:=Boxed.new (w.alloc (.cells #[.bool false,.slice none 0 0,.slice none 0 0,.slice none 0 0] 75)) 3 (.int .i64 n);have b2:=Boxed.new ((w.alloc (.cells #[.bool false,.slice none 0 0,.slice none 0 0,.slice none 0 0] 75)).alloc (.cells #[.int .i64 n] 3)) 32 (.int .i64 e);simp only[zlr] at b1 b2;refine⟨?_,b1.alloc _,b2⟩;rw[zlz _ _ _ (by simp;omega),zlz _ _ _ (by simp)];exact b0
theorem qfc (w:World)(o1 o2 o3:Obj):Below w.heap.size w (((w.alloc o1).alloc o2).alloc o3):=(((Below.refl _ w).alloc zjn _).alloc (by simp) _).alloc (by simp;omega) _
theorem Res.cells {W:World}{K:Nat}{n e:Int}(h:Res W K n e):W.cell? ⟨K,0,none⟩=some (.bool false)/\W.cell? ⟨K,1,none⟩=some (.slice none 0 0)/\W.cell? ⟨K,2,none⟩=some (.slice none 0 0)/\W.cell? ⟨K,3,none⟩=some (.slice none 0 0)/\
 W.cell? ⟨K+1,0,none⟩=some (.int .i64 n)/\W.cell? ⟨K+1+1,0,none⟩=some (.int .i64 e)/\(∀o,W.frozen? ⟨K,o,none⟩=false)/\(∀o,W.frozen? ⟨K+1,o,none⟩=false)/\(∀o,W.frozen? ⟨K+1+1,o,none⟩=false):=by
 obtain⟨h0,h1,h2⟩:=h;have h1':W.heap[K+1]?=_:=h1;have h2':W.heap[K+1+1]?=_:=h2;refine⟨zlc W K 0 _ _ _ h0,zlc W K 1 _ _ _ h0,zlc W K 2 _ _ _ h0,zlc W K 3 _ _ _ h0,h1.cell,h2.cell,fun o=>?_,fun o=>?_,fun o=>?_⟩
 ·simp[World.frozen?,h0]
 ·simp[World.frozen?,h1']
 ·simp[World.frozen?,h2']
def qfd (W:World)(K:Nat)(v0 v1 v2 v3:Value)(n e:Int):World:=
 (((((W.setCell ⟨K,0,none⟩ v0).setCell ⟨K,1,none⟩ v1).setCell ⟨K,2,none⟩ v2).setCell ⟨K,3,none⟩ v3).setCell ⟨K+1,0,none⟩ (.int .i64 n)).setCell ⟨K+1+1,0,none⟩ (.int .i64 e)
theorem qji {W:World}{K:Nat}{a b:Int}(h:Res W K a b)(v0 v1 v2 v3:Value)(n e:Int):
 (qfd W K v0 v1 v2 v3 n e).heap[K]?=some (.cells #[v0,v1,v2,v3] 75 (0,0))/\Boxed (qfd W K v0 v1 v2 v3 n e) (K+1) 3 (.int .i64 n)/\Boxed (qfd W K v0 v1 v2 v3 n e) (K+1+1) 32 (.int .i64 e):=by
 obtain⟨h0,h1,h2⟩:=h;have a0:=zle W K 0 _ _ v0 h0;have a1:=zle _ K 1 _ _ v1 a0;have a2:=zle _ K 2 _ _ v2 a1;have a3:=zle _ K 3 _ _ v3 a2;have b1:=(((qbx h1 ⟨K,0,none⟩ v0 (by simp)) |> fun q=>qbx q ⟨K,1,none⟩ v1 (by simp)) |> fun q=>qbx q ⟨K,2,none⟩ v2 (by simp)) |> fun q=>qbx q ⟨K,3,none⟩ v3 (by simp)
 have b2:=(((qbx h2 ⟨K,0,none⟩ v0 (by simp;omega)) |> fun q=>qbx q ⟨K,1,none⟩ v1 (by simp;omega)) |> fun q=>qbx q ⟨K,2,none⟩ v2 (by simp;omega)) |> fun q=>qbx q ⟨K,3,none⟩ v3 (by simp;omega)
 have c1:=b1.set (.int .i64 n);have c2:=qbx b2 ⟨K+1,0,none⟩ (.int .i64 n) (by simp);refine⟨?_,qbx c1 ⟨K+1+1,0,none⟩ (.int .i64 e) (by simp),c2.set (.int .i64 e)⟩;unfold qfd;rw[zly _ ⟨K+1+1,0,none⟩ _ K (by simp;omega),zly _ ⟨K+1,0,none⟩ _ K (by simp)];exact a3
theorem qhw {w W:World}{K K':Nat}(h:Below K' w W)(hK:K'<=K)(v0 v1 v2 v3:Value)(n e:Int):Below K' w (qfd W K v0 v1 v2 v3 n e):=
 (((((h.setCell (p:=⟨K,0,none⟩) hK v0).setCell (p:=⟨K,1,none⟩) hK v1).setCell (p:=⟨K,2,none⟩) hK v2).setCell (p:=⟨K,3,none⟩) hK v3).setCell (p:=⟨K+1,0,none⟩) (by show K'<=K+1;omega) _).setCell (p:=⟨K+1+1,0,none⟩) (by show K'<=K+1+1;omega) _
theorem parse_2 (A:Option Addr)(n c:Nat)(l:List UInt8)(w:World)(hr:Rd w w.heap.size A n l)(h8:n<8):
 Calls prog 28 #[.slice A n c] w (qcx l w):=by
 refine (callsIn_wide (n:=4)).1 ?_;have hl:=hr.1;have Ha:=hid (ar_2 (l:=l) (by omega));have h8i:(n:Int)<8:=by omega
 clear hr;refine callsIn_of_wp_marks func28 rfl trivial ?_ rfl;simp only[ntmps28,List.size_toArray,zlk,List.length_nil,Nat.reduceAdd,Nat.reduceSub,Array.replicate_succ,Array.replicate_zero,List.push_toArray,List.append_toArray,zlI,zlE];gi_wp2_with fail
 have hres:=qxn w 0 2;have hc1:=hres.2.1.cell;have hc2:=hres.2.2.cell;refine⟨.tuple #[.agg #[.bool false,.slice none 0 0,.slice none 0 0,.slice none 0 0],.int .i64 0,.int .i64 2],?_,qcx.bad Ha.out (qfc w _ _ _)⟩;simp[results,Tryz.f28,go_sem,asAddr,hc1,hc2]
theorem parse_1 (A:Option Addr)(n c:Nat)(l:List UInt8)(w:World)(hr:Rd w w.heap.size A n l)(hnc:n<=c)(h8:8<=n)(hi:qk4 l=false):
 Calls prog 28 #[.slice A n c] w (qcx l w):=by
 refine (callsIn_wide (n:=4)).1 ?_;have hl:=hr.1;have Ha:=hid (ar_1 (l:=l) (by omega) hi);have h8i:¬(n:Int)<8:=by omega
 have Hi:=hid (fun V (hb:Below w.heap.size w V)=>is_any w.heap.size A n c l V (hr.below hb) hb.size hnc);rw[hi] at Hi;clear hr;refine callsIn_of_wp_marks func28 rfl trivial ?_ rfl;simp only[ntmps28,List.size_toArray,zlk,List.length_nil,Nat.reduceAdd,Nat.reduceSub,Array.replicate_succ,Array.replicate_zero,List.push_toArray,List.append_toArray,zlI,zlE];gi_wp2_with fail
 refine⟨trivial,?_⟩;refine (callsIn_wide.2 (Hi.out _ (qfc w _ _ _))).mono ?_;rintro e w1 ⟨rfl,hb1⟩;have hres:=qxn w 0 0;have hr1:Res w1 w.heap.size 0 0:=hres.ch (K1:=w.heap.size+3) (B:=w.heap.size+3) (Ch.below hb1) (by omega) (by omega);have hB:=(qfc w _ _ _).trans (hb1.mono (qfc w _ _ _).size);obtain⟨c0,c1,c2,c3,c4,c5,f0,f1,f2⟩:=hr1.cells;have hq:=qji hr1 (.bool false) (.slice none 0 0) (.slice none 0 0) (.slice none 0 0) 0 1;have hqb:=qhw hB zjn (.bool false) (.slice none 0 0) (.slice none 0 0) (.slice none 0 0) 0 1;gi_wp2_with fail
 generalize hV:qfd w1 w.heap.size (.bool false) (.slice none 0 0) (.slice none 0 0) (.slice none 0 0) 0 1=V at hq hqb;unfold qfd at hV;have hc0:=fun j=>zlc V w.heap.size j _ _ _ hq.1;have hc1:=hq.2.1.cell;have hc2:=hq.2.2.cell;refine⟨.tuple #[.agg #[.bool false,.slice none 0 0,.slice none 0 0,.slice none 0 0],.int .i64 0,.int .i64 1],?_,by rw[hV];exact qcx.bad Ha.out hqb⟩;rw[hV];simp[results,Tryz.f28,go_sem,asAddr,hc0,hc1,hc2]
end JR
namespace JR
open Go.RowKit Go.Shelf Go.Proofs JB JD JN JH
attribute [local go_sem] Oper.semAt_some
theorem perr_nil:qcz []=2:=by
 rw[qsu]
 ·exact qyr (by simp)
 ·rw[qyr (by simp)];decide
theorem addx_any (W:World)(B K0 K1:Nat)(hg:∀V,Below K0 W V->Gnd V)(s:St)(hs:Ok s)(x:Arc)(T:Option Addr)(tn tc:Nat)(hI:Inv W K0 K1 B s x T tn tc)(hcnt:s.cnt<=100000)(hK0:K0<=B)(hK1:B<K1)(hK2:K1<=W.heap.size)(b o n c:Nat)(l:List UInt8)(y:Nat)
 (hr:Rd W K0 (some ⟨b,o,none⟩) n l)(hnc:n<=c)(hn:n<100000):
 Calls prog 44 #[.pointer (some ⟨B,0,none⟩),.int .i64 (y:Int),qhk (qr0 (some ⟨b,o,none⟩) c y) (c-y) (l.drop y)] W (Adds K0 K1 B s y (l.drop y) W):=by
 by_cases h:y<n
 ·rw[qpb b o c y (by omega)];exact qg7 W B K0 K1 hg s hs x T tn tc hI hcnt hK0 hK1 hK2 y b (o+y) (n-y) (c-y) (l.drop y) (hr.cut y) (by omega) (by omega)
 ·have e:l.drop y=[]:=zlD (by have:=hr.1;omega);rw[e];exact Qdv W B K0 K1 s y _ _ [] (by rw[perr_nil];decide)
theorem ch_keeps {K1 B:Nat}{W W':World}(h:Ch K1 B W W'){cs:Array Value}{t:TypeId}{m:Nat×Nat}(hB:W.heap[B]?=some (.cells cs t m)):KeepsOthers W W':=
 ⟨h.size,fun k o hk hc=>h.keep k o hk (fun e=>by subst e;rw[hB] at hk;injection hk with hk;subst hk;cases hc) (.inr ⟨fun cs m q=>(by rw[q] at hc;cases hc),fun cs m q=>(by rw[q] at hc;cases hc)⟩)⟩
theorem Qdx {K1 B:Nat}{W W':World}(h:Ch K1 B W W'){cs:Array Value}{t:TypeId}{m:Nat×Nat}(hB:W.heap[B]?=some (.cells cs t m)){u:TypeId}(hu:u≠t)(h1:u≠46)(h2:u≠3):qxg u W W':=fun g cs' m' q=>
 h.row q (fun e=>by subst e;rw[hB] at q;injection q with q;injection q with _ q;exact hu q.symm) h1 h2
theorem ch_kp {K0 K1 B:Nat}{W W':World}(h:Ch K1 B W W'){x:Arc}{T:Option Addr}{tn tc cnt:Nat}(hB:Col W B x T tn tc cnt)(h0:K0<=B)(h1:B<K1):Kp K0 W W':=
 ⟨h.to (by omega) h0 (by have:=(zla.1 hB).1;omega),Qdx h hB (by decide) (by decide) (by decide),Qdx h hB (by decide) (by decide) (by decide)⟩
theorem qhv.keepb {w w':World}{K:Nat}{x:Arc}(h:qhv w K x)(hk:∀g,K<=g->g<w.heap.size->w'.heap[g]?=w.heap[g]?):qhv w' K x:=
 ⟨h.map.keep hk,h.mems.keep hk,fun m hm=>(h.data m hm).keep hk,h.offs.keep hk,h.small⟩
theorem qhv.more {w:World}{K K':Nat}{x:Arc}(h:qhv w K x)(hK:K'<=K):qhv w K' x:=⟨h.map.more hK,h.mems.more hK,fun m hm=>(h.data m hm).more hK,h.offs.more hK,h.small⟩
theorem qxp {W:World}{K:Nat}(v0 v1 v2 v3:Value)(n e:Int)(g:Nat)(hg:K+3<=g):(qfd W K v0 v1 v2 v3 n e).heap[g]?=W.heap[g]?:=by
 unfold qfd;rw[zly _ ⟨K+1+1,0,none⟩ _ g (by simp;omega),zly _ ⟨K+1,0,none⟩ _ g (by simp;omega),zly _ ⟨K,3,none⟩ _ g (by simp;omega),zly _ ⟨K,2,none⟩ _ g (by simp;omega),zly _ ⟨K,1,none⟩ _ g (by simp;omega),zly _ ⟨K,0,none⟩ _ g (by simp;omega)]
theorem qk8 (W:World)(K:Nat)(v0 v1 v2 v3:Value)(n e:Int):KeepsOthers W (qfd W K v0 v1 v2 v3 n e):=
 (((((KeepsOthers.setCell _ _ _).trans (KeepsOthers.setCell _ _ _)).trans (KeepsOthers.setCell _ _ _)).trans (KeepsOthers.setCell _ _ _)).trans (KeepsOthers.setCell _ _ _)).trans (KeepsOthers.setCell _ _ _)
def Qdy (A:Option Addr)(c:Nat)(r:List UInt8):Array Value:=
 if qcz r=0 then #[.string (qax r),.int .i64 (qak r 0),.int .i64 (qak r 1),.int .i64 (qak r 2),.int .i64 (qak r 3),.int .i64 (qak r 4),.slice (qr0 A c 60) (psz r) (c-60),.int .i64 0]
 else #[.string ⟨#[]⟩,.int .i64 0,.int .i64 0,.int .i64 0,.int .i64 0,.int .i64 0,.slice none 0 0,.int .i64 (qcz r)]
theorem qph (A:Option Addr)(c:Nat)(r:List UInt8):∃(x0:ByteArray)(x1 x2 x3 x4 x5:Int)(D:Option Addr)(k d:Nat)(x7:Int),Qdy A c r=#[.string x0,.int .i64 x1,.int .i64 x2,.int .i64 x3,.int .i64 x4,.int .i64 x5,.slice D k d,.int .i64 x7]:=by
 unfold Qdy;split
 ·exact⟨_,_,_,_,_,_,_,_,_,_,rfl⟩
 ·exact⟨_,_,_,_,_,_,_,_,_,_,rfl⟩
theorem Qdz (A:Option Addr)(c:Nat)(r:List UInt8):qhk A c r=.agg (Qdy A c r):=by
 unfold qhk Qdy;split<;>rfl
def AxP (b o n c K Bc:Nat)(l:List UInt8)(x:Nat)(a:Act)(W:World):Prop:=
 ∃g,a={tmps:=#[.slice (some ⟨b,o,none⟩) n c,undef,.pointer (some ⟨K,0,none⟩),.pointer (some ⟨K+1,0,none⟩),.pointer (some ⟨K+1+1,0,none⟩),.pointer (some ⟨Bc,0,none⟩),.int .i64 (x:Int),.pointer (some ⟨g,0,none⟩),undef,
  .slice (some ⟨b,o,none⟩) n c,.int .i64 (n:Int),.bool false,undef,.slice (some ⟨b,o,none⟩) n c,.bool true,.bool false,undef,.slice (some ⟨b,o,none⟩) n c,.func (.func 66) #[] #[.pointer (some ⟨Bc+1,0,none⟩)],.int .i64 (x:Int),qhk (qr0 (some ⟨b,o,none⟩) c x) (c-x) (l.drop x),
  undef,undef,undef,undef,undef,undef,undef,undef,undef,undef],defers:=[]}/\W.heap[g]?=some (.cells (Qdy (qr0 (some ⟨b,o,none⟩) c x) (c-x) (l.drop x)) 107 (0,0))
theorem parse_go (b o:Nat)(n c:Nat)(l:List UInt8)(w:World)(hg:Gnd w)(hr:Rd w w.heap.size (some ⟨b,o,none⟩) n l)(hnc:n<=c)(hn:n<100000)(hi:qk4 l=true):
 Calls prog 28 #[.slice (some ⟨b,o,none⟩) n c] w (qcx l w):=by
 refine (callsIn_wide (n:=4)).1 ?_;have hl:=hr.1;have h8:8<=n:=by unfold qk4 at hi;simp at hi;omega
 have h8i:¬(n:Int)<8:=by omega
 have Hi:=hid (fun V (hb:Below w.heap.size w V)=>is_any w.heap.size (some ⟨b,o,none⟩) n c l V (hr.below hb) hb.size hnc);rw[hi] at Hi;refine callsIn_of_wp_marks func28 rfl trivial ?_ rfl;simp only[ntmps28,List.size_toArray,zlk,List.length_nil,Nat.reduceAdd,Nat.reduceSub,Array.replicate_succ,Array.replicate_zero,List.push_toArray,List.append_toArray,zlI,zlE];gi_wp2_with fail
 refine⟨trivial,?_⟩;refine (callsIn_wide.2 (Hi.out _ (qfc w _ _ _))).mono ?_;rintro e w1 ⟨rfl,hb1⟩;have hres:=qxn w 0 0;have hr1:Res w1 w.heap.size 0 0:=hres.ch (K1:=w.heap.size+3) (B:=w.heap.size+3) (Ch.below hb1) (by omega) (by omega);have hB1:=(qfc w (.cells #[.bool false,.slice none 0 0,.slice none 0 0,.slice none 0 0] 75) (.cells #[.int .i64 0] 3) (.cells #[.int .i64 0] 32)).trans (hb1.mono (qfc w _ _ _).size);have hK3:w.heap.size+3<=w1.heap.size:=by have:=hb1.size;simp at this;omega
 clear hres hb1 Hi;gi_wp2_with fail
 refine⟨trivial,?_⟩;have hfn:Fence.wide.fn 43:=trivial;refine (parts_in Fence.wide _ hfn rfl (.slice (some ⟨b,o,none⟩) n c) rfl _).mono ?_;clear hfn;rintro e w2 ⟨rfl,rfl⟩;gi_wp2_with fail
 have hrowB:((w1.alloc (.cells #[.bool false,.slice none 0 0,.slice none 0 0,.slice none 0 0,.slice none 0 0,.int .i64 0] 100)).alloc (.cells #[.slice (some ⟨b,o,none⟩) n c] 22)).heap[w1.heap.size]?=_:=(zlz _ _ _ (by simp)).trans (zld w1 (.cells #[.bool false,.slice none 0 0,.slice none 0 0,.slice none 0 0,.slice none 0 0,.int .i64 0] 100));have hbox:=Boxed.new (w1.alloc (.cells #[.bool false,.slice none 0 0,.slice none 0 0,.slice none 0 0,.slice none 0 0,.int .i64 0] 100)) 22 (.slice (some ⟨b,o,none⟩) n c);have hch6:Below w1.heap.size w1 ((w1.alloc (.cells #[.bool false,.slice none 0 0,.slice none 0 0,.slice none 0 0,.slice none 0 0,.int .i64 0] 100)).alloc (.cells #[.slice (some ⟨b,o,none⟩) n c] 22)):=((Below.refl _ _).alloc zjn _).alloc (by simp) _;have hr6:=hr1.ch (K1:=w1.heap.size+1) (B:=w1.heap.size) (Ch.below hch6) (by omega) (by omega);have hB6:=hB1.trans (hch6.mono hB1.size);have hs6:((w1.alloc (.cells #[.bool false,.slice none 0 0,.slice none 0 0,.slice none 0 0,.slice none 0 0,.int .i64 0] 100)).alloc (.cells #[.slice (some ⟨b,o,none⟩) n c] 22)).heap.size=w1.heap.size+2:=by simp
 simp only[zlr] at hbox;generalize hBc:w1.heap.size=Bc at *;generalize (w1.alloc (.cells #[.bool false,.slice none 0 0,.slice none 0 0,.slice none 0 0,.slice none 0 0,.int .i64 0] 100)).alloc (.cells #[.slice (some ⟨b,o,none⟩) n c] 22)=w6 at *;have hBb:Bc+1<w6.heap.size:=by omega
 have hsp:(qec 8 (l.drop 8)).length<=n:=by
  have:=qup 8 (l.drop 8);rw[zlm] at this;omega
 refine wpIn_rangeFunc_ownH rfl (by omega) (gf:=66) (lb:=#[.pointer (some ⟨Bc+1,0,none⟩)]) rfl trivial (enters_of func66 (by kernel_rfl) rfl)
  (qxh _ (by omega) (Bc+1) w b o n c l hr hnc (by omega) h8 w6 hBb hbox hB6) (fun h k=>h.trans k) (Kp.put (by omega)) zjb (fun _=>rfl)
  (EIP w Bc l) (EXP w l) (Qdw w Bc l _ (by omega)) (EXP_own w l _ (by omega))
  ⟨⟨St.zero,Arc.zero,none,0,0,rfl,⟨hrowB,qhv.zero _ _,Arc.is_zero,Rd.nil _ _ _,by omega,Nat.le_refl _⟩⟩,hr6,hB6⟩ (AxP b o n c w.heap.size Bc l) ?hAx ?assign ?body ?done ?stop
 case hAx=>
  rintro x a' _ V V' row ⟨g,e,hgr⟩ hg' hr';exact⟨g,e,(grownBy_keeps_cells hg' (fun r e=>(hr' r e).2) hgr rfl).trans hgr⟩
 case assign=>
  rintro lo pre x V K hI hK;obtain⟨x0,x1,x2,x3,x4,x5,D,k,d,x7,he⟩:=qph (qr0 (some ⟨b,o,none⟩) c x) (c-x) (l.drop x);have hV:=Qdz (qr0 (some ⟨b,o,none⟩) c x) (c-x) (l.drop x);rw[he] at hV;have hbV:Below V.heap.size V (V.alloc (.cells #[.string x0,.int .i64 x1,.int .i64 x2,.int .i64 x3,.int .i64 x4,.int .i64 x5,.slice D k d,.int .i64 x7] 107)):=(Below.refl _ _).alloc zjn _;have hI':=(Qdw w Bc l Bc (by omega)).alloc (.cells #[.string x0,.int .i64 x1,.int .i64 x2,.int .i64 x3,.int .i64 x4,.int .i64 x5,.slice D k d,.int .i64 x7] 107) hI;have hKK:=hK;clear hK;simp only[encP];rw[hV];gi_wp2
  refine hKK _ _ ((qwv (e:=0) (JS.Oth.below hbV) hbV.size).from _) ⟨hbV.mono hI.2.2.size,qxg.below hbV,qxg.below hbV⟩ hI' ⟨V.heap.size,?_,?_⟩
  ·rw[hV]
  ·rw[he];exact zld V _
 case body=>
  rintro lo pre x a' W _ _ ⟨⟨s,X,T,tn,tc,hf,hInv⟩,hRes,hBW⟩ ⟨g,rfl,hgr⟩ hlt;obtain⟨x0,x1,x2,x3,x4,x5,D,k,d,x7,he⟩:=qph (qr0 (some ⟨b,o,none⟩) c x) (c-x) (l.drop x);have hV:=Qdz (qr0 (some ⟨b,o,none⟩) c x) (c-x) (l.drop x);rw[he] at hV hgr;obtain⟨hok,hcn⟩:=Qdn l pre _ _ qxf hf;rw[qz9,Nat.zero_add] at hcn;have hcol:=hInv.col
  have hsW:Bc+1<=W.heap.size:=by
   have:=(zla.1 (show W.heap[Bc]?=_ from hcol)).1;omega
  have hAdd:=addx_any W Bc w.heap.size (Bc+1) (fun V hV=>hg.on (hBW.trans hV)) s hok X T tn tc hInv (by omega) (by omega) (by omega) hsW b o n c l x (hr.below hBW) hnc hn;rw[hV] at hAdd |-;have HAdd:=hid hAdd;have Hgo:=hid (fun W2 (hch:Ch (Bc+1) Bc W W2)=>And.intro ((ch_keeps hch hcol).from w6.heap.size) (And.intro (ch_kp (K0:=w.heap.size) hch hcol (by omega) (by omega)) (And.intro (hRes.ch hch (by omega) (by omega)) (hBW.trans (hch.to (K:=w.heap.size) (by omega) (by omega) (by omega))))));have zzg:=fun k=>zjc g k hgr;have Hf:=hid hf;clear hAdd hV he hgr hInv hRes hcol hf;by_cases hE:qaj s (l.drop x)=0
  ·have HE:=hid hE;gi_wp2_with fail
   refine⟨trivial,?_⟩;refine (callsIn_wide.2 HAdd.out).mono ?_;rintro e W2 ⟨rfl,hch,hnext⟩;have hf2:=quq l pre _ _ x Hf.out;rw[if_pos hE] at hf2;obtain⟨X2,T2,tn2,tc2,hInv2⟩:=hnext hE;rw[hE];obtain⟨q1,q2,q3,q4⟩:=Hgo.out W2 hch;gi_wp2_with fail
   exact⟨q1,q2,⟨_,X2,T2,tn2,tc2,hf2,hInv2⟩,q3,q4⟩
  ·have hne:(qaj s (l.drop x) !=0)=true:=by simpa using hE
   have HE:=hid hE;gi_wp2_with fail
   refine⟨trivial,?_⟩;refine (callsIn_wide.2 HAdd.out).mono ?_;rintro e W2 ⟨rfl,hch,_⟩;obtain⟨q1,q2,q3,q4⟩:=Hgo.out W2 hch;clear hE hch;generalize hz:qaj s (l.drop x)=z at *;obtain⟨c0,c1,c2,c3,c4,c5,f0,f1,f2⟩:=q3.cells;have hq:=qji q3 (.bool false) (.slice none 0 0) (.slice none 0 0) (.slice none 0 0) (x:Int) z;have hqb:=qhw q4 zjn (.bool false) (.slice none 0 0) (.slice none 0 0) (.slice none 0 0) (x:Int) z;have hqo:=(qk8 W2 w.heap.size (.bool false) (.slice none 0 0) (.slice none 0 0) (.slice none 0 0) (x:Int) z).from w6.heap.size;gi_wp2_with fail
   generalize hV:qfd W2 w.heap.size (.bool false) (.slice none 0 0) (.slice none 0 0) (.slice none 0 0) (x:Int) z=V at hq hqb hqo;unfold qfd at hV;rw[hV];exact⟨q1.trans hqo,rfl,⟨pre,x,s,rfl,Hf.out,by rw[hz];exact HE.out,by rw[hz];exact hq⟩,hqb⟩
 case done=>
  rintro D ys W hD rfl ⟨⟨s,X,T,tn,tc,hf,hInv⟩,hRes,hBW⟩ hK;have HA:=hid (ar_all hi hf);obtain⟨c0,c1,c2,c3,c4,c5,f0,f1,f2⟩:=hRes.cells;obtain⟨d0,d1,d2,d3,d4,d5,fB,hBlt⟩:=hInv.col.cells;have hq:=qji hRes (.bool X.hasMap) (.slice X.mp X.mn X.mc) (.slice X.ap X.an X.ac) (.slice X.op X.on X.oc) 0 0;have hqb:=qhw hBW zjn (.bool X.hasMap) (.slice X.mp X.mn X.mc) (.slice X.ap X.an X.ac) (.slice X.op X.on X.oc) 0 0;have hqK:=(qk8 W w.heap.size (.bool X.hasMap) (.slice X.mp X.mn X.mc) (.slice X.ap X.an X.ac) (.slice X.op X.on X.oc) 0 0).same D _ hK rfl;have hqO:=hInv.own.keepb (w':=qfd W w.heap.size (.bool X.hasMap) (.slice X.mp X.mn X.mc) (.slice X.ap X.an X.ac) (.slice X.op X.on X.oc) 0 0) (fun g hg _=>qxp _ _ _ _ _ _ g (by omega));have His:=hid hInv.is;clear hInv;gi_wp2_with fail
  generalize hV:qfd W w.heap.size (.bool X.hasMap) (.slice X.mp X.mn X.mc) (.slice X.ap X.an X.ac) (.slice X.op X.on X.oc) 0 0=V at hq hqb hqK hqO;unfold qfd at hV;rw[hV];have hrow3:∀r,some D=some r->∃o:Obj,V.heap[r]?=some o/\o.isCells=false:=fun r e=>by cases e;exact⟨_,hqK,rfl⟩
  have h0:=(grownBy_keeps_cells (grownBy_putObj' V D (.deferred none)) hrow3 hq.1 rfl).trans hq.1;have h1:=(qcw hq.2.1 (grownBy_putObj' _ D (.deferred none)) hrow3).cell;have h2:=(qcw hq.2.2 (grownBy_putObj' _ D (.deferred none)) hrow3).cell;have hO:=(hqO.on (grownBy_putObj' _ D (.deferred none)) hrow3).more (K':=w.heap.size) (by omega);have hfin:=hqb.trans (belowK_b (w:=w) zjn _ D _ (.deferred none) (by omega) hqK rfl rfl);have hc0:=fun j=>zlc _ w.heap.size j _ _ _ h0;refine⟨by simp,.inl ⟨_,_,rfl,run_takeDeferred hqK,?_⟩⟩;generalize V.putObj D (.deferred none)=V2 at *;refine⟨.tuple #[X.val,.int .i64 0,.int .i64 0],?_,X,by rw[HA.out];rfl,by rw[HA.out];exact His.out,hO,hfin⟩;simp[results,Tryz.f28,go_sem,asAddr,hc0,h1,h2,Arc.val]
 case stop=>
  rintro D cc pre W hD hpre ⟨rfl,⟨q,z,s,rfl,hf,hE,hRes⟩,hBW⟩ hK;have HA:=hid (ar_one hi hpre hf hE);generalize qaj s (l.drop z)=ze at *;gi_wp2_with fail
  have hrow3:∀r,some D=some r->∃o:Obj,W.heap[r]?=some o/\o.isCells=false:=fun r e=>by cases e;exact⟨_,hK,rfl⟩
  have h0:=(grownBy_keeps_cells (grownBy_putObj' W D (.deferred none)) hrow3 hRes.1 rfl).trans hRes.1;have h1:=(qcw hRes.2.1 (grownBy_putObj' _ D (.deferred none)) hrow3).cell;have h2:=(qcw hRes.2.2 (grownBy_putObj' _ D (.deferred none)) hrow3).cell;have hfin:=hBW.trans (belowK_b (w:=w) zjn _ D _ (.deferred none) (by omega) hK rfl rfl);have hc0:=fun j=>zlc _ w.heap.size j _ _ _ h0;refine⟨by simp,.inl ⟨_,_,rfl,run_takeDeferred hK,?_⟩⟩;generalize W.putObj D (.deferred none)=V2 at *;refine⟨.tuple #[.agg #[.bool false,.slice none 0 0,.slice none 0 0,.slice none 0 0],.int .i64 (z:Int),.int .i64 ze],?_,qcx.bad HA.out hfin⟩;simp[results,Tryz.f28,go_sem,asAddr,hc0,h1,h2]
theorem qfe (A:Option Addr)(n c:Nat)(l:List UInt8)(w:World)(hg:Gnd w)(hr:Rd w w.heap.size A n l)(hnc:n<=c)(hn:n<100000):
 Calls prog 28 #[.slice A n c] w (qcx l w):=by
 by_cases h8:n<8
 ·exact parse_2 A n c l w hr h8
 ·cases hi:qk4 l
  ·exact parse_1 A n c l w hr hnc (by omega) hi
  ·obtain⟨b,o,rfl,_⟩:=qig hr (by omega);exact parse_go b o n c l w hg hr hnc hn hi
end JR
namespace JR
open JB JD JN JH
theorem qre (w:World):
 Calls prog 99 #[] w fun e w'=>∃A c,e=.returned (.slice A 8 c)/\JB.Own w' w.heap.size (.slice A 8 c) 8 qbd/\Rd w' w'.heap.size A 8 qbd/\8<=c/\Below w.heap.size w w':=by
 go_enter func99,ntmps99;have kc:=Lib.run_convert_bytes_const (P:=prog) w 22 5 #[.int .u8 33,.int .u8 60,.int .u8 97,.int .u8 114,.int .u8 99,.int .u8 104,.int .u8 62,.int .u8 10] 8 8 underlying22 underlying5;go_wp2_with fail
 go_ret
 have hown:JB.Own (w.alloc (.cells #[.int .u8 33,.int .u8 60,.int .u8 97,.int .u8 114,.int .u8 99,.int .u8 104,.int .u8 62,.int .u8 10] 5 (8,9))) w.heap.size (.slice (some ⟨w.heap.size,0,none⟩) 8 8) 8 qbd:=
  ⟨rfl,.inr ⟨w.heap.size,8,_,(8,9),rfl,Nat.le_refl _,zld w _,Nat.le_refl _,by unfold maxLen;omega,rfl,rfl,fun j hj q=>by omega⟩⟩
 obtain⟨A,c,e,hr,hc,_⟩:=hown.reads;injection e with e1 _ e3;subst e1 e3;exact⟨_,_,rfl,hown,hr,hc,(Below.refl _ w).alloc zjn _⟩
theorem qin:∀xs:List Mem,∀u∈qa8 xs,u.oneCell'=true
 |[],u,h=>by simp[qa8] at h
 |x::r,u,h=>by
  rw[qa8,zlG] at h;rcases h with h|h
  ·simp only[List.mem_cons,List.not_mem_nil,or_false] at h;rcases h with rfl|rfl|rfl|rfl|rfl|rfl<;>rfl
  ·exact qin r u h
theorem qda (W:World)(o o':Obj):((W.alloc o).alloc o').heap[W.heap.size+1]?=some o':=by
 have:=zld (W.alloc o) o';rw[zlr] at this;exact this
end JR
end Go.Proofs.YtlmolmohhpdhdaaGreatDoor
