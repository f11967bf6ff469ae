/-
  longname: entryNames, the iterator over a table's
-/
import Derived.Test.YtlmolmohhpdhdaaGreatDoorYLne
import Derived.RangeFuncNested
import Derived.RangeFuncBound
import Derived.Shelf.RegionOpen
import Derived.OwnWalkIn
import Derived.LoopNIn
import Derived.LoopIn
set_option maxRecDepth 100000
set_option maxHeartbeats 16000000
set_option linter.all false
namespace Go.Proofs.YtlmolmohhpdhdaaGreatDoor
open Go.RowKit Go.Proofs Tryz
namespace JN
open Go.RowKit Go.Shelf Go.Proofs JB JU JD
attribute [local go_sem] Oper.semAt_some
theorem _root_.Go.Proofs.YtlmolmohhpdhdaaGreatDoor.JS.wpListIn_push {F:Fence}{nF:Nat}{ops:Array Oper}{rest:List Oper}{o:Oper}{a:Act}{Q:Exit->Act->World->Prop}(w:World)(K:Nat)(v:Value)(n:Nat)(l:List ByteArray)(u:ByteArray)
 (hown:JS.Own w K v n l)(hK:K<=w.heap.size)(hn:n<1000000)(hgd:o.guard=none)(s x:Operand)
 (ho:o.op=.call {callee:=.builtin .append,args:=#[s,x],argTypes:=#[26,26]})
 (hs:a.eval s=v)(hx:a.eval x=.slice (some ⟨w.heap.size,0,none⟩) 1 1)
 (h:∀v' w',JS.Own w' K v' (n+1) (l++[u])->Below K w w'->JS.Oth 9 w w'->wpListIn F nF prog ops Q rest (a.put o.dst v') w'):
 wpListIn F nF prog ops Q (o::rest) a (w.alloc (.cells #[.string u] 9)):=by
 refine wpListIn_plain hgd fun K' hK'=>?_;obtain⟨v',w',hr,h1,h2,h3,_⟩:=JS.qgq (w.alloc (.cells #[.string u] 9)) K o.type v n l (hown.alloc _) (by simp;omega) ⟨w.heap.size,0,none⟩ 1 1 [u] rfl (cell_one_new w (.string u) 9) (by omega);unfold Oper.wpIn;refine⟨by simp[Oper.about,ho,resolve,Target.leads,Sem.run_pure],?_⟩;rw[Oper.semAt_plain F _ _ (by rw[ho];intro c hc';cases hc')];simp[execOp,ho,resolve,invoke,builtin,hs,hx,hr,Result.andThen];exact hK' _ _ (h v' w' h1 (((Below.refl K w).alloc hK _).trans h2) ((JS.Oth.alloc _ _ _).trans h3))
theorem qd8 {w w':World}(h:Below w.heap.size w w'):w.grownBy w' none:=⟨h.os,h.tape,h.output,h.size,fun k hk _=>h.block k hk⟩
theorem qtx (F:Fence)(n:Nat)(hf:F.fn 146)(hro:F.round=none)(v:Value)(hv:v.oneCell'=true)(w:World):
 CallsIn F n prog 146 #[v] w fun e w'=>e=.returned (.func (.func 193) #[] #[.pointer (some ⟨w.heap.size,0,none⟩)])/\w'=w.alloc (.cells #[v] 22):=by
 refine callsIn_of_wp func146 rfl hf ?_ hro;simp only[ntmps146,List.size_toArray,zlk,List.length_nil,Nat.reduceAdd,Nat.reduceSub,Array.replicate_succ,Array.replicate_zero,List.push_toArray,List.append_toArray,zlI,zlE];gi_wp2
 go_ret
 exact⟨rfl,rfl⟩
def lenV:Value->Nat|.slice _ n _=>n|_=>0
theorem Qgx (n:Nat)(hn:1<=n)(l Bn:Nat)(w0:World)(hg:Gnd w0)(A:Option Addr)(m c:Nat)(xs:List UInt8)(hr0:Rd w0 w0.heap.size A m xs)(hc:m<=c)(hm:m<4294967281)(J Jx:List ByteArray->World->Prop)
 (W:World)(hJ:AbidesFrom W.heap.size J)
 (hY:∀pre x W1,J pre W1->pre.length<(seq xs).length->YieldAt Fence.wide (n-1) prog l #[.string x] W1 fun e W'=>
  (e=.returned (.bool true)/\J (pre++[x]) W'/\Below w0.heap.size W1 W')∨(e=.returned (.bool false)/\Jx (pre++[x]) W'))
 (hBn:W.cell? ⟨Bn,0,none⟩=some (.slice A m c))(hb0:Below w0.heap.size w0 W)(h0:J [] W):
 CallsIn Fence.wide n prog 193 #[.func (.yield l) #[] #[],.pointer (some ⟨Bn,0,none⟩)] W fun e W'=>(∃v,e=.returned v)/\
  ((∃ys,ys=seq xs/\J ys W')∨(∃pre,pre<+:seq xs/\Jx pre W')):=by
 refine callsIn_of_wp func193 rfl trivial ?_ rfl;simp only[ntmps193,List.size_toArray,zlk,List.length_nil,Nat.reduceAdd,Nat.reduceSub,Array.replicate_succ,Array.replicate_zero,List.push_toArray,List.append_toArray,zlI,zlE];gi_wp2
 gi_loopw [3] (fun p wr=>∃(pre:List ByteArray)(r:List UInt8)(A':Option Addr)(n' c':Nat),p=.slice A' n' c'/\seq xs=pre++seq r/\Rd w0 w0.heap.size A' n' r/\n'<=c'/\n'<=m/\J pre wr/\Below w0.heap.size w0 wr)
  (fun p _=>lenV p)
 case atStart=>exact⟨[],xs,A,m,c,rfl,rfl,hr0,hc,Nat.le_refl _,h0,hb0⟩
 case round=>
  obtain⟨pre,r,A',n',c',rfl,hx,hr,hc',hn',hJs,hb⟩:=hrel;by_cases hpos:0<n'
  ·have hl:=hr.1;have hrne:r≠[]:=by intro e;rw[e] at hl;simp at hl;omega
   obtain⟨b,o,rfl⟩:∃b o:Nat,A'=some ⟨b,o,none⟩:=by
    obtain⟨b,o,e,_,_⟩:=hr.2 0 (by omega);exact⟨b,o,e⟩
   have Hfirst:=hid (qwn w0.heap.size (some ⟨b,o,none⟩) n' c' r wr (hg.on hb) (hr.below hb) hb.size hpos hc' (by omega));by_cases hf:first r=[]
   ·have Hx:Hid (seq xs=pre++[str []]):=hid (by rw[hx,qye hrne hf]);rw[hf,show str []=⟨#[]⟩ from rfl] at Hfirst;clear hf;gi_wp2_with fail
    refine⟨trivial,?_⟩;refine (callsIn_wide.2 Hfirst.out).mono ?_;rintro e w1 ⟨rfl,hb1⟩;have hJ1:=hJ pre wr w1 none hJs (qd8 hb1) (fun r e=>by cases e);obtain⟨fn,tmps,assign,body,hy,hR⟩:=hY pre ⟨#[]⟩ w1 hJ1 (by rw[Hx.out];simp);clear hb1 hJ1;gi_wp2_with fail
    refine hR.mono ?_;rintro e W3 (⟨rfl,hJ3,hk3⟩|⟨rfl,hJx3⟩)
    ·gi_wp2_with fail
     refine zlf (results_none rfl _ _ _) rfl ?_;exact⟨⟨_,rfl⟩,.inl ⟨_,Hx.out.symm,hJ3⟩⟩
    ·gi_wp2_with fail
     refine zlf (results_none rfl _ _ _) rfl ?_;exact⟨⟨_,rfl⟩,.inr ⟨pre++[⟨#[]⟩],⟨[],by rw[zlJ];exact Hx.out.symm⟩,hJx3⟩⟩
   ·obtain⟨hv,hrr⟩:=qmh hf
    have hk2:(first r).length+2<=n':=by
     have:=congrArg List.length hrr;simp only[zlb,zlk,List.length_nil] at this;omega
    have Hx:Hid (seq xs=(pre++[str (first r)])++seq (r.drop ((first r).length+2))):=hid (by rw[hx,qnj hrne hf];simp);obtain⟨k,hk⟩:∃k,(first r).length+2=k:=⟨_,rfl⟩;have hF:=qat (first r)
    have hne:(str (first r)).toList=[]->False:=by
     intro h;apply hf;rw[<-qac (first r)];have h2:(str (first r)).size=0:=by rw[Lib.size_eq,<-Lib.toList_data,h];rfl
     exact zli (by rw[qa2];exact h2)
    have hne1:((str (first r)).toList==[])=false:=by rw[zls];exact hne
    have hne2:(str (first r)).toList.isEmpty=false:=by
     cases h:(str (first r)).toList
     ·exact absurd h hne
     ·rfl
    rw[hk] at hk2 Hx;rw[<-hF] at hk;have hkz:((str (first r)).size:Int)+2=(k:Int):=by omega
    clear hne hF hk hrr hf hv;generalize str (first r)=x at *;by_cases hck:c'=k
    ·subst hck;have hr2:=hr.cut_at (B:=some ⟨b,o,none⟩) c' (by omega);have Hr2:=hid hr2;clear hr2;gi_wp2_with fail
     refine⟨trivial,?_⟩;with_reducible refine (callsIn_wide.2 Hfirst.out).mono ?_
     rintro e w1 ⟨rfl,hb1⟩;have hJ1:=hJ pre wr w1 none hJs (qd8 hb1) (fun r e=>by cases e);have hb2:=hb.trans (hb1.mono hb.size);obtain⟨fn,tmps,assign,body,hy,hR⟩:=hY pre x w1 hJ1 (by rw[Hx.out];simp);clear hb1 hJ1;gi_wp2_with fail
     refine hR.mono ?_;rintro e W3 (⟨rfl,hJ3,hk3⟩|⟨rfl,hJx3⟩)
     ·gi_wp2_with fail
      refine⟨⟨pre++[x],[],_,0,0,rfl,?_,Rd.nil _ _ _,Nat.le_refl _,Nat.zero_le _,hJ3,hb2.trans hk3⟩,by simp[lenV];omega⟩;rw[Hx.out,zlD (by have:=hr.1;omega)]
     ·gi_wp2_with fail
      refine zlf (results_none rfl _ _ _) rfl ?_;exact⟨⟨_,rfl⟩,.inr ⟨pre++[x],⟨_,Hx.out.symm⟩,hJx3⟩⟩
    ·have hr2:=hr.cut k;have Hr2:=hid hr2;clear hr2;gi_wp2_with fail
     refine⟨trivial,?_⟩;with_reducible refine (callsIn_wide.2 Hfirst.out).mono ?_
     rintro e w1 ⟨rfl,hb1⟩;have hJ1:=hJ pre wr w1 none hJs (qd8 hb1) (fun r e=>by cases e);have hb2:=hb.trans (hb1.mono hb.size);obtain⟨fn,tmps,assign,body,hy,hR⟩:=hY pre x w1 hJ1 (by rw[Hx.out];simp);clear hb1 hJ1;gi_wp2_with fail
     refine hR.mono ?_;rintro e W3 (⟨rfl,hJ3,hk3⟩|⟨rfl,hJx3⟩)
     ·gi_wp2_with fail
      exact⟨⟨pre++[x],r.drop k,_,n' - k,c' - k,rfl,Hx.out,Hr2.out,by omega,by omega,hJ3,hb2.trans hk3⟩,by simp[lenV];omega⟩
     ·gi_wp2_with fail
      refine zlf (results_none rfl _ _ _) rfl ?_;exact⟨⟨_,rfl⟩,.inr ⟨pre++[x],⟨_,Hx.out.symm⟩,hJx3⟩⟩
  ·have hr0':r=[]:=zli (by have:=hr.1;omega);have Hx:Hid (seq xs=pre):=hid (by rw[hx,hr0',qqi,zlJ]);clear hr0' hx;gi_wp2_with fail
   go_end0
   exact⟨⟨_,rfl⟩,.inl ⟨pre,Hx.out.symm,hJs⟩⟩
theorem qym (n:Nat)(hn:1<=n)(Bn:Nat)(w0:World)(hg:Gnd w0)(A:Option Addr)(m c:Nat)(xs:List UInt8)(hr0:Rd w0 w0.heap.size A m xs)(hc:m<=c)(hm:m<4294967281)(w:World)(hBn:Bn<w.heap.size)
 (hcell:w.cell? ⟨Bn,0,none⟩=some (.slice A m c))(hb0:Below w0.heap.size w0 w):
 SeqStopsK Fence.wide n prog 193 #[.pointer (some ⟨Bn,0,none⟩)] (fun x:ByteArray=>#[Value.string x]) (Below w0.heap.size) (fun ys=>ys=seq xs) (fun pre=>pre<+:seq xs) (seq xs).length w:=
 fun l J Jx W hW hJ _ hY h0=>
  Qgx n hn l Bn w0 hg A m c xs hr0 hc hm J Jx W hJ hY ((hW.cell (p:=⟨Bn,0,none⟩) hBn).trans hcell) (hb0.trans (hW.mono hb0.size)) h0
def Ents (l:List UInt8)(w:World)(e:Ending)(w':World):Prop:=
 ∃v,e=.returned (.tuple #[v,.int .i64 (qqm l)])/\JS.Own w' w.heap.size v (qyg l).length (qyg l)/\Below w.heap.size w w'
def EI (w:World)(pre:List ByteArray)(W:World):Prop:=
 (∃v,Boxed W (w.heap.size+1+1) 26 v/\JS.Own W w.heap.size v pre.length pre)/\(Boxed W w.heap.size 26 (.slice none 0 0)/\Boxed W (w.heap.size+1) 32 (.int .i64 0))/\(∀x∈pre,x.size≠0)/\Below w.heap.size w W
def EX (w:World)(c:Code)(pre:List ByteArray)(W:World):Prop:=
 c=.ret/\(∃x∈pre,x.size=0)/\(Boxed W w.heap.size 26 (.slice none 0 0)/\Boxed W (w.heap.size+1) 32 (.int .i64 7))/\Below w.heap.size w W
theorem qcw {W W':World}{row:Option Nat}{B:Nat}{t:TypeId}{v:Value}(h:Boxed W B t v)(hg:W.grownBy W' row)(hr:∀r,row=some r->∃o:Obj,W.heap[r]?=some o/\o.isCells=false):Boxed W' B t v:=
 h.kept hg fun e=>by
  obtain⟨o,ho,hc⟩:=hr B e.symm;rw[show W.heap[B]?=_ from h] at ho;injection ho with ho;subst ho;cases hc
theorem sls_on {W W':World}{row:Option Nat}{K n:Nat}{v:Value}{l:List ByteArray}(h:JS.Own W K v n l)(hg:W.grownBy W' row)(hr:∀r,row=some r->∃o:Obj,W.heap[r]?=some o/\o.isCells=false):JS.Own W' K v n l:=by
 refine⟨h.1,?_⟩;rcases h.2 with h|⟨g,cap,cur,m,hv,hgk,hh,r⟩
 ·exact .inl h
 ·exact .inr ⟨g,cap,cur,m,hv,hgk,(grownBy_keeps_cells hg hr hh rfl).trans hh,r⟩
theorem EI_own (w:World)(B:Nat)(hB:w.heap.size<=B):OwnFrom B (EI w):=fun s W W' row ⟨⟨v,h1,h2⟩,h3,h4,h5⟩ hg hr=>
 ⟨⟨v,qcw h1 hg fun r e=>(hr r e).2,sls_on h2 hg fun r e=>(hr r e).2⟩,⟨qcw h3.1 hg fun r e=>(hr r e).2,qcw h3.2 hg fun r e=>(hr r e).2⟩,h4,ownFrom_below zjn hB s W W' row h5 hg hr⟩
theorem EX_own (w:World)(B:Nat)(hB:w.heap.size<=B)(c:Code):OwnFrom B (EX w c):=fun s W W' row ⟨h1,h2,h3,h5⟩ hg hr=>
 ⟨h1,h2,⟨qcw h3.1 hg fun r e=>(hr r e).2,qcw h3.2 hg fun r e=>(hr r e).2⟩,ownFrom_below zjn hB s W W' row h5 hg hr⟩
theorem qsc:∀l:List UInt8,(seq l).length<=l.length+1:=by
 intro l;generalize hk:l.length=k
 induction k using Nat.strongRecOn generalizing l with
 |_ k ih=>
  by_cases h0:l=[]
  ·subst h0;rw[qqi];simp
  ·by_cases hf:first l=[]
   ·rw[qye h0 hf];simp
   ·have hlen:0<l.length:=List.length_pos_iff.2 h0;rw[qnj h0 hf,zlk];have:=ih _ (by rw[zlm];omega) (l.drop ((first l).length+2)) rfl;rw[zlm] at this;omega
theorem qqx {W W':World}{B:Nat}{t e:TypeId}{v:Value}(h:Boxed W B t v)(ho:JS.Oth e W W')(hte:t≠e):Boxed W' B t v:=
 ho B _ h fun cs m q=>by injection q with _ q2;exact hte q2
theorem qbx {W:World}{B:Nat}{t:TypeId}{v:Value}(h:Boxed W B t v)(a:Addr)(u:Value)(hne:B≠a.block):Boxed (W.setCell a u) B t v:=(zly W a u B hne).trans h
theorem qyn {W:World}{K n B:Nat}{v u:Value}{l:List ByteArray}{t:TypeId}(h:JS.Own W K v n l)(hb:Boxed W B t u)(ht:t≠9)(y:Value):JS.Own (W.setCell ⟨B,0,none⟩ y) K v n l:=by
 refine⟨h.1,?_⟩;rcases h.2 with h|⟨g,cap,cur,m,hv,hgk,hh,r⟩
 ·exact .inl h
 ·refine .inr ⟨g,cap,cur,m,hv,hgk,(zly W ⟨B,0,none⟩ y g ?_).trans hh,r⟩;intro e;have hb':W.heap[g]?=some (.cells #[u] t):=by rw[show g=B from e];exact hb
  rw[hb'] at hh;injection hh with hh;injection hh with _ e2;exact ht e2
theorem qwv {W W':World}{e:TypeId}(ho:JS.Oth e W W')(hs:W.heap.size<=W'.heap.size):KeepsOthers W W':=
 ⟨hs,fun k o hk hc=>ho k o hk fun cs m q=>by rw[q] at hc;cases hc⟩
theorem good_all {xs:List UInt8}(h:∀x∈seq xs,x.size≠0):good xs=true:=by
 unfold good;rw[List.all_eq_true];intro x hx;rw[bne_iff_ne];exact h x hx
theorem bad_one {xs:List UInt8}{pre:List ByteArray}(hp:pre<+:seq xs)(h:∃x∈pre,x.size=0):good xs=false:=by
 obtain⟨x,hx,h0⟩:=h;cases hg:good xs
 ·rfl
 ·unfold good at hg;rw[List.all_eq_true] at hg;have:=hg x (hp.subset hx);rw[bne_iff_ne] at this;exact absurd h0 this
theorem empty_of {x:ByteArray}(h:x.size=0):x=⟨#[]⟩:=by
 rw[<-qaw x,zli (l:=bts x) (by rw[qa2];exact h)];rfl
theorem qjk (K:Nat)(A:Option Addr)(m c:Nat)(xs:List UInt8)(w:World)(hg:Gnd w)(hr:Rd w K A m xs)(hK:K<=w.heap.size)(hc:m<=c)(hm:m<100000):
 Calls prog 104 #[.slice A m c] w (Ents xs w):=by
 refine (callsIn_wide (n:=4)).1 ?_;have hr0:=hr.more hK;have hsl:(seq xs).length<=xs.length+1:=qsc xs;have hlm:=hr.1;refine callsIn_of_wp_marks func104 rfl trivial ?_ rfl;simp only[ntmps104,List.size_toArray,zlk,List.length_nil,Nat.reduceAdd,Nat.reduceSub,Array.replicate_succ,Array.replicate_zero,List.push_toArray,List.append_toArray,zlI,zlE];gi_wp2_with fail
 refine⟨trivial,?_⟩;have hfn:Fence.wide.fn 146:=trivial;refine (qtx Fence.wide _ hfn rfl (.slice A m c) rfl _).mono ?_;rintro e w1 ⟨rfl,rfl⟩;gi_wp2_with fail
 have b0:=Boxed.new w 26 (.slice none 0 0);have b1:=Boxed.new (w.alloc (.cells #[.slice none 0 0] 26)) 32 (.int .i64 0);have b2:=Boxed.new ((w.alloc (.cells #[.slice none 0 0] 26)).alloc (.cells #[.int .i64 0] 32)) 26 (.slice none 0 0);have b3:=Boxed.new (((w.alloc (.cells #[.slice none 0 0] 26)).alloc (.cells #[.int .i64 0] 32)).alloc (.cells #[.slice none 0 0] 26)) 22 (.slice A m c);simp only[zlr] at b1 b2 b3
 have hB0:Below w.heap.size w ((((w.alloc (.cells #[.slice none 0 0] 26)).alloc (.cells #[.int .i64 0] 32)).alloc (.cells #[.slice none 0 0] 26)).alloc (.cells #[.slice A m c] 22)):=
  ((((Below.refl _ w).alloc zjn _).alloc (by simp) _).alloc (by simp;omega) _).alloc (by simp;omega) _
 refine wpIn_rangeFunc_ownG rfl (by omega) (gf:=193) (lb:=#[.pointer (some ⟨w.heap.size+1+1+1,0,none⟩)]) rfl trivial (enters_of func193 (by kernel_rfl) rfl)
  (qym _ (by omega) (w.heap.size+1+1+1) w hg A m c xs hr0 hc (by omega) _ (by simp) b3.cell hB0) belowK_t (belowK_b (by simp;omega)) zjb (fun _=>rfl)
  (EI w) (EX w) (EI_own w _ (by simp;omega)) (EX_own w _ (by simp;omega))
  ⟨⟨_,b2.alloc _,JS.Own.nil _ _⟩,⟨((b0.alloc _).alloc _).alloc _,(b1.alloc _).alloc _⟩,by simp,hB0⟩
  (fun x=>{tmps:=#[.slice A m c,undef,.pointer (some ⟨w.heap.size,0,none⟩),.pointer (some ⟨w.heap.size+1,0,none⟩),.pointer (some ⟨w.heap.size+1+1,0,none⟩),.string x,.slice A m c,.func (.func 193) #[] #[.pointer (some ⟨w.heap.size+1+1+1,0,none⟩)],.string x,undef,undef,undef,undef,undef,undef,undef],defers:=[]}) ?assign ?body ?done ?stop
 case assign=>
  intro l x W K hK;gi_wp2
  exact hK
 case body=>
  rintro l pre x W ⟨⟨v,hv,hrow⟩,⟨h0,h1⟩,hne,hB⟩ hlt;have hcv:=hv.cell;have hc0:=h0.cell;have hc1:=h1.cell;have hf0:=h0.frozen;have hf1:=h1.frozen;have hlen:=hrow.1;by_cases hx:x.size=0
  ·obtain rfl:=empty_of hx;clear hx;gi_wp2_with fail
   refine⟨((KeepsOthers.setCell _ _ _).trans (KeepsOthers.setCell _ _ _)).from _,rfl,⟨_,zlG.2 (.inr (zlw.2 rfl)),rfl⟩,⟨?_,?_⟩,(hB.setCell (p:=⟨w.heap.size,0,none⟩) zjn _).setCell (p:=⟨w.heap.size+1,0,none⟩) (by simp) _⟩
   ·exact qbx (h0.set _) _ _ (by simp)
   ·exact (qbx h1 ⟨w.heap.size,0,none⟩ _ (by simp)).set _
  ·have hne0:x.toList=[]->False:=by
    intro h;apply hx;rw[Lib.size_eq,<-Lib.toList_data,h];rfl
   have hne1:(x.toList==[])=false:=by rw[zls];exact hne0
   have hne2:x.toList.isEmpty=false:=by
    cases h:x.toList
    ·exact absurd h hne0
    ·rfl
   have Hx:=hid hx;clear hx hne0;have hBs:=hB.size;gi_wp2_with (gi_at_builtin;refine JS.wpListIn_push _ w.heap.size v pre.length pre x hrow hBs (by omega) rfl (.tmp 11) (.tmp 13) rfl rfl rfl ?_;intro v' w1 hown' hb1 ho1;obtain⟨A',c',rfl,_⟩:=hown'.reads;have hv1:=qqx hv ho1 (by decide);have hcv1:=hv1.cell;have hfv1:=hv1.frozen)
   refine⟨((qwv ho1 hb1.size).trans (KeepsOthers.setCell _ _ _)).from _,hb1.setCell (p:=⟨w.heap.size+1+1,0,none⟩) (by simp;omega) _,⟨_,hv1.set _,?_⟩,⟨?_,?_⟩,?_,(hB.trans hb1).setCell (p:=⟨w.heap.size+1+1,0,none⟩) (by simp;omega) _⟩
   ·rw[zlb];exact qyn hown' hv1 (by decide) _
   ·exact qbx (qqx h0 ho1 (by decide)) _ _ (by simp;omega)
   ·exact qbx (qqx h1 ho1 (by decide)) _ _ (by simp)
   ·intro y hy;rcases zlG.1 hy with hy|hy
    ·exact hne y hy
    ·rw[zlw] at hy;rw[hy];exact Hx.out
 case done=>
  rintro D ys W hD rfl ⟨⟨v,hv,hrow⟩,⟨h0,h1⟩,hne,hB⟩ hK;have hgd:=good_all hne;have e1:qqm xs=0:=if_pos hgd;have e2:qyg xs=seq xs:=if_pos hgd;have HE:=hid (And.intro e1 e2);clear e1 e2 hgd hne;obtain⟨A',c',rfl,_⟩:=hrow.reads;have hcv:=hv.cell;have hc0:=h0.cell;have hc1:=h1.cell;have hf0:=h0.frozen;have hf1:=h1.frozen;gi_wp2_with fail
  have hK':=((KeepsOthers.setCell W ⟨w.heap.size,0,none⟩ (.slice A' (seq xs).length c')).trans (KeepsOthers.setCell _ ⟨w.heap.size+1,0,none⟩ (.int .i64 0))).same D _ hK rfl;have g0:=qbx (h0.set (.slice A' (seq xs).length c')) ⟨w.heap.size+1,0,none⟩ (.int .i64 0) (by simp);have g1:=(qbx h1 ⟨w.heap.size,0,none⟩ (.slice A' (seq xs).length c') (by simp)).set (.int .i64 0);have hw:=qyn (qyn hrow h0 (by decide) (.slice A' (seq xs).length c')) (qbx h1 ⟨w.heap.size,0,none⟩ (.slice A' (seq xs).length c') (by simp)) (by decide) (.int .i64 0);have hb2:=(hB.setCell (p:=⟨w.heap.size,0,none⟩) zjn (.slice A' (seq xs).length c')).setCell (p:=⟨w.heap.size+1,0,none⟩) (by simp) (.int .i64 0);have hrow3:∀r,some D=some r->∃o:Obj,((W.setCell ⟨w.heap.size,0,none⟩ (.slice A' (seq xs).length c')).setCell ⟨w.heap.size+1,0,none⟩ (.int .i64 0)).heap[r]?=some o/\o.isCells=false:=fun r e=>by cases e;exact⟨_,hK',rfl⟩
  have hc5:=(qcw g0 (grownBy_putObj' _ D (.deferred none)) hrow3).cell;have hc6:=(qcw g1 (grownBy_putObj' _ D (.deferred none)) hrow3).cell;refine⟨by simp,.inl ⟨_,_,rfl,run_takeDeferred hK',?_⟩⟩;refine⟨.tuple #[.slice A' (seq xs).length c',.int .i64 0],?_,_,by rw[HE.out.1],?_,hb2.trans (belowK_b (w:=w) zjn _ D _ _ (by simp at hD;omega) hK' rfl rfl)⟩
  ·simp[results,Tryz.f104,go_sem,hc5,hc6]
  ·rw[HE.out.2];exact sls_on hw (grownBy_putObj' _ D (.deferred none)) hrow3
 case stop=>
  rintro D c pre W hD hpre ⟨rfl,hx,⟨h0,h1⟩,hB⟩ hK;have hgd:=bad_one hpre hx;have e1:qqm xs=7:=if_neg (by rw[hgd];simp);have e2:qyg xs=[]:=if_neg (by rw[hgd];simp);have HE:=hid (And.intro e1 e2);clear e1 e2 hgd hx;gi_wp2_with fail
  have hrow3:∀r,some D=some r->∃o:Obj,W.heap[r]?=some o/\o.isCells=false:=fun r e=>by cases e;exact⟨_,hK,rfl⟩
  have hc5:=(qcw h0 (grownBy_putObj' _ D (.deferred none)) hrow3).cell;have hc6:=(qcw h1 (grownBy_putObj' _ D (.deferred none)) hrow3).cell;refine⟨by simp,.inl ⟨_,_,rfl,run_takeDeferred hK,?_⟩⟩;refine⟨.tuple #[.slice none 0 0,.int .i64 7],?_,_,by rw[HE.out.1],?_,hB.trans (belowK_b (w:=w) zjn _ D _ _ (by simp at hD;omega) hK rfl rfl)⟩
  ·simp[results,Tryz.f104,go_sem,hc5,hc6]
  ·rw[HE.out.2];exact JS.Own.nil _ _
end JN
end Go.Proofs.YtlmolmohhpdhdaaGreatDoor
