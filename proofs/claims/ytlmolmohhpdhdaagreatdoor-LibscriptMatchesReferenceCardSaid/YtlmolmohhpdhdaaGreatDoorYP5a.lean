/-
  The reference of arparse:
-/
import Derived.Test.YtlmolmohhpdhdaaGreatDoorYWs
set_option maxRecDepth 100000
set_option maxHeartbeats 16000000
set_option linter.all false
namespace Go.Proofs.YtlmolmohhpdhdaaGreatDoor
open Go.RowKit Go.Proofs Tryz
namespace JR
open JB JD JN JH
open JS (Oth)
def Row4 (W:World)(B:Nat)(x:Arc):Prop:=W.heap[B]?=some (.cells #[.bool x.hasMap,.slice x.mp x.mn x.mc,.slice x.ap x.an x.ac,.slice x.op x.on x.oc] 124 (0,0))
theorem Row4.cells {W:World}{B:Nat}{x:Arc}(h:Row4 W B x):
 W.cell? ⟨B,0,none⟩=some (.bool x.hasMap)/\W.cell? ⟨B,1,none⟩=some (.slice x.mp x.mn x.mc)/\W.cell? ⟨B,2,none⟩=some (.slice x.ap x.an x.ac)/\W.cell? ⟨B,3,none⟩=some (.slice x.op x.on x.oc)/\
 (∀o,W.frozen? ⟨B,o,none⟩=false)/\B<W.heap.size:=
 ⟨zlc W B 0 _ _ _ h,zlc W B 1 _ _ _ h,zlc W B 2 _ _ _ h,zlc W B 3 _ _ _ h,fun o=>zlp W B o _ _ h,(zla.1 h).1⟩
theorem Row4.on {W W':World}{B:Nat}{x:Arc}(h:Row4 W B x)(hb:Below W.heap.size W W'):Row4 W' B x:=(hb.block B (zla.1 h).1).trans h
def qjm (W:World)(B:Nat)(v0 v1 v2 v3:Value):World:=(((W.setCell ⟨B,0,none⟩ v0).setCell ⟨B,1,none⟩ v1).setCell ⟨B,2,none⟩ v2).setCell ⟨B,3,none⟩ v3
theorem qkg {W:World}{B:Nat}{a b c d:Value}{t:TypeId}(h:W.heap[B]?=some (.cells #[a,b,c,d] t (0,0)))(v0 v1 v2 v3:Value):(qjm W B v0 v1 v2 v3).heap[B]?=some (.cells #[v0,v1,v2,v3] t (0,0)):=
 zle _ B 3 _ _ v3 (zle _ B 2 _ _ v2 (zle _ B 1 _ _ v1 (zle W B 0 _ _ v0 h)))
theorem qi2 {W:World}{B:Nat}(v0 v1 v2 v3:Value)(g:Nat)(hg:g≠B):(qjm W B v0 v1 v2 v3).heap[g]?=W.heap[g]?:=by
 unfold qjm;rw[zly _ ⟨B,3,none⟩ _ g hg,zly _ ⟨B,2,none⟩ _ g hg,zly _ ⟨B,1,none⟩ _ g hg,zly _ ⟨B,0,none⟩ _ g hg]
theorem qc5 {w W:World}{K B:Nat}(h:Below K w W)(hB:K<=B)(v0 v1 v2 v3:Value):Below K w (qjm W B v0 v1 v2 v3):=
 (((h.setCell (p:=⟨B,0,none⟩) hB v0).setCell (p:=⟨B,1,none⟩) hB v1).setCell (p:=⟨B,2,none⟩) hB v2).setCell (p:=⟨B,3,none⟩) hB v3
theorem qi3 (w:World)(B:Nat)(cs:Array Value)(h:w.heap[B]?=some (.cells cs 124 (0,0)))(hs:cs.size=4):
 (loadVar 124 ⟨B,0,none⟩).run prog w=.ok (.agg cs) w:=
 run_loadVar_row w B 124 124 cs (0,0) _ h underlying124 rfl (by rw[hs];kernel_rfl)
theorem rparse_2 (A:Option Addr)(n c:Nat)(l:List UInt8)(w:World)(hr:Rd w w.heap.size A n l)(h8:n<8):
 Calls prog 56 #[.slice A n c] w (qcx l w):=by
 have Ha:=hid (ar_2 (l:=l) (by rw[hr.1];exact h8));have h8i:(n:Int)<8:=by omega
 go_enter func56,ntmps56;go_wp2_with fail
 exact zlf (v:=.tuple #[.agg #[.bool false,.slice none 0 0,.slice none 0 0,.slice none 0 0],.int .i64 0,.int .i64 2]) (by simp[results,results56,go_sem]) rfl (qcx.bad Ha.out ((Below.refl _ _).alloc zjn _))
theorem rparse_1 (A:Option Addr)(n c:Nat)(l:List UInt8)(w:World)(hr:Rd w w.heap.size A n l)(hnc:n<=c)(h8:¬n<8)(hi:qk4 l=false):
 Calls prog 56 #[.slice A n c] w (qcx l w):=by
 have Ha:=hid (ar_1 (l:=l) (by rw[hr.1];omega) hi);have h8i:¬(n:Int)<8:=by omega
 have hb0:=zjB w (.cells #[.bool false,.slice none 0 0,.slice none 0 0,.slice none 0 0] 124);have Hi:=hid (Qdp w.heap.size A n c l _ (hr.below hb0) hb0.size hnc);rw[hi] at Hi;go_enter func56,ntmps56;go_wp2_with fail
 refine Hi.out.mono ?_;rintro e w1 ⟨rfl,hb1⟩;have hrow:Row4 w1 w.heap.size Arc.zero:=(hb1.block w.heap.size (by simp)).trans (zld w _);have hbw:=hb0.trans (hb1.mono hb0.size);obtain⟨r0,r1,r2,r3,rf,_⟩:=hrow.cells;simp only[Arc.zero] at r0 r1 r2 r3;go_wp2_with fail
 have hl:=qi3 _ _ _ (qkg hrow (.bool false) (.slice none 0 0) (.slice none 0 0) (.slice none 0 0)) rfl;unfold qjm at hl;exact zlf (v:=.tuple #[.agg #[.bool false,.slice none 0 0,.slice none 0 0,.slice none 0 0],.int .i64 0,.int .i64 1]) (by simp[results,results56,asAddr,hl]) rfl (qcx.bad Ha.out (qc5 hbw zjn _ _ _ _))
structure RP (w W:World) (B:Nat) (l:List UInt8) (s:St) (a:Nat) (x:Arc) (T:Option Addr) (tn tc:Nat):Prop where
 lt:w.heap.size<B
 res:Row4 W w.heap.size Arc.zero
 row:Row4 W B x
 own:qhv W (B+1) x
 is:x.is s
 tbl:JB.Own W (B+1) (.slice T tn tc) tn (s.tbl.getD [])
 tsz:tn<100000
 below:Below w.heap.size w W
 ok:Ok s
 le:8<=a/\a<=l.length
 go:ar l=go s a (l.drop a)
 at_:a=8↔s.cnt=0
 cnt:s.cnt<=a
theorem RP.call {w W W':World}{B:Nat}{l:List UInt8}{s:St}{a:Nat}{x:Arc}{T:Option Addr}{tn tc:Nat}(h:RP w W B l s a x T tn tc)(hb:Below W.heap.size W W'):RP w W' B l s a x T tn tc:=
 ⟨h.lt,h.res.on hb,h.row.on hb,h.own.below hb,h.is,h.tbl.below hb,h.tsz,h.below.trans (hb.mono h.below.size),h.ok,h.le,h.go,h.at_,h.cnt⟩
theorem RP.out {w W:World}{B:Nat}{l:List UInt8}{s:St}{a:Nat}{x:Arc}{T:Option Addr}{tn tc:Nat}(h:RP w W B l s a x T tn tc)(h0:l.drop a≠[]){z:Int}(hz:qaj s (l.drop a)=z)(hne:z≠0):
 qcx l w (.returned (.tuple #[.agg #[.bool false,.slice none 0 0,.slice none 0 0,.slice none 0 0],.int .i64 (a:Int),.int .i64 z])) (qjm W w.heap.size (.bool false) (.slice none 0 0) (.slice none 0 0) (.slice none 0 0)):=by
 refine qcx.bad ?_ (qc5 h.below zjn _ _ _ _);rw[h.go,qj5 h0 (by rw[hz];exact hne),hz]
theorem RP.load {w W:World}{B:Nat}{l:List UInt8}{s:St}{a:Nat}{x:Arc}{T:Option Addr}{tn tc:Nat}(h:RP w W B l s a x T tn tc):
 (loadVar 124 ⟨w.heap.size,0,none⟩).run prog (qjm W w.heap.size (.bool false) (.slice none 0 0) (.slice none 0 0) (.slice none 0 0))=.ok (.agg #[.bool false,.slice none 0 0,.slice none 0 0,.slice none 0 0]) (qjm W w.heap.size (.bool false) (.slice none 0 0) (.slice none 0 0) (.slice none 0 0)):=
 qi3 _ _ _ (qkg h.res _ _ _ _) rfl
theorem RP.fin {w W:World}{B:Nat}{l:List UInt8}{s:St}{a:Nat}{x:Arc}{T:Option Addr}{tn tc:Nat}(h:RP w W B l s a x T tn tc)(h0:l.drop a=[]):
 qcx l w (.returned (.tuple #[x.val,.int .i64 0,.int .i64 0])) (qjm W w.heap.size (.bool x.hasMap) (.slice x.mp x.mn x.mc) (.slice x.ap x.an x.ac) (.slice x.op x.on x.oc)):=by
 have hg:=h.go;rw[h0,qeb] at hg;refine⟨x,by rw[hg];rfl,by rw[hg];exact h.is,?_,qc5 h.below zjn _ _ _ _⟩;have hlt:=h.lt;exact (h.own.keepb (w':=qjm W w.heap.size (.bool x.hasMap) (.slice x.mp x.mn x.mc) (.slice x.ap x.an x.ac) (.slice x.op x.on x.oc)) fun g hg _=>qi2 _ _ _ _ g (by omega)).more (by omega)
theorem RP.step {w W W':World}{B:Nat}{l:List UInt8}{s:St}{a:Nat}{x x':Arc}{T T':Option Addr}{tn tc tn' tc':Nat}(h:RP w W B l s a x T tn tc)(h0:l.drop a≠[])(hE:qaj s (l.drop a)=0)(hc:Ch (B+1) B W W')
 (hrow:Row4 W' B x')(hown:qhv W' (B+1) x')(his:x'.is (qbf s a (l.drop a)))(htbl:JB.Own W' (B+1) (.slice T' tn' tc') tn' ((qbf s a (l.drop a)).tbl.getD []))(htn:tn'<100000):
 RP w W' B l (qbf s a (l.drop a)) (a+qdi (l.drop a)) x' T' tn' tc':=by
 obtain⟨q1,q2⟩:=qkx (a:=a) h.ok hE;have hp:=(qfb (qer hE)).2.1;have hpp:=qc2 (l.drop a);rw[zlm] at hp;have hlt:=h.lt;have hle:=h.le;have hcn:=h.cnt;have hBW:=(zla.1 h.row).1;refine⟨hlt,hc.row h.res (by omega) (by decide) (by decide),hrow,hown,his,htbl,htn,h.below.trans (hc.to (by omega) (by omega) (by omega)),q1,by omega,?_,by omega,by omega⟩;rw[h.go,qn2 h0 hE,List.drop_drop]
theorem RP.map {w W:World}{B:Nat}{l:List UInt8}{s:St}{a:Nat}{x:Arc}{T:Option Addr}{tn tc:Nat}(h:RP w W B l s a x T tn tc)(h0:l.drop a≠[])(hE:qaj s (l.drop a)=0)(hn:qax (l.drop a)=qhj)
 {D:Option Addr}{z k:Nat}(hD:JB.Own W (B+1) (.slice D z k) z (qbv (l.drop a)))(hz:z<=140737488355328):
 ∃x',RP w ((W.setCell ⟨B,0,none⟩ (.bool true)).setCell ⟨B,1,none⟩ (.slice D z k)) B l (qbf s a (l.drop a)) (a+qdi (l.drop a)) x' T tn tc:=by
 have hbut:=(But.set W 0 (.bool true)).trans (But.set (B:=B) (W.setCell ⟨B,0,none⟩ (.bool true)) 1 (.slice D z k));have hch:Ch (B+1) B W _:=Ch.but hbut;have hs:qbf s a (l.drop a)={s with hasMap:=true,map:=qbv (l.drop a)}:=by unfold qbf;rw[if_pos hn]
 refine⟨{x with hasMap:=true,mp:=D,mn:=z,mc:=k,map:=qbv (l.drop a)},h.step h0 hE hch (zle _ B 1 _ _ _ (zle W B 0 _ _ _ h.row)) ?_ (by rw[hs];exact⟨rfl,rfl,h.is.2.2⟩) (by rw[hs];exact qj6 h.tbl hch (by omega)) h.tsz⟩;exact⟨qj6 hD hch (by omega),qd9 h.own.mems hbut (by omega),h.own.data.ch hch (by omega),qd9 h.own.offs hbut (by omega),hz,h.own.small.2⟩
theorem RP.tab {w W:World}{B:Nat}{l:List UInt8}{s:St}{a:Nat}{x:Arc}{T:Option Addr}{tn tc:Nat}(h:RP w W B l s a x T tn tc)(h0:l.drop a≠[])(hE:qaj s (l.drop a)=0)(h1:qax (l.drop a)≠qhj)(hn:qax (l.drop a)=qj3)
 {D:Option Addr}{z k:Nat}(hD:JB.Own W (B+1) (.slice D z k) z (qbv (l.drop a)))(hz:z<100000):RP w W B l (qbf s a (l.drop a)) (a+qdi (l.drop a)) x D z k:=by
 have hs:qbf s a (l.drop a)={s with tbl:=some (qbv (l.drop a))}:=by unfold qbf;rw[if_neg h1,if_pos hn]
 exact h.step h0 hE (Ch.refl _ _ _) h.row h.own (by rw[hs];exact h.is) (by rw[hs];exact hD) hz
theorem RP.small {w W:World}{B:Nat}{l:List UInt8}{s:St}{a:Nat}{x:Arc}{T:Option Addr}{tn tc:Nat}(h:RP w W B l s a x T tn tc):x.an<=l.length/\x.on<=l.length:=by
 obtain⟨h1,h2⟩:=h.own.lens;have h3:=congrArg List.length h.is.2.2.1;have h4:=congrArg List.length h.is.2.2.2;rw[zlB] at h3;rw[h.ok.len] at h4;have h5:s.mems.length<=s.cnt:=by unfold St.cnt;omega
 have h6:=h.cnt;have h7:=h.le.2;exact⟨by omega,by omega⟩
theorem RP.good {w W:World}{B:Nat}{l:List UInt8}{s:St}{a:Nat}{x:Arc}{T:Option Addr}{tn tc:Nat}(h:RP w W B l s a x T tn tc):good (s.tbl.getD [])=true:=by
 cases hq:s.tbl with
 |none=>exact JN.Qad
 |some t=>exact h.ok.tab t hq
theorem RP.mem {w W:World}{B:Nat}{l:List UInt8}{s:St}{a:Nat}{x:Arc}{T:Option Addr}{tn tc:Nat}(h:RP w W B l s a x T tn tc)(h0:l.drop a≠[])(hp:qcz (l.drop a)=0)(h1:qax (l.drop a)≠qhj)(h2:qax (l.drop a)≠qj3)
 {r:ByteArray}(hpn:qk5 s (l.drop a)=some r)(hl:l.length<100000){D:Option Addr}{z k:Nat}(hD:JB.Own W (B+1) (.slice D z k) z (qbv (l.drop a)))(hz:z<=140737488355328)
 {A7:Option Addr}{c7:Nat}{w7:World}(hown7:JC.Own 46 6 w7 (B+1) (.slice A7 (x.an+1) c7) (x.an+1) (qa8 x.mems++[.string r,.int .i64 (qak (l.drop a) 0),.int .i64 (qak (l.drop a) 1),.int .i64 (qak (l.drop a) 2),.int .i64 (qak (l.drop a) 3),.slice D z k]))
 (hb7:Below (B+1) W w7)(ho7:Oth 46 W w7)
 {A9:Option Addr}{c9:Nat}{w9:World}(hown9:JC.Own 3 1 w9 (B+1) (.slice A9 (x.on+1) c9) (x.on+1) (x.offs.map (Value.int .i64)++[.int .i64 (a:Int)]))
 (hb9:Below (B+1) (w7.setCell ⟨B,2,none⟩ (.slice A7 (x.an+1) c7)) w9)(ho9:Oth 3 (w7.setCell ⟨B,2,none⟩ (.slice A7 (x.an+1) c7)) w9):
 ∃x',RP w (w9.setCell ⟨B,3,none⟩ (.slice A9 (x.on+1) c9)) B l (qbf s a (l.drop a)) (a+qdi (l.drop a)) x' T tn tc:=by
 have hE:qaj s (l.drop a)=0:=by rw[qpf hp h1 h2,hpn];rfl
 have hs:qbf s a (l.drop a)={s with mems:=s.mems++[⟨r,qak (l.drop a) 0,qak (l.drop a) 1,qak (l.drop a) 2,qak (l.drop a) 3,qbv (l.drop a)⟩],offs:=s.offs++[(a:Int)]}:=by
  unfold qbf;rw[if_neg h1,if_neg h2,hpn];rfl
 have hBW:=(zla.1 h.row).1;have hB7:w7.heap[B]?=_:=(hb7.block B (by omega)).trans h.row;have hB8:=zle w7 B 2 _ _ (.slice A7 (x.an+1) c7) hB7;have hB9:w9.heap[B]?=_:=(hb9.block B (by omega)).trans hB8;have hch7:Ch (B+1) B W (w7.setCell ⟨B,2,none⟩ (.slice A7 (x.an+1) c7)):=(Ch.push hb7 ho7 (.inl rfl)).trans (Ch.but (But.set w7 2 _));have hch9:Ch (B+1) B (w7.setCell ⟨B,2,none⟩ (.slice A7 (x.an+1) c7)) (w9.setCell ⟨B,3,none⟩ (.slice A9 (x.on+1) c9)):=(Ch.push hb9 ho9 (.inr rfl)).trans (Ch.but (But.set w9 3 _));have hch:=hch7.trans hch9;obtain⟨sm1,sm2⟩:=h.small;have hsm:=h.own.small;have om7:=qd9 hown7 (But.set (B:=B) w7 2 (.slice A7 (x.an+1) c7)) (by omega)
 refine⟨{x with ap:=A7,an:=x.an+1,ac:=c7,mems:=x.mems++[qrc r (qak (l.drop a) 0) (qak (l.drop a) 1) (qak (l.drop a) 2) (qak (l.drop a) 3) D z k (qbv (l.drop a))],op:=A9,on:=x.on+1,oc:=c9,offs:=x.offs++[(a:Int)]},
  h.step h0 hE hch (zle w9 B 3 _ _ _ hB9) ⟨qj6 h.own.map hch (by omega),?_,?_,?_,hsm.1,by show x.an+1<=_;omega,by show x.on+1<=_;omega,?_⟩ ?_ ?_ h.tsz⟩
 ·have:=qd9 (om7.oth ho9 (by decide)) (But.set (B:=B) w9 3 (.slice A9 (x.on+1) c9)) (by omega);show JC.Own _ _ _ _ _ _ (qa8 (x.mems++[qrc r _ _ _ _ D z k _]))
  rw[qag];exact this
 ·intro y hy;rcases zlG.1 hy with hy|hy
  ·exact (h.own.data.ch hch (by omega)) y hy
  ·rw[zlw] at hy;subst hy;exact qj6 hD hch (by omega)
 ·have:=qd9 hown9 (But.set (B:=B) w9 3 (.slice A9 (x.on+1) c9)) (by omega);show JC.Own _ _ _ _ _ _ ((x.offs++[(a:Int)]).map (Value.int .i64))
  rw[List.map_append];exact this
 ·intro y hy;rcases zlG.1 hy with hy|hy
  ·exact hsm.2.2.2 y hy
  ·rw[zlw] at hy;subst hy;exact hz
 ·rw[hs];obtain⟨i1,i2,i3,i4⟩:=h.is;exact⟨i1,i2,by rw[<-i3];simp[qrc,Mem.pure],by rw[<-i4]⟩
 ·rw[hs];exact qj6 h.tbl hch (by omega)
theorem Qep (b o:Nat)(n c:Nat)(l:List UInt8)(w:World)(hr:Rd w w.heap.size (some ⟨b,o,none⟩) n l)(hnc:n<=c)(hn:n<100000)(hi:qk4 l=true):
 Calls prog 56 #[.slice (some ⟨b,o,none⟩) n c] w (qcx l w):=by
 have hl:=hr.1;have h8:8<=n:=by unfold qk4 at hi;simp at hi;omega
 have h8i:¬(n:Int)<8:=by omega
 have hb0:=zjB w (.cells #[.bool false,.slice none 0 0,.slice none 0 0,.slice none 0 0] 124);have Hi:=hid (Qdp w.heap.size (some ⟨b,o,none⟩) n c l _ (hr.below hb0) hb0.size hnc);rw[hi] at Hi;have Har:=hid (qqz hi);go_enter func56,ntmps56;go_wp2_with fail
 refine Hi.out.mono ?_;rintro e w1 ⟨rfl,hb1⟩;have hres:Row4 w1 w.heap.size Arc.zero:=(hb1.block w.heap.size (by simp)).trans (zld w _);have hbw:=hb0.trans (hb1.mono hb0.size);have hlt1:w.heap.size<w1.heap.size:=by have:=hb1.size;simp at this;omega
 have hal:=zjB w1 (.cells #[.bool false,.slice none 0 0,.slice none 0 0,.slice none 0 0] 124)
 have hP0:RP w (w1.alloc (.cells #[.bool false,.slice none 0 0,.slice none 0 0,.slice none 0 0] 124)) w1.heap.size l St.zero 8 Arc.zero none 0 0:=
  ⟨hlt1,hres.on hal,zld w1 _,qhv.zero _ _,Arc.is_zero,JB.Own.nil _ _,by omega,hbw.trans (hal.mono hbw.size),qxf,by omega,Har.out,by simp[St.cnt,St.zero],by simp[St.cnt,St.zero]⟩
 clear hal hres hb1 hb0 hbw Hi;go_wp2_with fail
 generalize w1.alloc (.cells #[.bool false,.slice none 0 0,.slice none 0 0,.slice none 0 0] 124)=V at *;generalize w1.heap.size=B at *;go_loopw [6,7,8] (fun tv hv av W=>∃(s:St)(a:Nat)(x:Arc)(T:Option Addr)(tn tc:Nat),tv=.slice T tn tc/\hv=.bool s.tbl.isSome/\av=.int .i64 (a:Int)/\RP w W B l s a x T tn tc) (fun _ _ av _=>n-(intOf av).toNat)
 case atStart=>exact⟨St.zero,8,Arc.zero,none,0,0,rfl,rfl,rfl,hP0⟩
 case round=>
  obtain⟨s,a,x,T,tn,tc,rfl,rfl,rfl,hP⟩:=hrel;clear hP0;by_cases ha:a<n
  ·have hai:(a:Int)<(n:Int):=by omega
   have hr0:l.drop a≠[]:=fun e=>by have:=congrArg List.length e;rw[zlm] at this;simp at this;omega
   have hca:c≠a:=by omega
   have haci:(a:Int)<=(c:Int):=by omega
   have hnci:(n:Int)<=(c:Int):=by omega
   have Hdec:=hid (qjc w.heap.size (some ⟨b,o+a,none⟩) (n-a) (c-a) (l.drop a) wr ((hr.cut a).below hP.below) hP.below.size (by omega));go_wp2_with fail
   refine Hdec.out.mono ?_;rintro e w2 ⟨rfl,hb2⟩;rw[qej];have hb23:=zjB w2 (.cells #[.string (qax (l.drop a)),.int .i64 (qak (l.drop a) 0),.int .i64 (qak (l.drop a) 1),.int .i64 (qak (l.drop a) 2),.int .i64 (qak (l.drop a) 3),.int .i64 (psz (l.drop a))] 155);have hP3:=(hP.call hb2).call hb23;have hhdr:=zld w2 (.cells #[.string (qax (l.drop a)),.int .i64 (qak (l.drop a) 0),.int .i64 (qak (l.drop a) 1),.int .i64 (qak (l.drop a) 2),.int .i64 (qak (l.drop a) 3),.int .i64 (psz (l.drop a))] 155);clear hb2 hb23 hP Hdec;go_upto_region 11 with fail
   generalize w2.alloc (.cells #[.string (qax (l.drop a)),.int .i64 (qak (l.drop a) 0),.int .i64 (qak (l.drop a) 1),.int .i64 (qak (l.drop a) 2),.int .i64 (qak (l.drop a) 3),.int .i64 (psz (l.drop a))] 155)=W3 at *;generalize w2.heap.size=H at *;have hsz:=qun (l.drop a);have zzk:=fun k=>zjc H k hhdr;obtain⟨r0,r1,r2,r3,rf,_⟩:=hP3.res.cells;simp only[Arc.zero] at r0 r1 r2 r3;by_cases hd:qg6 (l.drop a)=0
   ·have hdb:(qg6 (l.drop a) !=0)=false:=by simp[hd]
    by_cases h2:n<a+60+psz (l.drop a)
    ·have h2i:(n:Int)<(a:Int)+60+(psz (l.drop a):Int):=by omega
     have hz:qaj s (l.drop a)=2:=Qdr (Qdm hd (by rw[zlm];unfold qdi pad;omega));have hl:=hP3.load;have hq:=hP3.out hr0 hz (by decide);unfold qjm at hl hq;go_wp2_with fail
     exact zlf (v:=.tuple #[.agg #[.bool false,.slice none 0 0,.slice none 0 0,.slice none 0 0],.int .i64 (a:Int),.int .i64 2]) (by simp[results,results56,asAddr,hl]) rfl hq
    ·have h2i:¬(n:Int)<(a:Int)+60+(psz (l.drop a):Int):=by omega
     go_upto_region 17 with fail
     have hf1:(a:Int)+60<=(c:Int):=by omega
     have hf2:(a:Int)+60+(psz (l.drop a):Int)<=(c:Int):=by omega
     have hf3:(a:Int)+60<=(a:Int)+60+(psz (l.drop a):Int):=by omega
     have hrd:JB.Rd W3 w.heap.size (some ⟨b,o+(a+60),none⟩) (psz (l.drop a)) (qbv (l.drop a)):=by
      have:=((hr.below hP3.below).cut (a+60)).pre (m:=psz (l.drop a)) (by omega);rw[<-List.drop_drop] at this;exact this
     have hW3w:=hP3.below.size;have hPH:=hid hP3;have hbe:=zjB W3 (.cells #[] 5);go_cut [10,12,13] from 27 to 147 (fun s10 s12 s13 wx=>s10=.int .i64 0/\s12=.int .i64 ((a:Int)+60+(psz (l.drop a):Int))/\∃D k,s13=.slice D (psz (l.drop a)) k/\psz (l.drop a)<=k/\JB.Own wx W3.heap.size (.slice D (psz (l.drop a)) k) (psz (l.drop a)) (qbv (l.drop a))/\Below W3.heap.size W3 wx)
     case first=>
      have hsub:a+60+psz (l.drop a)-(a+60)=psz (l.drop a):=by omega
      obtain⟨D0,hD0,hrdD⟩:∃D0,(if c=a+60 then some (⟨b,o,none⟩:Addr) else some ⟨b,o+(a+60),none⟩)=D0/\JB.Rd W3 w.heap.size D0 (psz (l.drop a)) (qbv (l.drop a)):=⟨_,rfl,by
       have:=JB.slice_rd (hr.below hP3.below) (f:=a+60) (t:=a+60+psz (l.drop a)) (c:=c) (by omega) (by omega) (by omega);rw[hsub,<-List.drop_drop] at this;exact this⟩
      have HrdD:=hid (hrdD.below (hbe.mono hW3w));clear hrdD hrd
      go_wp2_with (first
       |(refine JB.qu4 (.tmp 56) (.tmp 57) (.tmp 58) rfl rfl b o n c (a+60) (a+60+psz (l.drop a)) rfl _ _ rfl rfl (by omega) (by omega) (by omega) (by omega) ?_;rw[hD0,hsub])
       |(at_builtin;refine JB.qah _ W3.heap.size _ 0 [] (JB.Own.lit0 W3 W3.heap.size zjn) (by simp) D0 (psz (l.drop a)) (c-(a+60)) w.heap.size (qbv (l.drop a)) HrdD.out (by omega) rfl (.tmp 55) (.tmp 59) rfl rfl rfl ?_;intro v4 w4 ho4 hb4))
      go_meet
      rw[Nat.zero_add,zlI] at ho4;obtain⟨D,k,rfl,_,hk,_⟩:=ho4.reads;exact⟨by simp,by simp,D,k,rfl,hk,ho4,hbe.trans hb4⟩
     case rest=>
      obtain⟨rfl,rfl,D,k,rfl,hk,ho4,hb4⟩:=hcut;have hP4:=hP3.call hb4;have hh4:=(hb4.block H (zla.1 hhdr).1).trans hhdr;have hoD:JB.Own wc (B+1) (.slice D (psz (l.drop a)) k) (psz (l.drop a)) (qbv (l.drop a)):=ho4.more (Nat.succ_le_of_lt (zla.1 hP3.row).1);clear zzk r0 r1 r2 r3 rf hbe hrd hPH ho4 hb4 hP3 hhdr;have zzk:=fun k=>zjc H k hh4;obtain⟨r0,r1,r2,r3,rf,_⟩:=hP4.res.cells;simp only[Arc.zero] at r0 r1 r2 r3;go_upto_if 65 with fail
      go_cut [14] from 27 to 147 (fun s14 wx=>s14=.int .i64 ((a+qdi (l.drop a):Nat):Int)/\wx=wc/\qcz (l.drop a)=0)
      case first=>
       by_cases hodd:psz (l.drop a)%2=1
       ·have hoi:(psz (l.drop a):Int)%2=1:=by omega
        have hob:((psz (l.drop a):Int)%2==1)=true:=by simp[hoi]
        by_cases h3:n<a+60+psz (l.drop a)+1
        ·have h3i:(n:Int)<(a:Int)+60+(psz (l.drop a):Int)+1:=by omega
         have hz:qaj s (l.drop a)=2:=Qdr (Qdm hd (by rw[zlm];unfold qdi pad;omega));have hl:=hP4.load;have hq:=hP4.out hr0 hz (by decide);unfold qjm at hl hq;go_wp2_with fail
         exact zlf (v:=.tuple #[.agg #[.bool false,.slice none 0 0,.slice none 0 0,.slice none 0 0],.int .i64 (a:Int),.int .i64 2]) (by simp[results,results56,asAddr,hl]) rfl hq
        ·have h3i:¬(n:Int)<(a:Int)+60+(psz (l.drop a):Int)+1:=by omega
         have h3j:(a:Int)+60+(psz (l.drop a):Int)<(n:Int):=by omega
         obtain⟨b',o',e',hbl,hcell⟩:=hr.2 (a+60+psz (l.drop a)) (by omega);injection e' with e';injection e' with e1 e2;subst e1 e2;have hcb:=(hP4.below.cell (p:=⟨b,o+(a+60+psz (l.drop a)),none⟩) hbl).trans hcell
         have hget:(l.drop a)[60+psz (l.drop a)]?=some (l[a+60+psz (l.drop a)]'(by omega)):=by
          rw[List.getElem?_drop,<-Nat.add_assoc];exact zlh _
         generalize l[a+60+psz (l.drop a)]'(by omega)=u at *;by_cases h10:u=10
         ·subst h10;go_wp2_with fail
          go_meet
          refine⟨?_,rfl,qhr hd (by rw[zlm];unfold qdi pad;omega) fun q=>q.2 hget⟩;congr 1
          unfold qdi pad;omega
         ·have hub:((u.toNat:Int) !=10)=true:=by
           rw[bne_iff_ne];intro e;apply h10;rw[<-UInt8.toNat_inj];show u.toNat=10;omega
          have hz:qaj s (l.drop a)=5:=by
           have h5:qcz (l.drop a)=5:=perr_5 hd (by rw[zlm];unfold qdi pad;omega) ⟨hodd,by rw[hget];intro e;injection e with e;exact h10 e⟩;unfold qaj;rw[if_pos (by rw[h5];decide),h5]
          have hl:=hP4.load;have hq:=hP4.out hr0 hz (by decide);unfold qjm at hl hq;go_wp2_with fail
          exact zlf (v:=.tuple #[.agg #[.bool false,.slice none 0 0,.slice none 0 0,.slice none 0 0],.int .i64 (a:Int),.int .i64 5]) (by simp[results,results56,asAddr,hl]) rfl hq
       ·have hoi:(psz (l.drop a):Int)%2=0:=by omega
        have hob:((psz (l.drop a):Int)%2==1)=false:=by simp[hoi]
        go_wp2_with fail
        go_meet
        refine⟨?_,rfl,qhr hd (by rw[zlm];unfold qdi pad;omega) fun q=>hodd q.1⟩;congr 1
        unfold qdi pad;omega
      case rest=>
       obtain⟨rfl,hw,hp⟩:=hcut;subst hw;have hP5:=hP4;have hpp:=qc2 (l.drop a);obtain⟨b0,b1,b2,b3,bf,_⟩:=hP5.row.cells;by_cases h1:qax (l.drop a)=qhj
       ·have hb1:=qnd qk7 h1;have H1:=hid h1;clear h1;by_cases h8':a=8
        ·have hcnt:s.cnt=0:=hP5.at_.1 h8';have hE:qaj s (l.drop a)=0:=by rw[qpe hp H1.out,if_pos hcnt]
         have h8b:((a:Int) !=8)=false:=by simp;omega
         obtain⟨x',hP6⟩:=hP5.map hr0 hE H1.out hoD (by omega);have hst:(qbf s a (l.drop a)).tbl=s.tbl:=by unfold qbf;rw[if_pos H1.out]
         have HP6:=hid hP6;have H8:=hid h8';clear hP6 h8';go_wp2_with fail
         go_roundw
         all_goals first
          |exact⟨_,_,x',T,tn,tc,rfl,by rw[hst],rfl,HP6.out⟩
          |(simp[intOf];omega)
        ·have h8b:((a:Int) !=8)=true:=by rw[bne_iff_ne];omega
         have hz:qaj s (l.drop a)=8:=by rw[qpe hp H1.out,if_neg (fun q=>h8' (hP5.at_.2 q))]
         have hl:=hP5.load;have hq:=hP5.out hr0 hz (by decide);unfold qjm at hl hq;go_wp2_with fail
         exact zlf (v:=.tuple #[.agg #[.bool false,.slice none 0 0,.slice none 0 0,.slice none 0 0],.int .i64 (a:Int),.int .i64 8]) (by simp[results,results56,asAddr,hl]) rfl hq
       ·have hb1:=qpg qk7 h1;have H1:=hid h1;by_cases h2:qax (l.drop a)=qj3
        ·have hb2:=qnd qnc h2;have H2:=hid h2;clear h1 h2;obtain⟨AD,kD,eD,hrD,hkD,_⟩:=hoD.reads;injection eD with eD1 _ eD3;subst eD1 eD3;have Hent:=hid (qmw wc.heap.size D (psz (l.drop a)) k (qbv (l.drop a)) wc hrD zjn hk (by omega));have Hst:=hid (quv (s:=s) hp H2.out);clear hrD hkD;go_wp2_with fail
         refine Hent.out.mono ?_;rintro e w6 ⟨v6,rfl,_,hb6⟩;have hP6:=hP5.call hb6;have hoD6:=hoD.below hb6
         have hlen:x.an=s.mems.length:=by
          have q1:=hP6.own.lens.1;have q2:=congrArg List.length hP6.is.2.2.1;rw[zlB] at q2;omega
         have Hlen:=hid hlen;clear hlen zzk r0 r1 r2 r3 rf b0 b1 b2 b3 bf hP5 hb6 Hent;obtain⟨b0,b1,b2,b3,bf,_⟩:=hP6.row.cells;obtain⟨r0,r1,r2,r3,rf,_⟩:=hP6.res.cells;simp only[Arc.zero] at r0 r1 r2 r3;cases hgd:good (qbv (l.drop a))
         ·have he6:qqm (qbv (l.drop a))=7:=if_neg (by rw[hgd];simp);rw[he6];have hz:qaj s (l.drop a)=7:=by rw[Hst.out,if_neg (by rw[hgd];simp)]
          have hl:=hP6.load;have hq:=hP6.out hr0 hz (by decide);unfold qjm at hl hq;go_wp2_with fail
          exact zlf (v:=.tuple #[.agg #[.bool false,.slice none 0 0,.slice none 0 0,.slice none 0 0],.int .i64 (a:Int),.int .i64 7]) (by simp[results,results56,asAddr,hl]) rfl hq
         ·have he6:qqm (qbv (l.drop a))=0:=if_pos hgd;rw[he6];cases hts:s.tbl.isSome
          ·by_cases hm0:x.an=0
           ·have hE:qaj s (l.drop a)=0:=by
             have q1:s.tbl=none:=by cases hq:s.tbl with|none=>rfl|some _=>rw[hq] at hts;cases hts
             have q2:s.mems=[]:=zli (by have:=Hlen.out;omega);have q3:s.mayTab=true:=by unfold St.mayTab;rw[q1,q2];try rfl
             rw[Hst.out,if_pos ⟨q3,hgd⟩]
            have hP7:=hP6.tab hr0 hE H1.out H2.out hoD6 (by omega);have hst:(qbf s a (l.drop a)).tbl.isSome=true:=by unfold qbf;rw[if_neg H1.out,if_pos H2.out];rfl
            have HP7:=hid hP7;have han:((x.an:Nat):Int)=0:=by omega
            clear hP7 hm0;go_wp2_with fail
            go_roundw
            all_goals first
             |exact⟨_,_,x,D,_,k,rfl,by rw[hst],rfl,HP7.out⟩
             |(simp[intOf];omega)
           ·have han:(0:Int)<(x.an:Int):=by omega
            have hz:qaj s (l.drop a)=7:=by rw[Hst.out,if_neg];rintro ⟨q,_⟩;unfold St.mayTab at q;rw[zlx,List.isEmpty_iff] at q;have:=Hlen.out;rw[q.2] at this;exact hm0 this
            have hl:=hP6.load;have hq:=hP6.out hr0 hz (by decide);unfold qjm at hl hq;go_wp2_with fail
            exact zlf (v:=.tuple #[.agg #[.bool false,.slice none 0 0,.slice none 0 0,.slice none 0 0],.int .i64 (a:Int),.int .i64 7]) (by simp[results,results56,asAddr,hl]) rfl hq
          ·have hnm:¬(s.mayTab=true/\good (qbv (l.drop a))=true):=by
            rintro ⟨q,_⟩;unfold St.mayTab at q;rw[zlx] at q
            cases hq:s.tbl with
            |none=>rw[hq] at hts;cases hts
            |some _=>rw[hq] at q;exact absurd q.1 (by simp)
           have hz:qaj s (l.drop a)=7:=by rw[Hst.out,if_neg hnm]
           have hl:=hP6.load;have hq:=hP6.out hr0 hz (by decide);unfold qjm at hl hq;go_wp2_with fail
           exact zlf (v:=.tuple #[.agg #[.bool false,.slice none 0 0,.slice none 0 0,.slice none 0 0],.int .i64 (a:Int),.int .i64 7]) (by simp[results,results56,asAddr,hl]) rfl hq
        ·have hb2:=qpg qnc h2;have H2:=hid h2;clear h1 h2;obtain⟨AT,cT,eT,hrT,hkT,_⟩:=hP5.tbl.reads;injection eT with eT1 _ eT3;subst eT1 eT3;have hd16:=qrd (l.drop a);have Hres:=hid (qwe wc.heap.size T tn tc (s.tbl.getD []) (qax (l.drop a)) wc hrT zjn hkT hP5.tsz (by omega) hP5.good);have HN:Hid (qk5 s (l.drop a)=qj0 (bts (qax (l.drop a))) (s.tbl.getD [])):=hid rfl;clear hrT hkT hd16;have HPM:=hid hP5;go_wp2_with fail
         refine Hres.out.mono ?_;rintro e w6 ⟨rfl,hb6⟩;rw[<-HN.out];have hP6:=hP5.call hb6;have hoD6:=hoD.below hb6;have hh6:=(hb6.block H (zla.1 hh4).1).trans hh4;clear zzk r0 r1 r2 r3 rf b0 b1 b2 b3 bf hP5 hb6 Hres HPM hh4;have zzk:=fun k=>zjc H k hh6;obtain⟨b0,b1,b2,b3,bf,_⟩:=hP6.row.cells;obtain⟨r0,r1,r2,r3,rf,_⟩:=hP6.res.cells;simp only[Arc.zero] at r0 r1 r2 r3
         cases hpn:qk5 s (l.drop a) with
         |none=>
          have hz:qaj s (l.drop a)=6:=by rw[qpf hp H1.out H2.out,hpn];rfl
          have hl:=hP6.load;have hq:=hP6.out hr0 hz (by decide);unfold qjm at hl hq;clear hpn;unfold rs re;go_wp2_with fail
          exact zlf (v:=.tuple #[.agg #[.bool false,.slice none 0 0,.slice none 0 0,.slice none 0 0],.int .i64 (a:Int),.int .i64 6]) (by simp[results,results56,asAddr,hl]) rfl hq
         |some r=>
          have HPN:=hid hpn;have hst:(qbf s a (l.drop a)).tbl=s.tbl:=by unfold qbf;rw[if_neg H1.out,if_neg H2.out]
          have Hst:=hid hst;obtain⟨sm1,sm2⟩:=hP6.small;have hBs:=(zla.1 hP6.row).1;have HP6:=hid hP6;have hown6:=hP6.own.mems;have hoff6:=hP6.own.offs;have hrow6:=hP6.row;have Hpl:Hid (0<qdi (l.drop a)):=hid hpp;clear hpn hst hP6;unfold rs re;have hK6:B+1<=w6.heap.size:=hBs
          go_wp2_with (first
           |(at_builtin;refine JC.qa4 kM w6 (B+1) (.slice x.ap x.an x.ac) x.an (qa8 x.mems) hown6 hK6 1 1 #[.string r,.int .i64 (qak (l.drop a) 0),.int .i64 (qak (l.drop a) 1),.int .i64 (qak (l.drop a) 2),.int .i64 (qak (l.drop a) 3),.slice D (psz (l.drop a)) k] (0,0) rfl (by simp[Value.oneCell']) (by omega) (by omega) rfl (.tmp 126) (.tmp 138) rfl rfl rfl ?_;intro v7 w7 hown7 hb7 ho7 hf7;obtain⟨A7,c7,rfl,_⟩:=hown7.reads;have hB7:w7.heap[B]?=_:=(hb7.block B (by omega)).trans hrow6;have fB7:∀o,w7.frozen? ⟨B,o,none⟩=false:=(fun o=>by simp[World.frozen?,hB7]);have b72:=zlc w7 B 2 _ _ _ hB7;have b73:=zlc w7 B 3 _ _ _ hB7;have oo8:=qd9 (B:=B) (hoff6.oth ho7 (by decide)) (But.set (B:=B) w7 2 (Value.slice A7 (x.an+1) c7)) (by omega);have hK8:B+1<=(w7.setCell ⟨B,2,none⟩ (Value.slice A7 (x.an+1) c7)).heap.size:=(by have:=hb7.size;simp;omega))
           |(at_builtin;refine JC.qa4 kI _ (B+1) (.slice x.op x.on x.oc) x.on (x.offs.map (Value.int .i64)) oo8 hK8 1 1 #[.int .i64 (a:Int)] (0,0) rfl (by simp[Value.oneCell']) (by omega) (by omega) rfl (.tmp 142) (.tmp 144) rfl rfl (by first|rfl|(simp;rfl)) ?_;intro v9 w9 hown9 hb9 ho9 hf9;obtain⟨A9,c9,rfl,_⟩:=hown9.reads;have hB9:w9.heap[B]?=_:=(hb9.block B (by omega)).trans (zle w7 B 2 _ _ (Value.slice A7 (x.an+1) c7) hB7);have fB9:∀o,w9.frozen? ⟨B,o,none⟩=false:=(fun o=>by simp[World.frozen?,hB9]);have b93:=zlc w9 B 3 _ _ _ hB9))
          obtain⟨x',hPX⟩:=HP6.out.mem hr0 hp H1.out H2.out HPN.out (by omega) hoD6 (by omega) hown7 hb7 ho7 hown9 hb9 ho9;have HPX:=hid hPX;have hst:=Hst.out;clear hPX;go_roundw
          ·exact⟨_,_,x',T,tn,tc,rfl,by rw[hst],rfl,HPX.out⟩
          ·have:=Hpl.out;simp[intOf];omega
   ·have hdb:(qg6 (l.drop a) !=0)=true:=by simpa using hd
    have hz:qaj s (l.drop a)=qg6 (l.drop a):=by unfold qaj;rw[qsu hd,if_pos hd]
    have hl:=hP3.load;have hq:=hP3.out hr0 hz hd;unfold qjm at hl hq;go_wp2_with fail
    exact zlf (v:=.tuple #[.agg #[.bool false,.slice none 0 0,.slice none 0 0,.slice none 0 0],.int .i64 (a:Int),.int .i64 (qg6 (l.drop a))]) (by simp[results,results56,asAddr,hl]) rfl hq
  ·have hai:¬(a:Int)<(n:Int):=by omega
   have hr0:l.drop a=[]:=zlD (by omega);obtain⟨b0,b1,b2,b3,bf,_⟩:=hP.row.cells;obtain⟨r0,r1,r2,r3,rf,_⟩:=hP.res.cells;simp only[Arc.zero] at r0 r1 r2 r3;have hq:=hP.fin hr0;have hl:=qi3 _ _ _ (qkg hP.res (.bool x.hasMap) (.slice x.mp x.mn x.mc) (.slice x.ap x.an x.ac) (.slice x.op x.on x.oc)) rfl;unfold qjm at hl hq;simp only[Arc.val] at hq;go_wp2_with fail
   exact zlf (v:=.tuple #[.agg #[.bool x.hasMap,.slice x.mp x.mn x.mc,.slice x.ap x.an x.ac,.slice x.op x.on x.oc],.int .i64 0,.int .i64 0]) (by simp[results,results56,asAddr,hl]) rfl hq
end JR
namespace Frame
open Go.ChangeShapes Go.WideShapes Go.ChangeAt Go.RowKit Go.Proofs Go.Deep JN
theorem gndp5_of (W : World) (hsh : W.ShapedOpen prog) (hL : laidMetH prog [("math/bits.deBruijn32tab", Rows.laid_math_bits_deBruijn32tab), ("math/bits.deBruijn64tab", Rows.laid_math_bits_deBruijn64tab), ("internal/strconv.uint64pow10", Rows.laid_internal_strconv_uint64pow10), ("unicode/utf8.acceptRanges", Rows.laid_unicode_utf8_acceptRanges), ("unicode/utf8.first", Rows.laid_unicode_utf8_first)] W) : qev W := by
 refine⟨gnd_of W hsh hL,?_,show 3=3 from rfl⟩;rw[MakeChecks.laidMetH_plain _ _ _ (by kernel_rfl)] at hL;have hL3:=hL.tail.tail;have e:(Rows.laid_internal_strconv_uint64pow10:DataW Unit)=Lib.tabData .u64 Lib.pow10Tab:=by kernel_rfl
 rw[e] at hL3;exact Lib.tabIs_of_head qwk (t:=248) (e:=189) (n:=20) (by kernel_rfl) underlying248 underlying189 (by kernel_rfl) (by kernel_rfl) hL3
end Frame
namespace JR
open JB JD JN JH
theorem qm2 (A:Option Addr)(n c:Nat)(l:List UInt8)(w:World)(hr:Rd w w.heap.size A n l)(hnc:n<=c)(hn:n<100000):
 Calls prog 56 #[.slice A n c] w (qcx l w):=by
 by_cases h8:n<8
 ·exact rparse_2 A n c l w hr h8
 ·cases hi:qk4 l
  ·exact rparse_1 A n c l w hr hnc h8 hi
  ·obtain⟨b,o,rfl,_⟩:=qig hr (by omega);exact Qep b o n c l w hr hnc hn hi
end JR
end Go.Proofs.YtlmolmohhpdhdaaGreatDoor
