/-
  objsym's reference: Valid, Word,
-/
import Derived.Test.YtlmolmohhpdhdaaGreatDoorYOg
set_option maxRecDepth 100000
set_option maxHeartbeats 16000000
set_option linter.all false
namespace Go.Proofs.YtlmolmohhpdhdaaGreatDoor
open Go.RowKit Go.Proofs Tryz
namespace Obj
open JB
open JS (Oth)
theorem qa0 {K:Nat}(w:World)(m:Nat):Below K w (w.drewN m):=⟨rfl,rfl,rfl,Nat.le_refl _,fun _ _=>rfl⟩
theorem n4_four (l:List UInt8)(h:4<=l.length):∃a b c d r,l=a::b::c::d::r/\n4 l=((a.toNat * 256+b.toNat) * 256+c.toNat) * 256+d.toNat:=by
 match l,h with
 |a::b::c::d::r,_=>exact⟨a,b,c,d,r,rfl,by simp[n4]⟩
theorem qgv (w:World)(K:Nat)(A:Option Addr)(n c:Nat)(l:List UInt8)(hr:JB.Rd w K A n l)(h4:4<=n):
 Calls prog 137 #[.slice A n c] w fun e w'=>e=.returned (.int .i64 (n4 l:Int))/\∃m,w'=w.drewN m:=by
 have hl:=hr.1;obtain⟨a,b,u,d,r,rfl,hn⟩:=n4_four l (by omega);obtain⟨b0,o0,rfl,_,p0⟩:=hr.2 0 (by simp);obtain⟨b1,o1,e1,_,p1⟩:=hr.2 1 (by simp);obtain⟨b2,o2,e2,_,p2⟩:=hr.2 2 (by simp);obtain⟨b3,o3,e3,_,p3⟩:=hr.2 3 (by simp);injection e1 with e1;injection e1 with e11 e12;subst e11 e12;injection e2 with e2;injection e2 with e21 e22;subst e21 e22;injection e3 with e3;injection e3 with e31 e32;subst e31 e32;simp only[zlH,List.getElem_cons_succ,Nat.add_zero] at p0 p1 p2 p3;have ha:=a.toNat_lt;have hb:=b.toNat_lt;have hu:=u.toNat_lt;have hd:=d.toNat_lt;have Hn:Hid ((n4 (a::b::u::d::r):Int)=(((a.toNat:Int) * 256+(b.toNat:Int)) * 256+(u.toNat:Int)) * 256+(d.toNat:Int)):=hid (by rw[hn];simp);have i0:(0:Int)<(n:Int):=by omega
 have i1:(1:Int)<(n:Int):=by omega
 have i2:(2:Int)<(n:Int):=by omega
 have i3:(3:Int)<(n:Int):=by omega
 clear hr hl hn;go_enter func137,ntmps137;go_wp2_with fail
 go_quiet (fail)
 go_wp2_with fail
 go_ret
 exact⟨qyi Hn.out.symm,nq,rfl⟩
def Sy.eq (x y:Sy):Bool:=(x.name.toList==y.name.toList)&&((x.bind==y.bind)&&((x.size==y.size)&&(x.align==y.align)))
theorem Sy.eq_iff {x y:Sy}:x.eq y=true↔x=y:=by
 unfold Sy.eq;rw[zlx,zlx,zlx,beq_iff_eq,beq_iff_eq,beq_iff_eq,beq_iff_eq,qdk];constructor
 ·rintro ⟨h1,h2,h3,h4⟩;cases x;cases y;simp only at h1 h2 h3 h4;subst h1 h2 h3 h4;rfl
 ·rintro rfl;exact⟨rfl,rfl,rfl,rfl⟩
end Obj
namespace JB
open JS (Oth Oth.refl Oth.new Oth.put Oth.alloc Oth.trans)
theorem qyv (w:World)(K:Nat)(ty:TypeId)(v:Value)(n:Nat)(l:List UInt8)(hown:Own w K v n l)(hK:K<=w.heap.size)(A:Option Addr)(k c B:Nat)(src:List UInt8)(hr:Rd w B A k src)(hsz:n+k<=140737488355328):
 ∃v' w',(Builtin.append_ #[22,22] ty #[v,.slice A k c]).run prog w=.ok v' w'/\Own w' K v' (n+k) (l++src)/\Below K w w'/\Oth 5 w w':=by
 rcases A with _|ad
 ·have hk:k=0:=by
   rcases Nat.eq_zero_or_pos k with h0|h0
   ·exact h0
   ·obtain⟨b,o',e,_⟩:=hr.2 0 (by have:=hr.1;omega);cases e
  subst hk;have hn:src=[]:=zli hr.1;subst hn;obtain⟨i,hi,hz0,hz1,hz2⟩:=info_parts qjd;have ht:=underlying22;refine⟨v,w,?_,by simpa using hown,Below.refl _ _,Oth.refl _ _⟩;rcases hown.2 with ⟨rfl,rfl⟩|⟨g,cap,cur,m,rfl,_,_,hnc,_⟩
  ·simp[Builtin.append_,run_underlying ht,sizeOf,typeInfo,hi,Builtin.lenOf,Builtin.firstCells]
  ·simp[Builtin.append_,run_underlying ht,sizeOf,typeInfo,hi,Builtin.lenOf,Builtin.firstCells,hnc,storeCells]
 ·refine qyx w K ty v n l hown hK ad k c src hr.1 (fun j u hj=>?_) hsz;unfold enc at hj;rw[zlF] at hj;rcases hx:src[j]? with _|y
  ·rw[hx] at hj;cases hj
  ·rw[hx] at hj;obtain⟨hlt,rfl⟩:=zlv.1 hx;obtain⟨b,o',e,_,hc⟩:=hr.2 j hlt;injection e with e;subst e;have ha:(⟨b,o',none⟩:Addr).add j=⟨b,o'+j,none⟩:=by unfold Addr.add;split<;>simp_all
   rw[ha,hc];exact hj
end JB
namespace Obj
open JB
open JS (Oth)
def put2 (W:World)(B:Nat)(v0 v1:Value):World:=(W.setCell ⟨B,0,none⟩ v0).setCell ⟨B,1,none⟩ v1
theorem qnb {W:World}{B:Nat}{a b:Value}{t:TypeId}(h:W.heap[B]?=some (.cells #[a,b] t (0,0)))(v0 v1:Value):(put2 W B v0 v1).heap[B]?=some (.cells #[v0,v1] t (0,0)):=
 zle _ B 1 _ _ v1 (zle W B 0 _ _ v0 h)
theorem qij {w W:World}{K B:Nat}(h:Below K w W)(hB:K<=B)(v0 v1:Value):Below K w (put2 W B v0 v1):=
 (h.setCell (p:=⟨B,0,none⟩) hB v0).setCell (p:=⟨B,1,none⟩) hB v1
theorem qny (w:World)(A:Option Addr)(n c:Nat)(l:List UInt8)(hl:l.length=n)(h4:n<4):
 Calls prog 95 #[.slice A n c] w (qad l w):=by
 have Hd:Hid (qdm l=(2,[],[])):=hid (by unfold qdm;rw[if_pos (by omega)]);have h4i:(n:Int)<4:=by omega
 have hb:=zjB w (.cells #[.slice none 0 0,.slice none 0 0] 170);have hl2:=quk _ _ _ (zld w (.cells #[.slice none 0 0,.slice none 0 0] 170)) rfl;go_enter func95,ntmps95;go_wp2_with fail
 exact zlf (v:=.tuple #[.agg #[.slice none 0 0,.slice none 0 0],.int .i64 2]) (by simp[results,results95,asAddr,hl2]) rfl (qad.bad Hd.out hb)
theorem qgw (w:World)(K b o n c:Nat)(l:List UInt8)(hr:JB.Rd w K (some ⟨b,o,none⟩) n l)(hK:K<=w.heap.size)(hnc:n<=c)(h4:4<=n)(hm:l.take 4≠qbd∨(l.take 4=qbd/\n<8)∨(l.take 4=qbd/\8<=n/\65536<n4 (l.drop 4))):
 Calls prog 95 #[.slice (some ⟨b,o,none⟩) n c] w (qad l w):=by
 have hl:=hr.1;have h4i:¬(n:Int)<4:=by omega
 have h4c:(4:Int)<=(c:Int):=by omega
 have hb:=zjB w (.cells #[.slice none 0 0,.slice none 0 0] 170);have hrow:=zld w (.cells #[.slice none 0 0,.slice none 0 0] 170);have hl2:=quk _ _ _ hrow rfl;have hr4:=(hr.below (hb.mono hK)).pre (m:=4) h4;have Hr4:=hid hr4;rcases hm with hm|⟨hm,h8⟩|⟨hm,h8,hbig⟩
 ·have Hd:Hid (qdm l=(1,[],[])):=hid (by unfold qdm;rw[if_neg (by omega),if_pos hm]);have hbq:(l.take 4==[79,66,74,49])=false:=by rw[zls];exact hm
  obtain⟨t,ht⟩:∃t,l.take 4=t:=⟨_,rfl⟩;rw[ht] at hbq Hr4;clear hr4 hm ht;go_enter func95,ntmps95;go_wp2_with (first|(refine qay _ _ _ _ _ _ Hr4.out rfl (.tmp 15) rfl rfl ?_))
  exact zlf (v:=.tuple #[.agg #[.slice none 0 0,.slice none 0 0],.int .i64 1]) (by simp[results,results95,asAddr,hl2]) rfl (qad.bad Hd.out hb)
 ·have Hd:Hid (qdm l=(2,[],[])):=hid (by unfold qdm;rw[if_neg (by omega),if_neg (fun q=>q hm),if_pos (by omega)]);have hbq:(l.take 4==[79,66,74,49])=true:=by rw[beq_iff_eq];exact hm
  have h8i:(n:Int)<8:=by omega
  obtain⟨t,ht⟩:∃t,l.take 4=t:=⟨_,rfl⟩;rw[ht] at hbq Hr4;clear hr4 hm ht;go_enter func95,ntmps95;go_wp2_with (first|(refine qay _ _ _ _ _ _ Hr4.out rfl (.tmp 15) rfl rfl ?_))
  exact zlf (v:=.tuple #[.agg #[.slice none 0 0,.slice none 0 0],.int .i64 2]) (by simp[results,results95,asAddr,hl2]) rfl (qad.bad Hd.out hb)
 ·have Hd:Hid (qdm l=(12,[],[])):=hid (by unfold qdm;rw[if_neg (by omega),if_neg (fun q=>q hm),if_neg (by omega),if_pos hbig]);have hbq:(l.take 4==[79,66,74,49])=true:=by rw[beq_iff_eq];exact hm
  have h8i:¬(n:Int)<8:=by omega
  have h8c:(8:Int)<=(c:Int):=by omega
  have hr8:=((hr.below (hb.mono hK)).cut 4).pre (m:=4) (by omega);have hn4:n4 ((l.drop 4).take 4)=n4 (l.drop 4):=by unfold n4;rw[List.take_take,Nat.min_self]
  have Hn:=hid (qgv _ K _ 4 (c-4) _ hr8 zjn);rw[hn4] at Hn;have hbi:(65536:Int)<(n4 (l.drop 4):Int):=by omega
  obtain⟨q,hq⟩:∃q,n4 (l.drop 4)=q:=⟨_,rfl⟩;rw[hq] at hbi Hn;obtain⟨t,ht⟩:∃t,l.take 4=t:=⟨_,rfl⟩;rw[ht] at hbq Hr4;clear hr4 hm ht hq hbig hn4;go_enter func95,ntmps95;go_wp2_with (first|(refine qay _ _ _ _ _ _ Hr4.out rfl (.tmp 15) rfl rfl ?_))
  refine Hn.out.mono ?_;rintro e w2 ⟨rfl,nm,hw⟩;have hrow2:w2.heap[w.heap.size]?=some (.cells #[.slice none 0 0,.slice none 0 0] 170 (0,0)):=by rw[hw];exact hrow
  have hb2:Below w.heap.size w w2:=by rw[hw];exact hb.trans (qa0 _ _)
  have zzq:=fun k=>zjc w.heap.size k hrow2;have qf:=fun o=>zlp w2 w.heap.size o _ _ hrow2;have hl3:=quk _ _ _ (qnb hrow2 (.slice none 0 0) (.slice none 0 0)) rfl;have hb3:=qij hb2 zjn (.slice none 0 0) (.slice none 0 0);unfold put2 at hl3 hb3;clear hw hrow2 hb hrow hl2 Hn hr8;go_wp2_with fail
  exact zlf (v:=.tuple #[.agg #[.slice none 0 0,.slice none 0 0],.int .i64 12]) (by simp[results,results95,asAddr,hl3]) rfl (qad.bad Hd.out hb3)
theorem qp9 (K b o n c f t:Nat)(u v:Int)(hu:u=(f:Int))(hv:v=(t:Int))(hft:f<=t)(htn:t<=n)(hnc:n<=c):
 ∃p,(∀w,(Instr.sliceAt 22 (.slice (some ⟨b,o,none⟩) n c) (some (.int .i64 u)) (some (.int .i64 v)) none).run prog w=.ok (.slice (some ⟨b,p,none⟩) (t-f) (c-f)) w)/\(∀w,(Instr.slice 22 (.slice (some ⟨b,o,none⟩) n c) (some (.int .i64 u)) (some (.int .i64 v)) none).run prog w=.ok (.slice (some ⟨b,p,none⟩) (t-f) (c-f)) w)/\∀w l,JB.Rd w K (some ⟨b,o,none⟩) n l->JB.Rd w K (some ⟨b,p,none⟩) (t-f) ((l.drop f).take (t-f)):=by
 subst hu hv;have h1:(f:Int)<=(t:Int):=by omega
 have h2:(t:Int)<=(c:Int):=by omega
 have h3:(f:Int)<=(c:Int):=by omega
 by_cases hc:c=f
 ·subst hc;obtain rfl:t=c:=by omega
  obtain rfl:t=n:=by omega
  refine⟨o,fun w=>by go_simp,fun w=>by go_simp,fun w l hr=>?_⟩;rw[Nat.sub_self,List.take_zero];exact Rd.nil _ _ _
 ·exact⟨o+f,fun w=>by go_simp,fun w=>by go_simp,fun w l hr=>(hr.cut f).pre (by omega)⟩
structure RD (w W:World) (M cnt n:Nat) (l:List UInt8) (k a:Nat) (A:Option Addr) (c:Nat) (acc:List Sy):Prop where
 res:W.heap[w.heap.size]?=some (.cells #[.slice none 0 0,.slice none 0 0] 170 (0,0))
 row:W.heap[M]?=some (.cells #[.slice A k c,.slice none 0 0] 170 (0,0))
 own:JC.Own 174 4 W (M+1) (.slice A k c) k (qbq acc)
 len:acc.length=k
 names:∀x∈acc,x.name.size<=maxLen
 lt:w.heap.size<M
 below:Below w.heap.size w W
 go:qdm l=qn1 (cnt-k) acc (l.drop a)
 le:k<=cnt/\a<=n
theorem RD.on {w W W':World}{M cnt n k a c:Nat}{l:List UInt8}{A:Option Addr}{acc:List Sy}(h:RD w W M cnt n l k a A c acc)(hb:Below W.heap.size W W'):RD w W' M cnt n l k a A c acc:=
 ⟨(hb.block _ (zla.1 h.res).1).trans h.res,(hb.block _ (zla.1 h.row).1).trans h.row,h.own.below hb,h.len,h.names,h.lt,h.below.trans (hb.mono h.below.size),h.go,h.le⟩
theorem Qb5 (w:World)(K b o n c:Nat)(l:List UInt8)(hr:JB.Rd w K (some ⟨b,o,none⟩) n l)(hK:K<=w.heap.size)(hnc:n<=c)(hn:n<=1000000)(h8:8<=n)(hm:l.take 4=qbd)(hbig:¬65536<n4 (l.drop 4)):
 Calls prog 95 #[.slice (some ⟨b,o,none⟩) n c] w (qad l w):=by
 have hl:=hr.1;have h4i:¬(n:Int)<4:=by omega
 have h4c:(4:Int)<=(c:Int):=by omega
 have h8i:¬(n:Int)<8:=by omega
 have h8c:(8:Int)<=(c:Int):=by omega
 have hb:=zjB w (.cells #[.slice none 0 0,.slice none 0 0] 170);have hrow:=zld w (.cells #[.slice none 0 0,.slice none 0 0] 170);have hr4:=(hr.below (hb.mono hK)).pre (m:=4) (by omega);have Hr4:=hid hr4;have hbq:(l.take 4==[79,66,74,49])=true:=by rw[beq_iff_eq];exact hm
 have hr8:=((hr.below (hb.mono hK)).cut 4).pre (m:=4) (by omega);have hn4:n4 ((l.drop 4).take 4)=n4 (l.drop 4):=by unfold n4;rw[List.take_take,Nat.min_self]
 have Hn:=hid (qgv _ K _ 4 (c-4) _ hr8 zjn);rw[hn4] at Hn;have Hd:Hid (qdm l=qn1 (n4 (l.drop 4)) [] (l.drop 8)):=hid (by unfold qdm;rw[if_neg (by omega),if_neg (fun q=>q hm),if_neg (by omega),if_neg hbig]);obtain⟨q,hq⟩:∃q,n4 (l.drop 4)=q:=⟨_,rfl⟩;rw[hq] at hbig Hn Hd;have hqi:¬(65536:Int)<(q:Int):=by omega
 obtain⟨t,ht⟩:∃t,l.take 4=t:=⟨_,rfl⟩;rw[ht] at hbq Hr4;clear hr4 hm ht hq hn4;go_enter func95,ntmps95;go_wp2_with (first|(refine qay _ _ _ _ _ _ Hr4.out rfl (.tmp 15) rfl rfl ?_))
 refine Hn.out.mono ?_;rintro e w2 ⟨rfl,nm,hw⟩;have hrow2:w2.heap[w.heap.size]?=some (.cells #[.slice none 0 0,.slice none 0 0] 170 (0,0)):=by rw[hw];exact hrow
 have hb2:Below w.heap.size w w2:=by rw[hw];exact hb.trans (qa0 _ _)
 have hlt2:w.heap.size<w2.heap.size:=(zla.1 hrow2).1;have hb3:=zjB w2 (.cells #[.slice none 0 0,.slice none 0 0] 170)
 have hP:RD w (w2.alloc (.cells #[.slice none 0 0,.slice none 0 0] 170)) w2.heap.size q n l 0 8 none 0 []:=
  ⟨(hb3.block _ hlt2).trans hrow2,zld w2 _,JC.Own.nil _ _ _ _,rfl,by simp,hlt2,hb2.trans (hb3.mono hb2.size),by rw[Hd.out];rfl,by omega,h8⟩
 clear hw hrow2 hb hrow Hn hr8 hb3 hb2 Hd;go_wp2_with fail
 generalize w2.alloc (.cells #[.slice none 0 0,.slice none 0 0] 170)=w3 at *;generalize w2.heap.size=M at *;go_loopw [6,7] (fun av iv W=>∃(k a:Nat)(A:Option Addr)(c1:Nat)(acc:List Sy),iv=.int .i64 (k:Int)/\av=.int .i64 (a:Int)/\RD w W M q n l k a A c1 acc) (fun _ i _=>q-(intOf i).toNat)
 case atStart=>exact⟨0,8,none,0,[],rfl,rfl,hP⟩
 case round=>
  obtain⟨k,a,A,c1,acc,rfl,rfl,hP1⟩:=hrel;clear hP;obtain⟨hkq,han⟩:=hP1.le;by_cases hlt:k<q
  ·have hki:(k:Int)<(q:Int):=by omega
   obtain⟨j,hj⟩:∃j,q-k=j+1:=⟨q-k-1,by omega⟩;have HD:Hid (qdm l=if qtz (l.drop a) then (2,[],[]) else if has acc (rdS (l.drop a)).name=true∨qb3 (rdS (l.drop a))=false then (12,[],[]) else qn1 (q-(k+1)) (acc++[rdS (l.drop a)]) ((l.drop a).drop (10+kS (l.drop a)))):=hid (by rw[hP1.go,hj,show q-(k+1)=j by omega];rfl);clear hj;have zzq:=fun k=>zjc w.heap.size k hP1.res;have qf:=fun o=>zlp wr w.heap.size o _ _ hP1.res;have hl3:=quk _ _ _ (qnb hP1.res (.slice none 0 0) (.slice none 0 0)) rfl;have hb3:=qij hP1.below zjn (.slice none 0 0) (.slice none 0 0);unfold put2 at hl3 hb3;have hrw:=hr.below (hP1.below.mono hK);by_cases h10:n<a+10
   ·have h10i:decide ((n:Int)<(a:Int)+10)=true:=by simp;omega
    have hd:Hid (qdm l=(2,[],[])):=hid (by rw[HD.out,if_pos (by unfold qtz;left;rw[zlm];omega)]);go_wp2_with fail
    exact zlf (v:=.tuple #[.agg #[.slice none 0 0,.slice none 0 0],.int .i64 2]) (by simp[results,results95,asAddr,hl3]) rfl (qad.bad hd.out hb3)
   ·have h10i:decide ((n:Int)<(a:Int)+10)=false:=by simp;omega
    obtain⟨r,hrr⟩:∃r,r=l.drop a:=⟨_,rfl⟩;have hrl:r.length=n-a:=by rw[hrr,zlm,hl]
    have hra:JB.Rd wr K (some ⟨b,o+a,none⟩) (n-a) r:=by rw[hrr];exact hrw.cut a
    rw[<-hrr] at HD;obtain⟨b',o',e',hbK,hc9⟩:=hra.2 9 (by omega);injection e' with e';injection e' with e1 e2;subst e1 e2;obtain⟨_,_,e0,_,hc0⟩:=hra.2 0 (by omega);injection e0 with e0;injection e0 with e01 e02;subst e01 e02;have hk9:kS r=(r[9]'(by omega)).toNat:=by unfold kS;rw[List.getD_eq_getElem?_getD,zlh (by omega)];rfl
    have hk0:(rdS r).bind=((r[0]'(by omega)).toNat:Int):=by show ((r.getD 0 0).toNat:Int)=_;rw[List.getD_eq_getElem?_getD,zlh (by omega)];rfl
    have hu9:=(r[9]'(by omega)).toNat_lt;have hu0:=(r[0]'(by omega)).toNat_lt;have Hk9:=hid hk9;have Hk0:=hid hk0;clear hk9 hk0;generalize r[9]'(by omega)=u9 at *;generalize r[0]'(by omega)=u0 at *;rw[Nat.add_assoc] at hc9;rw[Nat.add_zero] at hc0;have i9:(a:Int)+9<(n:Int):=by omega
    by_cases h11:n<a+10+u9.toNat
    ·have h11i:decide ((n:Int)<(a:Int)+10+(u9.toNat:Int))=true:=by simp;omega
     have hd:Hid (qdm l=(2,[],[])):=hid (by rw[HD.out,if_pos (by unfold qtz;right;rw[Hk9.out];omega)]);go_wp2_with fail
     exact zlf (v:=.tuple #[.agg #[.slice none 0 0,.slice none 0 0],.int .i64 2]) (by simp[results,results95,asAddr,hl3]) rfl (qad.bad hd.out hb3)
    ·have h11i:decide ((n:Int)<(a:Int)+10+(u9.toNat:Int))=false:=by simp;omega
     have HD2:Hid (qdm l=if has acc (rdS r).name=true∨qb3 (rdS r)=false then (12,[],[]) else qn1 (q-(k+1)) (acc++[rdS r]) (r.drop (10+kS r))):=hid (by rw[HD.out,if_neg (by unfold qtz;rw[Hk9.out];omega)]);have HP:=hid hP1;have Hra:=hid hra;have hHK:K<=wr.heap.size:=Nat.le_trans hK hP1.below.size;clear HD hl3 hb3 zzq qf hP1 hra;go_upto_region 18 with fail
     obtain⟨p1,hs1,ht1,hq1⟩:=qp9 K b o n c (a+10) (a+10+u9.toNat) ((a:Int)+10) ((a:Int)+10+(u9.toNat:Int)) (by omega) (by omega) (by omega) (by omega) hnc;obtain⟨p2,hs2,ht2,hq2⟩:=qp9 K b o n c (a+1) (a+5) ((a:Int)+1) ((a:Int)+5) (by omega) (by omega) (by omega) (by omega) hnc;obtain⟨p3,hs3,ht3,hq3⟩:=qp9 K b o n c (a+5) (a+9) ((a:Int)+5) ((a:Int)+9) (by omega) (by omega) (by omega) (by omega) hnc;rw[show a+10+u9.toNat-(a+10)=u9.toNat by omega] at hs1 ht1 hq1;rw[show a+5-(a+1)=4 by omega] at hs2 ht2 hq2;rw[show a+9-(a+5)=4 by omega] at hs3 ht3 hq3;obtain⟨ls,hls⟩:∃ls,ls=(r.drop 10).take u9.toNat:=⟨_,rfl⟩;have Hls:=hid hls
     have hSall:∀W',Below wr.heap.size wr W'->(convert 22 9 (.slice (some ⟨b,p1,none⟩) u9.toNat (c-(a+10)))).run prog W'=.ok (.string ⟨ls.toArray⟩) W'/\W'.cell? ⟨b,o+a,none⟩=some (.int .u8 (u0.toNat:Int))/\Below wr.heap.size wr W':=fun W' hW=>by
      refine⟨?_,(hW.cell (p:=⟨b,o+a,none⟩) (by show b<_;omega)).trans hc0,hW⟩;have:=hq1 W' l (hrw.below (hW.mono hHK));rw[<-List.drop_drop,<-hrr,<-hls] at this;exact qmi W' K _ _ _ _ this
     have HN2:Hid (∀W',Below wr.heap.size wr W'->Calls prog 137 #[.slice (some ⟨b,p2,none⟩) 4 (c-(a+1))] W' fun e W''=>e=.returned (.int .i64 (n4 (r.drop 1):Int))/\∃m,W''=W'.drewN m):=hid fun W' hW=>by
      have h1:=hq2 W' l (hrw.below (hW.mono hHK));have h2:=qgv W' K _ 4 (c-(a+1)) _ h1 zjn;have e:n4 ((l.drop (a+1)).take 4)=n4 (r.drop 1):=by rw[hrr,List.drop_drop];unfold n4;rw[List.take_take,Nat.min_self]
      rw[e] at h2;exact h2
     have HN3:Hid (∀W',Below wr.heap.size wr W'->Calls prog 137 #[.slice (some ⟨b,p3,none⟩) 4 (c-(a+5))] W' fun e W''=>e=.returned (.int .i64 (n4 (r.drop 5):Int))/\∃m,W''=W'.drewN m):=hid fun W' hW=>by
      have h1:=hq3 W' l (hrw.below (hW.mono hHK));have h2:=qgv W' K _ 4 (c-(a+5)) _ h1 zjn;have e:n4 ((l.drop (a+5)).take 4)=n4 (r.drop 5):=by rw[hrr,List.drop_drop];unfold n4;rw[List.take_take,Nat.min_self]
      rw[e] at h2;exact h2
     obtain⟨z2,hz2⟩:∃z,z=n4 (r.drop 1):=⟨_,rfl⟩;obtain⟨z3,hz3⟩:∃z,z=n4 (r.drop 5):=⟨_,rfl⟩;rw[<-hz2] at HN2;rw[<-hz3] at HN3
     have hx:rdS r=⟨⟨ls.toArray⟩,(u0.toNat:Int),(z2:Int),(z3:Int)⟩:=by
      have h1:(rdS r).name=⟨ls.toArray⟩:=by show str ((r.drop 10).take (kS r))=_;rw[Hk9.out,<-hls];rfl
      have h2:(rdS r).size=(z2:Int):=by rw[hz2];rfl
      have h3:(rdS r).align=(z3:Int):=by rw[hz3];rfl
      rw[<-h1,<-Hk0.out,<-h2,<-h3]
     have Hx:=hid hx;clear hls hz2 hz3 hx hq1 hq2 hq3;have hbX0:Below wr.heap.size wr wr.drew:=(Below.refl _ _).drew;have i0:(a:Int)<(n:Int):=by omega
     have wu0:IntKind.i64.wrap (u0.toNat:Int)=(u0.toNat:Int):=by rw[IntKind.wrap_i64];omega
     have wa1:IntKind.i64.wrap ((a:Int)+1)=(a:Int)+1:=by rw[IntKind.wrap_i64];omega
     have wa5:IntKind.i64.wrap ((a:Int)+5)=(a:Int)+5:=by rw[IntKind.wrap_i64];omega
     have wa9:IntKind.i64.wrap ((a:Int)+9)=(a:Int)+9:=by rw[IntKind.wrap_i64];omega
     have wa10:IntKind.i64.wrap ((a:Int)+10)=(a:Int)+10:=by rw[IntKind.wrap_i64];omega
     go_cut [9] from 63 to 88 (fun s9 wx=>∃g,s9=.pointer (some ⟨g,0,none⟩)/\wx.heap[g]?=some (.cells #[.string ⟨ls.toArray⟩,.int .i64 (u0.toNat:Int),.int .i64 (z2:Int),.int .i64 (z3:Int)] 174 (0,0))/\wr.heap.size<=g/\Below wr.heap.size wr wx)
     case first=>
      refine Ord.qaf.begin (fun W'=>(convert 22 9 (.slice (some ⟨b,p1,none⟩) u9.toNat (c-(a+10)))).run prog W'=.ok (.string ⟨ls.toArray⟩) W'/\W'.cell? ⟨b,o+a,none⟩=some (.int .u8 (u0.toNat:Int))/\Below wr.heap.size wr W') 50 (by kernel_rfl) ?_;have hS0:(fun W'=>(convert 22 9 (.slice (some ⟨b,p1,none⟩) u9.toNat (c-(a+10)))).run prog W'=.ok (.string ⟨ls.toArray⟩) W'/\W'.cell? ⟨b,o+a,none⟩=some (.int .u8 (u0.toNat:Int))/\Below wr.heap.size wr W') wr.drew:=hSall _ hbX0;refine zjW 0 hS0 ?_ (hy:=by rintro v ⟨z1,z2',z3'⟩;go_simp;first|done|rfl);refine zjW 1 hS0 ?_ (hy:=by rintro v ⟨z1,z2',z3'⟩;go_simp;first|done|rfl);refine zjW 2 hS0 ?_ (hy:=by rintro v ⟨z1,z2',z3'⟩;go_simp;first|done|rfl);refine zjW 3 hS0 ?_ (hy:=by rintro v ⟨z1,z2',z3'⟩;go_simp;first|done|rfl);refine zjW 4 hS0 ?_ (hy:=by rintro v ⟨z1,z2',z3'⟩;go_simp;first|done|rfl);refine zjW 5 hS0 ?_ (hy:=by rintro v ⟨z1,z2',z3'⟩;go_simp;first|done|rfl);refine zjW 6 hS0 ?_ (hy:=by rintro v ⟨z1,z2',z3'⟩;go_simp;first|done|rfl);refine zjW 7 hS0 ?_ (hy:=by rintro v ⟨z1,z2',z3'⟩;go_simp;first|done|rfl);refine zjW 8 hS0 ?_ (hy:=by rintro v ⟨z1,z2',z3'⟩;go_simp;first|done|rfl);refine zjW 9 hS0 ?_ (hy:=by rintro v ⟨z1,z2',z3'⟩;go_simp;first|done|rfl);refine zjW 10 hS0 ?_ (hy:=by rintro v ⟨z1,z2',z3'⟩;go_simp;first|done|rfl);refine zjW 11 hS0 ?_ (hy:=by rintro v ⟨z1,z2',z3'⟩;go_simp;first|done|rfl);refine zjW 12 hS0 ?_ (hy:=by rintro v ⟨z1,z2',z3'⟩;go_simp;first|done|rfl);refine zjW 13 hS0 ?_ (hy:=by rintro v ⟨z1,z2',z3'⟩;go_simp;first|done|rfl);refine zjW 14 hS0 ?_ (hy:=by rintro v ⟨z1,z2',z3'⟩;go_simp;first|done|rfl);refine zjW 15 hS0 ?_ (hy:=by rintro v ⟨z1,z2',z3'⟩;go_simp;first|done|rfl);refine zjW 16 hS0 ?_ (hy:=by rintro v ⟨z1,z2',z3'⟩;go_simp;first|done|rfl);refine zjW 18 hS0 ?_ (hy:=by rintro v ⟨z1,z2',z3'⟩;go_simp;first|done|rfl);refine zjW 19 hS0 ?_ (hy:=by rintro v ⟨z1,z2',z3'⟩;go_simp;first|done|rfl);refine zjW 20 hS0 ?_ (hy:=by rintro v ⟨z1,z2',z3'⟩;go_simp;first|done|rfl);refine zjW 21 hS0 ?_ (hy:=by rintro v ⟨z1,z2',z3'⟩;go_simp;first|done|rfl);refine zjW 22 hS0 ?_ (hy:=by rintro v ⟨z1,z2',z3'⟩;go_simp;first|done|rfl);refine zjW 23 hS0 ?_ (hy:=by rintro v ⟨z1,z2',z3'⟩;go_simp;first|done|rfl);refine Ord.qaf.two 17 26 (by kernel_rfl) rfl rfl (fun C hC=>?_) (fun C hC=>?_)
      ·go_simp;go_at_call 137;refine (HN2.out _ hbX0).mono ?_;rintro e v1 ⟨rfl,mv1,hwv1⟩;have hv1:Below wr.heap.size wr v1:=by rw[hwv1];exact hbX0.trans (qa0 _ _)
       clear hwv1;refine hC.out _ _ (fun _=>hSall _ hv1) ?_;clear hC C;try simp only[zjA]
       refine Ord.qaf.two 24 26 (by kernel_rfl) rfl rfl (fun C hC=>?_) (fun C hC=>?_)
       ·go_simp;go_at_call 137;refine (HN3.out _ hv1).mono ?_;rintro e v2 ⟨rfl,mv2,hwv2⟩;have hv2:Below wr.heap.size wr v2:=by rw[hwv2];exact hv1.trans (qa0 _ _)
        clear hwv2;refine hC.out _ _ (fun _=>hSall _ hv2) ?_;clear hC C;try simp only[zjA]
        refine zjW 25 (hSall _ hv2) ?_ (hy:=by rintro v ⟨z1,z2',z3'⟩;go_simp;first|done|rfl);refine Ord.qaf.step 26 (by kernel_rfl) rfl (fun C hC=>?_);go_simp;have hA:=zld v2 (.cells #[.string ⟨#[]⟩,.int .i64 0,.int .i64 0,.int .i64 0] 174);have hB:Below wr.heap.size wr (World.alloc v2 (.cells #[.string ⟨#[]⟩,.int .i64 0,.int .i64 0,.int .i64 0] 174)):=(hv2).alloc (hv2).size _;have hg:wr.heap.size<=v2.heap.size:=(hv2).size;refine hC.out _ _ (fun _=>hSall _ hB) ?_;clear hC C;try simp only[zjA]
        generalize World.alloc v2 (.cells #[.string ⟨#[]⟩,.int .i64 0,.int .i64 0,.int .i64 0] 174)=v3 at *;generalize v2.heap.size=g at *;have zzk:=fun k=>zjc g k hA;have kf:=fun o=>zlp v3 g o _ _ hA;have hrz:=qn8 hA (.string ⟨ls.toArray⟩) (.int .i64 (u0.toNat:Int)) (.int .i64 (z2:Int)) (.int .i64 (z3:Int));have hbz:=qkw hB hg (.string ⟨ls.toArray⟩) (.int .i64 (u0.toNat:Int)) (.int .i64 (z2:Int)) (.int .i64 (z3:Int));unfold put4 at hrz hbz;refine Ord.qaf.step 27 (by kernel_rfl) rfl (fun C hC=>?_);go_simp;refine hC.out _ _ (fun _=>hSall _ hbz) ?_;clear hC C;try simp only[zjA]
        refine Ord.qaf.done (by kernel_rfl) ?_ _;clear zzk kf;go_wp2_with fail
        go_meet
        exact⟨g,rfl,hrz,hg,hbz⟩
       ·go_simp;have hA:=zld v1 (.cells #[.string ⟨#[]⟩,.int .i64 0,.int .i64 0,.int .i64 0] 174);have hB:Below wr.heap.size wr (World.alloc v1 (.cells #[.string ⟨#[]⟩,.int .i64 0,.int .i64 0,.int .i64 0] 174)):=(hv1).alloc (hv1).size _;have hg:wr.heap.size<=v1.heap.size:=(hv1).size;refine hC.out _ _ (fun _=>hSall _ hB) ?_;clear hC C;try simp only[zjA]
        generalize World.alloc v1 (.cells #[.string ⟨#[]⟩,.int .i64 0,.int .i64 0,.int .i64 0] 174)=v2 at *;generalize v1.heap.size=g at *;refine Ord.qaf.step 24 (by kernel_rfl) rfl (fun C hC=>?_);go_simp;go_at_call 137;refine (HN3.out _ hB).mono ?_;rintro e v3 ⟨rfl,mv3,hwv3⟩;have hv3:Below wr.heap.size wr v3:=by rw[hwv3];exact hB.trans (qa0 _ _)
        have rv3:v3.heap[g]?=_:=(by rw[hwv3];exact hA:v3.heap[g]?=some (.cells #[.string ⟨#[]⟩,.int .i64 0,.int .i64 0,.int .i64 0] 174 (0,0)));clear hwv3;refine hC.out _ _ (fun _=>hSall _ hv3) ?_;clear hC C;try simp only[zjA]
        refine zjW 25 (hSall _ hv3) ?_ (hy:=by rintro v ⟨z1,z2',z3'⟩;go_simp;first|done|rfl);have zzk:=fun k=>zjc g k rv3;have kf:=fun o=>zlp v3 g o _ _ rv3;have hrz:=qn8 rv3 (.string ⟨ls.toArray⟩) (.int .i64 (u0.toNat:Int)) (.int .i64 (z2:Int)) (.int .i64 (z3:Int));have hbz:=qkw hv3 hg (.string ⟨ls.toArray⟩) (.int .i64 (u0.toNat:Int)) (.int .i64 (z2:Int)) (.int .i64 (z3:Int));unfold put4 at hrz hbz;refine Ord.qaf.step 27 (by kernel_rfl) rfl (fun C hC=>?_);go_simp;refine hC.out _ _ (fun _=>hSall _ hbz) ?_;clear hC C;try simp only[zjA]
        refine Ord.qaf.done (by kernel_rfl) ?_ _;clear zzk kf;go_wp2_with fail
        go_meet
        exact⟨g,rfl,hrz,hg,hbz⟩
      ·go_simp;have hA:(World.alloc wr (.cells #[.string ⟨#[]⟩,.int .i64 0,.int .i64 0,.int .i64 0] 174)).drew.heap[wr.heap.size]?=some (.cells #[.string ⟨#[]⟩,.int .i64 0,.int .i64 0,.int .i64 0] 174 (0,0)):=zld wr _;have hB:Below wr.heap.size wr (World.alloc wr (.cells #[.string ⟨#[]⟩,.int .i64 0,.int .i64 0,.int .i64 0] 174)).drew:=((Below.refl wr.heap.size wr).alloc zjn _).drew;have hg:wr.heap.size<=wr.heap.size:=Nat.le_refl _;refine hC.out _ _ (fun _=>hSall _ hB) ?_;clear hC C;try simp only[zjA]
       generalize (World.alloc wr (.cells #[.string ⟨#[]⟩,.int .i64 0,.int .i64 0,.int .i64 0] 174)).drew=v1 at *;refine Ord.qaf.step 17 (by kernel_rfl) rfl (fun C hC=>?_);go_simp;go_at_call 137;refine (HN2.out _ hB).mono ?_;rintro e v2 ⟨rfl,mv2,hwv2⟩;have hv2:Below wr.heap.size wr v2:=by rw[hwv2];exact hB.trans (qa0 _ _)
       have rv2:v2.heap[wr.heap.size]?=_:=(by rw[hwv2];exact hA:v2.heap[wr.heap.size]?=some (.cells #[.string ⟨#[]⟩,.int .i64 0,.int .i64 0,.int .i64 0] 174 (0,0)));clear hwv2;refine hC.out _ _ (fun _=>hSall _ hv2) ?_;clear hC C;try simp only[zjA]
       refine Ord.qaf.step 24 (by kernel_rfl) rfl (fun C hC=>?_);go_simp;go_at_call 137;refine (HN3.out _ hv2).mono ?_;rintro e v3 ⟨rfl,mv3,hwv3⟩;have hv3:Below wr.heap.size wr v3:=by rw[hwv3];exact hv2.trans (qa0 _ _)
       have rv3:v3.heap[wr.heap.size]?=_:=(by rw[hwv3];exact rv2:v3.heap[wr.heap.size]?=some (.cells #[.string ⟨#[]⟩,.int .i64 0,.int .i64 0,.int .i64 0] 174 (0,0)));clear hwv3;refine hC.out _ _ (fun _=>hSall _ hv3) ?_;clear hC C;try simp only[zjA]
       refine zjW 25 (hSall _ hv3) ?_ (hy:=by rintro v ⟨z1,z2',z3'⟩;go_simp;first|done|rfl);have zzk:=fun k=>zjc wr.heap.size k rv3;have kf:=fun o=>zlp v3 wr.heap.size o _ _ rv3;have hrz:=qn8 rv3 (.string ⟨ls.toArray⟩) (.int .i64 (u0.toNat:Int)) (.int .i64 (z2:Int)) (.int .i64 (z3:Int));have hbz:=qkw hv3 hg (.string ⟨ls.toArray⟩) (.int .i64 (u0.toNat:Int)) (.int .i64 (z2:Int)) (.int .i64 (z3:Int));unfold put4 at hrz hbz;refine Ord.qaf.step 27 (by kernel_rfl) rfl (fun C hC=>?_);go_simp;refine hC.out _ _ (fun _=>hSall _ hbz) ?_;clear hC C;try simp only[zjA]
       refine Ord.qaf.done (by kernel_rfl) ?_ _;clear zzk kf;go_wp2_with fail
       go_meet
       exact⟨wr.heap.size,rfl,hrz,hg,hbz⟩
     case rest=>
      obtain⟨g,rfl,hrg,hg,hbc⟩:=hcut;have hP2:=HP.out.on hbc;have e0:=zjc g 0 hrg;have e1:=zjc g 1 hrg;have e2:=zjc g 2 hrg;have e3:=zjc g 3 hrg;have hgc:=(zla.1 hrg).1;have HSy:=hid (rsym_any ⟨⟨ls.toArray⟩,(u0.toNat:Int),(z2:Int),(z3:Int)⟩ wc);simp only[Sy.val] at HSy;have hl10:a+10+u9.toNat<=n:=by omega
      rw[Hx.out,Hk9.out] at HD2;clear hSall hs1 hs2 hs3 ht1 ht2 ht3 HN2 HN3 hbX0 wa1 wa5 wa9 wa10 wu0 hbc hc0 hc9 i0 i9;go_wp2_with fail
      refine HSy.out.mono ?_;rintro e w5 ⟨rfl,hb5⟩;have hP3:=hP2.on hb5;have hrg5:=(hb5.block g hgc).trans hrg;clear HSy e0 e1 e2 e3 hrg hP2 hb5;have zzq:=fun k=>zjc w.heap.size k hP3.res;have qf:=fun o=>zlp w5 w.heap.size o _ _ hP3.res;have hl3:=quk _ _ _ (qnb hP3.res (.slice none 0 0) (.slice none 0 0)) rfl;have hb3:=qij hP3.below zjn (.slice none 0 0) (.slice none 0 0);unfold put2 at hl3 hb3;have m0:=zjc M 0 hP3.row;have e0:=zjc g 0 hrg5;have e1:=zjc g 1 hrg5;have e2:=zjc g 2 hrg5;have e3:=zjc g 3 hrg5;cases hsy:qb3 ⟨⟨ls.toArray⟩,(u0.toNat:Int),(z2:Int),(z3:Int)⟩
      ·have hd:Hid (qdm l=(12,[],[])):=hid (by rw[HD2.out,if_pos (.inr hsy)]);go_wp2_with fail
       exact zlf (v:=.tuple #[.agg #[.slice none 0 0,.slice none 0 0],.int .i64 12]) (by simp[results,results95,asAddr,hl3]) rfl (qad.bad hd.out hb3)
      ·obtain⟨A',c1',eA,hrdA,hkc1,_⟩:=hP3.own.reads;injection eA with eA1 _ eA3;subst eA1 eA3;have HH:=hid (rhas_any w5.heap.size A k c1 acc ⟨ls.toArray⟩ w5 (Qdd hrdA hP3.names) (by omega));cases hhs:has acc ⟨ls.toArray⟩
       ·rw[hhs] at HH;have HD3:Hid (qdm l=qn1 (q-(k+1)) (acc++[⟨⟨ls.toArray⟩,(u0.toNat:Int),(z2:Int),(z3:Int)⟩]) (r.drop (10+u9.toNat))):=hid (by rw[HD2.out,if_neg (by rw[hhs,hsy];simp)]);have Hown:=hid hP3.own;have hMw:=(zla.1 hP3.row).1;have hrowM:=hP3.row;have HP3:=hid hP3;clear hP3 hl3 hb3 hrdA HD2
        go_wp2_with (first
         |(go_at_call 139;go_must (refine HH.out.mono ?_;rintro e w6 ⟨rfl,rfl⟩))
         |(at_builtin;go_must (refine JC.qa4 Qdg _ (M+1) (.slice A k c1) k (qbq acc) Hown.out hMw 1 1 #[.string ⟨ls.toArray⟩,.int .i64 (u0.toNat:Int),.int .i64 (z2:Int),.int .i64 (z3:Int)] (0,0) rfl (by simp[Value.oneCell']) (by omega) (by omega) rfl (.tmp 101) (.tmp 103) rfl rfl rfl ?_);intro v7 w7 hown7 hb7 ho7 hf7;obtain⟨A7,c7,rfl,_⟩:=hown7.reads;have hM7:=(hb7.block M (Nat.lt_succ_self M)).trans hrowM;have mm0:=zlc _ M 0 _ _ _ hM7;have mmf:=fun o=>zlp _ M o _ _ hM7))
        have hP:=HP3.out;have hlt:=hP.lt
        have hnew:RD w (w7.setCell ⟨M,0,none⟩ (.slice A7 (k+1) c7)) M q n l (k+1) (a+10+u9.toNat) A7 c7 (acc++[⟨⟨ls.toArray⟩,(u0.toNat:Int),(z2:Int),(z3:Int)⟩]):=by
         refine⟨?_,zle w7 M 0 _ _ _ hM7,?_,by rw[zlb,hP.len];rfl,?_,hP.lt,?_,?_,by omega⟩
         ·exact (zly w7 ⟨M,0,none⟩ _ w.heap.size (by show w.heap.size≠M;omega)).trans ((hb7.block w.heap.size (by omega)).trans hP.res)
         ·have e4:qbq acc++[.string ⟨ls.toArray⟩,.int .i64 (u0.toNat:Int),.int .i64 (z2:Int),.int .i64 (z3:Int)]=qbq (acc++[⟨⟨ls.toArray⟩,(u0.toNat:Int),(z2:Int),(z3:Int)⟩]):=by rw[qgs];rfl
          rw[<-e4];exact hown7.setc hM7 (by decide) 0 _
         ·intro y hy;rcases zlG.1 hy with hy|hy
          ·exact hP.names y hy
          ·rw[zlw] at hy;subst hy;show (str ls).size<=_
           rw[qat,Hls.out,zlu];unfold maxLen;omega
         ·exact (hP.below.trans (hb7.mono (by omega))).setCell (p:=⟨M,0,none⟩) (by show w.heap.size<=M;omega) _
         ·rw[HD3.out,hrr,List.drop_drop,Nat.add_assoc]
        have HN:=hid hnew;clear hnew hP HP3 hlt;go_roundw
        ·exact⟨k+1,a+10+u9.toNat,A7,c7,_,by go_num,by go_num,HN.out⟩
        ·simp[intOf];omega
       ·rw[hhs] at HH;have hd:Hid (qdm l=(12,[],[])):=hid (by rw[HD2.out,if_pos (.inl hhs)]);clear hrdA
        go_wp2_with (first
         |(go_at_call 139;go_must (refine HH.out.mono ?_;rintro e w6 ⟨rfl,rfl⟩)))
        exact zlf (v:=.tuple #[.agg #[.slice none 0 0,.slice none 0 0],.int .i64 12]) (by simp[results,results95,asAddr,hl3]) rfl (qad.bad hd.out hb3)
  ·obtain rfl:k=q:=by omega
   have hdd:Hid (qdm l=(0,acc,l.drop a)):=hid (by rw[hP1.go,Nat.sub_self];rfl);have hMw:M+1<=wr.heap.size:=(zla.1 hP1.row).1;have hlt:=hP1.lt;have hNw:w.heap.size<wr.heap.size:=by omega
   have hbe:=zjB wr (.cells #[] 5);have hP2:=hP1.on hbe;have hKw:K<=wr.heap.size:=Nat.le_trans hK hP1.below.size;obtain⟨p,hrun,hrd⟩:=qrb (wr.alloc (.cells #[] 5)) K b o n c a l ((hr.below (hP1.below.mono hK)).below (hbe.mono hKw)) (by omega) hnc;have hrun':=hrun;have hlit:=JB.Own.lit0 wr (M+1) hMw;have hsz2:M+1<=(wr.alloc (.cells #[] 5)).heap.size:=by simp;omega
   have m1:=zjc M 1 hP1.row;have HP2:=hid hP2;have Hrd:=hid hrd;have hai:(a:Int)<=(n:Int):=by omega
   clear hbe hP1 hP2 hrd;go_wp2_with (at_builtin;go_must (refine qcc (wr.alloc (.cells #[] 5)) (M+1) _ 0 [] hlit hsz2 (some ⟨b,p,none⟩) (n-a) (c-a) K (l.drop a) Hrd.out (by omega) rfl (.tmp 107) (.tmp 110) rfl rfl rfl ?_);intro v7 w7 ho7 hb7 ot7;obtain⟨A7,c7,rfl,_⟩:=ho7.reads;have hM7:=(hb7.block M (Nat.lt_succ_self M)).trans HP2.out.row;have hN7:=(hb7.block w.heap.size (by omega)).trans HP2.out.res;have mm0:=zlc w7 M 0 _ _ _ hM7;have mm1:=zlc w7 M 1 _ _ _ hM7;have mmf:=fun o=>zlp w7 M o _ _ hM7;have nn0:=zlc w7 w.heap.size 0 _ _ _ hN7;have nn1:=zlc w7 w.heap.size 1 _ _ _ hN7;have nnf:=fun o=>zlp w7 w.heap.size o _ _ hN7;have hne:¬w.heap.size=M:=(by omega);have hne':¬M=w.heap.size:=(by omega))
   have hP:=HP2.out;rw[Nat.zero_add,zlI] at ho7;have hM8:=zle w7 M 1 _ _ (.slice A7 (n-a) c7) hM7;have hN8:=(zly w7 ⟨M,1,none⟩ (.slice A7 (n-a) c7) w.heap.size (by show w.heap.size≠M;omega)).trans hN7;have hN9:=zle _ w.heap.size 0 _ _ (.slice A k c1) hN8;have hl9:=quk _ _ _ (qnb hN8 (.slice A k c1) (.slice A7 (n-a) c7)) rfl;have hb7':Below w.heap.size w w7:=hP.below.trans (hb7.mono (by omega));have hb9:=qij (hb7'.setCell (p:=⟨M,1,none⟩) (by show w.heap.size<=M;omega) (.slice A7 (n-a) c7)) zjn (.slice A k c1) (.slice A7 (n-a) c7);have hc9:=((((hP.own.oth ot7 (by decide)).setc hM7 (by decide) 1 (.slice A7 (n-a) c7)).setc hN8 (by decide) 0 (.slice A k c1)).setc hN9 (by decide) 1 (.slice A7 (n-a) c7)).more (K':=w.heap.size) (by omega);have ho9:=(((ho7.oth (JS.Oth.put hM7 (fun k hk=>zly w7 ⟨M,1,none⟩ (.slice A7 (n-a) c7) k hk)) (by decide)).oth (JS.Oth.put hN8 (fun j hj=>zly _ ⟨w.heap.size,0,none⟩ (.slice A k c1) j hj)) (by decide)).oth (JS.Oth.put hN9 (fun k hk=>zly _ ⟨w.heap.size,1,none⟩ (.slice A7 (n-a) c7) k hk)) (by decide)).more (K':=w.heap.size) (by omega);have hd:=hdd.out;unfold put2 at hl9 hb9;exact zlf (v:=.tuple #[.agg #[.slice A k c1,.slice A7 (n-a) c7],.int .i64 0]) (by simp[results,results95,asAddr,hl9]) rfl ⟨A,k,c1,A7,n-a,c7,by rw[hd],by rw[hd];exact hc9,by rw[hd];exact ho9,hb9⟩
theorem qdz (K:Nat)(A:Option Addr)(n c:Nat)(l:List UInt8)(w:World)(hr:JB.Rd w K A n l)(hK:K<=w.heap.size)(hnc:n<=c)(hc:c<=maxLen)(hn:n<=140737488355328):
 Calls prog 206 #[.slice A n c] w (qad l w):=by
 by_cases h4:n<4
 ·exact qsf w A n c l hr.1 h4
 ·obtain⟨b,o,rfl,_⟩:=hr.2 0 (by have:=hr.1;omega);exact Qdk w K b o n c l hr hK hnc hc (by omega) hn
theorem qjc (K:Nat)(A:Option Addr)(n c:Nat)(l:List UInt8)(w:World)(hr:JB.Rd w K A n l)(hK:K<=w.heap.size)(hnc:n<=c)(hn:n<=1000000):
 Calls prog 95 #[.slice A n c] w (qad l w):=by
 by_cases h4:n<4
 ·exact qny w A n c l hr.1 h4
 ·obtain⟨b,o,rfl,_⟩:=hr.2 0 (by have:=hr.1;omega);by_cases hm:l.take 4=qbd
  ·by_cases h8:n<8
   ·exact qgw w K b o n c l hr hK hnc (by omega) (.inr (.inl ⟨hm,h8⟩))
   ·by_cases hb:65536<n4 (l.drop 4)
    ·exact qgw w K b o n c l hr hK hnc (by omega) (.inr (.inr ⟨hm,by omega,hb⟩))
    ·exact Qb5 w K b o n c l hr hK hnc hn (by omega) hm hb
  ·exact qgw w K b o n c l hr hK hnc (by omega) (.inl hm)
theorem qum {xs:List Sy}(h:que xs=true):xs.length<=65536/\∀x∈xs,x.name.size<=maxLen:=by
 unfold que at h;rw[zlx,decide_eq_true_eq] at h;refine⟨h.1,fun x hx=>?_⟩;have h1:=qp5 h.2 x hx;unfold qb3 at h1;rw[zlx] at h1;have:=(qmn h1.1).2;unfold maxLen;omega
theorem Qb6 (l:List UInt8):(qdm l).2.1.length<=65536/\(∀x∈(qdm l).2.1,x.name.size<=maxLen)/\(qdm l).2.2.length<=l.length:=by
 by_cases h:(qdm l).1=0
 ·have h1:=qsq l (qdm l).2.1 (qdm l).2.2 (by rw[<-h]);obtain⟨h2,h3⟩:=qum h1.1;refine⟨h2,h3,?_⟩;have h4:=congrArg List.length h1.2;unfold encO at h4;simp only[zlb] at h4;omega
 ·rw[qsp l h];exact⟨by simp,by simp,by simp⟩
theorem qad.reads {l:List UInt8}{w w':World}{e:Ending}(h:qad l w e w'):
 ∃A n c B m d,e=.returned (.tuple #[.agg #[.slice A n c,.slice B m d],.int .i64 (qdm l).1])/\RdS w' w'.heap.size A n (qdm l).2.1/\JB.Rd w' w'.heap.size B m (qdm l).2.2/\n<=c/\n<=65536/\m<=l.length/\JB.Own w' w.heap.size (.slice B m d) m (qdm l).2.2/\JC.Own 174 4 w' w.heap.size (.slice A n c) n (qbq (qdm l).2.1)/\Below w.heap.size w w':=by
 obtain⟨A,n,c,B,m,d,he,hs,ho,hb⟩:=h;obtain⟨k1,k2,k3⟩:=Qb6 l;obtain⟨A',c',e1,hrs,hnc,_⟩:=hs.reads;obtain⟨B',d',e2,hro,_,_⟩:=ho.reads;injection e1 with e11 _ e13;injection e2 with e21 _ e23;subst e11 e13 e21 e23;have hn:=(Qdd hrs k2).1;have hm:=hro.1;exact⟨A,n,c,B,m,d,he,Qdd hrs k2,hro,hnc,by omega,by omega,ho,hs,hb⟩
end Obj
end Go.Proofs.YtlmolmohhpdhdaaGreatDoor
