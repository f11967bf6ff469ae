/-
  arwrite: which members fit (mathematics); memberHeader,
-/
import Derived.Test.YtlmolmohhpdhdaaGreatDoorYMl
set_option maxRecDepth 100000
set_option maxHeartbeats 16000000
set_option linter.all false
namespace Go.Proofs.YtlmolmohhpdhdaaGreatDoor
open Go.RowKit Go.Proofs Tryz
namespace JW
open JB JD JN JH JR
structure MOk (x:Mem):Prop where
 name:x.name.size<=1000
 len:x.len<=20000
 t:x.time<9223372036854775808
 u:x.uid<9223372036854775808
 g:x.gid<9223372036854775808
 m:x.mode<9223372036854775808
def qca (x:Mem):Int:=if vld (bts x.name)=true then qjb ⟨#[47,48]⟩ (num x.time x.uid x.gid x.mode (x.len:Int)) else 6
def qbe:Nat->List Mem->Int×Int
 |_,[]=>(-1,0)
 |k,x::r=>if qca x=0 then qbe (k+1) r else ((k:Int),qca x)
theorem eerr_a (f:Nat->Int):qjb ⟨#[97]⟩ f=qjb ⟨#[47,48]⟩ f:=by
 have h1:qaa ⟨#[97]⟩=true:=by decide+kernel
 have h2:qaa ⟨#[47,48]⟩=true:=by decide+kernel
 have h3:qa5 ⟨#[97]⟩=false:=by decide+kernel
 have h4:qa5 ⟨#[47,48]⟩=false:=by decide+kernel
 have h5:∀k,qb4 ⟨#[97]⟩ f k=qb4 ⟨#[47,48]⟩ f k:=fun k=>by
  induction k with
  |zero=>rfl
  |succ k ih=>unfold qb4;rw[ih,h3,h4]
 unfold qjb;rw[if_pos h1,if_pos h2,h5]
theorem eerr_09 (f:Nat->Int):qjb ⟨#[47,48]⟩ f=0∨qjb ⟨#[47,48]⟩ f=9:=by
 have h2:qaa ⟨#[47,48]⟩=true:=by decide+kernel
 unfold qjb;rw[if_pos h2];split
 ·exact .inl rfl
 ·exact .inr rfl
theorem load6 (w:World)(B:Nat)(cs:Array Value)(h:w.heap[B]?=some (.cells cs 105 (0,0)))(hs:cs.size=6):
 (loadVar 105 ⟨B,0,none⟩).run prog w=.ok (.agg cs) w:=
 run_loadVar_row w B 105 105 cs (0,0) _ h underlying105 rfl (by rw[hs];kernel_rfl)
theorem qhh (s:ByteArray)(x:Mem)(w:World):
 Calls prog 173 #[.string s,x.val] w fun e w'=>e=.returned (.agg #[.string s,.int .i64 x.time,.int .i64 x.uid,.int .i64 x.gid,.int .i64 x.mode,.int .i64 (x.len:Int)])/\Below w.heap.size w w':=by
 obtain⟨x0,x1,x2,x3,x4,x5,x6,x7,x8⟩:=x;simp only[Mem.val];have hbz:=((Below.refl w.heap.size w).alloc zjn (.cells #[.string x0,.int .i64 x1,.int .i64 x2,.int .i64 x3,.int .i64 x4,.slice x5 x6 x7] 46)).alloc (by simp) (.cells #[.string s,.int .i64 x1,.int .i64 x2,.int .i64 x3,.int .i64 x4,.int .i64 (x6:Int)] 105);have hrow:=zld (w.alloc (.cells #[.string x0,.int .i64 x1,.int .i64 x2,.int .i64 x3,.int .i64 x4,.slice x5 x6 x7] 46)) (.cells #[.string s,.int .i64 x1,.int .i64 x2,.int .i64 x3,.int .i64 x4,.int .i64 (x6:Int)] 105);rw[zlr] at hrow;have hl:=load6 _ _ _ hrow rfl;clear hrow;go_enter func173,ntmps173;go_wp2_with fail
 exact zlf (v:=.agg #[.string s,.int .i64 x1,.int .i64 x2,.int .i64 x3,.int .i64 x4,.int .i64 (x6:Int)]) (by simp[results,results173,asAddr,hl]) rfl ⟨rfl,hbz⟩
theorem qr1 (x:Mem)(w:World)(hx:MOk x):
 Calls prog 166 #[x.val] w fun e w'=>e=.returned (.int .i64 (qca x))/\Below w.heap.size w w':=by
 have hb0:=zjB w (.cells #[.string x.name,.int .i64 x.time,.int .i64 x.uid,.int .i64 x.gid,.int .i64 x.mode,.slice x.ptr x.len x.cap] 46);have hrow:=zld w (.cells #[.string x.name,.int .i64 x.time,.int .i64 x.uid,.int .i64 x.gid,.int .i64 x.mode,.slice x.ptr x.len x.cap] 46);have hn:=hx.name;have Hh:=hid fun W=>qhh ⟨#[47,48]⟩ x W;have hlen:=hx.len;have Hf:=hid fun W=>qsi ⟨#[47,48]⟩ x.time x.uid x.gid x.mode (x.len:Int) W (by decide) hx.t hx.u hx.g hx.m (by omega);have HM:Hid (qca x=if vld (bts x.name)=true then qjb ⟨#[47,48]⟩ (num x.time x.uid x.gid x.mode (x.len:Int)) else 6):=hid rfl;generalize qca x=fm at *;obtain⟨x0,x1,x2,x3,x4,x5,x6,x7,x8⟩:=x;simp only[Mem.val] at *;clear hx;generalize qjb ⟨#[47,48]⟩ (num x1 x2 x3 x4 (x6:Int))=ee at *;go_enter func166,ntmps166;go_wp2_with fail
 generalize w.alloc (.cells #[.string x0,.int .i64 x1,.int .i64 x2,.int .i64 x3,.int .i64 x4,.slice x5 x6 x7] 46)=w0 at *;refine (qfm x0 w0 (by omega)).mono ?_;rintro e w1 ⟨rfl,hb1⟩;have hrow1:=(hb1.block w.heap.size (zla.1 hrow).1).trans hrow;have hb01:=hb0.trans (hb1.mono hb0.size);cases hv:vld (bts x0)
 ·rw[hv] at HM;have e6:fm=6:=HM.out;subst e6;go_wp2_with fail
  go_ret
  exact⟨rfl,hb01⟩
 ·rw[hv] at HM;have e6:fm=ee:=HM.out;subst e6;have zzc:=fun k=>zjc w.heap.size k hrow1;go_wp2_with fail
  refine (Hh.out _).mono ?_;rintro e w2 ⟨rfl,hb2⟩;go_wp2_with fail
  refine (Hf.out _).mono ?_;rintro e w3 ⟨rfl,hb3⟩;go_wp2_with fail
  go_ret
  exact⟨rfl,hb01.trans ((hb2.trans (hb3.mono hb2.size)).mono hb01.size)⟩
theorem quw {xs:List Mem}{k:Nat}(hk:k<xs.length):qbe k (xs.drop k)=if qca xs[k]=0 then qbe (k+1) (xs.drop (k+1)) else ((k:Int),qca xs[k]):=by
 rw[List.drop_eq_getElem_cons hk];rfl
theorem qpi (K:Nat)(A:Option Addr)(n c:Nat)(xs:List Mem)(w:World)(h:RdM w K A n xs)(hK:K<=w.heap.size)(hok:∀x∈xs,MOk x)(hn:n<=140737488355328):
 Calls prog 121 #[.slice A n c] w fun e w'=>e=.returned (.tuple #[.int .i64 (qbe 0 xs).1,.int .i64 (qbe 0 xs).2])/\Below w.heap.size w w':=by
 have Hl:=hid h.1;go_enter func121,ntmps121;go_wp2_with fail
 go_loopw [9] (fun i W=>∃k:Nat,i=.int .i64 (k:Int)/\k<=n/\Hid (qbe 0 xs=qbe k (xs.drop k))/\Below w.heap.size w W) (fun i _=>n-(intOf i).toNat)
 case atStart=>exact⟨0,rfl,by omega,hid rfl,Below.refl _ _⟩
 case round=>
  obtain⟨k,rfl,hk,hG,hb⟩:=hrel;by_cases hlt:k<n
  ·have hkl:k<xs.length:=by have:=Hl.out;omega
   have hki:(k:Int)<(n:Int):=by omega
   have HS:=hid (quw hkl);have hx:=hok xs[k] (zlq hkl);obtain⟨⟨b,o,rfl,hbK,hcell⟩,_,_⟩:=(h.below (hb.mono hK)).2 k hkl;have hb1:=hb.alloc hb.size (.cells #[.string xs[k].name,.int .i64 xs[k].time,.int .i64 xs[k].uid,.int .i64 xs[k].gid,.int .i64 xs[k].mode,.slice xs[k].ptr xs[k].len xs[k].cap] 46);have hrow:=zld wr (.cells #[.string xs[k].name,.int .i64 xs[k].time,.int .i64 xs[k].uid,.int .i64 xs[k].gid,.int .i64 xs[k].mode,.slice xs[k].ptr xs[k].len xs[k].cap] 46);generalize xs[k]=x at *;have Hm:=hid fun W=>qr1 x W hx;clear hx;generalize qca x=fm at *;obtain⟨x0,x1,x2,x3,x4,x5,x6,x7,x8⟩:=x;obtain⟨p0,p1,p2,p3,p4,p5⟩:=hcell;simp only[Mem.val] at *;have HB:=hid hb;clear hb;go_upto_region 4 with fail
   generalize wr.alloc (.cells #[.string x0,.int .i64 x1,.int .i64 x2,.int .i64 x3,.int .i64 x4,.slice x5 x6 x7] 46)=w1 at *;generalize wr.heap.size=g at *;have zzc:=fun k=>zjc g k hrow;go_wp2_with fail
   refine (Hm.out _).mono ?_;rintro e w2 ⟨rfl,hb2⟩;have hb02:=hb1.trans (hb2.mono hb1.size);clear zzc hrow hb1 hb2 p0 p1 p2 p3 p4 p5;by_cases hz:fm=0
   ·have HR:Hid (qbe 0 xs=qbe (k+1) (xs.drop (k+1))):=hid (by rw[hG.out,HS.out,if_pos hz]);go_wp2_with fail
    go_roundw
    all_goals first
     |exact⟨k+1,by go_num,by omega,HR,hb02⟩
     |(simp[intOf];omega)
   ·have HR:Hid (qbe 0 xs=((k:Int),fm)):=hid (by rw[hG.out,HS.out,if_neg hz]);go_wp2_with fail
    go_ret2
    exact⟨by rw[HR.out];rfl,hb02⟩
  ·obtain rfl:k=n:=by omega
   have HR:Hid (qbe 0 xs=(-1,0)):=hid (by rw[hG.out,zlD (by have:=Hl.out;omega)];rfl);go_wp2_with fail
   go_ret2
   exact⟨by rw[HR.out];rfl,hb⟩
theorem qcd (n:Nat)(hn:n<=1000000)(w:World):
 Calls prog 169 #[.int .i64 (n:Int)] w fun e w'=>e=.returned (.int .i64 ((60+n+n%2:Nat):Int))/\w'=w:=by
 have h1:IntKind.i64.wrap (60+(n:Int))=60+(n:Int):=by rw[IntKind.wrap_i64];omega
 have h2:(n:Int).tmod 2=((n%2:Nat):Int):=rfl;have h3:IntKind.i64.wrap ((n%2:Nat):Int)=((n%2:Nat):Int):=by rw[IntKind.wrap_i64];omega
 have h4:IntKind.i64.wrap (60+(n:Int)+((n%2:Nat):Int))=((60+n+n%2:Nat):Int):=by rw[IntKind.wrap_i64];omega
 generalize hq:((n%2:Nat):Int)=q at *;generalize hp:((60+n+n%2:Nat):Int)=p at *;clear hq hp;go_enter func169,ntmps169;go_wp2_with fail
 go_ret
 exact⟨rfl,rfl⟩
theorem qrf (K:Nat)(A:Option Addr)(n c:Nat)(xs:List Mem)(w:World)(h:RdM w K A n xs)(hK:K<=w.heap.size)(hok:∀x∈xs,MOk x)(hn:n<=140737488355328):
 Calls prog 61 #[.slice A n c] w fun e w'=>e=.returned (.tuple #[.int .i64 (qbe 0 xs).1,.int .i64 (qbe 0 xs).2])/\Below w.heap.size w w':=by
 have Hl:=hid h.1;go_enter func61,ntmps61;go_wp2_with fail
 go_loopw [4] (fun i W=>∃k:Nat,i=.int .i64 (k:Int)/\k<=n/\Hid (qbe 0 xs=qbe k (xs.drop k))/\Below w.heap.size w W) (fun i _=>n-(intOf i).toNat)
 case atStart=>exact⟨0,rfl,by omega,hid rfl,Below.refl _ _⟩
 case round=>
  obtain⟨k,rfl,hk,hG,hb⟩:=hrel;by_cases hlt:k<n
  ·have hkl:k<xs.length:=by have:=Hl.out;omega
   have hki:(k:Int)<(n:Int):=by omega
   have HS:=hid (quw hkl);have hx:=hok xs[k] (zlq hkl);obtain⟨⟨b,o,rfl,hbK,hcell⟩,_,_⟩:=(h.below (hb.mono hK)).2 k hkl;have hb1:=hb.alloc hb.size (.cells #[.string xs[k].name,.int .i64 xs[k].time,.int .i64 xs[k].uid,.int .i64 xs[k].gid,.int .i64 xs[k].mode,.slice xs[k].ptr xs[k].len xs[k].cap] 46);have hrow:=zld wr (.cells #[.string xs[k].name,.int .i64 xs[k].time,.int .i64 xs[k].uid,.int .i64 xs[k].gid,.int .i64 xs[k].mode,.slice xs[k].ptr xs[k].len xs[k].cap] 46);generalize xs[k]=x at *;have hx1:=hx.name;have hx2:=hx.len;have He:=hid fun W=>qnw ⟨#[97]⟩ x.time x.uid x.gid x.mode (x.len:Int) W (by decide) hx.t hx.u hx.g hx.m (by omega);have HM:Hid (qca x=if vld (bts x.name)=true then qjb ⟨#[47,48]⟩ (num x.time x.uid x.gid x.mode (x.len:Int)) else 6):=hid rfl;have H09:=hid (eerr_09 (num x.time x.uid x.gid x.mode (x.len:Int)));unfold qc9 at He;simp only[eerr_a] at He;clear hx;generalize qca x=fm at *;obtain⟨x0,x1,x2,x3,x4,x5,x6,x7,x8⟩:=x;obtain⟨p0,p1,p2,p3,p4,p5⟩:=hcell;simp only at *;generalize qjb ⟨#[47,48]⟩ (num x1 x2 x3 x4 (x6:Int))=ee at *;have HB:=hid hb;clear hb;go_upto_region 5 with fail
   generalize wr.alloc (.cells #[.string x0,.int .i64 x1,.int .i64 x2,.int .i64 x3,.int .i64 x4,.slice x5 x6 x7] 46)=w1 at *;generalize wr.heap.size=g at *;have c0:=zjc g 0 hrow;go_wp2_with fail
   refine (qf0 x0 w1 (by omega)).mono ?_;rintro e w2 ⟨rfl,m2,hw2⟩;have hrow2:=(show w2.heap[g]?=w1.heap[g]? by rw[hw2];rfl).trans hrow;have hb2:Below w.heap.size w w2:=by rw[hw2];exact hb1.trans ⟨rfl,rfl,rfl,Nat.le_refl _,fun _ _=>rfl⟩
   clear hw2 c0 hrow hb1;cases hv:vld (bts x0)
   ·rw[hv] at HM;have e6:fm=6:=HM.out;subst e6;have HR:Hid (qbe 0 xs=((k:Int),6)):=hid (by rw[hG.out,HS.out,if_neg (by decide)]);go_wp2_with fail
    go_ret2
    exact⟨by rw[HR.out];rfl,hb2⟩
   ·rw[hv] at HM;have e6:fm=ee:=HM.out;subst e6;have zzc:=fun k=>zjc g k hrow2;go_wp2_with fail
    refine (He.out _).mono ?_;rintro e w3 ⟨v,rfl,_,hb3⟩;have hb03:=hb2.trans (hb3.mono hb2.size);clear zzc hrow2 hb2 hb3 p0 p1 p2 p3 p4 p5;by_cases hz:fm=0
    ·have HR:Hid (qbe 0 xs=qbe (k+1) (xs.drop (k+1))):=hid (by rw[hG.out,HS.out,if_pos hz]);go_wp2_with fail
     go_roundw
     all_goals first
      |exact⟨k+1,by go_num,by omega,HR,hb03⟩
      |(simp[intOf];omega)
    ·have h9:fm=9:=by rcases H09.out with q|q;exact absurd q hz;exact q
     subst h9;have HR:Hid (qbe 0 xs=((k:Int),9)):=hid (by rw[hG.out,HS.out,if_neg hz]);go_wp2_with fail
     go_ret2
     exact⟨by rw[HR.out];rfl,hb03⟩
  ·obtain rfl:k=n:=by omega
   have HR:Hid (qbe 0 xs=(-1,0)):=hid (by rw[hG.out,zlD (by have:=Hl.out;omega)];rfl);go_wp2_with fail
   go_ret2
   exact⟨by rw[HR.out];rfl,hb⟩
end JW
namespace JS
theorem qbk {ops:Array Oper}{rest:List Oper}{o:Oper}{a:Act}{Q:Exit->Act->World->Prop}(w:World)(c:Nat)(hc:c<=1000000)(K:Nat)(hK:K<=w.heap.size)(hgd:o.guard=none)(l x:Operand)
 (ho:o.op=Op.makeSlice 26 l x)(kl kc:IntKind)(hl:a.eval l=.int kl 0)(hx:a.eval x=.int kc (c:Int))
 (h:∀v' w',Own w' K v' 0 []->Below w.heap.size w w'->wpList prog ops Q rest (a.put o.dst v') w'):
 wpList prog ops Q (o::rest) a w:=by
 obtain⟨i,hi,hz0,hz1,hz2⟩:=info_parts qjd;refine wpList_make_own w hgd l x 26 ho K 9 i (.string ⟨#[]⟩) 1 underlying26 hi hz0 hz1 kl kc (c:Int) c hl hx rfl (by rw[hz2];omega) (by unfold maxLen;omega) hK (fun w' h1 h2=>?_);exact h _ w' (Own.of_row (l:=[]) h1) ((Below.refl _ _).grown h2 zjn (fun k hk=>by cases hk))
end JS
namespace JC
theorem qbk {ops:Array Oper}{rest:List Oper}{o:Oper}{a:Act}{Q:Exit->Act->World->Prop}(w:World)(c:Nat)(hc:c<=1000000)(K:Nat)(hK:K<=w.heap.size)(hgd:o.guard=none)(l x:Operand)
 (ho:o.op=Op.makeSlice 73 l x)(kl kc:IntKind)(hl:a.eval l=.int kl 0)(hx:a.eval x=.int kc (c:Int))
 (h:∀v' w',Own 3 1 w' K v' 0 []->Below w.heap.size w w'->wpList prog ops Q rest (a.put o.dst v') w'):
 wpList prog ops Q (o::rest) a w:=by
 obtain⟨i,hi,hz0,hz1,hz2⟩:=info_parts JR.kI.info;refine wpList_make_own w hgd l x 73 ho K 3 i (.int .i64 0) 1 underlying73 hi hz0 hz1 kl kc (c:Int) c hl hx rfl (by rw[hz2];omega) (by unfold maxLen;omega) hK (fun w' h1 h2=>?_);refine h _ w' ⟨rfl,?_⟩ ((Below.refl _ _).grown h2 zjn (fun k hk=>by cases hk));rcases h1.2 with h|⟨g,cap,cur,hv,hg,hh,hn,hm,hs,ht⟩
 ·exact .inl h
 ·exact .inr ⟨g,cap,cur,(0,0),hv,hg,hh,hn,hm,by omega,by simp,fun j _ hj=>by simp at hj⟩
end JC
namespace JW
open JB JD JN JH JR
def nms (xs:List Mem):List ByteArray:=xs.map (·.name)
theorem qzb {xs:List Mem}(hok:∀x∈xs,MOk x):∀s∈nms xs,s.size<=1000:=fun s hs=>by
 obtain⟨x,hx,rfl⟩:=List.mem_map.1 hs;have:=(hok x hx).name;omega
theorem qk9 (K:Nat)(A:Option Addr)(n c:Nat)(xs:List Mem)(w:World)(hg:qev w)(h:RdM w K A n xs)(hK:K<=w.heap.size)(hok:∀x∈xs,MOk x)(hn:n<=202):
 Calls prog 170 #[.slice A n c] w fun e w'=>∃v f,e=.returned (.tuple #[v,f])/\JB.Own w' w.heap.size v (bo (nms xs)).length (bo (nms xs))/\JS.Own w' w.heap.size f (fo (nms xs)).length (fo (nms xs))/\Below w.heap.size w w':=by
 have Hl:=hid h.1;have Hg:=hid hg;clear hg;go_enter func170,ntmps170;go_wp2_with (at_make;refine JS.qbk w n (by omega) w.heap.size zjn rfl _ _ rfl _ _ rfl rfl ?_;intro v0 w0 ho0 hb0;obtain⟨A0,c0,rfl,_⟩:=ho0.reads)
 have hs0:=hb0.size;go_loopw [4,12] (fun v i W=>∃(k:Nat)(A1:Option Addr)(c1:Nat),v=.slice A1 k c1/\i=.int .i64 (k:Int)/\k<=n/\JS.Own W w.heap.size (.slice A1 k c1) k ((nms xs).take k)/\Below w.heap.size w W) (fun _ i _=>n-(intOf i).toNat)
 case atStart=>exact⟨0,A0,c0,rfl,rfl,by omega,by simpa using ho0,hb0⟩
 case round=>
  obtain⟨k,A1,c1,rfl,rfl,hk,hO,hb⟩:=hrel;by_cases hlt:k<n
  ·have hkl:k<xs.length:=by have:=Hl.out;omega
   have hki:(k:Int)<(n:Int):=by omega
   obtain⟨⟨b,o,rfl,hbK,hcell⟩,_,_⟩:=(h.below (hb.mono hK)).2 k hkl;have HT:Hid ((nms xs).take (k+1)=(nms xs).take k++[xs[k].name]):=hid (by rw[List.take_add_one,show (nms xs)[k]?=some xs[k].name by simp[nms,hkl]];rfl);have hb1:=hb.alloc hb.size (.cells #[.string xs[k].name,.int .i64 xs[k].time,.int .i64 xs[k].uid,.int .i64 xs[k].gid,.int .i64 xs[k].mode,.slice xs[k].ptr xs[k].len xs[k].cap] 46);have hrow:=zld wr (.cells #[.string xs[k].name,.int .i64 xs[k].time,.int .i64 xs[k].uid,.int .i64 xs[k].gid,.int .i64 xs[k].mode,.slice xs[k].ptr xs[k].len xs[k].cap] 46);have hO1:=hO.alloc (.cells #[.string xs[k].name,.int .i64 xs[k].time,.int .i64 xs[k].uid,.int .i64 xs[k].gid,.int .i64 xs[k].mode,.slice xs[k].ptr xs[k].len xs[k].cap] 46);generalize xs[k]=x at *;obtain⟨x0,x1,x2,x3,x4,x5,x6,x7,x8⟩:=x;obtain⟨p0,p1,p2,p3,p4,p5⟩:=hcell;simp only at *;clear hO hb;go_upto_region 5 with fail
   generalize wr.alloc (.cells #[.string x0,.int .i64 x1,.int .i64 x2,.int .i64 x3,.int .i64 x4,.slice x5 x6 x7] 46)=w1 at *;generalize wr.heap.size=g at *;have d0:=zjc g 0 hrow;go_wp2_with (at_builtin;go_must (refine JS.qa4 w1 w.heap.size _ k _ x0 hO1 hb1.size (by omega) rfl (.tmp 16) (.tmp 19) rfl rfl rfl ?_);intro v2 w2 ho2 hb2 _ _;obtain⟨A2,c2,rfl,_⟩:=ho2.reads)
   rw[<-HT.out] at ho2;have hb02:=hb1.trans hb2;clear d0 hrow hO1 hb1 hb2 p0 p1 p2 p3 p4 p5;go_roundw
   all_goals first
    |exact⟨k+1,A2,c2,by go_num,by go_num,by omega,ho2,hb02⟩
    |(simp[intOf];omega)
  ·obtain rfl:k=n:=by omega
   have hT:(nms xs).take k=nms xs:=zlj (by simp[nms,Hl.out]);rw[hT] at hO;obtain⟨_,_,e1,hr1,_⟩:=hO.reads;injection e1 with e11 _ e13;subst e11 e13;have HB:=hid (Qgd wr.heap.size A1 k c1 (nms xs) wr (Hg.out.below hb zjn) hr1 zjn hn (qzb hok));clear hT hO hr1;go_wp2_with fail
   refine HB.out.mono ?_;rintro e w3 ⟨v,f,rfl,o1,o2,hb3⟩;have hw:=hb.size;go_wp2_with fail
   go_ret2
   exact⟨v,f,rfl,o1.more hw,o2.more hw,hb.trans (hb3.mono hw)⟩
def pz (n:Nat):Nat:=60+n+n%2
def qab (o:Nat)(xs:List Mem)(k:Nat):Nat:=o+((xs.take k).map (fun x=>pz x.len)).sum
def qky (o:Nat)(xs:List Mem):List Nat:=(List.range xs.length).map (qab o xs)
def qez (hm:Bool)(ms:Nat)(xs:List Mem):Nat:=8+(if hm=true then pz ms else 0)+(if (bo (nms xs)).length=0 then 0 else pz (bo (nms xs)).length)
theorem qpj (ns:List ByteArray):(bo ns).length<=ns.length * 257:=by
 unfold bo;split
 ·rename_i h
  exact qh8 h zjn
 ·simp
theorem qcn {o:Nat}{xs:List Mem}{k:Nat}(hk:k<xs.length):qab o xs (k+1)=qab o xs k+pz xs[k].len:=by
 unfold qab;rw[zlg hk,List.map_append,List.sum_append];simp only[List.map_cons,List.map_nil,List.sum_cons,List.sum_nil];omega
theorem qgx {o:Nat}{xs:List Mem}(hok:∀x∈xs,MOk x):∀k,k<=xs.length->qab o xs k<=o+k * 20061
 |0,_=>by simp[qab]
 |k+1,h=>by
  rw[qcn h];have h1:=qgx (o:=o) hok k (by omega);have h2:=(hok xs[k] (zlq _)).len;unfold pz;omega
theorem qxq {hm:Bool}{ms:Nat}{xs:List Mem}(h1:ms<=70000)(h2:xs.length<=200):qez hm ms xs<=200000:=by
 unfold qez;have h3:=qpj (nms xs);have h4:(nms xs).length=xs.length:=by simp[nms]
 have h5:(if hm=true then pz ms else 0)<=70061:=by split<;>(try unfold pz)<;>omega
 have h6:(if (bo (nms xs)).length=0 then 0 else pz (bo (nms xs)).length)<=52000:=by split<;>(try unfold pz)<;>omega
 omega
def qd0 (l:List Nat):List Value:=l.map fun (o:Nat)=>Value.int .i64 (o:Int)
def Offs (hm:Bool)(ms:Nat)(xs:List Mem)(w:World)(e:Ending)(w':World):Prop:=
 ∃A n c,e=.returned (.slice A n c)/\JC.Own 3 1 w' w.heap.size (.slice A n c) n (qd0 (if (qbe 0 xs).2=0 then qky (qez hm ms xs) xs else []))/\Below w.heap.size w w'
theorem qxr (hm:Bool)(ms:Nat)(K:Nat)(A:Option Addr)(n c:Nat)(xs:List Mem)(w:World)(hg:qev w)(h:RdM w K A n xs)(hK:K<=w.heap.size)(hok:∀x∈xs,MOk x)(hn:n<=200)(hms:ms<=70000):
 Calls prog 124 #[.bool hm,.int .i64 (ms:Int),.slice A n c] w (Offs hm ms xs w):=by
 have Hl:=hid h.1;have Hg:=hid hg;clear hg;have Hx:=hid (qxq (hm:=hm) (ms:=ms) (xs:=xs) hms (by have:=Hl.out;omega));go_enter func124,ntmps124;go_wp2_with fail
 refine (qpi K A n c xs w h hK hok (by omega)).mono ?_;rintro e w1 ⟨rfl,hb1⟩;obtain⟨f1,f2,hf⟩:∃f1 f2,qbe 0 xs=(f1,f2):=⟨_,_,rfl⟩;have HF:=hid hf;rw[hf];clear hf;by_cases hz:f2=0
 ·subst hz;have hb01:=hb1;have h1:=h.below (hb1.mono hK);have hlen:=hid (qpj (nms xs));have hnl:Hid ((nms xs).length=n):=hid (by simp[nms,Hl.out]);have HL:=hid (qk9 K A n c xs);have hs1:=hb1.size;have hp:=hid (qcd ms (by omega));have hq0:IntKind.i64.wrap (8+((pz ms:Nat):Int))=((8+pz ms:Nat):Int):=by rw[IntKind.wrap_i64];unfold pz;omega
  have e2:((60+ms+ms%2:Nat):Int)=((pz ms:Nat):Int):=rfl;rw[e2] at hp;cases hm
  ·obtain⟨o1,ho1⟩:∃o1:Nat,8=o1:=⟨_,rfl⟩;have HO1:Hid (8+(if false=true then pz ms else 0)=o1):=hid ho1;have ho1b:o1<=80000:=by omega
   have H8:Hid ((8:Int)=(o1:Int)):=hid (by omega);clear hq0 e2 hp ho1;go_wp2_with fail
   refine (HL.out w1 (Hg.out.on hb1) h1 (by omega) hok (by omega)).mono ?_;rintro e w2 ⟨v,f,rfl,ov,_,hb2⟩;obtain⟨Av,cv,rfl,_⟩:=ov.reads;have hb02:=hb1.trans (hb2.mono hs1);have h2:=h1.below (hb2.mono (by omega));obtain⟨tb,htb⟩:∃tb,(bo (nms xs)).length=tb:=⟨_,rfl⟩;rw[htb];have htbb:tb<=52000:=by have:=hlen.out;have:=hnl.out;omega
   obtain⟨ob,hob⟩:∃ob,qez false ms xs=ob:=⟨_,rfl⟩;have hob2:o1+(if tb=0 then 0 else pz tb)=ob:=by rw[<-hob,<-HO1.out,<-htb];rfl
   have hobb:ob<=200000:=by rw[<-hob];exact Hx.out
   have HOB:=hid hob;clear hob ov hb2 h1 htb;by_cases ht0:tb=0
   ·subst ht0;have hx:ob=o1:=by simpa using hob2.symm
    subst hx;clear hob2;go_wp2_with (at_make;go_must (refine JC.qbk w2 n (by omega) w.heap.size hb02.size rfl _ _ rfl _ _ rfl rfl ?_);intro v0 w0 ho0 hb0;obtain⟨A0,c0,rfl,_⟩:=ho0.reads)
    have hb00:=hb02.trans (hb0.mono hb02.size);have HW:=hid (fun k (hk:k<=n)=>qgx (o:=ob) hok k (by have:=Hl.out;omega));clear hb0;go_loopw [9,12,45] (fun a v i W=>∃(k:Nat)(A1:Option Addr)(c1:Nat),a=.int .i64 (qab ob xs k:Int)/\v=.slice A1 k c1/\i=.int .i64 (k:Int)/\k<=n/\JC.Own 3 1 W w.heap.size (.slice A1 k c1) k (qd0 ((List.range k).map (qab ob xs)))/\Below w.heap.size w W) (fun _ _ i _=>n-(intOf i).toNat)
    case atStart=>exact⟨0,A0,c0,by first|(simp[qab];done)|(have:=H8.out;simp[qab];omega),rfl,rfl,by omega,by simpa [qd0] using ho0,hb00⟩
    case round=>
     obtain⟨k,A1,c1,rfl,rfl,rfl,hk,hO,hb⟩:=hrel;by_cases hlt:k<n
     ·have hkl:k<xs.length:=by have:=Hl.out;omega
      have hki:(k:Int)<(n:Int):=by omega
      obtain⟨⟨b,o,rfl,hbK,hcell⟩,_,_⟩:=(h.below (hb.mono hK)).2 k hkl;have HT:Hid (qd0 ((List.range (k+1)).map (qab ob xs))=qd0 ((List.range k).map (qab ob xs))++[.int .i64 (qab ob xs k:Int)]):=hid (by rw[List.range_succ];simp[qd0]);have HN:Hid (qab ob xs (k+1)=qab ob xs k+pz xs[k].len):=hid (qcn hkl);have hx2:=(hok xs[k] (zlq hkl)).len;have hbd:=HW.out k hk;have hb1:=hb.alloc hb.size (.cells #[.string xs[k].name,.int .i64 xs[k].time,.int .i64 xs[k].uid,.int .i64 xs[k].gid,.int .i64 xs[k].mode,.slice xs[k].ptr xs[k].len xs[k].cap] 46);have hrow:=zld wr (.cells #[.string xs[k].name,.int .i64 xs[k].time,.int .i64 xs[k].uid,.int .i64 xs[k].gid,.int .i64 xs[k].mode,.slice xs[k].ptr xs[k].len xs[k].cap] 46);have hO1:=hO.alloc (.cells #[.string xs[k].name,.int .i64 xs[k].time,.int .i64 xs[k].uid,.int .i64 xs[k].gid,.int .i64 xs[k].mode,.slice xs[k].ptr xs[k].len xs[k].cap] 46);generalize xs[k]=x at *;obtain⟨x0,x1,x2,x3,x4,x5,x6,x7,x8⟩:=x;obtain⟨p0,p1,p2,p3,p4,p5⟩:=hcell;simp only at *;have hp:=hid (qcd x6 (by omega));have e2:((60+x6+x6%2:Nat):Int)=((pz x6:Nat):Int):=rfl;have hq:IntKind.i64.wrap ((qab ob xs k:Int)+((pz x6:Nat):Int))=(qab ob xs (k+1):Int):=by rw[IntKind.wrap_i64,HN.out];unfold pz;omega
      rw[e2] at hp;generalize ((pz x6:Nat):Int)=pm at *;generalize (qab ob xs k:Int)=ok at *;obtain⟨on,hon⟩:∃on:Int,(qab ob xs (k+1):Int)=on:=⟨_,rfl⟩;have HON:=hid hon;rw[hon] at hq;clear hO hb hon e2 hbd HN;go_upto_region 14 with fail
      generalize wr.alloc (.cells #[.string x0,.int .i64 x1,.int .i64 x2,.int .i64 x3,.int .i64 x4,.slice x5 x6 x7] 46)=w1' at *;generalize wr.heap.size=g at *;go_upto_region 15 with (at_builtin;go_must (refine JC.qa4 kI w1' w.heap.size (.slice A1 k c1) k _ hO1 hb1.size 1 1 #[.int .i64 ok] (0,0) rfl (by simp[Value.oneCell']) (by omega) (by omega) rfl (.tmp 49) (.tmp 51) rfl rfl rfl ?_);intro v2 w2' ho2 hb2 hot _;obtain⟨A2,c2,rfl,_⟩:=ho2.reads)
      have e3:qd0 ((List.range k).map (qab ob xs))++#[Value.int .i64 ok].toList=qd0 ((List.range (k+1)).map (qab ob xs)):=by rw[HT.out]
      rw[e3] at ho2;have hrow2:=hot _ _ hrow (fun _ _ e=>by simp at e);have d5:=zjc g 5 hrow2;have hb02':=hb1.trans hb2;clear hrow hO1 hb1 hb2 hot e3 p0 p1 p2 p3 p4 p5 hrow2;go_wp2_with fail
      refine (hp.out _).mono ?_;rintro e w3 ⟨rfl,rfl⟩;go_wp2_with fail
      go_roundw
      all_goals first
       |exact⟨k+1,A2,c2,by rw[HON.out],rfl,by go_num,by omega,ho2,hb02'⟩
       |(simp[intOf];omega)
     ·obtain rfl:k=n:=by omega
      have HR:Hid ((if (qbe 0 xs).2=0 then qky (qez false ms xs) xs else [])=(List.range k).map (qab ob xs)):=hid (by rw[HF.out,if_pos rfl,HOB.out];unfold qky;rw[Hl.out]);go_wp2_with fail
      go_ret
      refine⟨A1,k,c1,rfl,?_,hb⟩;rw[HR.out];exact hO
   ·have hti:(0:Int)<(tb:Int):=by omega
    have e1:o1+pz tb=ob:=by rw[if_neg ht0] at hob2;exact hob2
    have hp:=hid (qcd tb (by omega));have e2:((60+tb+tb%2:Nat):Int)=((pz tb:Nat):Int):=rfl;have hq:IntKind.i64.wrap (8+((pz tb:Nat):Int))=(ob:Int):=by rw[IntKind.wrap_i64];have h8:=H8.out;omega
    rw[e2] at hp;generalize ((pz tb:Nat):Int)=pm at *;clear e1 e2 hob2;go_wp2_with fail
    refine (hp.out _).mono ?_;rintro e w3 ⟨rfl,rfl⟩;go_wp2_with (at_make;go_must (refine JC.qbk w3 n (by omega) w.heap.size hb02.size rfl _ _ rfl _ _ rfl rfl ?_);intro v0 w0 ho0 hb0;obtain⟨A0,c0,rfl,_⟩:=ho0.reads)
    have hb00:=hb02.trans (hb0.mono hb02.size);have HW:=hid (fun k (hk:k<=n)=>qgx (o:=ob) hok k (by have:=Hl.out;omega));clear hb0;go_loopw [9,12,45] (fun a v i W=>∃(k:Nat)(A1:Option Addr)(c1:Nat),a=.int .i64 (qab ob xs k:Int)/\v=.slice A1 k c1/\i=.int .i64 (k:Int)/\k<=n/\JC.Own 3 1 W w.heap.size (.slice A1 k c1) k (qd0 ((List.range k).map (qab ob xs)))/\Below w.heap.size w W) (fun _ _ i _=>n-(intOf i).toNat)
    case atStart=>exact⟨0,A0,c0,by first|(simp[qab];done)|(have:=H8.out;simp[qab];omega),rfl,rfl,by omega,by simpa [qd0] using ho0,hb00⟩
    case round=>
     obtain⟨k,A1,c1,rfl,rfl,rfl,hk,hO,hb⟩:=hrel;by_cases hlt:k<n
     ·have hkl:k<xs.length:=by have:=Hl.out;omega
      have hki:(k:Int)<(n:Int):=by omega
      obtain⟨⟨b,o,rfl,hbK,hcell⟩,_,_⟩:=(h.below (hb.mono hK)).2 k hkl;have HT:Hid (qd0 ((List.range (k+1)).map (qab ob xs))=qd0 ((List.range k).map (qab ob xs))++[.int .i64 (qab ob xs k:Int)]):=hid (by rw[List.range_succ];simp[qd0]);have HN:Hid (qab ob xs (k+1)=qab ob xs k+pz xs[k].len):=hid (qcn hkl);have hx2:=(hok xs[k] (zlq hkl)).len;have hbd:=HW.out k hk;have hb1:=hb.alloc hb.size (.cells #[.string xs[k].name,.int .i64 xs[k].time,.int .i64 xs[k].uid,.int .i64 xs[k].gid,.int .i64 xs[k].mode,.slice xs[k].ptr xs[k].len xs[k].cap] 46);have hrow:=zld wr (.cells #[.string xs[k].name,.int .i64 xs[k].time,.int .i64 xs[k].uid,.int .i64 xs[k].gid,.int .i64 xs[k].mode,.slice xs[k].ptr xs[k].len xs[k].cap] 46);have hO1:=hO.alloc (.cells #[.string xs[k].name,.int .i64 xs[k].time,.int .i64 xs[k].uid,.int .i64 xs[k].gid,.int .i64 xs[k].mode,.slice xs[k].ptr xs[k].len xs[k].cap] 46);generalize xs[k]=x at *;obtain⟨x0,x1,x2,x3,x4,x5,x6,x7,x8⟩:=x;obtain⟨p0,p1,p2,p3,p4,p5⟩:=hcell;simp only at *;have hp:=hid (qcd x6 (by omega));have e2:((60+x6+x6%2:Nat):Int)=((pz x6:Nat):Int):=rfl;have hq:IntKind.i64.wrap ((qab ob xs k:Int)+((pz x6:Nat):Int))=(qab ob xs (k+1):Int):=by rw[IntKind.wrap_i64,HN.out];unfold pz;omega
      rw[e2] at hp;generalize ((pz x6:Nat):Int)=pm at *;generalize (qab ob xs k:Int)=ok at *;obtain⟨on,hon⟩:∃on:Int,(qab ob xs (k+1):Int)=on:=⟨_,rfl⟩;have HON:=hid hon;rw[hon] at hq;clear hO hb hon e2 hbd HN;go_upto_region 14 with fail
      generalize wr.alloc (.cells #[.string x0,.int .i64 x1,.int .i64 x2,.int .i64 x3,.int .i64 x4,.slice x5 x6 x7] 46)=w1' at *;generalize wr.heap.size=g at *;go_upto_region 15 with (at_builtin;go_must (refine JC.qa4 kI w1' w.heap.size (.slice A1 k c1) k _ hO1 hb1.size 1 1 #[.int .i64 ok] (0,0) rfl (by simp[Value.oneCell']) (by omega) (by omega) rfl (.tmp 49) (.tmp 51) rfl rfl rfl ?_);intro v2 w2' ho2 hb2 hot _;obtain⟨A2,c2,rfl,_⟩:=ho2.reads)
      have e3:qd0 ((List.range k).map (qab ob xs))++#[Value.int .i64 ok].toList=qd0 ((List.range (k+1)).map (qab ob xs)):=by rw[HT.out]
      rw[e3] at ho2;have hrow2:=hot _ _ hrow (fun _ _ e=>by simp at e);have d5:=zjc g 5 hrow2;have hb02':=hb1.trans hb2;clear hrow hO1 hb1 hb2 hot e3 p0 p1 p2 p3 p4 p5 hrow2;go_wp2_with fail
      refine (hp.out _).mono ?_;rintro e w3 ⟨rfl,rfl⟩;go_wp2_with fail
      go_roundw
      all_goals first
       |exact⟨k+1,A2,c2,by rw[HON.out],rfl,by go_num,by omega,ho2,hb02'⟩
       |(simp[intOf];omega)
     ·obtain rfl:k=n:=by omega
      have HR:Hid ((if (qbe 0 xs).2=0 then qky (qez false ms xs) xs else [])=(List.range k).map (qab ob xs)):=hid (by rw[HF.out,if_pos rfl,HOB.out];unfold qky;rw[Hl.out]);go_wp2_with fail
      go_ret
      refine⟨A1,k,c1,rfl,?_,hb⟩;rw[HR.out];exact hO
  ·obtain⟨o1,ho1⟩:∃o1:Nat,8+pz ms=o1:=⟨_,rfl⟩;have HO1:Hid (8+(if true=true then pz ms else 0)=o1):=hid ho1;have ho1b:o1<=80000:=by rw[<-ho1];unfold pz;omega
   rw[ho1] at hq0;generalize ((pz ms:Nat):Int)=pm0 at *;clear ho1 e2;go_wp2_with fail
   refine (hp.out _).mono ?_;rintro e w1' ⟨rfl,rfl⟩;clear hp;go_wp2_with fail
   refine (HL.out _ (Hg.out.on hb1) h1 (by omega) hok (by omega)).mono ?_;rintro e w2 ⟨v,f,rfl,ov,_,hb2⟩;obtain⟨Av,cv,rfl,_⟩:=ov.reads;have hb02:=hb1.trans (hb2.mono hs1);have h2:=h1.below (hb2.mono (by omega));obtain⟨tb,htb⟩:∃tb,(bo (nms xs)).length=tb:=⟨_,rfl⟩;rw[htb];have htbb:tb<=52000:=by have:=hlen.out;have:=hnl.out;omega
   obtain⟨ob,hob⟩:∃ob,qez true ms xs=ob:=⟨_,rfl⟩;have hob2:o1+(if tb=0 then 0 else pz tb)=ob:=by rw[<-hob,<-HO1.out,<-htb];rfl
   have hobb:ob<=200000:=by rw[<-hob];exact Hx.out
   have HOB:=hid hob;clear hob ov hb2 h1 htb;by_cases ht0:tb=0
   ·subst ht0;have hx:ob=o1:=by simpa using hob2.symm
    subst hx;clear hob2;go_wp2_with (at_make;go_must (refine JC.qbk w2 n (by omega) w.heap.size hb02.size rfl _ _ rfl _ _ rfl rfl ?_);intro v0 w0 ho0 hb0;obtain⟨A0,c0,rfl,_⟩:=ho0.reads)
    have hb00:=hb02.trans (hb0.mono hb02.size);have HW:=hid (fun k (hk:k<=n)=>qgx (o:=ob) hok k (by have:=Hl.out;omega));clear hb0;go_loopw [9,12,45] (fun a v i W=>∃(k:Nat)(A1:Option Addr)(c1:Nat),a=.int .i64 (qab ob xs k:Int)/\v=.slice A1 k c1/\i=.int .i64 (k:Int)/\k<=n/\JC.Own 3 1 W w.heap.size (.slice A1 k c1) k (qd0 ((List.range k).map (qab ob xs)))/\Below w.heap.size w W) (fun _ _ i _=>n-(intOf i).toNat)
    case atStart=>exact⟨0,A0,c0,by first|(simp[qab];done)|(have:=H8.out;simp[qab];omega),rfl,rfl,by omega,by simpa [qd0] using ho0,hb00⟩
    case round=>
     obtain⟨k,A1,c1,rfl,rfl,rfl,hk,hO,hb⟩:=hrel;by_cases hlt:k<n
     ·have hkl:k<xs.length:=by have:=Hl.out;omega
      have hki:(k:Int)<(n:Int):=by omega
      obtain⟨⟨b,o,rfl,hbK,hcell⟩,_,_⟩:=(h.below (hb.mono hK)).2 k hkl;have HT:Hid (qd0 ((List.range (k+1)).map (qab ob xs))=qd0 ((List.range k).map (qab ob xs))++[.int .i64 (qab ob xs k:Int)]):=hid (by rw[List.range_succ];simp[qd0]);have HN:Hid (qab ob xs (k+1)=qab ob xs k+pz xs[k].len):=hid (qcn hkl);have hx2:=(hok xs[k] (zlq hkl)).len;have hbd:=HW.out k hk;have hb1:=hb.alloc hb.size (.cells #[.string xs[k].name,.int .i64 xs[k].time,.int .i64 xs[k].uid,.int .i64 xs[k].gid,.int .i64 xs[k].mode,.slice xs[k].ptr xs[k].len xs[k].cap] 46);have hrow:=zld wr (.cells #[.string xs[k].name,.int .i64 xs[k].time,.int .i64 xs[k].uid,.int .i64 xs[k].gid,.int .i64 xs[k].mode,.slice xs[k].ptr xs[k].len xs[k].cap] 46);have hO1:=hO.alloc (.cells #[.string xs[k].name,.int .i64 xs[k].time,.int .i64 xs[k].uid,.int .i64 xs[k].gid,.int .i64 xs[k].mode,.slice xs[k].ptr xs[k].len xs[k].cap] 46);generalize xs[k]=x at *;obtain⟨x0,x1,x2,x3,x4,x5,x6,x7,x8⟩:=x;obtain⟨p0,p1,p2,p3,p4,p5⟩:=hcell;simp only at *;have hp:=hid (qcd x6 (by omega));have e2:((60+x6+x6%2:Nat):Int)=((pz x6:Nat):Int):=rfl;have hq:IntKind.i64.wrap ((qab ob xs k:Int)+((pz x6:Nat):Int))=(qab ob xs (k+1):Int):=by rw[IntKind.wrap_i64,HN.out];unfold pz;omega
      rw[e2] at hp;generalize ((pz x6:Nat):Int)=pm at *;generalize (qab ob xs k:Int)=ok at *;obtain⟨on,hon⟩:∃on:Int,(qab ob xs (k+1):Int)=on:=⟨_,rfl⟩;have HON:=hid hon;rw[hon] at hq;clear hO hb hon e2 hbd HN;go_upto_region 14 with fail
      generalize wr.alloc (.cells #[.string x0,.int .i64 x1,.int .i64 x2,.int .i64 x3,.int .i64 x4,.slice x5 x6 x7] 46)=w1' at *;generalize wr.heap.size=g at *;go_upto_region 15 with (at_builtin;go_must (refine JC.qa4 kI w1' w.heap.size (.slice A1 k c1) k _ hO1 hb1.size 1 1 #[.int .i64 ok] (0,0) rfl (by simp[Value.oneCell']) (by omega) (by omega) rfl (.tmp 49) (.tmp 51) rfl rfl rfl ?_);intro v2 w2' ho2 hb2 hot _;obtain⟨A2,c2,rfl,_⟩:=ho2.reads)
      have e3:qd0 ((List.range k).map (qab ob xs))++#[Value.int .i64 ok].toList=qd0 ((List.range (k+1)).map (qab ob xs)):=by rw[HT.out]
      rw[e3] at ho2;have hrow2:=hot _ _ hrow (fun _ _ e=>by simp at e);have d5:=zjc g 5 hrow2;have hb02':=hb1.trans hb2;clear hrow hO1 hb1 hb2 hot e3 p0 p1 p2 p3 p4 p5 hrow2;go_wp2_with fail
      refine (hp.out _).mono ?_;rintro e w3 ⟨rfl,rfl⟩;go_wp2_with fail
      go_roundw
      all_goals first
       |exact⟨k+1,A2,c2,by rw[HON.out],rfl,by go_num,by omega,ho2,hb02'⟩
       |(simp[intOf];omega)
     ·obtain rfl:k=n:=by omega
      have HR:Hid ((if (qbe 0 xs).2=0 then qky (qez true ms xs) xs else [])=(List.range k).map (qab ob xs)):=hid (by rw[HF.out,if_pos rfl,HOB.out];unfold qky;rw[Hl.out]);go_wp2_with fail
      go_ret
      refine⟨A1,k,c1,rfl,?_,hb⟩;rw[HR.out];exact hO
   ·have hti:(0:Int)<(tb:Int):=by omega
    have e1:o1+pz tb=ob:=by rw[if_neg ht0] at hob2;exact hob2
    have hp:=hid (qcd tb (by omega));have e2:((60+tb+tb%2:Nat):Int)=((pz tb:Nat):Int):=rfl;have hq:IntKind.i64.wrap ((o1:Int)+((pz tb:Nat):Int))=(ob:Int):=by rw[IntKind.wrap_i64];omega
    rw[e2] at hp;generalize ((pz tb:Nat):Int)=pm at *;clear e1 e2 hob2;go_wp2_with fail
    refine (hp.out _).mono ?_;rintro e w3 ⟨rfl,rfl⟩;go_wp2_with (at_make;go_must (refine JC.qbk w3 n (by omega) w.heap.size hb02.size rfl _ _ rfl _ _ rfl rfl ?_);intro v0 w0 ho0 hb0;obtain⟨A0,c0,rfl,_⟩:=ho0.reads)
    have hb00:=hb02.trans (hb0.mono hb02.size);have HW:=hid (fun k (hk:k<=n)=>qgx (o:=ob) hok k (by have:=Hl.out;omega));clear hb0;go_loopw [9,12,45] (fun a v i W=>∃(k:Nat)(A1:Option Addr)(c1:Nat),a=.int .i64 (qab ob xs k:Int)/\v=.slice A1 k c1/\i=.int .i64 (k:Int)/\k<=n/\JC.Own 3 1 W w.heap.size (.slice A1 k c1) k (qd0 ((List.range k).map (qab ob xs)))/\Below w.heap.size w W) (fun _ _ i _=>n-(intOf i).toNat)
    case atStart=>exact⟨0,A0,c0,by first|(simp[qab];done)|(have:=H8.out;simp[qab];omega),rfl,rfl,by omega,by simpa [qd0] using ho0,hb00⟩
    case round=>
     obtain⟨k,A1,c1,rfl,rfl,rfl,hk,hO,hb⟩:=hrel;by_cases hlt:k<n
     ·have hkl:k<xs.length:=by have:=Hl.out;omega
      have hki:(k:Int)<(n:Int):=by omega
      obtain⟨⟨b,o,rfl,hbK,hcell⟩,_,_⟩:=(h.below (hb.mono hK)).2 k hkl;have HT:Hid (qd0 ((List.range (k+1)).map (qab ob xs))=qd0 ((List.range k).map (qab ob xs))++[.int .i64 (qab ob xs k:Int)]):=hid (by rw[List.range_succ];simp[qd0]);have HN:Hid (qab ob xs (k+1)=qab ob xs k+pz xs[k].len):=hid (qcn hkl);have hx2:=(hok xs[k] (zlq hkl)).len;have hbd:=HW.out k hk;have hb1:=hb.alloc hb.size (.cells #[.string xs[k].name,.int .i64 xs[k].time,.int .i64 xs[k].uid,.int .i64 xs[k].gid,.int .i64 xs[k].mode,.slice xs[k].ptr xs[k].len xs[k].cap] 46);have hrow:=zld wr (.cells #[.string xs[k].name,.int .i64 xs[k].time,.int .i64 xs[k].uid,.int .i64 xs[k].gid,.int .i64 xs[k].mode,.slice xs[k].ptr xs[k].len xs[k].cap] 46);have hO1:=hO.alloc (.cells #[.string xs[k].name,.int .i64 xs[k].time,.int .i64 xs[k].uid,.int .i64 xs[k].gid,.int .i64 xs[k].mode,.slice xs[k].ptr xs[k].len xs[k].cap] 46);generalize xs[k]=x at *;obtain⟨x0,x1,x2,x3,x4,x5,x6,x7,x8⟩:=x;obtain⟨p0,p1,p2,p3,p4,p5⟩:=hcell;simp only at *;have hp:=hid (qcd x6 (by omega));have e2:((60+x6+x6%2:Nat):Int)=((pz x6:Nat):Int):=rfl;have hq:IntKind.i64.wrap ((qab ob xs k:Int)+((pz x6:Nat):Int))=(qab ob xs (k+1):Int):=by rw[IntKind.wrap_i64,HN.out];unfold pz;omega
      rw[e2] at hp;generalize ((pz x6:Nat):Int)=pm at *;generalize (qab ob xs k:Int)=ok at *;obtain⟨on,hon⟩:∃on:Int,(qab ob xs (k+1):Int)=on:=⟨_,rfl⟩;have HON:=hid hon;rw[hon] at hq;clear hO hb hon e2 hbd HN;go_upto_region 14 with fail
      generalize wr.alloc (.cells #[.string x0,.int .i64 x1,.int .i64 x2,.int .i64 x3,.int .i64 x4,.slice x5 x6 x7] 46)=w1' at *;generalize wr.heap.size=g at *;go_upto_region 15 with (at_builtin;go_must (refine JC.qa4 kI w1' w.heap.size (.slice A1 k c1) k _ hO1 hb1.size 1 1 #[.int .i64 ok] (0,0) rfl (by simp[Value.oneCell']) (by omega) (by omega) rfl (.tmp 49) (.tmp 51) rfl rfl rfl ?_);intro v2 w2' ho2 hb2 hot _;obtain⟨A2,c2,rfl,_⟩:=ho2.reads)
      have e3:qd0 ((List.range k).map (qab ob xs))++#[Value.int .i64 ok].toList=qd0 ((List.range (k+1)).map (qab ob xs)):=by rw[HT.out]
      rw[e3] at ho2;have hrow2:=hot _ _ hrow (fun _ _ e=>by simp at e);have d5:=zjc g 5 hrow2;have hb02':=hb1.trans hb2;clear hrow hO1 hb1 hb2 hot e3 p0 p1 p2 p3 p4 p5 hrow2;go_wp2_with fail
      refine (hp.out _).mono ?_;rintro e w3 ⟨rfl,rfl⟩;go_wp2_with fail
      go_roundw
      all_goals first
       |exact⟨k+1,A2,c2,by rw[HON.out],rfl,by go_num,by omega,ho2,hb02'⟩
       |(simp[intOf];omega)
     ·obtain rfl:k=n:=by omega
      have HR:Hid ((if (qbe 0 xs).2=0 then qky (qez true ms xs) xs else [])=(List.range k).map (qab ob xs)):=hid (by rw[HF.out,if_pos rfl,HOB.out];unfold qky;rw[Hl.out]);go_wp2_with fail
      go_ret
      refine⟨A1,k,c1,rfl,?_,hb⟩;rw[HR.out];exact hO
 ·have HR:Hid ((if (qbe 0 xs).2=0 then qky (qez hm ms xs) xs else [])=[]):=hid (by rw[HF.out,if_neg hz]);go_wp2_with fail
  go_ret
  refine⟨none,0,0,rfl,?_,hb1⟩;rw[HR.out];exact JC.Own.nil _ _ _ _
def RdM0 (w:World)(K:Nat)(A:Option Addr)(n:Nat)(xs:List Mem):Prop:=
 xs.length=n/\∀k (h:k<xs.length),(∃b o:Nat,A=some ⟨b,o,none⟩/\b<K/\qqc w b (o+k * 6) xs[k])/\JB.Rd w K xs[k].ptr xs[k].len xs[k].data
theorem RdM0.below {w w':World}{K n:Nat}{A:Option Addr}{xs:List Mem}(h:RdM0 w K A n xs)(hb:Below K w w'):RdM0 w' K A n xs:=
 ⟨h.1,fun k hk=>by
  obtain⟨⟨b,o,e,hl,hc⟩,hr⟩:=h.2 k hk;exact⟨⟨b,o,e,hl,hc.below hb hl⟩,hr.below hb⟩⟩
def Qe0 (x:Mem):Bool:=decide (x.name.size<=300)&&decide (x.len<=1000)
def lens (xs:List Mem):Nat:=(xs.map (·.len)).sum
def fewM (xs:List Mem):Bool:=(xs.take 21).all Qe0&&(decide (xs.length<=20)&&decide (lens (xs.take 21)<=5000))
theorem qzc {xs:List Mem}:fewM xs=true↔xs.length<=20/\lens xs<=5000/\∀x∈xs,x.name.size<=300/\x.len<=1000:=by
 unfold fewM;rw[zlx,zlx,decide_eq_true_eq,decide_eq_true_eq,List.all_eq_true];constructor
 ·rintro ⟨h1,h2,h3⟩;rw[zlj (by omega)] at h1 h3;exact⟨h2,h3,fun x hx=>by simpa [Qe0] using h1 x hx⟩
 ·rintro ⟨h2,h3,h1⟩;rw[zlj (by omega)];exact⟨fun x hx=>by simpa [Qe0] using h1 x hx,h2,h3⟩
end JW
end Go.Proofs.YtlmolmohhpdhdaaGreatDoor
