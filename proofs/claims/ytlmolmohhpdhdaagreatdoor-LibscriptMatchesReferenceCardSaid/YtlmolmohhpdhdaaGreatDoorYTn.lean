/-
  libscript: strings.Split at one byte; the program's
-/
import Derived.Test.YtlmolmohhpdhdaaGreatDoorYTk
set_option maxRecDepth 100000
set_option maxHeartbeats 16000000
set_option linter.all false
namespace Go.Proofs.YtlmolmohhpdhdaaGreatDoor
open Go.RowKit Go.Proofs Tryz
namespace Lsc
open JB
open JN (bts str qac qaw qa2 Gnd)
theorem Qfy {c:UInt8}:∀(l cur:List UInt8),(∀k:Nat,l[k]?≠some c)->spl c cur l=[cur++l]
 |[],cur,_=>by rw[spl,zlJ]
 |x::r,cur,h=>by
  have h0:x≠c:=fun e=>h 0 (by rw[e];rfl);rw[qiu h0,Qfy r (cur++[x]) (fun k=>h (k+1)),zln];rfl
theorem splK (c:UInt8):∀(m:Nat)(l:List UInt8),l.length<=m->Lib.splitK [c] 0 (Lib.count l [c]) l=spl c [] l
 |m,l,hm=>by
  by_cases h:Lib.index l [c]= -1
  ·rw[Lib.count_miss h,Lib.splitK,Qfy l [] (Lib.indexByte_none (by rw[<-Lib.index_one];exact h))];rfl
  ·obtain⟨i,hi⟩:∃i:Nat,Lib.index l [c]=i:=⟨(Lib.index l [c]).toNat,by have:=Lib.index_ge l [c];omega⟩;obtain⟨h1,h2⟩:=Lib.indexByte_some (by rw[<-Lib.index_one];exact hi);obtain⟨hlt,h3⟩:=zlv.1 h1;rw[Lib.count_hit (by simp) hi,Nat.add_comm 1,Lib.splitK,if_neg (by rw[hi];simp),hi];simp only[zlt,Nat.add_zero,List.length_singleton]
   cases m with
   |zero=>omega
   |succ m=>
    rw[splK c m (l.drop (i+1)) (by rw[zlm];omega)]
    have e:l=l.take i++c::l.drop (i+1):=by
     rw[<-h3,<-List.drop_eq_getElem_cons hlt,List.take_append_drop]
    conv=>rhs;rw[e]
    rw[qma,Qfy (l.take i) [] (fun k hk=>by
     rw[List.getElem?_take] at hk;split at hk
     ·rename_i hki;exact h2 k hki hk
     ·cases hk)]
    rfl
theorem splB (c:UInt8)(s:ByteArray):Lib.splitB ⟨#[c]⟩ 0 (Lib.countB s ⟨#[c]⟩) s=qfj c s:=by
 have h:=Lib.splitB_data ⟨#[c]⟩ 0 (Lib.countB s ⟨#[c]⟩) s;have h2:=splK c _ (bts s) zjn;unfold qfj;rw[<-h2,show Lib.splitK [c] 0 (Lib.count (bts s) [c]) (bts s)=_ from h.symm,List.map_map]
 conv=>lhs;rw[<-List.map_id (Lib.splitB _ _ _ _)]
 exact List.map_congr_left fun x _=>(qaw x).symm
theorem qs0 (s:ByteArray)(c:UInt8)(w:World)(hG:Gnd w)(hs:s.size<=100000):
 Calls prog 21 #[.string s,.string ⟨#[c]⟩] w (StrsO (qfj c s) w):=by
 obtain⟨m,hm⟩:=hG;have h1:(1:Nat)<=(⟨#[c]⟩:ByteArray).size:=Nat.le_refl 1;have Xb:=Lib.countB_le ⟨#[c]⟩ h1 s.size s zjn;have Xa:=Lib.splitB_all ⟨#[c]⟩ h1 0 _ s rfl;rw[splB] at Xa;refine (Tryz.strings_Split s ⟨#[c]⟩ m w (by omega) hm h1).mono ?_;rintro e w' ⟨rfl,rfl⟩;rw[splB];refine⟨_,_,_,rfl,⟨Xa,.inr ⟨w.heap.size,_,_,(0,0),rfl,Nat.le_refl _,zld _ _,Nat.le_refl _,by unfold maxLen;omega,by simp[Xa],?_,fun j _ hj=>by simp at hj⟩⟩,(Below.refl _ _).alloc zjn _⟩;rw[<-Xa];unfold JS.enc;rw[zlj (by simp)]
theorem qs1 {s:ByteArray}(h:s.size≠0):((qfj 10 s).getLast?=some (str [])↔(bts s).getLast?=some 10):=by
 have Xb:∀(l Xa:List UInt8),l≠[]->((spl 10 Xa l).getLast?=some []↔l.getLast?=some 10):=by
  intro l
  induction l with
  |nil=>intro _ h;exact absurd rfl h
  |cons x r ih=>
   intro Xa _;by_cases hr:r=[]
   ·subst hr;by_cases hx:x=10
    ·rw[qm8 hx];simp[spl,hx]
    ·rw[qiu hx];simp[spl,hx]
   ·by_cases hx:x=10
    ·rw[qm8 hx,List.getLast?_cons,List.getLast?_cons];have h1:=ih [] hr;rcases h2:(spl 10 [] r).getLast? with _|y
     ·exact absurd (List.getLast?_eq_none_iff.1 h2) (qrw _ _ _)
     ·rcases h3:r.getLast? with _|y'
      ·exact absurd (List.getLast?_eq_none_iff.1 h3) hr
      ·rw[h2,h3] at h1;simpa using h1
    ·rw[qiu hx,List.getLast?_cons];have h1:=ih (Xa++[x]) hr;rcases h3:r.getLast? with _|y'
     ·exact absurd (List.getLast?_eq_none_iff.1 h3) hr
     ·rw[h3] at h1;simpa using h1
 have h1:=Xb (bts s) [] (fun e=>h (by rw[<-qa2,e];rfl));rw[<-h1];unfold qfj;rw[List.getLast?_map];rcases (spl 10 [] (bts s)).getLast? with _|y
 ·simp
 ·simp only[Option.map_some,Option.some.injEq];exact⟨fun e=>by have:=congrArg bts e;rwa [qac,qac] at this,fun e=>by rw[e]⟩
theorem lines_eq (s:ByteArray):qbm s=if (qfj 10 s).getLast?=some (str []) then (qfj 10 s).dropLast else qfj 10 s:=by
 by_cases h:s.size=0
 ·unfold qbm;rw[if_pos h];have e:bts s=[]:=zli (by rw[qa2];exact h);unfold qfj;rw[e];rfl
 ·unfold qbm;rw[if_neg h];by_cases h2:(bts s).getLast?=some 10
  ·rw[if_pos h2,if_pos ((qs1 h).2 h2)]
  ·rw[if_neg h2,if_neg (fun e=>h2 ((qs1 h).1 e))]
theorem qmb (s:ByteArray)(w:World)(hG:Gnd w)(hs:s.size<=100000):
 Calls prog 14 #[.string s] w (StrsR (qbm s) w):=by
 have HS:=hid (qs0 s 10 w hG hs);have Hn:=hid (show qfj 10 s≠[] from fun h=>qrw 10 _ _ (List.map_eq_nil_iff.1 h));have Xb:Hid ((qfj 10 s).length<=s.size+1):=hid (by have:=qm9 10 (bts s) [];unfold qfj;rw[zlB,<-qa2];exact this);have HE:=hid (lines_eq s);generalize qfj 10 s=ps at *;generalize qbm s=ls at *;go_enter func14,ntmps14;go_wp2_with fail
 refine HS.out.mono ?_;rintro e w1 ⟨A,n,c,rfl,ho,hb⟩;obtain⟨_,_,e1,hr,Xe,Xc⟩:=ho.reads;injection e1 with e11 _ e13;subst e11 e13
 obtain⟨j,rfl⟩:∃j,n=j+1:=⟨n-1,by
  have h1:=hr.1;have h2:=List.length_pos_iff.2 Hn.out;omega⟩
 have hj:j<=100000:=by have h1:=hr.1;have h2:=Xb.out;omega
 have Xd:j<ps.length:=by have:=hr.1;omega
 obtain⟨b,o,rfl,_,c0⟩:=hr.2 j Xd
 have Xa:Hid (ps.getLast?=some ps[j]):=hid (by
  rw[List.getLast?_eq_getElem?,show ps.length-1=j by have:=hr.1;omega,zlh Xd])
 have Hr:=hid hr;have Xg:(j:Int)<(j:Int)+1:=by omega
 clear HS ho hr hG hs;generalize ps[j]=t at *;by_cases hx:t=str []
 ·have Xf:(t.toList==[])=true:=by rw[hx];decide+kernel
  have HX:Hid (ls=ps.dropLast):=hid (by rw[HE.out,Xa.out,hx,if_pos rfl]);clear hx;go_wp2_with fail
  go_ret
  exact⟨_,j,c,rfl,by rw[HX.out];exact Qfs Hr.out,by omega,Xc,hb⟩
 ·have Xf:(t.toList==[])=false:=by rw[zls];exact fun e=>hx (JN.qdk.1 (e.trans (by decide+kernel)))
  have HX:Hid (ls=ps):=hid (by rw[HE.out,Xa.out,if_neg (fun e=>hx (by injection e))]);clear hx;go_wp2_with fail
  go_ret
  exact⟨_,j+1,c,rfl,by rw[HX.out];exact Hr.out,Xe,Xc,hb⟩
open JR (Mem ar)
open JL
def qmc (op:UInt8):FuncId:=if op=116 then 50 else if op=120 then 49 else 48
structure FRow (w0:ByteArray) (kn:Bool) (ov kv:Int) (p:Bool) (fv:Value):Prop where
 look:∀(b:Nat)(W:World),W.heap[b]?=some (.map qg1 6)->(Instr.lookup 80 (.map (some b)) (.string w0) true).run prog W=.ok (.tuple #[.agg #[.int .u8 ov,.int .i64 kv,.bool p,fv],.bool kn]) W
 one:fv.oneCell'=true
 no:kn=false->opW w0=none
 yes:kn=true->∃op,opW w0=some op/\ov=(op.toNat:Int)/\kv=((nW op:Nat):Int)/\p=mvW op/\fv=fnV (qmc op)
theorem zeroF (w:World):(zeroValue 52).run prog w=.ok (.agg #[.int .u8 0,.int .i64 0,.bool false,.nilFunc]) w:=by kernel_rfl
theorem skey (s:ByteArray):MapKept.IsKey .string (.string s):=trivial
theorem frow_any (w0:ByteArray):∃kn ov kv p fv,FRow w0 kn ov kv p fv:=by
 rcases h:opW w0 with _|op
 ·refine⟨false,0,0,false,.nilFunc,fun b W hb=>Qa3 qgj underlying9 hb (skey _) (zeroF W) ?_,rfl,fun _=>h,fun e=>(by cases e)⟩;rcases MapKept.findNow_spec (d:=.string) (k:=.string w0) trivial qg1.toList 0 (by intro x hx;simp only[qg1,List.mem_cons,List.not_mem_nil,or_false] at hx;rcases hx with rfl|rfl|rfl|rfl|rfl|rfl<;>trivial) with ⟨h1,_⟩|⟨j,e,_,h2,h3⟩
  ·exact h1
  ·have hx:=List.mem_of_getElem? h2;simp only[qg1,List.mem_cons,List.not_mem_nil,or_false] at hx;rcases hx with rfl|rfl|rfl|rfl|rfl|rfl<;>(injection h3 with h3;subst h3;exact absurd h (by decide+kernel))
 ·obtain⟨hs,ho⟩:w0=⟨#[op]⟩/\qju op:=by
   have h2:=h;unfold opW at h2;split at h2
   ·rename_i c hc
    split at h2
    ·rename_i hk
     injection h2 with h2;subst h2;exact⟨by rw[<-qaw w0,hc];rfl,hk⟩
    ·cases h2
   ·cases h2
  subst hs;rcases ho with rfl|rfl|rfl|rfl|rfl|rfl
  ·exact⟨true,114,2,true,fnV 48,fun b W hb=>qhi qgj underlying9 hb (skey _) rfl,rfl,fun e=>(by cases e),fun _=>⟨114,h,rfl,rfl,rfl,rfl⟩⟩
  ·exact⟨true,113,2,false,fnV 48,fun b W hb=>qhi qgj underlying9 hb (skey _) rfl,rfl,fun e=>(by cases e),fun _=>⟨113,h,rfl,rfl,rfl,rfl⟩⟩
  ·exact⟨true,100,1,false,fnV 48,fun b W hb=>qhi qgj underlying9 hb (skey _) rfl,rfl,fun e=>(by cases e),fun _=>⟨100,h,rfl,rfl,rfl,rfl⟩⟩
  ·exact⟨true,109,1,true,fnV 48,fun b W hb=>qhi qgj underlying9 hb (skey _) rfl,rfl,fun e=>(by cases e),fun _=>⟨109,h,rfl,rfl,rfl,rfl⟩⟩
  ·exact⟨true,120,1,false,fnV 49,fun b W hb=>qhi qgj underlying9 hb (skey _) rfl,rfl,fun e=>(by cases e),fun _=>⟨120,h,rfl,rfl,rfl,rfl⟩⟩
  ·exact⟨true,116,0,false,fnV 50,fun b W hb=>qhi qgj underlying9 hb (skey _) rfl,rfl,fun e=>(by cases e),fun _=>⟨116,h,rfl,rfl,rfl,rfl⟩⟩
def Qfz (x:Cmd×Int)(w:World)(e:Ending)(w':World):Prop:=
 ∃(ov kv:Int)(p:Bool)(fv:Value)(q:Cmd),e=.returned (.tuple #[.agg #[.int .u8 ov,.int .i64 kv,.bool p,fv],q.val,.int .i64 x.2])/\(x.2=0->q=x.1/\fv=fnV (qmc x.1.op))/\(fv=.nilFunc∨∃G,fv=fnV G)/\Below w.heap.size w w'
structure StR (w W:World) (g:Nat):Prop where
 b:Below g w W
 s:g+1<W.heap.size
 r0:W.heap[g]?=some (.cells #[.int .u8 0,.int .i64 0,.bool false,.nilFunc] 52 (0,0))
 r1:W.heap[g+1]?=some (.cells #[.int .u8 0,.string ⟨#[]⟩,.int .i64 0,.int .i64 0,.int .i64 0,.int .i64 0,.slice none 0 0,.string ⟨#[]⟩,.int .i64 0,.string ⟨#[]⟩] 56 (0,0))
theorem StR.on {w W W':World}{g:Nat}(h:StR w W g)(hb:Below W.heap.size W W'):StR w W' g:=
 ⟨h.b.trans (hb.mono (by have:=h.s;omega)),by have:=h.s;have:=hb.size;omega,(hb.block g (by have:=h.s;omega)).trans h.r0,(hb.block (g+1) h.s).trans h.r1⟩
theorem qs2 {W:World}{B:Nat}{cs:Array Value}(h:W.heap[B]?=some (.cells cs 52 (0,0)))(hs:cs.size=4):(loadVar 52 ⟨B,0,none⟩).run prog W=.ok (.agg cs) W:=
 run_loadVar_row _ B 52 52 cs (0,0) _ h underlying52 rfl (by rw[hs];kernel_rfl)
theorem StR.mid {w W:World}{g:Nat}(h:StR w W g)(f:Array Value):(qcy W g 0 f.toList).heap[g+1]?=some (.cells #[.int .u8 0,.string ⟨#[]⟩,.int .i64 0,.int .i64 0,.int .i64 0,.int .i64 0,.slice none 0 0,.string ⟨#[]⟩,.int .i64 0,.string ⟨#[]⟩] 56 (0,0)):=(qjq (by omega) f.toList 0 W).trans h.r1
theorem StR.fin {w W:World}{g:Nat}(h:StR w W g){f c:Array Value}(hf:f.size=4)(hc:c.size=10):
 (loadVar 52 ⟨g,0,none⟩).run prog (qcy (qcy W g 0 f.toList) (g+1) 0 c.toList)=.ok (.agg f) (qcy (qcy W g 0 f.toList) (g+1) 0 c.toList)/\(loadVar 56 ⟨g+1,0,none⟩).run prog (qcy (qcy W g 0 f.toList) (g+1) 0 c.toList)=.ok (.agg c) (qcy (qcy W g 0 f.toList) (g+1) 0 c.toList)/\Below g w (qcy (qcy W g 0 f.toList) (g+1) 0 c.toList):=
 ⟨qs2 ((qjq (by omega) c.toList 0 _).trans (qeg f.toList [.int .u8 0,.int .i64 0,.bool false,.nilFunc] W (by simp[hf]) h.r0)) hf,
  qrz (qeg c.toList [.int .u8 0,.string ⟨#[]⟩,.int .i64 0,.int .i64 0,.int .i64 0,.int .i64 0,.slice none 0 0,.string ⟨#[]⟩,.int .i64 0,.string ⟨#[]⟩] _ (by simp[hc]) (h.mid f)) hc,
  qct (Nat.le_succ _) _ _ _ (qct zjn _ _ _ h.b)⟩
theorem nW_zero {op:UInt8}(h:nW op=0):mvW op=false:=by
 unfold nW at h;split at h
 ·rename_i e;rw[e];rfl
 ·split at h<;>cases h
theorem StR.find {w W:World}{g:Nat}(h:StR w W g){f c:Array Value}(hf:f.size=4)(hc:c.size=10):
 (loadVar 52 ⟨g,0,none⟩).run prog (qcy (qcy W g 0 f.toList) (g+1) 0 c.toList).drew=.ok (.agg f) (qcy (qcy W g 0 f.toList) (g+1) 0 c.toList).drew/\(loadVar 56 ⟨g+1,0,none⟩).run prog (qcy (qcy W g 0 f.toList) (g+1) 0 c.toList).drew=.ok (.agg c) (qcy (qcy W g 0 f.toList) (g+1) 0 c.toList).drew/\Below g w (qcy (qcy W g 0 f.toList) (g+1) 0 c.toList).drew:=
 ⟨qs2 (show (qcy (qcy W g 0 f.toList) (g+1) 0 c.toList).heap[g]?=_ from (qjq (by omega) c.toList 0 _).trans (qeg f.toList [.int .u8 0,.int .i64 0,.bool false,.nilFunc] W (by simp[hf]) h.r0)) hf,
  qrz (show (qcy (qcy W g 0 f.toList) (g+1) 0 c.toList).heap[g+1]?=_ from qeg c.toList [.int .u8 0,.string ⟨#[]⟩,.int .i64 0,.int .i64 0,.int .i64 0,.int .i64 0,.slice none 0 0,.string ⟨#[]⟩,.int .i64 0,.string ⟨#[]⟩] _ (by simp[hc]) (h.mid f)) hc,
  (qct (Nat.le_succ _) _ _ _ (qct zjn _ _ _ h.b)).drew⟩
def plZ:Option (Int×ByteArray)->Int|some (z,_)=>z|none=>0
def plA:Option (Int×ByteArray)->ByteArray|some (_,a)=>a|none=>⟨#[]⟩
theorem plaO_eq (o:Option (Int×ByteArray)):plaO o=.agg #[.int .i64 (plZ o),.string (plA o)]:=by cases o<;>rfl
theorem Qg0 (F:Option Addr)(fn fc:Nat)(fs:List Mem)(s:ByteArray)(w:World)(hG:Gnd w)(hf:RdF w w.heap.size F fn fs)(hs:s.size<=1000)(hfn:fn<=1000):
 Calls prog 23 #[.string s,.slice F fn fc] w (Qfz (ask fs (qfj 32 s)) w):=by
 have HF:=hid fun (W:World) (h:Below w.heap.size w W)=>(hf.below h).more h.size;have HG:=hid fun (W:World) (h:Below w.heap.size w W)=>hG.on h;have Ks:=hid hs;obtain⟨w0,r,Yi⟩:=List.exists_cons_of_ne_nil (show qfj 32 s≠[] from fun h=>qrw 32 _ _ (List.map_eq_nil_iff.1 h));have Kw:Hid (r.length<=s.size):=hid (by have:=qm9 32 (bts s) [];have h2:=congrArg List.length Yi;unfold qfj at h2;rw[zlB,zlk] at h2;rw[qa2] at this;omega);have Yg:=hid fun (W:World) (h:Gnd W)=>qs0 s 32 W h (by omega);rw[Yi] at Yg |-;obtain⟨w1,e1,Yd,Yn,Yu,Kr⟩:=qda w (.cells #[.int .u8 0,.int .i64 0,.bool false,.nilFunc] 52) (.cells #[.int .u8 0,.string ⟨#[]⟩,.int .i64 0,.int .i64 0,.int .i64 0,.int .i64 0,.slice none 0 0,.string ⟨#[]⟩,.int .i64 0,.string ⟨#[]⟩] 56);clear hG hf hs Yi;go_enter func23,ntmps23;go_upto_region 1 with fail
 rw[<-e1];clear e1;obtain⟨g,hg⟩:∃g,w.heap.size=g:=⟨_,rfl⟩;have Hg:=hid hg;rw[hg] at Yn Yu Kr HF HG Yd |-;have Kh:=hid (Yg.out w1 (HG.out w1 Yd));have HR:Hid (StR w w1 g):=hid ⟨Yd,by omega,Yn,Yu⟩;clear Yn Yu Kr Yd hg Yg HG;go_wp2_with fail
 refine Kh.out.mono ?_;rintro e w2 ⟨A,n,c,rfl,ho,b2⟩;obtain⟨_,_,e1,hw,Ke,Kd⟩:=ho.reads;injection e1 with Yv _ e13;subst Yv e13;have HC:=hid (And.intro Ke Kd);have Xh:=hw.1;rw[zlk] at Xh;obtain⟨m,hm⟩:∃m,r.length=m:=⟨_,rfl⟩;have Hm:=hid hm;rw[hm] at Xh;subst Xh;replace HR:=hid (HR.out.on b2);obtain⟨b0,o0,rfl,Nb,c0⟩:=hw.2 0 (by simp);simp only[zlH,Nat.add_zero] at c0;have HW:=hid fun (W:World) (h:Below w2.heap.size w2 W)=>(hw.below h);have Nh:m<=1000:=by rw[<-hm];exact Nat.le_trans Kw.out Ks.out
 clear Kh ho Ke Kd hw b2 hm;obtain⟨kn,ov,kv,p,fv,hF⟩:=frow_any w0;have HL:=hid fun (b:Nat) (W:World) (h:W.heap[b]?=some (.map qg1 6))=>hF.look b W h;have HO:=hid hF;have Ky:(0:Int)<(m:Int)+1:=by omega
 clear hF;go_upto_region 2 with fail
 go_cut [8,9] from 16 (fun s8 s9 W=>∃u,s8=.pointer (some ⟨u,0,none⟩)/\s9=.bool kn/\W.heap[u]?=some (.cells #[.int .u8 ov,.int .i64 kv,.bool p,fv] 52 (0,0))/\w2.heap.size<=u/\Below w2.heap.size w2 W)
 case first=>
  have Xy:Below w2.heap.size w2 w2.drew:=(Below.refl _ _).drew;have hS:(fun W=>W.cell? ⟨b0,o0,none⟩=some (.string w0)) w2.drew:=c0;have Xj:=hid Xy;refine Ord.qaf.begin (fun W=>W.cell? ⟨b0,o0,none⟩=some (.string w0)) 10 (by kernel_rfl) ?_;generalize w2.drew=wd at *;clear Xy c0;refine zjV 1 18 hS ?_;refine zjV 2 19 hS ?_;refine zjV 3 20 hS ?_;refine qaf.step2 0 8 (by kernel_rfl) rfl rfl (fun C hC=>?_) (fun C hC=>?_)
  ·go_simp;go_at_call 30;refine (qry wd).mono ?_;rintro e w4 ⟨b,rfl,hM,b4⟩;have Xq:=Xj.out.size;have Xm:=Xj.out.trans (b4.mono Xq);have Xb:b0<wd.heap.size:=World.block_lt_of_cell? _ _ hS;replace hS:(fun W=>W.cell? ⟨b0,o0,none⟩=some (.string w0)) w4:=(b4.cell (p:=⟨b0,o0,none⟩) Xb).trans hS;go_wp2_with fail
   refine hC.out _ _ (fun _=>hS) ?_;clear hC C;try simp only[zjA]
   refine qaf.weak (S':=(fun W=>W.cell? ⟨b0,o0,none⟩=some (.string w0)/\W.heap[b]?=some (.map qg1 6))) (fun _ h=>h.1) _ _ _ _ ?_;have hS:(fun W=>W.cell? ⟨b0,o0,none⟩=some (.string w0)/\W.heap[b]?=some (.map qg1 6)) w4:=⟨hS,hM⟩;refine zjV 4 21 hS ?_ (x:=(.tuple #[.agg #[.int .u8 ov,.int .i64 kv,.bool p,fv],.bool kn])) (hy:=by intro v hv;have hl:=HL.out b v hv.2;go_simp;first|done|rfl);refine zjV 5 16 hS ?_;refine zjV 6 22 hS ?_;refine zjV 7 23 hS ?_;have Kq:=(zla.1 hM).1;have Xb:b0<w4.heap.size:=World.block_lt_of_cell? _ _ hS.1;have ba:=zjB w4 (.cells #[.int .u8 0,.int .i64 0,.bool false,.nilFunc] 52);have ha:=zld w4 (.cells #[.int .u8 0,.int .i64 0,.bool false,.nilFunc] 52);have hz:=zeroF w4;have Xf:(fun W=>W.cell? ⟨b0,o0,none⟩=some (.string w0)/\W.heap[b]?=some (.map qg1 6)) (w4.alloc (.cells #[.int .u8 0,.int .i64 0,.bool false,.nilFunc] 52)):=⟨(ba.cell (p:=⟨b0,o0,none⟩) Xb).trans hS.1,(ba.block b Kq).trans hM⟩;refine Ord.qaf.step 8 (by kernel_rfl) rfl (fun C hC=>?_);go_simp;refine hC.out _ _ (fun _=>Xf) ?_;clear hC C;try simp only[zjA]
   have hS:=Xf;have h4:=Xm.size;generalize w4.alloc (.cells #[.int .u8 0,.int .i64 0,.bool false,.nilFunc] 52)=w5 at *;obtain⟨u,hu⟩:∃u,w4.heap.size=u:=⟨_,rfl⟩;rw[hu] at ha ba Kq Xb h4 |-;have Xn:b0<u:=Xb;have Yp:b≠u:=by omega
   have Xd:w2.heap.size<=u:=h4;have Xr:=Xm.trans (ba.mono Xd);have f0:∀o,w5.frozen? ⟨u,o,none⟩=false:=fun o=>zlp _ _ o _ _ ha;have Kt:=fun k=>zjc u k ha;have r1:=zle _ u 0 _ _ (.int .u8 ov) ha;have f1:=fun o=>zlp _ _ o _ _ r1;have Yv:=zjc u 1 r1;have r2:=zle _ u 1 _ _ (.int .i64 kv) r1;have f2:=fun o=>zlp _ _ o _ _ r2;have Kz:=zjc u 2 r2;have r3:=zle _ u 2 _ _ (.bool p) r2;have f3:=fun o=>zlp _ _ o _ _ r3;have Nc:=zjc u 3 r3;have r4:=zle _ u 3 _ _ fv r3;have Xa:Below u w5 ((((w5.setCell ⟨u,0,none⟩ (.int .u8 ov)).setCell ⟨u,1,none⟩ (.int .i64 kv)).setCell ⟨u,2,none⟩ (.bool p)).setCell ⟨u,3,none⟩ fv):=((((Below.refl u w5).setCell (p:=⟨u,0,none⟩) zjn _).setCell (p:=⟨u,1,none⟩) zjn _).setCell (p:=⟨u,2,none⟩) zjn _).setCell (p:=⟨u,3,none⟩) zjn _;have Xi:(fun W=>W.cell? ⟨b0,o0,none⟩=some (.string w0)/\W.heap[b]?=some (.map qg1 6)) ((((w5.setCell ⟨u,0,none⟩ (.int .u8 ov)).setCell ⟨u,1,none⟩ (.int .i64 kv)).setCell ⟨u,2,none⟩ (.bool p)).setCell ⟨u,3,none⟩ fv):=⟨(Xa.cell (p:=⟨b0,o0,none⟩) Xn).trans hS.1,(qjq Yp [.int .u8 ov,.int .i64 kv,.bool p,fv] 0 w5).trans hS.2⟩;have Na:=fun (W:World) (a:Addr) (m:Mode)=>run_store prog W a fv m HO.out.one;have Xp:=hid (Xr.trans (Xa.mono Xd));have Xe:=hid r4;clear Xa r4;refine Ord.qaf.step 9 (by kernel_rfl) rfl (fun C hC=>?_);go_simp;refine hC.out _ _ (fun _=>Xi) ?_;clear hC C;try simp only[zjA]
   have hS:=Xi;refine Ord.qaf.step 10 (by kernel_rfl) rfl (fun C hC=>?_);go_simp;refine hC.out _ _ (fun _=>hS) ?_;clear hC C;try simp only[zjA]
   refine Ord.qaf.done (by kernel_rfl) ?_ _;go_wp2_with fail
   go_meet
   exact⟨u,rfl,rfl,Xe.out,Xd,Xp.out⟩
  ·have ba:=(Below.refl wd.heap.size wd).alloc zjn (.cells #[.int .u8 0,.int .i64 0,.bool false,.nilFunc] 52);have ha:=zld wd (.cells #[.int .u8 0,.int .i64 0,.bool false,.nilFunc] 52);have hz:=zeroF wd;have Xb:b0<wd.heap.size:=World.block_lt_of_cell? _ _ hS;have Xf:(fun W=>W.cell? ⟨b0,o0,none⟩=some (.string w0)) (wd.alloc (.cells #[.int .u8 0,.int .i64 0,.bool false,.nilFunc] 52)):=(ba.cell (p:=⟨b0,o0,none⟩) Xb).trans hS;go_simp;refine hC.out _ _ (fun _=>Xf) ?_;clear hC C;try simp only[zjA]
   have hS:=Xf;have hd:=Xj.out.size;have Xs:=zlr wd (.cells #[.int .u8 0,.int .i64 0,.bool false,.nilFunc] 52);have Xw:=Xj.out.trans (ba.mono hd);generalize wd.alloc (.cells #[.int .u8 0,.int .i64 0,.bool false,.nilFunc] 52)=w3 at *;obtain⟨u,hu⟩:∃u,wd.heap.size=u:=⟨_,rfl⟩;rw[hu] at ha Xb hd Xs |-;have Xn:b0<u:=Xb;have Xd:w2.heap.size<=u:=hd;clear ba hz hu Xf;refine Ord.qaf.step 0 (by kernel_rfl) rfl (fun C hC=>?_);go_simp;go_at_call 30;refine (qry w3).mono ?_;rintro e w5 ⟨b,rfl,hM,b4⟩;have Xq:=Xw.size;have Xm:=Xw.trans (b4.mono Xq);have Xb:b0<w3.heap.size:=World.block_lt_of_cell? _ _ hS;replace hS:(fun W=>W.cell? ⟨b0,o0,none⟩=some (.string w0)) w5:=(b4.cell (p:=⟨b0,o0,none⟩) Xb).trans hS;go_wp2_with fail
   refine hC.out _ _ (fun _=>hS) ?_;clear hC C;try simp only[zjA]
   refine qaf.weak (S':=(fun W=>W.cell? ⟨b0,o0,none⟩=some (.string w0)/\W.heap[b]?=some (.map qg1 6))) (fun _ h=>h.1) _ _ _ _ ?_;have hS:(fun W=>W.cell? ⟨b0,o0,none⟩=some (.string w0)/\W.heap[b]?=some (.map qg1 6)) w5:=⟨hS,hM⟩;refine zjV 4 21 hS ?_ (x:=(.tuple #[.agg #[.int .u8 ov,.int .i64 kv,.bool p,fv],.bool kn])) (hy:=by intro v hv;have hl:=HL.out b v hv.2;go_simp;first|done|rfl);refine zjV 5 16 hS ?_;refine zjV 6 22 hS ?_;refine zjV 7 23 hS ?_;replace ha:=(b4.block u (by omega)).trans ha;have Yp:b≠u:=by rintro rfl;rw[ha] at hM;cases hM
   have Xr:=Xm;have f0:∀o,w5.frozen? ⟨u,o,none⟩=false:=fun o=>zlp _ _ o _ _ ha;have Kt:=fun k=>zjc u k ha;have r1:=zle _ u 0 _ _ (.int .u8 ov) ha;have f1:=fun o=>zlp _ _ o _ _ r1;have Yv:=zjc u 1 r1;have r2:=zle _ u 1 _ _ (.int .i64 kv) r1;have f2:=fun o=>zlp _ _ o _ _ r2;have Kz:=zjc u 2 r2;have r3:=zle _ u 2 _ _ (.bool p) r2;have f3:=fun o=>zlp _ _ o _ _ r3;have Nc:=zjc u 3 r3;have r4:=zle _ u 3 _ _ fv r3;have Xa:Below u w5 ((((w5.setCell ⟨u,0,none⟩ (.int .u8 ov)).setCell ⟨u,1,none⟩ (.int .i64 kv)).setCell ⟨u,2,none⟩ (.bool p)).setCell ⟨u,3,none⟩ fv):=((((Below.refl u w5).setCell (p:=⟨u,0,none⟩) zjn _).setCell (p:=⟨u,1,none⟩) zjn _).setCell (p:=⟨u,2,none⟩) zjn _).setCell (p:=⟨u,3,none⟩) zjn _;have Xi:(fun W=>W.cell? ⟨b0,o0,none⟩=some (.string w0)/\W.heap[b]?=some (.map qg1 6)) ((((w5.setCell ⟨u,0,none⟩ (.int .u8 ov)).setCell ⟨u,1,none⟩ (.int .i64 kv)).setCell ⟨u,2,none⟩ (.bool p)).setCell ⟨u,3,none⟩ fv):=⟨(Xa.cell (p:=⟨b0,o0,none⟩) Xn).trans hS.1,(qjq Yp [.int .u8 ov,.int .i64 kv,.bool p,fv] 0 w5).trans hS.2⟩;have Na:=fun (W:World) (a:Addr) (m:Mode)=>run_store prog W a fv m HO.out.one;have Xp:=hid (Xr.trans (Xa.mono Xd));have Xe:=hid r4;clear Xa r4;refine Ord.qaf.step 9 (by kernel_rfl) rfl (fun C hC=>?_);go_simp;refine hC.out _ _ (fun _=>Xi) ?_;clear hC C;try simp only[zjA]
   have hS:=Xi;refine Ord.qaf.step 10 (by kernel_rfl) rfl (fun C hC=>?_);go_simp;refine hC.out _ _ (fun _=>hS) ?_;clear hC C;try simp only[zjA]
   refine Ord.qaf.done (by kernel_rfl) ?_ _;go_wp2_with fail
   go_meet
   exact⟨u,rfl,rfl,Xe.out,Xd,Xp.out⟩
 case rest=>
  obtain⟨wk,rfl⟩:∃wk,wk=wc:=⟨_,rfl⟩;obtain⟨u,rfl,rfl,hu,Xd,hb⟩:=hcut;have Xa:=hb.size;replace HR:=hid (HR.out.on hb);have HU:=hid hu;replace HW:=hid fun (W:World) (h:Below wk.heap.size wk W)=>HW.out W (hb.trans (h.mono Xa));have Kk:=(zla.1 hu).1;obtain⟨A1,Ym⟩:∃A1,frS (some ⟨b0,o0,none⟩) c 1=A1:=⟨_,rfl⟩;obtain⟨c1,Yz⟩:∃c1,c-1=c1:=⟨_,rfl⟩
  have Yb:∀W,(Instr.slice 26 (.slice (some ⟨b0,o0,none⟩) (m+1) c) (some (.int .i64 1)) none none).run prog W=.ok (.slice A1 m c1) W:=fun W=>by
   rw[<-Ym,<-Yz];exact qq9 (some ⟨b0,o0,none⟩) (m+1) c 1 (by omega) HC.out.1 W
  have Kb:Hid (m<=c1):=hid (by have:=HC.out.1;omega);replace HW:=hid fun (W:World) (h:Below wk.heap.size wk W)=>(by have:=qtn (k:=1) (HW.out W h) (by omega) HC.out.1;rw[Ym] at this;exact this:JS.Rd W w2.heap.size A1 m r);replace HF:=hid fun (W:World) (h:Below wk.heap.size wk W)=>(HF.out W (HR.out.b.trans (h.mono (by have:=HR.out.s;omega))));have Xx:Hid (w2.heap.size<=wk.heap.size):=hid Xa;clear hu hb HL Ym Yz Xa Xd;go_upto_region 4 with fail
  clear Yb Ky Nb;cases kn
  case false=>
   have HA:=hid (Qg2 (fs:=fs) (r:=r) (HO.out.no rfl));clear HO HU;have Xc:=HR.out.fin (f:=#[.int .u8 0,.int .i64 0,.bool false,.nilFunc]) (c:=#[.int .u8 0,.string ⟨#[]⟩,.int .i64 0,.int .i64 0,.int .i64 0,.int .i64 0,.slice none 0 0,.string ⟨#[]⟩,.int .i64 0,.string ⟨#[]⟩]) rfl rfl;have hx:=fun k=>zlc _ (g+1) k _ _ _ (HR.out.mid #[.int .u8 0,.int .i64 0,.bool false,.nilFunc]);have fx:=fun o=>zlp _ (g+1) o _ _ (HR.out.mid #[.int .u8 0,.int .i64 0,.bool false,.nilFunc]);simp only[qcy,Nat.reduceAdd] at Xc hx fx;obtain⟨Xh,Xv,hB⟩:=Xc;have HB:=hid hB;have e0:=zjc g 0 HR.out.r0;have e1:=zjc g 1 HR.out.r0;have e2:=zjc g 2 HR.out.r0;have e3:=zjc g 3 HR.out.r0;have x0:=hx 0;have x1:=hx 1;have x2:=hx 2;have x3:=hx 3;have x4:=hx 4;have x5:=hx 5;have x6:=hx 6;have x7:=hx 7;have x8:=hx 8;have x9:=hx 9;have fw:∀o,wk.frozen? ⟨g,o,none⟩=false:=fun o=>zlp _ _ o _ _ HR.out.r0;have HP:=hid (show Qfz (ask fs (w0::r)) w (.returned (.tuple #[.agg #[.int .u8 0,.int .i64 0,.bool false,.nilFunc],.agg #[.int .u8 0,.string ⟨#[]⟩,.int .i64 0,.int .i64 0,.int .i64 0,.int .i64 0,.slice none 0 0,.string ⟨#[]⟩,.int .i64 0,.string ⟨#[]⟩],.int .i64 17])) _ from ⟨_,_,_,_,qZ,by rw[HA.out];rfl,fun e0=>absurd ((congrArg Prod.snd HA.out).symm.trans e0) (by decide),.inl rfl,by rw[Hg.out];exact HB.out⟩);clear hx hB HB HA HF HW;go_wp2_with fail
   exact zlf (v:=.tuple #[.agg #[.int .u8 0,.int .i64 0,.bool false,.nilFunc],.agg #[.int .u8 0,.string ⟨#[]⟩,.int .i64 0,.int .i64 0,.int .i64 0,.int .i64 0,.slice none 0 0,.string ⟨#[]⟩,.int .i64 0,.string ⟨#[]⟩],.int .i64 17]) (by simp[results,results23,asAddr,Xh,Xv]) rfl HP.out
  obtain⟨op,Kn,rfl,rfl,rfl,rfl⟩:=HO.out.yes rfl;have Yf:=hid Kn;have u1:=zjc u 1 HU.out;clear HO Kn;by_cases hlt:m<nW op
  case pos=>
   have HA:=hid (qqa (fs:=fs) (r:=r) Yf.out (.inl (by rw[Hm.out];exact hlt)));have Xz:(m:Int)<((nW op:Nat):Int):=by omega
   clear HU hlt;have Xc:=HR.out.fin (f:=#[.int .u8 0,.int .i64 0,.bool false,.nilFunc]) (c:=#[.int .u8 0,.string ⟨#[]⟩,.int .i64 0,.int .i64 0,.int .i64 0,.int .i64 0,.slice none 0 0,.string ⟨#[]⟩,.int .i64 0,.string ⟨#[]⟩]) rfl rfl;have hx:=fun k=>zlc _ (g+1) k _ _ _ (HR.out.mid #[.int .u8 0,.int .i64 0,.bool false,.nilFunc]);have fx:=fun o=>zlp _ (g+1) o _ _ (HR.out.mid #[.int .u8 0,.int .i64 0,.bool false,.nilFunc]);simp only[qcy,Nat.reduceAdd] at Xc hx fx;obtain⟨Xh,Xv,hB⟩:=Xc;have HB:=hid hB;have e0:=zjc g 0 HR.out.r0;have e1:=zjc g 1 HR.out.r0;have e2:=zjc g 2 HR.out.r0;have e3:=zjc g 3 HR.out.r0;have x0:=hx 0;have x1:=hx 1;have x2:=hx 2;have x3:=hx 3;have x4:=hx 4;have x5:=hx 5;have x6:=hx 6;have x7:=hx 7;have x8:=hx 8;have x9:=hx 9;have fw:∀o,wk.frozen? ⟨g,o,none⟩=false:=fun o=>zlp _ _ o _ _ HR.out.r0;have HP:=hid (show Qfz (ask fs (w0::r)) w (.returned (.tuple #[.agg #[.int .u8 0,.int .i64 0,.bool false,.nilFunc],.agg #[.int .u8 0,.string ⟨#[]⟩,.int .i64 0,.int .i64 0,.int .i64 0,.int .i64 0,.slice none 0 0,.string ⟨#[]⟩,.int .i64 0,.string ⟨#[]⟩],.int .i64 17])) _ from ⟨_,_,_,_,qZ,by rw[HA.out];rfl,fun e0=>absurd ((congrArg Prod.snd HA.out).symm.trans e0) (by decide),.inl rfl,by rw[Hg.out];exact HB.out⟩);clear hx hB HB HA HF HW;go_wp2_with fail
   exact zlf (v:=.tuple #[.agg #[.int .u8 0,.int .i64 0,.bool false,.nilFunc],.agg #[.int .u8 0,.string ⟨#[]⟩,.int .i64 0,.int .i64 0,.int .i64 0,.int .i64 0,.slice none 0 0,.string ⟨#[]⟩,.int .i64 0,.string ⟨#[]⟩],.int .i64 17]) (by simp[results,results23,asAddr,Xh,Xv]) rfl HP.out
  have Xz:¬(m:Int)<((nW op:Nat):Int):=by omega
  have Ka:Hid (¬r.length<nW op):=hid (by rw[Hm.out];exact hlt);have Ye:Hid (nW op<=m):=hid (by omega);go_upto_region 6 with fail
  clear Xz hlt u1;obtain⟨PL,Yh⟩:∃PL,plW (mvW op) (r.drop (nW op))=PL:=⟨_,rfl⟩;have Xk:=hid Yh;obtain⟨A2,Yt⟩:∃A2,frS A1 c1 (nW op)=A2:=⟨_,rfl⟩;obtain⟨m2,Yx⟩:∃m2,m-nW op=m2:=⟨_,rfl⟩;obtain⟨c2,Kf⟩:∃c2,c1-nW op=c2:=⟨_,rfl⟩
  have Yb:∀W,(Instr.slice 26 (.slice A1 m c1) (some (.int .i64 ((nW op:Nat):Int))) none none).run prog W=.ok (.slice A2 m2 c2) W:=fun W=>by
   rw[<-Yt,<-Yx,<-Kf];exact qq9 A1 m c1 (nW op) Ye.out Kb.out W
  have Xt:=hid fun (W:World) (h:Below wk.heap.size wk W)=>qy9 (op.toNat:Int) ((nW op:Nat):Int) (mvW op) (qmc op) w2.heap.size A2 m2 c2 (r.drop (nW op)) W (by have:=qtn (k:=nW op) (HW.out W h) Ye.out Kb.out;rw[Yt,Yx] at this;exact this) (by have:=h.size;have:=Xx.out;omega) (by omega);rw[Yh] at Xt;have Kc:=hid (plaO_eq PL);rw[Kc.out] at Xt;obtain⟨z,hz⟩:∃z,plZ PL=z:=⟨_,rfl⟩;obtain⟨a,Yr⟩:∃a,plA PL=a:=⟨_,rfl⟩;obtain⟨kp,Yj⟩:∃kp,PL.isSome=kp:=⟨_,rfl⟩;have HZ:=hid (And.intro hz (And.intro Yr Yj));rw[hz,Yr,Yj] at Xt;unfold fnV at HU Xt;clear Yh Yt Yx Kf hz Yr Yj Kc;go_cut [9,11] from 37 (fun s9 s11 W=>∃v,s11=.pointer (some ⟨v,0,none⟩)/\s9=.bool kp/\W.heap[v]?=some (.cells #[.int .i64 z,.string a] 54 (0,0))/\wk.heap.size<=v/\Below wk.heap.size wk W)
  case first=>
   have Xy:Below wk.heap.size wk wk.drew:=(Below.refl _ _).drew;have hS:(fun W=>W.heap[u]?=some (.cells #[.int .u8 (op.toNat:Int),.int .i64 ((nW op:Nat):Int),.bool (mvW op),.func (.func (qmc op)) #[] #[]] 52 (0,0))) wk.drew:=HU.out;have Xj:=hid Xy;refine Ord.qaf.begin (fun W=>W.heap[u]?=some (.cells #[.int .u8 (op.toNat:Int),.int .i64 ((nW op:Nat):Int),.bool (mvW op),.func (.func (qmc op)) #[] #[]] 52 (0,0))) 11 (by kernel_rfl) ?_;generalize wk.drew=wd at *;clear Xy;refine zjV 0 38 hS ?_ (x:=(.agg #[.int .u8 (op.toNat:Int),.int .i64 ((nW op:Nat):Int),.bool (mvW op),.func (.func (qmc op)) #[] #[]])) (hy:=by intro v hv;have hl:=qs2 hv rfl;have d0:=zlc _ u 0 _ _ _ hv;have d1:=zlc _ u 1 _ _ _ hv;have d2:=zlc _ u 2 _ _ _ hv;have d3:=zlc _ u 3 _ _ _ hv;go_simp;first|done|rfl);refine zjV 1 39 hS ?_;refine zjV 2 40 hS ?_;refine zjV 3 41 hS ?_ (x:=(.int .i64 ((nW op:Nat):Int))) (hy:=by intro v hv;have hl:=qs2 hv rfl;have d0:=zlc _ u 0 _ _ _ hv;have d1:=zlc _ u 1 _ _ _ hv;have d2:=zlc _ u 2 _ _ _ hv;have d3:=zlc _ u 3 _ _ _ hv;go_simp;first|done|rfl);refine zjV 4 42 hS ?_ (x:=(.slice A2 m2 c2)) (hy:=by intro v hv;have hq:=Yb v;go_simp;first|done|rfl);refine qaf.step2 5 9 (by kernel_rfl) rfl rfl (fun C hC=>?_) (fun C hC=>?_)
   ·go_simp;go_at_call 31;refine (Xt.out wd Xj.out).mono ?_;rintro e w4 ⟨rfl,b4⟩;have Xq:=Xj.out.size;have Xm:=Xj.out.trans (b4.mono Xq);have Xg:u<wd.heap.size:=(zla.1 hS).1;replace hS:(fun W=>W.heap[u]?=some (.cells #[.int .u8 (op.toNat:Int),.int .i64 ((nW op:Nat):Int),.bool (mvW op),.func (.func (qmc op)) #[] #[]] 52 (0,0))) w4:=(b4.block u Xg).trans hS;go_wp2_with fail
    refine hC.out _ _ (fun _=>hS) ?_;clear hC C;try simp only[zjA]
    refine zjV 6 37 hS ?_;refine zjV 7 44 hS ?_;refine zjV 8 45 hS ?_;have Xg:u<w4.heap.size:=(zla.1 hS).1;have ba:=(Below.refl w4.heap.size w4).alloc zjn (.cells #[.int .i64 0,.string ⟨#[]⟩] 54);have ha:=zld w4 (.cells #[.int .i64 0,.string ⟨#[]⟩] 54);have Xf:(fun W=>W.heap[u]?=some (.cells #[.int .u8 (op.toNat:Int),.int .i64 ((nW op:Nat):Int),.bool (mvW op),.func (.func (qmc op)) #[] #[]] 52 (0,0))) (w4.alloc (.cells #[.int .i64 0,.string ⟨#[]⟩] 54)):=(ba.block u Xg).trans hS;refine Ord.qaf.step 9 (by kernel_rfl) rfl (fun C hC=>?_);go_simp;refine hC.out _ _ (fun _=>Xf) ?_;clear hC C;try simp only[zjA]
    have hS:=Xf;have h4:=Xm.size;generalize w4.alloc (.cells #[.int .i64 0,.string ⟨#[]⟩] 54)=w5 at *;obtain⟨v,hv⟩:∃v,w4.heap.size=v:=⟨_,rfl⟩;rw[hv] at ha ba Xg h4 |-;have Yq:u<v:=Xg;have Xd:wk.heap.size<=v:=h4;have Xr:=Xm.trans (ba.mono Xd);have f0:∀o,w5.frozen? ⟨v,o,none⟩=false:=fun o=>zlp _ _ o _ _ ha;have e0:=zjc v 0 ha;have e1:=zjc v 1 ha;have r1:=zle _ v 0 _ _ (.int .i64 z) ha;have r2:=zle _ v 1 _ _ (.string a) r1;have f1:=fun o=>zlp _ _ o _ _ r1;have e2:=zjc v 1 r1;have Xa:Below v w5 ((w5.setCell ⟨v,0,none⟩ (.int .i64 z)).setCell ⟨v,1,none⟩ (.string a)):=((Below.refl v w5).setCell (p:=⟨v,0,none⟩) zjn _).setCell (p:=⟨v,1,none⟩) zjn _;have Xi:(fun W=>W.heap[u]?=some (.cells #[.int .u8 (op.toNat:Int),.int .i64 ((nW op:Nat):Int),.bool (mvW op),.func (.func (qmc op)) #[] #[]] 52 (0,0))) ((w5.setCell ⟨v,0,none⟩ (.int .i64 z)).setCell ⟨v,1,none⟩ (.string a)):=(Xa.block u Yq).trans hS;have Xp:=hid (Xr.trans (Xa.mono Xd));have Xe:=hid r2;clear Xa r2;refine Ord.qaf.step 10 (by kernel_rfl) rfl (fun C hC=>?_);go_simp;refine hC.out _ _ (fun _=>Xi) ?_;clear hC C;try simp only[zjA]
    have hS:=Xi;refine Ord.qaf.step 11 (by kernel_rfl) rfl (fun C hC=>?_);go_simp;refine hC.out _ _ (fun _=>hS) ?_;clear hC C;try simp only[zjA]
    refine Ord.qaf.done (by kernel_rfl) ?_ _;go_wp2_with fail
    go_meet
    exact⟨v,rfl,rfl,Xe.out,Xd,Xp.out⟩
   ·have ba:=(Below.refl wd.heap.size wd).alloc zjn (.cells #[.int .i64 0,.string ⟨#[]⟩] 54);have ha:=zld wd (.cells #[.int .i64 0,.string ⟨#[]⟩] 54);have Xg:u<wd.heap.size:=(zla.1 hS).1;have Xf:(fun W=>W.heap[u]?=some (.cells #[.int .u8 (op.toNat:Int),.int .i64 ((nW op:Nat):Int),.bool (mvW op),.func (.func (qmc op)) #[] #[]] 52 (0,0))) (wd.alloc (.cells #[.int .i64 0,.string ⟨#[]⟩] 54)):=(ba.block u Xg).trans hS;go_simp;refine hC.out _ _ (fun _=>Xf) ?_;clear hC C;try simp only[zjA]
    have hS:=Xf;have hd:=Xj.out.size;have Xs:=zlr wd (.cells #[.int .i64 0,.string ⟨#[]⟩] 54);have Xw:=Xj.out.trans (ba.mono hd);generalize wd.alloc (.cells #[.int .i64 0,.string ⟨#[]⟩] 54)=w3 at *;obtain⟨v,hv⟩:∃v,wd.heap.size=v:=⟨_,rfl⟩;rw[hv] at ha Xg hd Xs |-;have Yq:u<v:=Xg;have Xd:wk.heap.size<=v:=hd;clear ba hv Xf Xg;refine Ord.qaf.step 5 (by kernel_rfl) rfl (fun C hC=>?_);go_simp;go_at_call 31;refine (Xt.out w3 Xw).mono ?_;rintro e w5 ⟨rfl,b4⟩;have Xq:=Xw.size;have Xm:=Xw.trans (b4.mono Xq);have Xg:u<w3.heap.size:=(zla.1 hS).1;replace hS:(fun W=>W.heap[u]?=some (.cells #[.int .u8 (op.toNat:Int),.int .i64 ((nW op:Nat):Int),.bool (mvW op),.func (.func (qmc op)) #[] #[]] 52 (0,0))) w5:=(b4.block u Xg).trans hS;go_wp2_with fail
    refine hC.out _ _ (fun _=>hS) ?_;clear hC C;try simp only[zjA]
    refine zjV 6 37 hS ?_;refine zjV 7 44 hS ?_;refine zjV 8 45 hS ?_;replace ha:=(b4.block v (by omega)).trans ha;have Xr:=Xm;have f0:∀o,w5.frozen? ⟨v,o,none⟩=false:=fun o=>zlp _ _ o _ _ ha;have e0:=zjc v 0 ha;have e1:=zjc v 1 ha;have r1:=zle _ v 0 _ _ (.int .i64 z) ha;have r2:=zle _ v 1 _ _ (.string a) r1;have f1:=fun o=>zlp _ _ o _ _ r1;have e2:=zjc v 1 r1;have Xa:Below v w5 ((w5.setCell ⟨v,0,none⟩ (.int .i64 z)).setCell ⟨v,1,none⟩ (.string a)):=((Below.refl v w5).setCell (p:=⟨v,0,none⟩) zjn _).setCell (p:=⟨v,1,none⟩) zjn _;have Xi:(fun W=>W.heap[u]?=some (.cells #[.int .u8 (op.toNat:Int),.int .i64 ((nW op:Nat):Int),.bool (mvW op),.func (.func (qmc op)) #[] #[]] 52 (0,0))) ((w5.setCell ⟨v,0,none⟩ (.int .i64 z)).setCell ⟨v,1,none⟩ (.string a)):=(Xa.block u Yq).trans hS;have Xp:=hid (Xr.trans (Xa.mono Xd));have Xe:=hid r2;clear Xa r2;refine Ord.qaf.step 10 (by kernel_rfl) rfl (fun C hC=>?_);go_simp;refine hC.out _ _ (fun _=>Xi) ?_;clear hC C;try simp only[zjA]
    have hS:=Xi;refine Ord.qaf.step 11 (by kernel_rfl) rfl (fun C hC=>?_);go_simp;refine hC.out _ _ (fun _=>hS) ?_;clear hC C;try simp only[zjA]
    refine Ord.qaf.done (by kernel_rfl) ?_ _;go_wp2_with fail
    go_meet
    exact⟨v,rfl,rfl,Xe.out,Xd,Xp.out⟩
  case rest=>
   obtain⟨v,rfl,rfl,hv,Xd,hb⟩:=hcut;have Xa:=hb.size;replace HR:=hid (HR.out.on hb);replace HU:=hid ((hb.block u Kk).trans HU.out);have HV:=hid hv;have Nf:=(zla.1 hv).1;replace HW:=hid fun (W:World) (h:Below wc.heap.size wc W)=>(HW.out W (hb.trans (h.mono Xa))).more (show w2.heap.size<=wc.heap.size by have:=Xx.out;omega);replace HF:=hid fun (W:World) (h:Below wc.heap.size wc W)=>(HF.out W (hb.trans (h.mono Xa)));have Yy:u<wc.heap.size:=by omega
   clear hv hb Xa Xt Yb Xd Kk;go_upto_region 7 with fail
   obtain⟨Kg,Ki,Ya⟩:=HZ.out;rcases PL with _|⟨z',a'⟩
   case none=>
    obtain rfl:kp=false:=Ya.symm;have HA:=hid (qqa (fs:=fs) (r:=r) Yf.out (.inr Xk.out));clear HZ Kg Ki Ya HU HV;have Xc:=HR.out.fin (f:=#[.int .u8 0,.int .i64 0,.bool false,.nilFunc]) (c:=#[.int .u8 0,.string ⟨#[]⟩,.int .i64 0,.int .i64 0,.int .i64 0,.int .i64 0,.slice none 0 0,.string ⟨#[]⟩,.int .i64 0,.string ⟨#[]⟩]) rfl rfl;have hx:=fun k=>zlc _ (g+1) k _ _ _ (HR.out.mid #[.int .u8 0,.int .i64 0,.bool false,.nilFunc]);have fx:=fun o=>zlp _ (g+1) o _ _ (HR.out.mid #[.int .u8 0,.int .i64 0,.bool false,.nilFunc]);simp only[qcy,Nat.reduceAdd] at Xc hx fx;obtain⟨Xh,Xv,hB⟩:=Xc;have HB:=hid hB;have e0:=zjc g 0 HR.out.r0;have e1:=zjc g 1 HR.out.r0;have e2:=zjc g 2 HR.out.r0;have e3:=zjc g 3 HR.out.r0;have x0:=hx 0;have x1:=hx 1;have x2:=hx 2;have x3:=hx 3;have x4:=hx 4;have x5:=hx 5;have x6:=hx 6;have x7:=hx 7;have x8:=hx 8;have x9:=hx 9;have fw:∀o,wc.frozen? ⟨g,o,none⟩=false:=fun o=>zlp _ _ o _ _ HR.out.r0;have HP:=hid (show Qfz (ask fs (w0::r)) w (.returned (.tuple #[.agg #[.int .u8 0,.int .i64 0,.bool false,.nilFunc],.agg #[.int .u8 0,.string ⟨#[]⟩,.int .i64 0,.int .i64 0,.int .i64 0,.int .i64 0,.slice none 0 0,.string ⟨#[]⟩,.int .i64 0,.string ⟨#[]⟩],.int .i64 17])) _ from ⟨_,_,_,_,qZ,by rw[HA.out];rfl,fun e0=>absurd ((congrArg Prod.snd HA.out).symm.trans e0) (by decide),.inl rfl,by rw[Hg.out];exact HB.out⟩);clear hx hB HB HA HF HW;go_wp2_with fail
    exact zlf (v:=.tuple #[.agg #[.int .u8 0,.int .i64 0,.bool false,.nilFunc],.agg #[.int .u8 0,.string ⟨#[]⟩,.int .i64 0,.int .i64 0,.int .i64 0,.int .i64 0,.slice none 0 0,.string ⟨#[]⟩,.int .i64 0,.string ⟨#[]⟩],.int .i64 17]) (by simp[results,results23,asAddr,Xh,Xv]) rfl HP.out
   obtain rfl:kp=true:=Ya.symm;obtain rfl:z'=z:=Kg;obtain rfl:a'=a:=Ki;have HA:Hid (ask fs (w0::r)=Qfx (qen fs op r) op (atW r 0) z' a'):=hid ((qw9 (fs:=fs) Yf.out Ka.out Xk.out).trans (by cases qen fs op r<;>rfl));have Yc:=hid (qw8 op ((nW op:Nat):Int) z' (mvW op) (qmc op) a' wc.heap.size A1 m c1 r F fn fc fs wc rfl (HF.out wc zjb) (HW.out wc zjb) zjn (by omega) Ye.out (fun e=>by have h1:=Xk.out;rw[e,nW_zero e] at h1;exact Qg3 h1) hfn);obtain⟨CO,Ys⟩:∃CO,Qfx (qen fs op r) op (atW r 0) z' a'=CO:=⟨_,rfl⟩
   have Yw:Hid (CO.2=0->CO.1.op=op):=hid (by
    rw[<-Ys];rcases qen fs op r with _|x
    ·exact fun e=>absurd e (show ¬(15:Int)=0 by decide)
    ·exact fun _=>rfl)
   rw[Ys] at Yc HA;unfold fnV at Yc;have Kj:=qs2 HU.out rfl;have Kx:=run_loadVar_row (P:=prog) _ _ 54 54 _ (0,0) _ HV.out underlying54 rfl (by kernel_rfl);have u0:=zjc u 0 HU.out;have u1:=zjc u 1 HU.out;have u2:=zjc u 2 HU.out;have u3:=zjc u 3 HU.out;have Ku:=fun k=>zjc v k HV.out;clear Ys Ya HZ HF HW Ka Ye Xk;go_wp2_with fail
   refine Yc.out.mono ?_;rintro e w6 ⟨q,rfl,hq,b6⟩;have HQ:=hid hq;obtain⟨cz,Yk⟩:∃cz,CO.2=cz:=⟨_,rfl⟩;have Kv:=hid Yk;obtain⟨Xu,⟨m0,m1,m2,m3,m4,m5,m6,m7,m8⟩,qn,qz,qa⟩:=q;simp only[Cmd.val,Cmd.cells];rw[Yk];replace HR:=hid (HR.out.on b6);replace HU:=hid ((b6.block u Yy).trans HU.out);have Ng:=HR.out.s;have s6:=b6.size;clear Yk hq b6 Yc Kj Kx u0 u1 u2 u3 Ku HV;have ba:=zjB w6 (.cells #[.int .u8 (Xu.toNat:Int),.string m0,.int .i64 m1,.int .i64 m2,.int .i64 m3,.int .i64 m4,.slice m5 m6 m7,.string qn,.int .i64 qz,.string qa] 56);have hX:=zld w6 (.cells #[.int .u8 (Xu.toNat:Int),.string m0,.int .i64 m1,.int .i64 m2,.int .i64 m3,.int .i64 m4,.slice m5 m6 m7,.string qn,.int .i64 qz,.string qa] 56);go_upto_region 10 with fail
   generalize w6.alloc (.cells #[.int .u8 (Xu.toNat:Int),.string m0,.int .i64 m1,.int .i64 m2,.int .i64 m3,.int .i64 m4,.slice m5 m6 m7,.string qn,.int .i64 qz,.string qa] 56)=w7 at *;replace HR:=hid (HR.out.on ba);replace HU:=hid ((ba.block u (by omega)).trans HU.out);have Kj:=qs2 HU.out rfl;have Nd:=qrz hX rfl;have Xc:=HR.out.find (f:=#[.int .u8 (op.toNat:Int),.int .i64 ((nW op:Nat):Int),.bool (mvW op),.func (.func (qmc op)) #[] #[]]) (c:=#[.int .u8 (Xu.toNat:Int),.string m0,.int .i64 m1,.int .i64 m2,.int .i64 m3,.int .i64 m4,.slice m5 m6 m7,.string qn,.int .i64 qz,.string qa]) rfl rfl;have hx:=fun k=>zlc _ (g+1) k _ _ _ (HR.out.mid #[.int .u8 (op.toNat:Int),.int .i64 ((nW op:Nat):Int),.bool (mvW op),.func (.func (qmc op)) #[] #[]]);have fx:=fun o=>zlp _ (g+1) o _ _ (HR.out.mid #[.int .u8 (op.toNat:Int),.int .i64 ((nW op:Nat):Int),.bool (mvW op),.func (.func (qmc op)) #[] #[]]);simp only[qcy,Nat.reduceAdd] at Xc hx fx;obtain⟨Xh,Xv,hB⟩:=Xc;have HB:=hid hB;have ht:=fun k=>zlc _ w6.heap.size k _ _ _ ((qjq (B:=g) (g:=w6.heap.size) (by omega) [.int .u8 (op.toNat:Int),.int .i64 ((nW op:Nat):Int),.bool (mvW op),.func (.func (qmc op)) #[] #[]] 0 w7).trans hX);simp only[qcy,Nat.reduceAdd] at ht;have e0:=zjc g 0 HR.out.r0;have e1:=zjc g 1 HR.out.r0;have e2:=zjc g 2 HR.out.r0;have e3:=zjc g 3 HR.out.r0;have x0:=hx 0;have x1:=hx 1;have x2:=hx 2;have x3:=hx 3;have x4:=hx 4;have x5:=hx 5;have x6:=hx 6;have x7:=hx 7;have x8:=hx 8;have x9:=hx 9;have u0:=zjc u 0 HU.out;have u1:=zjc u 1 HU.out;have u2:=zjc u 2 HU.out;have u3:=zjc u 3 HU.out;have Ni:=fun k=>zjc w6.heap.size k hX;have s0:=ht 0;have s1:=ht 1;have s2:=ht 2;have s3:=ht 3;have s4:=ht 4;have s5:=ht 5;have s6:=ht 6;have s7:=ht 7;have s8:=ht 8;have s9:=ht 9;have fw:∀o,w7.frozen? ⟨g,o,none⟩=false:=fun o=>zlp _ _ o _ _ HR.out.r0;clear hx hB ba hX ht;go_region
   go_wp2_with fail
   have HP:=hid (show Qfz (ask fs (w0::r)) w (.returned (.tuple #[.agg #[.int .u8 (op.toNat:Int),.int .i64 ((nW op:Nat):Int),.bool (mvW op),.func (.func (qmc op)) #[] #[]],.agg #[.int .u8 (Xu.toNat:Int),.string m0,.int .i64 m1,.int .i64 m2,.int .i64 m3,.int .i64 m4,.slice m5 m6 m7,.string qn,.int .i64 qz,.string qa],.int .i64 cz])) _ from ⟨_,_,_,_,⟨Xu,⟨m0,m1,m2,m3,m4,m5,m6,m7,m8⟩,qn,qz,qa⟩,by rw[HA.out,Kv.out];first|done|rfl,fun e0=>(by rw[HA.out] at e0 |-;exact⟨HQ.out e0,by rw[Yw.out e0];first|done|rfl⟩),.inr ⟨_,rfl⟩,by rw[Hg.out];exact HB.out⟩);exact zlf (v:=.tuple #[.agg #[.int .u8 (op.toNat:Int),.int .i64 ((nW op:Nat):Int),.bool (mvW op),.func (.func (qmc op)) #[] #[]],.agg #[.int .u8 (Xu.toNat:Int),.string m0,.int .i64 m1,.int .i64 m2,.int .i64 m3,.int .i64 m4,.slice m5 m6 m7,.string qn,.int .i64 qz,.string qa],.int .i64 cz]) (by simp[results,results23,asAddr,Xh,Xv]) rfl HP.out
end Lsc
end Go.Proofs.YtlmolmohhpdhdaaGreatDoor
