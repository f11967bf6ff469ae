/-
  libscript: strings.Split at one byte; the program's
-/
import Derived.Test.YtlmolmohhpdhdaaGreatDoorZTa
import Derived.Test.YtlmolmohhpdhdaaGreatDoorZMh
import Derived.Lib.Split
import Derived.Lib.SplitLaws
import Derived.Lib.IndexLaws
import Derived.Test.YtlmolmohhpdhdaaGreatDoorZTk
import Derived.Test.YtlmolmohhpdhdaaGreatDoorZLyc
import Derived.BigQuiet
set_option maxRecDepth 100000
set_option maxHeartbeats 16000000
set_option linter.unusedSimpArgs false
set_option linter.unusedVariables false
namespace Go.Proofs.YtlmolmohhpdhdaaGreatDoor
open Go.RowKit Go.Proofs
namespace Lsc
open JB
open JN (bts str qa8 qak qa0 Gnd)
theorem Qba {c:UInt8}:∀(l cur:List UInt8),(∀k:Nat,l[k]?≠some c)→spl c cur l=[cur++l]
 |[],cur,_=>by rw[spl,List.append_nil]
 |x::r,cur,h=>by
  have h0:x≠c:=fun e=>h 0 (by rw[e];rfl)
  rw[qfv h0,Qba r (cur++[x]) (fun k=>h (k+1)),List.append_assoc]
  rfl
theorem splK (c:UInt8):∀(m:Nat)(l:List UInt8),l.length≤m→Lib.splitK [c] 0 (Lib.count l [c]) l=spl c [] l
 |m,l,hm=>by
  by_cases h:Lib.index l [c]= -1
  ·rw[Lib.count_miss h,Lib.splitK,Qba l [] (Lib.indexByte_none (by rw[←Lib.index_one];exact h))]
   rfl
  ·obtain⟨i,hi⟩:∃i:Nat,Lib.index l [c]=i:=⟨(Lib.index l [c]).toNat,by have:=Lib.index_ge l [c];omega⟩
   obtain⟨h1,h2⟩:=Lib.indexByte_some (by rw[←Lib.index_one];exact hi)
   obtain⟨hlt,h3⟩:=List.getElem?_eq_some_iff.1 h1
   rw[Lib.count_hit (by simp) hi,Nat.add_comm 1,Lib.splitK,if_neg (by rw[hi];simp),hi]
   simp only[Int.toNat_natCast,Nat.add_zero,List.length_singleton]
   cases m with
   |zero=>omega
   |succ m=>
    rw[splK c m (l.drop (i+1)) (by rw[List.length_drop];omega)]
    have e:l=l.take i++c::l.drop (i+1):=by
     rw[←h3,←List.drop_eq_getElem_cons hlt,List.take_append_drop]
    conv=>rhs;rw[e]
    rw[qf6,Qba (l.take i) [] (fun k hk=>by
     rw[List.getElem?_take] at hk
     split at hk
     ·rename_i hki;exact h2 k hki hk
     ·cases hk)]
    rfl
theorem splB (c:UInt8)(s:ByteArray):Lib.splitB ⟨#[c]⟩ 0 (Lib.countB s ⟨#[c]⟩) s=qd9 c s:=by
 have h:=Lib.splitB_data ⟨#[c]⟩ 0 (Lib.countB s ⟨#[c]⟩) s
 have h2:=splK c _ (bts s) zjn
 unfold qd9
 rw[←h2,show Lib.splitK [c] 0 (Lib.count (bts s) [c]) (bts s)=_ from h.symm,List.map_map]
 conv=>lhs;rw[←List.map_id (Lib.splitB _ _ _ _)]
 exact List.map_congr_left fun x _=>(qak x).symm
theorem qpb (s:ByteArray)(c:UInt8)(w:World)(hG:Gnd w)(hs:s.size≤100000):
 Calls Tryz.prog 21 #[.string s,.string ⟨#[c]⟩] w (StrsO (qd9 c s) w):=by
 obtain⟨m,hm⟩:=hG
 have h1:(1:Nat)≤(⟨#[c]⟩:ByteArray).size:=Nat.le_refl 1
 have hle:=Lib.countB_le ⟨#[c]⟩ h1 s.size s zjn
 have hlen:=Lib.splitB_all ⟨#[c]⟩ h1 0 _ s rfl
 rw[splB] at hlen
 refine (Tryz.strings_Split s ⟨#[c]⟩ m w (by omega) hm h1).mono ?_
 rintro e w' ⟨rfl,rfl⟩
 rw[splB]
 refine⟨_,_,_,rfl,⟨hlen,.inr ⟨w.heap.size,_,_,(0,0),rfl,Nat.le_refl _,heap_alloc_new _ _,Nat.le_refl _,by unfold maxLen;omega,by simp[hlen],?_,fun j _ hj=>by simp at hj⟩⟩,(Below.refl _ _).alloc zjn _⟩
 rw[←hlen]
 unfold JS.enc
 rw[List.take_of_length_le (by simp)]
theorem qpc {s:ByteArray}(h:s.size≠0):((qd9 10 s).getLast?=some (str [])↔(bts s).getLast?=some 10):=by
 have key:∀(l cur:List UInt8),l≠[]→((spl 10 cur l).getLast?=some []↔l.getLast?=some 10):=by
  intro l
  induction l with
  |nil=>intro _ h;exact absurd rfl h
  |cons x r ih=>
   intro cur _
   by_cases hr:r=[]
   ·subst hr
    by_cases hx:x=10
    ·rw[qi7 hx];simp[spl,hx]
    ·rw[qfv hx];simp[spl,hx]
   ·by_cases hx:x=10
    ·rw[qi7 hx,List.getLast?_cons,List.getLast?_cons]
     have h1:=ih [] hr
     rcases h2:(spl 10 [] r).getLast? with _|y
     ·exact absurd (List.getLast?_eq_none_iff.1 h2) (qp8 _ _ _)
     ·rcases h3:r.getLast? with _|y'
      ·exact absurd (List.getLast?_eq_none_iff.1 h3) hr
      ·rw[h2,h3] at h1
       simpa using h1
    ·rw[qfv hx,List.getLast?_cons]
     have h1:=ih (cur++[x]) hr
     rcases h3:r.getLast? with _|y'
     ·exact absurd (List.getLast?_eq_none_iff.1 h3) hr
     ·rw[h3] at h1
      simpa using h1
 have h1:=key (bts s) [] (fun e=>h (by rw[←qa0,e];rfl))
 rw[←h1]
 unfold qd9
 rw[List.getLast?_map]
 rcases (spl 10 [] (bts s)).getLast? with _|y
 ·simp
 ·simp only[Option.map_some,Option.some.injEq]
  exact⟨fun e=>by have:=congrArg bts e;rwa [qa8,qa8] at this,fun e=>by rw[e]⟩
theorem lines_eq (s:ByteArray):qag s=if (qd9 10 s).getLast?=some (str []) then (qd9 10 s).dropLast else qd9 10 s:=by
 by_cases h:s.size=0
 ·unfold qag
  rw[if_pos h]
  have e:bts s=[]:=List.eq_nil_of_length_eq_zero (by rw[qa0];exact h)
  unfold qd9
  rw[e]
  rfl
 ·unfold qag
  rw[if_neg h]
  by_cases h2:(bts s).getLast?=some 10
  ·rw[if_pos h2,if_pos ((qpc h).2 h2)]
  ·rw[if_neg h2,if_neg (fun e=>h2 ((qpc h).1 e))]
theorem qpd (s:ByteArray)(w:World)(hG:Gnd w)(hs:s.size≤100000):
 Calls Tryz.prog 14 #[.string s] w (StrsR (qag s) w):=by
 have HS:=hid (qpb s 10 w hG hs)
 have Hn:=hid (show qd9 10 s≠[] from fun h=>qp8 10 _ _ (List.map_eq_nil_iff.1 h))
 have Hlen:Hid ((qd9 10 s).length≤s.size+1):=hid (by have:=qn3 10 (bts s) [];unfold qd9;rw[List.length_map,←qa0];exact this)
 have HE:=hid (lines_eq s)
 generalize qd9 10 s=ps at *
 generalize qag s=ls at *
 go_enter Tryz.func14,Tryz.ntmps14
 go_wp2_with fail
 refine HS.out.mono ?_
 rintro e w1 ⟨A,n,c,rfl,ho,hb⟩
 obtain⟨_,_,e1,hr,hnc,hcm⟩:=ho.reads
 injection e1 with e11 _ e13
 subst e11 e13
 obtain⟨j,rfl⟩:∃j,n=j+1:=⟨n-1,by
  have h1:=hr.1
  have h2:=List.length_pos_iff.2 Hn.out
  omega⟩
 have hj:j≤100000:=by have h1:=hr.1;have h2:=Hlen.out;omega
 have hjl:j<ps.length:=by have:=hr.1;omega
 obtain⟨b,o,rfl,_,c0⟩:=hr.2 j hjl
 have HLst:Hid (ps.getLast?=some ps[j]):=hid (by
  rw[List.getLast?_eq_getElem?,show ps.length-1=j by have:=hr.1;omega,List.getElem?_eq_getElem hjl])
 have Hr:=hid hr
 have hji:(j:Int)<(j:Int)+1:=by omega
 clear HS ho hr hG hs
 generalize ps[j]=t at *
 by_cases hx:t=str []
 ·have hx2:(t.toList==[])=true:=by rw[hx];decide+kernel
  have HX:Hid (ls=ps.dropLast):=hid (by rw[HE.out,HLst.out,hx,if_pos rfl])
  clear hx
  go_wp2_with fail
  go_ret
  exact⟨_,j,c,rfl,by rw[HX.out];exact Qb5 Hr.out,by omega,hcm,hb⟩
 ·have hx2:(t.toList==[])=false:=by rw[beq_eq_false_iff_ne];exact fun e=>hx (JN.qf0.1 (e.trans (by decide+kernel)))
  have HX:Hid (ls=ps):=hid (by rw[HE.out,HLst.out,if_neg (fun e=>hx (by injection e))])
  clear hx
  go_wp2_with fail
  go_ret
  exact⟨_,j+1,c,rfl,by rw[HX.out];exact Hr.out,hnc,hcm,hb⟩
end Lsc
namespace Lsc
open JB
open JN (bts str qa8 qak qa0 Gnd)
open JR (Mem ar)
open JL
def qjg (op:UInt8):FuncId:=if op=116 then 50 else if op=120 then 49 else 48
structure FRow (w0:ByteArray) (kn:Bool) (ov kv:Int) (p:Bool) (fv:Value):Prop where
 look:∀(b:Nat)(W:World),W.heap[b]?=some (.map qeq 6)→(Instr.lookup 80 (.map (some b)) (.string w0) true).run Tryz.prog W=.ok (.tuple #[.agg #[.int .u8 ov,.int .i64 kv,.bool p,fv],.bool kn]) W
 one:fv.oneCell'=true
 no:kn=false→opW w0=none
 yes:kn=true→∃op,opW w0=some op∧ov=(op.toNat:Int)∧kv=((nW op:Nat):Int)∧p=mvW op∧fv=fnV (qjg op)
theorem zeroF (w:World):(zeroValue 52).run Tryz.prog w=.ok (.agg #[.int .u8 0,.int .i64 0,.bool false,.nilFunc]) w:=by kernel_rfl
theorem skey (s:ByteArray):MapKept.IsKey .string (.string s):=trivial
theorem frow_any (w0:ByteArray):∃kn ov kv p fv,FRow w0 kn ov kv p fv:=by
 rcases h:opW w0 with _|op
 ·refine⟨false,0,0,false,.nilFunc,fun b W hb=>qw1 qf9 Tryz.underlying9 hb (skey _) (zeroF W) ?_,rfl,fun _=>h,fun e=>(by cases e)⟩
  rcases MapKept.findNow_spec (d:=.string) (k:=.string w0) trivial qeq.toList 0 (by intro x hx;simp only[qeq,List.mem_cons,List.not_mem_nil,or_false] at hx;rcases hx with rfl|rfl|rfl|rfl|rfl|rfl<;>trivial) with ⟨h1,_⟩|⟨j,e,_,h2,h3⟩
  ·exact h1
  ·have hx:=List.mem_of_getElem? h2
   simp only[qeq,List.mem_cons,List.not_mem_nil,or_false] at hx
   rcases hx with rfl|rfl|rfl|rfl|rfl|rfl<;>(injection h3 with h3;subst h3;exact absurd h (by decide+kernel))
 ·obtain⟨hs,ho⟩:w0=⟨#[op]⟩∧qmy op:=by
   have h2:=h
   unfold opW at h2
   split at h2
   ·rename_i c hc
    split at h2
    ·rename_i hk
     injection h2 with h2
     subst h2
     exact⟨by rw[←qak w0,hc];rfl,hk⟩
    ·cases h2
   ·cases h2
  subst hs
  rcases ho with rfl|rfl|rfl|rfl|rfl|rfl
  ·exact⟨true,114,2,true,fnV 48,fun b W hb=>qg8 qf9 Tryz.underlying9 hb (skey _) rfl,rfl,fun e=>(by cases e),fun _=>⟨114,h,rfl,rfl,rfl,rfl⟩⟩
  ·exact⟨true,113,2,false,fnV 48,fun b W hb=>qg8 qf9 Tryz.underlying9 hb (skey _) rfl,rfl,fun e=>(by cases e),fun _=>⟨113,h,rfl,rfl,rfl,rfl⟩⟩
  ·exact⟨true,100,1,false,fnV 48,fun b W hb=>qg8 qf9 Tryz.underlying9 hb (skey _) rfl,rfl,fun e=>(by cases e),fun _=>⟨100,h,rfl,rfl,rfl,rfl⟩⟩
  ·exact⟨true,109,1,true,fnV 48,fun b W hb=>qg8 qf9 Tryz.underlying9 hb (skey _) rfl,rfl,fun e=>(by cases e),fun _=>⟨109,h,rfl,rfl,rfl,rfl⟩⟩
  ·exact⟨true,120,1,false,fnV 49,fun b W hb=>qg8 qf9 Tryz.underlying9 hb (skey _) rfl,rfl,fun e=>(by cases e),fun _=>⟨120,h,rfl,rfl,rfl,rfl⟩⟩
  ·exact⟨true,116,0,false,fnV 50,fun b W hb=>qg8 qf9 Tryz.underlying9 hb (skey _) rfl,rfl,fun e=>(by cases e),fun _=>⟨116,h,rfl,rfl,rfl,rfl⟩⟩
def Qbb (x:Cmd×Int)(w:World)(e:Ending)(w':World):Prop:=
 ∃(ov kv:Int)(p:Bool)(fv:Value)(q:Cmd),e=.returned (.tuple #[.agg #[.int .u8 ov,.int .i64 kv,.bool p,fv],q.val,.int .i64 x.2])∧(x.2=0→q=x.1∧fv=fnV (qjg x.1.op))∧(fv=.nilFunc∨∃G,fv=fnV G)∧Below w.heap.size w w'
structure StR (w W:World) (g:Nat):Prop where
 b:Below g w W
 s:g+1<W.heap.size
 r0:W.heap[g]?=some (.cells #[.int .u8 0,.int .i64 0,.bool false,.nilFunc] 52 (0,0))
 r1:W.heap[g+1]?=some (.cells #[.int .u8 0,.string ⟨#[]⟩,.int .i64 0,.int .i64 0,.int .i64 0,.int .i64 0,.slice none 0 0,.string ⟨#[]⟩,.int .i64 0,.string ⟨#[]⟩] 56 (0,0))
theorem StR.on {w W W':World}{g:Nat}(h:StR w W g)(hb:Below W.heap.size W W'):StR w W' g:=
 ⟨h.b.trans (hb.mono (by have:=h.s;omega)),by have:=h.s;have:=hb.size;omega,(hb.block g (by have:=h.s;omega)).trans h.r0,(hb.block (g+1) h.s).trans h.r1⟩
theorem qpe {W:World}{B:Nat}{cs:Array Value}(h:W.heap[B]?=some (.cells cs 52 (0,0)))(hs:cs.size=4):(loadVar 52 ⟨B,0,none⟩).run Tryz.prog W=.ok (.agg cs) W:=
 run_loadVar_row _ B 52 52 cs (0,0) _ h Tryz.underlying52 rfl (by rw[hs];kernel_rfl)
theorem StR.mid {w W:World}{g:Nat}(h:StR w W g)(f:Array Value):(qdi W g 0 f.toList).heap[g+1]?=some (.cells #[.int .u8 0,.string ⟨#[]⟩,.int .i64 0,.int .i64 0,.int .i64 0,.int .i64 0,.slice none 0 0,.string ⟨#[]⟩,.int .i64 0,.string ⟨#[]⟩] 56 (0,0)):=(qi9 (by omega) f.toList 0 W).trans h.r1
theorem StR.fin {w W:World}{g:Nat}(h:StR w W g){f c:Array Value}(hf:f.size=4)(hc:c.size=10):
 (loadVar 52 ⟨g,0,none⟩).run Tryz.prog (qdi (qdi W g 0 f.toList) (g+1) 0 c.toList)=.ok (.agg f) (qdi (qdi W g 0 f.toList) (g+1) 0 c.toList)∧(loadVar 56 ⟨g+1,0,none⟩).run Tryz.prog (qdi (qdi W g 0 f.toList) (g+1) 0 c.toList)=.ok (.agg c) (qdi (qdi W g 0 f.toList) (g+1) 0 c.toList)∧Below g w (qdi (qdi W g 0 f.toList) (g+1) 0 c.toList):=
 ⟨qpe ((qi9 (by omega) c.toList 0 _).trans (qf8 f.toList [.int .u8 0,.int .i64 0,.bool false,.nilFunc] W (by simp[hf]) h.r0)) hf,
  qpa (qf8 c.toList [.int .u8 0,.string ⟨#[]⟩,.int .i64 0,.int .i64 0,.int .i64 0,.int .i64 0,.slice none 0 0,.string ⟨#[]⟩,.int .i64 0,.string ⟨#[]⟩] _ (by simp[hc]) (h.mid f)) hc,
  qd1 (Nat.le_succ _) _ _ _ (qd1 zjn _ _ _ h.b)⟩
theorem nW_zero {op:UInt8}(h:nW op=0):mvW op=false:=by
 unfold nW at h
 split at h
 ·rename_i e;rw[e];rfl
 ·split at h<;>cases h
theorem StR.find {w W:World}{g:Nat}(h:StR w W g){f c:Array Value}(hf:f.size=4)(hc:c.size=10):
 (loadVar 52 ⟨g,0,none⟩).run Tryz.prog (qdi (qdi W g 0 f.toList) (g+1) 0 c.toList).drew=.ok (.agg f) (qdi (qdi W g 0 f.toList) (g+1) 0 c.toList).drew∧(loadVar 56 ⟨g+1,0,none⟩).run Tryz.prog (qdi (qdi W g 0 f.toList) (g+1) 0 c.toList).drew=.ok (.agg c) (qdi (qdi W g 0 f.toList) (g+1) 0 c.toList).drew∧Below g w (qdi (qdi W g 0 f.toList) (g+1) 0 c.toList).drew:=
 ⟨qpe (show (qdi (qdi W g 0 f.toList) (g+1) 0 c.toList).heap[g]?=_ from (qi9 (by omega) c.toList 0 _).trans (qf8 f.toList [.int .u8 0,.int .i64 0,.bool false,.nilFunc] W (by simp[hf]) h.r0)) hf,
  qpa (show (qdi (qdi W g 0 f.toList) (g+1) 0 c.toList).heap[g+1]?=_ from qf8 c.toList [.int .u8 0,.string ⟨#[]⟩,.int .i64 0,.int .i64 0,.int .i64 0,.int .i64 0,.slice none 0 0,.string ⟨#[]⟩,.int .i64 0,.string ⟨#[]⟩] _ (by simp[hc]) (h.mid f)) hc,
  (qd1 (Nat.le_succ _) _ _ _ (qd1 zjn _ _ _ h.b)).drew⟩
def plZ:Option (Int×ByteArray)→Int|some (z,_)=>z|none=>0
def plA:Option (Int×ByteArray)→ByteArray|some (_,a)=>a|none=>⟨#[]⟩
theorem plaO_eq (o:Option (Int×ByteArray)):plaO o=.agg #[.int .i64 (plZ o),.string (plA o)]:=by cases o<;>rfl
theorem Qbc (F:Option Addr)(fn fc:Nat)(fs:List Mem)(s:ByteArray)(w:World)(hG:Gnd w)(hf:RdF w w.heap.size F fn fs)(hs:s.size≤1000)(hfn:fn≤1000):
 Calls Tryz.prog 23 #[.string s,.slice F fn fc] w (Qbb (ask fs (qd9 32 s)) w):=by
 have HF:=hid fun (W:World) (h:Below w.heap.size w W)=>(hf.below h).more h.size
 have HG:=hid fun (W:World) (h:Below w.heap.size w W)=>hG.on h
 have Hsz:=hid hs
 obtain⟨w0,r,hws⟩:=List.exists_cons_of_ne_nil (show qd9 32 s≠[] from fun h=>qp8 32 _ _ (List.map_eq_nil_iff.1 h))
 have Hln:Hid (r.length≤s.size):=hid (by have:=qn3 32 (bts s) [];have h2:=congrArg List.length hws;unfold qd9 at h2;rw[List.length_map,List.length_cons] at h2;rw[qa0] at this;omega)
 have HSp:=hid fun (W:World) (h:Gnd W)=>qpb s 32 W h (by omega)
 rw[hws] at HSp ⊢
 obtain⟨w1,e1,hb1,hR0,hR1,hs1⟩:=qcr w (.cells #[.int .u8 0,.int .i64 0,.bool false,.nilFunc] 52) (.cells #[.int .u8 0,.string ⟨#[]⟩,.int .i64 0,.int .i64 0,.int .i64 0,.int .i64 0,.slice none 0 0,.string ⟨#[]⟩,.int .i64 0,.string ⟨#[]⟩] 56)
 clear hG hf hs hws
 go_enter Tryz.func23,Tryz.ntmps23
 go_upto_region 1 with fail
 rw[←e1]
 clear e1
 obtain⟨g,hg⟩:∃g,w.heap.size=g:=⟨_,rfl⟩
 have Hg:=hid hg
 rw[hg] at hR0 hR1 hs1 HF HG hb1 ⊢
 have HS1:=hid (HSp.out w1 (HG.out w1 hb1))
 have HR:Hid (StR w w1 g):=hid ⟨hb1,by omega,hR0,hR1⟩
 clear hR0 hR1 hs1 hb1 hg HSp HG
 go_wp2_with fail
 refine HS1.out.mono ?_
 rintro e w2 ⟨A,n,c,rfl,ho,b2⟩
 obtain⟨_,_,e1,hw,hnc,hcm⟩:=ho.reads
 injection e1 with e11 _ e13
 subst e11 e13
 have HC:=hid (And.intro hnc hcm)
 have hl1:=hw.1
 rw[List.length_cons] at hl1
 obtain⟨m,hm⟩:∃m,r.length=m:=⟨_,rfl⟩
 have Hm:=hid hm
 rw[hm] at hl1
 subst hl1
 replace HR:=hid (HR.out.on b2)
 obtain⟨b0,o0,rfl,hb0,c0⟩:=hw.2 0 (by simp)
 simp only[List.getElem_cons_zero,Nat.add_zero] at c0
 have HW:=hid fun (W:World) (h:Below w2.heap.size w2 W)=>(hw.below h)
 have hm9:m≤1000:=by rw[←hm];exact Nat.le_trans Hln.out Hsz.out
 clear HS1 ho hnc hcm hw b2 hm
 obtain⟨kn,ov,kv,p,fv,hF⟩:=frow_any w0
 have HL:=hid fun (b:Nat) (W:World) (h:W.heap[b]?=some (.map qeq 6))=>hF.look b W h
 have HO:=hid hF
 have hm0:(0:Int)<(m:Int)+1:=by omega
 clear hF
 go_upto_region 2 with fail
 go_cut [8,9] from 16 (fun s8 s9 W=>∃u,s8=.pointer (some ⟨u,0,none⟩)∧s9=.bool kn∧W.heap[u]?=some (.cells #[.int .u8 ov,.int .i64 kv,.bool p,fv] 52 (0,0))∧w2.heap.size≤u∧Below w2.heap.size w2 W)
 case first=>
  have hbd:Below w2.heap.size w2 w2.drew:=(Below.refl _ _).drew
  have hS:(fun W=>W.cell? ⟨b0,o0,none⟩=some (.string w0)) w2.drew:=c0
  have HBd:=hid hbd
  refine Ord.qaf.begin (fun W=>W.cell? ⟨b0,o0,none⟩=some (.string w0)) 10 (by kernel_rfl) ?_
  generalize w2.drew=wd at *
  clear hbd c0
  refine zjT 1 18 rfl rfl (by kernel_rfl) (x:=?_) (fun _ _ _ h=>h) ?_ hS ?_
  rotate_left 1
  ·intro v hv;go_simp;first|done|rfl
  try simp only[zjA]
  refine zjT 2 19 rfl rfl (by kernel_rfl) (x:=?_) (fun _ _ _ h=>h) ?_ hS ?_
  rotate_left 1
  ·intro v hv;go_simp;first|done|rfl
  try simp only[zjA]
  refine zjT 3 20 rfl rfl (by kernel_rfl) (x:=?_) (fun _ _ _ h=>h) ?_ hS ?_
  rotate_left 1
  ·intro v hv;go_simp;first|done|rfl
  try simp only[zjA]
  refine qaf.step2 0 8 (by kernel_rfl) rfl rfl (fun C hC=>?_) (fun C hC=>?_)
  ·go_simp
   go_at_call 30
   refine (qp9 wd).mono ?_
   rintro e w4 ⟨b,rfl,hM,b4⟩
   have hsz:=HBd.out.size
   have b34:=HBd.out.trans (b4.mono hsz)
   have hb0':b0<wd.heap.size:=World.block_lt_of_cell? _ _ hS
   replace hS:(fun W=>W.cell? ⟨b0,o0,none⟩=some (.string w0)) w4:=(b4.cell (p:=⟨b0,o0,none⟩) hb0').trans hS
   go_wp2_with fail
   refine hC.out _ _ (fun _=>hS) ?_
   clear hC C
   try simp only[zjA]
   refine qaf.weak (S':=(fun W=>W.cell? ⟨b0,o0,none⟩=some (.string w0)∧W.heap[b]?=some (.map qeq 6))) (fun _ h=>h.1) _ _ _ _ ?_
   have hS:(fun W=>W.cell? ⟨b0,o0,none⟩=some (.string w0)∧W.heap[b]?=some (.map qeq 6)) w4:=⟨hS,hM⟩
   refine zjT 4 21 rfl rfl (by kernel_rfl) (x:=(.tuple #[.agg #[.int .u8 ov,.int .i64 kv,.bool p,fv],.bool kn])) (fun _ _ _ h=>h) ?_ hS ?_
   ·intro v hv;have hl:=HL.out b v hv.2;go_simp;first|done|rfl
   try simp only[zjA]
   refine zjT 5 16 rfl rfl (by kernel_rfl) (x:=?_) (fun _ _ _ h=>h) ?_ hS ?_
   rotate_left 1
   ·intro v hv;go_simp;first|done|rfl
   try simp only[zjA]
   refine zjT 6 22 rfl rfl (by kernel_rfl) (x:=?_) (fun _ _ _ h=>h) ?_ hS ?_
   rotate_left 1
   ·intro v hv;go_simp;first|done|rfl
   try simp only[zjA]
   refine zjT 7 23 rfl rfl (by kernel_rfl) (x:=?_) (fun _ _ _ h=>h) ?_ hS ?_
   rotate_left 1
   ·intro v hv;go_simp;first|done|rfl
   try simp only[zjA]
   have hb4:=(Array.getElem?_eq_some_iff.1 hM).1
   have hb0':b0<w4.heap.size:=World.block_lt_of_cell? _ _ hS.1
   have ba:=zjB w4 (.cells #[.int .u8 0,.int .i64 0,.bool false,.nilFunc] 52)
   have ha:=heap_alloc_new w4 (.cells #[.int .u8 0,.int .i64 0,.bool false,.nilFunc] 52)
   have hz:=zeroF w4
   have hSa:(fun W=>W.cell? ⟨b0,o0,none⟩=some (.string w0)∧W.heap[b]?=some (.map qeq 6)) (w4.alloc (.cells #[.int .u8 0,.int .i64 0,.bool false,.nilFunc] 52)):=⟨(ba.cell (p:=⟨b0,o0,none⟩) hb0').trans hS.1,(ba.block b hb4).trans hM⟩
   refine Ord.qaf.step 8 (by kernel_rfl) rfl (fun C hC=>?_)
   go_simp
   refine hC.out _ _ (fun _=>hSa) ?_
   clear hC C
   try simp only[zjA]
   have hS:=hSa
   have h4:=b34.size
   generalize w4.alloc (.cells #[.int .u8 0,.int .i64 0,.bool false,.nilFunc] 52)=w5 at *
   obtain⟨u,hu⟩:∃u,w4.heap.size=u:=⟨_,rfl⟩
   rw[hu] at ha ba hb4 hb0' h4 ⊢
   have hb0u:b0<u:=hb0'
   have hbu:b≠u:=by omega
   have hle:w2.heap.size≤u:=h4
   have hB5:=b34.trans (ba.mono hle)
   have f0:∀o,w5.frozen? ⟨u,o,none⟩=false:=fun o=>frozen_of_row _ _ o _ _ ha
   have zze:=fun k=>zjc u k ha
   have r1:=heap_setCell_same _ u 0 _ _ (.int .u8 ov) ha
   have f1:=fun o=>frozen_of_row _ _ o _ _ r1
   have e11:=zjc u 1 r1
   have r2:=heap_setCell_same _ u 1 _ _ (.int .i64 kv) r1
   have f2:=fun o=>frozen_of_row _ _ o _ _ r2
   have e22:=zjc u 2 r2
   have r3:=heap_setCell_same _ u 2 _ _ (.bool p) r2
   have f3:=fun o=>frozen_of_row _ _ o _ _ r3
   have e33:=zjc u 3 r3
   have r4:=heap_setCell_same _ u 3 _ _ fv r3
   have hbs:Below u w5 ((((w5.setCell ⟨u,0,none⟩ (.int .u8 ov)).setCell ⟨u,1,none⟩ (.int .i64 kv)).setCell ⟨u,2,none⟩ (.bool p)).setCell ⟨u,3,none⟩ fv):=((((Below.refl u w5).setCell (p:=⟨u,0,none⟩) zjn _).setCell (p:=⟨u,1,none⟩) zjn _).setCell (p:=⟨u,2,none⟩) zjn _).setCell (p:=⟨u,3,none⟩) zjn _
   have hSb:(fun W=>W.cell? ⟨b0,o0,none⟩=some (.string w0)∧W.heap[b]?=some (.map qeq 6)) ((((w5.setCell ⟨u,0,none⟩ (.int .u8 ov)).setCell ⟨u,1,none⟩ (.int .i64 kv)).setCell ⟨u,2,none⟩ (.bool p)).setCell ⟨u,3,none⟩ fv):=⟨(hbs.cell (p:=⟨b0,o0,none⟩) hb0u).trans hS.1,(qi9 hbu [.int .u8 ov,.int .i64 kv,.bool p,fv] 0 w5).trans hS.2⟩
   have hst:=fun (W:World) (a:Addr) (m:Mode)=>run_store Tryz.prog W a fv m HO.out.one
   have HB6:=hid (hB5.trans (hbs.mono hle))
   have Hrow:=hid r4
   clear hbs r4
   refine Ord.qaf.step 9 (by kernel_rfl) rfl (fun C hC=>?_)
   go_simp
   refine hC.out _ _ (fun _=>hSb) ?_
   clear hC C
   try simp only[zjA]
   have hS:=hSb
   refine Ord.qaf.step 10 (by kernel_rfl) rfl (fun C hC=>?_)
   go_simp
   refine hC.out _ _ (fun _=>hS) ?_
   clear hC C
   try simp only[zjA]
   refine Ord.qaf.done (by kernel_rfl) ?_ _
   go_wp2_with fail
   go_meet
   exact⟨u,rfl,rfl,Hrow.out,hle,HB6.out⟩
  ·have ba:=(Below.refl wd.heap.size wd).alloc zjn (.cells #[.int .u8 0,.int .i64 0,.bool false,.nilFunc] 52)
   have ha:=heap_alloc_new wd (.cells #[.int .u8 0,.int .i64 0,.bool false,.nilFunc] 52)
   have hz:=zeroF wd
   have hb0':b0<wd.heap.size:=World.block_lt_of_cell? _ _ hS
   have hSa:(fun W=>W.cell? ⟨b0,o0,none⟩=some (.string w0)) (wd.alloc (.cells #[.int .u8 0,.int .i64 0,.bool false,.nilFunc] 52)):=(ba.cell (p:=⟨b0,o0,none⟩) hb0').trans hS
   go_simp
   refine hC.out _ _ (fun _=>hSa) ?_
   clear hC C
   try simp only[zjA]
   have hS:=hSa
   have hd:=HBd.out.size
   have hszd:=World.size_alloc wd (.cells #[.int .u8 0,.int .i64 0,.bool false,.nilFunc] 52)
   have hBd:=HBd.out.trans (ba.mono hd)
   generalize wd.alloc (.cells #[.int .u8 0,.int .i64 0,.bool false,.nilFunc] 52)=w3 at *
   obtain⟨u,hu⟩:∃u,wd.heap.size=u:=⟨_,rfl⟩
   rw[hu] at ha hb0' hd hszd ⊢
   have hb0u:b0<u:=hb0'
   have hle:w2.heap.size≤u:=hd
   clear ba hz hu hSa
   refine Ord.qaf.step 0 (by kernel_rfl) rfl (fun C hC=>?_)
   go_simp
   go_at_call 30
   refine (qp9 w3).mono ?_
   rintro e w5 ⟨b,rfl,hM,b4⟩
   have hsz:=hBd.size
   have b34:=hBd.trans (b4.mono hsz)
   have hb0':b0<w3.heap.size:=World.block_lt_of_cell? _ _ hS
   replace hS:(fun W=>W.cell? ⟨b0,o0,none⟩=some (.string w0)) w5:=(b4.cell (p:=⟨b0,o0,none⟩) hb0').trans hS
   go_wp2_with fail
   refine hC.out _ _ (fun _=>hS) ?_
   clear hC C
   try simp only[zjA]
   refine qaf.weak (S':=(fun W=>W.cell? ⟨b0,o0,none⟩=some (.string w0)∧W.heap[b]?=some (.map qeq 6))) (fun _ h=>h.1) _ _ _ _ ?_
   have hS:(fun W=>W.cell? ⟨b0,o0,none⟩=some (.string w0)∧W.heap[b]?=some (.map qeq 6)) w5:=⟨hS,hM⟩
   refine zjT 4 21 rfl rfl (by kernel_rfl) (x:=(.tuple #[.agg #[.int .u8 ov,.int .i64 kv,.bool p,fv],.bool kn])) (fun _ _ _ h=>h) ?_ hS ?_
   ·intro v hv;have hl:=HL.out b v hv.2;go_simp;first|done|rfl
   try simp only[zjA]
   refine zjT 5 16 rfl rfl (by kernel_rfl) (x:=?_) (fun _ _ _ h=>h) ?_ hS ?_
   rotate_left 1
   ·intro v hv;go_simp;first|done|rfl
   try simp only[zjA]
   refine zjT 6 22 rfl rfl (by kernel_rfl) (x:=?_) (fun _ _ _ h=>h) ?_ hS ?_
   rotate_left 1
   ·intro v hv;go_simp;first|done|rfl
   try simp only[zjA]
   refine zjT 7 23 rfl rfl (by kernel_rfl) (x:=?_) (fun _ _ _ h=>h) ?_ hS ?_
   rotate_left 1
   ·intro v hv;go_simp;first|done|rfl
   try simp only[zjA]
   replace ha:=(b4.block u (by omega)).trans ha
   have hbu:b≠u:=by rintro rfl;rw[ha] at hM;cases hM
   have hB5:=b34
   have f0:∀o,w5.frozen? ⟨u,o,none⟩=false:=fun o=>frozen_of_row _ _ o _ _ ha
   have zze:=fun k=>zjc u k ha
   have r1:=heap_setCell_same _ u 0 _ _ (.int .u8 ov) ha
   have f1:=fun o=>frozen_of_row _ _ o _ _ r1
   have e11:=zjc u 1 r1
   have r2:=heap_setCell_same _ u 1 _ _ (.int .i64 kv) r1
   have f2:=fun o=>frozen_of_row _ _ o _ _ r2
   have e22:=zjc u 2 r2
   have r3:=heap_setCell_same _ u 2 _ _ (.bool p) r2
   have f3:=fun o=>frozen_of_row _ _ o _ _ r3
   have e33:=zjc u 3 r3
   have r4:=heap_setCell_same _ u 3 _ _ fv r3
   have hbs:Below u w5 ((((w5.setCell ⟨u,0,none⟩ (.int .u8 ov)).setCell ⟨u,1,none⟩ (.int .i64 kv)).setCell ⟨u,2,none⟩ (.bool p)).setCell ⟨u,3,none⟩ fv):=((((Below.refl u w5).setCell (p:=⟨u,0,none⟩) zjn _).setCell (p:=⟨u,1,none⟩) zjn _).setCell (p:=⟨u,2,none⟩) zjn _).setCell (p:=⟨u,3,none⟩) zjn _
   have hSb:(fun W=>W.cell? ⟨b0,o0,none⟩=some (.string w0)∧W.heap[b]?=some (.map qeq 6)) ((((w5.setCell ⟨u,0,none⟩ (.int .u8 ov)).setCell ⟨u,1,none⟩ (.int .i64 kv)).setCell ⟨u,2,none⟩ (.bool p)).setCell ⟨u,3,none⟩ fv):=⟨(hbs.cell (p:=⟨b0,o0,none⟩) hb0u).trans hS.1,(qi9 hbu [.int .u8 ov,.int .i64 kv,.bool p,fv] 0 w5).trans hS.2⟩
   have hst:=fun (W:World) (a:Addr) (m:Mode)=>run_store Tryz.prog W a fv m HO.out.one
   have HB6:=hid (hB5.trans (hbs.mono hle))
   have Hrow:=hid r4
   clear hbs r4
   refine Ord.qaf.step 9 (by kernel_rfl) rfl (fun C hC=>?_)
   go_simp
   refine hC.out _ _ (fun _=>hSb) ?_
   clear hC C
   try simp only[zjA]
   have hS:=hSb
   refine Ord.qaf.step 10 (by kernel_rfl) rfl (fun C hC=>?_)
   go_simp
   refine hC.out _ _ (fun _=>hS) ?_
   clear hC C
   try simp only[zjA]
   refine Ord.qaf.done (by kernel_rfl) ?_ _
   go_wp2_with fail
   go_meet
   exact⟨u,rfl,rfl,Hrow.out,hle,HB6.out⟩
 case rest=>
  obtain⟨wk,rfl⟩:∃wk,wk=wc:=⟨_,rfl⟩
  obtain⟨u,rfl,rfl,hu,hle,hb⟩:=hcut
  have hbs:=hb.size
  replace HR:=hid (HR.out.on hb)
  have HU:=hid hu
  replace HW:=hid fun (W:World) (h:Below wk.heap.size wk W)=>HW.out W (hb.trans (h.mono hbs))
  have hul:=(Array.getElem?_eq_some_iff.1 hu).1
  obtain⟨A1,hA1⟩:∃A1,frS (some ⟨b0,o0,none⟩) c 1=A1:=⟨_,rfl⟩
  obtain⟨c1,hc1⟩:∃c1,c-1=c1:=⟨_,rfl⟩
  have hsl:∀W,(Instr.slice 26 (.slice (some ⟨b0,o0,none⟩) (m+1) c) (some (.int .i64 1)) none none).run Tryz.prog W=.ok (.slice A1 m c1) W:=fun W=>by
   rw[←hA1,←hc1]
   exact qsx (some ⟨b0,o0,none⟩) (m+1) c 1 (by omega) HC.out.1 W
  have Hmc:Hid (m≤c1):=hid (by have:=HC.out.1;omega)
  replace HW:=hid fun (W:World) (h:Below wk.heap.size wk W)=>(by have:=qw9 (k:=1) (HW.out W h) (by omega) HC.out.1;rw[hA1] at this;exact this:JS.Rd W w2.heap.size A1 m r)
  replace HF:=hid fun (W:World) (h:Below wk.heap.size wk W)=>(HF.out W (HR.out.b.trans (h.mono (by have:=HR.out.s;omega))))
  have Hle2:Hid (w2.heap.size≤wk.heap.size):=hid hbs
  clear hu hb HL hA1 hc1 hbs hle
  go_upto_region 4 with fail
  clear hsl hm0 hb0
  cases kn
  case false=>
   have HA:=hid (ask_no (fs:=fs) (r:=r) (HO.out.no rfl))
   clear HO HU
   have hfin:=HR.out.fin (f:=#[.int .u8 0,.int .i64 0,.bool false,.nilFunc]) (c:=#[.int .u8 0,.string ⟨#[]⟩,.int .i64 0,.int .i64 0,.int .i64 0,.int .i64 0,.slice none 0 0,.string ⟨#[]⟩,.int .i64 0,.string ⟨#[]⟩]) rfl rfl
   have hx:=fun k=>cell_of_row _ (g+1) k _ _ _ (HR.out.mid #[.int .u8 0,.int .i64 0,.bool false,.nilFunc])
   have fx:=fun o=>frozen_of_row _ (g+1) o _ _ (HR.out.mid #[.int .u8 0,.int .i64 0,.bool false,.nilFunc])
   simp only[qdi,Nat.reduceAdd] at hfin hx fx
   obtain⟨hl1,hl2,hB⟩:=hfin
   have HB:=hid hB
   have e0:=zjc g 0 HR.out.r0
   have e1:=zjc g 1 HR.out.r0
   have e2:=zjc g 2 HR.out.r0
   have e3:=zjc g 3 HR.out.r0
   have x0:=hx 0
   have x1:=hx 1
   have x2:=hx 2
   have x3:=hx 3
   have x4:=hx 4
   have x5:=hx 5
   have x6:=hx 6
   have x7:=hx 7
   have x8:=hx 8
   have x9:=hx 9
   have fw:∀o,wk.frozen? ⟨g,o,none⟩=false:=fun o=>frozen_of_row _ _ o _ _ HR.out.r0
   have HP:=hid (show Qbb (ask fs (w0::r)) w (.returned (.tuple #[.agg #[.int .u8 0,.int .i64 0,.bool false,.nilFunc],.agg #[.int .u8 0,.string ⟨#[]⟩,.int .i64 0,.int .i64 0,.int .i64 0,.int .i64 0,.slice none 0 0,.string ⟨#[]⟩,.int .i64 0,.string ⟨#[]⟩],.int .i64 17])) _ from ⟨_,_,_,_,qZ,by rw[HA.out];rfl,fun e0=>absurd ((congrArg Prod.snd HA.out).symm.trans e0) (by decide),.inl rfl,by rw[Hg.out];exact HB.out⟩)
   clear hx hB HB HA HF HW
   go_wp2_with fail
   exact bodyPost_ret (v:=.tuple #[.agg #[.int .u8 0,.int .i64 0,.bool false,.nilFunc],.agg #[.int .u8 0,.string ⟨#[]⟩,.int .i64 0,.int .i64 0,.int .i64 0,.int .i64 0,.slice none 0 0,.string ⟨#[]⟩,.int .i64 0,.string ⟨#[]⟩],.int .i64 17]) (by simp[results,Tryz.results23,asAddr,hl1,hl2]) rfl HP.out
  obtain⟨op,hop,rfl,rfl,rfl,rfl⟩:=HO.out.yes rfl
  have Hop:=hid hop
  have u1:=zjc u 1 HU.out
  clear HO hop
  by_cases hlt:m<nW op
  case pos=>
   have HA:=hid (Qbe (fs:=fs) (r:=r) Hop.out (.inl (by rw[Hm.out];exact hlt)))
   have hlti:(m:Int)<((nW op:Nat):Int):=by omega
   clear HU hlt
   have hfin:=HR.out.fin (f:=#[.int .u8 0,.int .i64 0,.bool false,.nilFunc]) (c:=#[.int .u8 0,.string ⟨#[]⟩,.int .i64 0,.int .i64 0,.int .i64 0,.int .i64 0,.slice none 0 0,.string ⟨#[]⟩,.int .i64 0,.string ⟨#[]⟩]) rfl rfl
   have hx:=fun k=>cell_of_row _ (g+1) k _ _ _ (HR.out.mid #[.int .u8 0,.int .i64 0,.bool false,.nilFunc])
   have fx:=fun o=>frozen_of_row _ (g+1) o _ _ (HR.out.mid #[.int .u8 0,.int .i64 0,.bool false,.nilFunc])
   simp only[qdi,Nat.reduceAdd] at hfin hx fx
   obtain⟨hl1,hl2,hB⟩:=hfin
   have HB:=hid hB
   have e0:=zjc g 0 HR.out.r0
   have e1:=zjc g 1 HR.out.r0
   have e2:=zjc g 2 HR.out.r0
   have e3:=zjc g 3 HR.out.r0
   have x0:=hx 0
   have x1:=hx 1
   have x2:=hx 2
   have x3:=hx 3
   have x4:=hx 4
   have x5:=hx 5
   have x6:=hx 6
   have x7:=hx 7
   have x8:=hx 8
   have x9:=hx 9
   have fw:∀o,wk.frozen? ⟨g,o,none⟩=false:=fun o=>frozen_of_row _ _ o _ _ HR.out.r0
   have HP:=hid (show Qbb (ask fs (w0::r)) w (.returned (.tuple #[.agg #[.int .u8 0,.int .i64 0,.bool false,.nilFunc],.agg #[.int .u8 0,.string ⟨#[]⟩,.int .i64 0,.int .i64 0,.int .i64 0,.int .i64 0,.slice none 0 0,.string ⟨#[]⟩,.int .i64 0,.string ⟨#[]⟩],.int .i64 17])) _ from ⟨_,_,_,_,qZ,by rw[HA.out];rfl,fun e0=>absurd ((congrArg Prod.snd HA.out).symm.trans e0) (by decide),.inl rfl,by rw[Hg.out];exact HB.out⟩)
   clear hx hB HB HA HF HW
   go_wp2_with fail
   exact bodyPost_ret (v:=.tuple #[.agg #[.int .u8 0,.int .i64 0,.bool false,.nilFunc],.agg #[.int .u8 0,.string ⟨#[]⟩,.int .i64 0,.int .i64 0,.int .i64 0,.int .i64 0,.slice none 0 0,.string ⟨#[]⟩,.int .i64 0,.string ⟨#[]⟩],.int .i64 17]) (by simp[results,Tryz.results23,asAddr,hl1,hl2]) rfl HP.out
  have hlti:¬(m:Int)<((nW op:Nat):Int):=by omega
  have HNr:Hid (¬r.length<nW op):=hid (by rw[Hm.out];exact hlt)
  have HNm:Hid (nW op≤m):=hid (by omega)
  go_upto_region 6 with fail
  clear hlti hlt u1
  obtain⟨PL,hPL⟩:∃PL,plW (mvW op) (r.drop (nW op))=PL:=⟨_,rfl⟩
  have HPLe:=hid hPL
  obtain⟨A2,hA2⟩:∃A2,frS A1 c1 (nW op)=A2:=⟨_,rfl⟩
  obtain⟨m2,hm2⟩:∃m2,m-nW op=m2:=⟨_,rfl⟩
  obtain⟨c2,hc2⟩:∃c2,c1-nW op=c2:=⟨_,rfl⟩
  have hsl:∀W,(Instr.slice 26 (.slice A1 m c1) (some (.int .i64 ((nW op:Nat):Int))) none none).run Tryz.prog W=.ok (.slice A2 m2 c2) W:=fun W=>by
   rw[←hA2,←hm2,←hc2]
   exact qsx A1 m c1 (nW op) HNm.out Hmc.out W
  have HPC:=hid fun (W:World) (h:Below wk.heap.size wk W)=>quc (op.toNat:Int) ((nW op:Nat):Int) (mvW op) (qjg op) w2.heap.size A2 m2 c2 (r.drop (nW op)) W (by have:=qw9 (k:=nW op) (HW.out W h) HNm.out Hmc.out;rw[hA2,hm2] at this;exact this) (by have:=h.size;have:=Hle2.out;omega) (by omega)
  rw[hPL] at HPC
  have HEQ:=hid (plaO_eq PL)
  rw[HEQ.out] at HPC
  obtain⟨z,hz⟩:∃z,plZ PL=z:=⟨_,rfl⟩
  obtain⟨a,ha0⟩:∃a,plA PL=a:=⟨_,rfl⟩
  obtain⟨kp,hkp⟩:∃kp,PL.isSome=kp:=⟨_,rfl⟩
  have HZ:=hid (And.intro hz (And.intro ha0 hkp))
  rw[hz,ha0,hkp] at HPC
  unfold fnV at HU HPC
  clear hPL hA2 hm2 hc2 hz ha0 hkp HEQ
  go_cut [9,11] from 37 (fun s9 s11 W=>∃v,s11=.pointer (some ⟨v,0,none⟩)∧s9=.bool kp∧W.heap[v]?=some (.cells #[.int .i64 z,.string a] 54 (0,0))∧wk.heap.size≤v∧Below wk.heap.size wk W)
  case first=>
   have hbd:Below wk.heap.size wk wk.drew:=(Below.refl _ _).drew
   have hS:(fun W=>W.heap[u]?=some (.cells #[.int .u8 (op.toNat:Int),.int .i64 ((nW op:Nat):Int),.bool (mvW op),.func (.func (qjg op)) #[] #[]] 52 (0,0))) wk.drew:=HU.out
   have HBd:=hid hbd
   refine Ord.qaf.begin (fun W=>W.heap[u]?=some (.cells #[.int .u8 (op.toNat:Int),.int .i64 ((nW op:Nat):Int),.bool (mvW op),.func (.func (qjg op)) #[] #[]] 52 (0,0))) 11 (by kernel_rfl) ?_
   generalize wk.drew=wd at *
   clear hbd
   refine zjT 0 38 rfl rfl (by kernel_rfl) (x:=(.agg #[.int .u8 (op.toNat:Int),.int .i64 ((nW op:Nat):Int),.bool (mvW op),.func (.func (qjg op)) #[] #[]])) (fun _ _ _ h=>h) ?_ hS ?_
   ·intro v hv;have hl:=qpe hv rfl;have d0:=cell_of_row _ u 0 _ _ _ hv;have d1:=cell_of_row _ u 1 _ _ _ hv;have d2:=cell_of_row _ u 2 _ _ _ hv;have d3:=cell_of_row _ u 3 _ _ _ hv;go_simp;first|done|rfl
   try simp only[zjA]
   refine zjT 1 39 rfl rfl (by kernel_rfl) (x:=?_) (fun _ _ _ h=>h) ?_ hS ?_
   rotate_left 1
   ·intro v hv;go_simp;first|done|rfl
   try simp only[zjA]
   refine zjT 2 40 rfl rfl (by kernel_rfl) (x:=?_) (fun _ _ _ h=>h) ?_ hS ?_
   rotate_left 1
   ·intro v hv;go_simp;first|done|rfl
   try simp only[zjA]
   refine zjT 3 41 rfl rfl (by kernel_rfl) (x:=(.int .i64 ((nW op:Nat):Int))) (fun _ _ _ h=>h) ?_ hS ?_
   ·intro v hv;have hl:=qpe hv rfl;have d0:=cell_of_row _ u 0 _ _ _ hv;have d1:=cell_of_row _ u 1 _ _ _ hv;have d2:=cell_of_row _ u 2 _ _ _ hv;have d3:=cell_of_row _ u 3 _ _ _ hv;go_simp;first|done|rfl
   try simp only[zjA]
   refine zjT 4 42 rfl rfl (by kernel_rfl) (x:=(.slice A2 m2 c2)) (fun _ _ _ h=>h) ?_ hS ?_
   ·intro v hv;have hq:=hsl v;go_simp;first|done|rfl
   try simp only[zjA]
   refine qaf.step2 5 9 (by kernel_rfl) rfl rfl (fun C hC=>?_) (fun C hC=>?_)
   ·go_simp
    go_at_call 31
    refine (HPC.out wd HBd.out).mono ?_
    rintro e w4 ⟨rfl,b4⟩
    have hsz:=HBd.out.size
    have b34:=HBd.out.trans (b4.mono hsz)
    have hu0:u<wd.heap.size:=(Array.getElem?_eq_some_iff.1 hS).1
    replace hS:(fun W=>W.heap[u]?=some (.cells #[.int .u8 (op.toNat:Int),.int .i64 ((nW op:Nat):Int),.bool (mvW op),.func (.func (qjg op)) #[] #[]] 52 (0,0))) w4:=(b4.block u hu0).trans hS
    go_wp2_with fail
    refine hC.out _ _ (fun _=>hS) ?_
    clear hC C
    try simp only[zjA]
    refine zjT 6 37 rfl rfl (by kernel_rfl) (x:=?_) (fun _ _ _ h=>h) ?_ hS ?_
    rotate_left 1
    ·intro v hv;go_simp;first|done|rfl
    try simp only[zjA]
    refine zjT 7 44 rfl rfl (by kernel_rfl) (x:=?_) (fun _ _ _ h=>h) ?_ hS ?_
    rotate_left 1
    ·intro v hv;go_simp;first|done|rfl
    try simp only[zjA]
    refine zjT 8 45 rfl rfl (by kernel_rfl) (x:=?_) (fun _ _ _ h=>h) ?_ hS ?_
    rotate_left 1
    ·intro v hv;go_simp;first|done|rfl
    try simp only[zjA]
    have hu0:u<w4.heap.size:=(Array.getElem?_eq_some_iff.1 hS).1
    have ba:=(Below.refl w4.heap.size w4).alloc zjn (.cells #[.int .i64 0,.string ⟨#[]⟩] 54)
    have ha:=heap_alloc_new w4 (.cells #[.int .i64 0,.string ⟨#[]⟩] 54)
    have hSa:(fun W=>W.heap[u]?=some (.cells #[.int .u8 (op.toNat:Int),.int .i64 ((nW op:Nat):Int),.bool (mvW op),.func (.func (qjg op)) #[] #[]] 52 (0,0))) (w4.alloc (.cells #[.int .i64 0,.string ⟨#[]⟩] 54)):=(ba.block u hu0).trans hS
    refine Ord.qaf.step 9 (by kernel_rfl) rfl (fun C hC=>?_)
    go_simp
    refine hC.out _ _ (fun _=>hSa) ?_
    clear hC C
    try simp only[zjA]
    have hS:=hSa
    have h4:=b34.size
    generalize w4.alloc (.cells #[.int .i64 0,.string ⟨#[]⟩] 54)=w5 at *
    obtain⟨v,hv⟩:∃v,w4.heap.size=v:=⟨_,rfl⟩
    rw[hv] at ha ba hu0 h4 ⊢
    have huv:u<v:=hu0
    have hle:wk.heap.size≤v:=h4
    have hB5:=b34.trans (ba.mono hle)
    have f0:∀o,w5.frozen? ⟨v,o,none⟩=false:=fun o=>frozen_of_row _ _ o _ _ ha
    have e0:=zjc v 0 ha
    have e1:=zjc v 1 ha
    have r1:=heap_setCell_same _ v 0 _ _ (.int .i64 z) ha
    have r2:=heap_setCell_same _ v 1 _ _ (.string a) r1
    have f1:=fun o=>frozen_of_row _ _ o _ _ r1
    have e2:=zjc v 1 r1
    have hbs:Below v w5 ((w5.setCell ⟨v,0,none⟩ (.int .i64 z)).setCell ⟨v,1,none⟩ (.string a)):=((Below.refl v w5).setCell (p:=⟨v,0,none⟩) zjn _).setCell (p:=⟨v,1,none⟩) zjn _
    have hSb:(fun W=>W.heap[u]?=some (.cells #[.int .u8 (op.toNat:Int),.int .i64 ((nW op:Nat):Int),.bool (mvW op),.func (.func (qjg op)) #[] #[]] 52 (0,0))) ((w5.setCell ⟨v,0,none⟩ (.int .i64 z)).setCell ⟨v,1,none⟩ (.string a)):=(hbs.block u huv).trans hS
    have HB6:=hid (hB5.trans (hbs.mono hle))
    have Hrow:=hid r2
    clear hbs r2
    refine Ord.qaf.step 10 (by kernel_rfl) rfl (fun C hC=>?_)
    go_simp
    refine hC.out _ _ (fun _=>hSb) ?_
    clear hC C
    try simp only[zjA]
    have hS:=hSb
    refine Ord.qaf.step 11 (by kernel_rfl) rfl (fun C hC=>?_)
    go_simp
    refine hC.out _ _ (fun _=>hS) ?_
    clear hC C
    try simp only[zjA]
    refine Ord.qaf.done (by kernel_rfl) ?_ _
    go_wp2_with fail
    go_meet
    exact⟨v,rfl,rfl,Hrow.out,hle,HB6.out⟩
   ·have ba:=(Below.refl wd.heap.size wd).alloc zjn (.cells #[.int .i64 0,.string ⟨#[]⟩] 54)
    have ha:=heap_alloc_new wd (.cells #[.int .i64 0,.string ⟨#[]⟩] 54)
    have hu0:u<wd.heap.size:=(Array.getElem?_eq_some_iff.1 hS).1
    have hSa:(fun W=>W.heap[u]?=some (.cells #[.int .u8 (op.toNat:Int),.int .i64 ((nW op:Nat):Int),.bool (mvW op),.func (.func (qjg op)) #[] #[]] 52 (0,0))) (wd.alloc (.cells #[.int .i64 0,.string ⟨#[]⟩] 54)):=(ba.block u hu0).trans hS
    go_simp
    refine hC.out _ _ (fun _=>hSa) ?_
    clear hC C
    try simp only[zjA]
    have hS:=hSa
    have hd:=HBd.out.size
    have hszd:=World.size_alloc wd (.cells #[.int .i64 0,.string ⟨#[]⟩] 54)
    have hBd:=HBd.out.trans (ba.mono hd)
    generalize wd.alloc (.cells #[.int .i64 0,.string ⟨#[]⟩] 54)=w3 at *
    obtain⟨v,hv⟩:∃v,wd.heap.size=v:=⟨_,rfl⟩
    rw[hv] at ha hu0 hd hszd ⊢
    have huv:u<v:=hu0
    have hle:wk.heap.size≤v:=hd
    clear ba hv hSa hu0
    refine Ord.qaf.step 5 (by kernel_rfl) rfl (fun C hC=>?_)
    go_simp
    go_at_call 31
    refine (HPC.out w3 hBd).mono ?_
    rintro e w5 ⟨rfl,b4⟩
    have hsz:=hBd.size
    have b34:=hBd.trans (b4.mono hsz)
    have hu0:u<w3.heap.size:=(Array.getElem?_eq_some_iff.1 hS).1
    replace hS:(fun W=>W.heap[u]?=some (.cells #[.int .u8 (op.toNat:Int),.int .i64 ((nW op:Nat):Int),.bool (mvW op),.func (.func (qjg op)) #[] #[]] 52 (0,0))) w5:=(b4.block u hu0).trans hS
    go_wp2_with fail
    refine hC.out _ _ (fun _=>hS) ?_
    clear hC C
    try simp only[zjA]
    refine zjT 6 37 rfl rfl (by kernel_rfl) (x:=?_) (fun _ _ _ h=>h) ?_ hS ?_
    rotate_left 1
    ·intro v hv;go_simp;first|done|rfl
    try simp only[zjA]
    refine zjT 7 44 rfl rfl (by kernel_rfl) (x:=?_) (fun _ _ _ h=>h) ?_ hS ?_
    rotate_left 1
    ·intro v hv;go_simp;first|done|rfl
    try simp only[zjA]
    refine zjT 8 45 rfl rfl (by kernel_rfl) (x:=?_) (fun _ _ _ h=>h) ?_ hS ?_
    rotate_left 1
    ·intro v hv;go_simp;first|done|rfl
    try simp only[zjA]
    replace ha:=(b4.block v (by omega)).trans ha
    have hB5:=b34
    have f0:∀o,w5.frozen? ⟨v,o,none⟩=false:=fun o=>frozen_of_row _ _ o _ _ ha
    have e0:=zjc v 0 ha
    have e1:=zjc v 1 ha
    have r1:=heap_setCell_same _ v 0 _ _ (.int .i64 z) ha
    have r2:=heap_setCell_same _ v 1 _ _ (.string a) r1
    have f1:=fun o=>frozen_of_row _ _ o _ _ r1
    have e2:=zjc v 1 r1
    have hbs:Below v w5 ((w5.setCell ⟨v,0,none⟩ (.int .i64 z)).setCell ⟨v,1,none⟩ (.string a)):=((Below.refl v w5).setCell (p:=⟨v,0,none⟩) zjn _).setCell (p:=⟨v,1,none⟩) zjn _
    have hSb:(fun W=>W.heap[u]?=some (.cells #[.int .u8 (op.toNat:Int),.int .i64 ((nW op:Nat):Int),.bool (mvW op),.func (.func (qjg op)) #[] #[]] 52 (0,0))) ((w5.setCell ⟨v,0,none⟩ (.int .i64 z)).setCell ⟨v,1,none⟩ (.string a)):=(hbs.block u huv).trans hS
    have HB6:=hid (hB5.trans (hbs.mono hle))
    have Hrow:=hid r2
    clear hbs r2
    refine Ord.qaf.step 10 (by kernel_rfl) rfl (fun C hC=>?_)
    go_simp
    refine hC.out _ _ (fun _=>hSb) ?_
    clear hC C
    try simp only[zjA]
    have hS:=hSb
    refine Ord.qaf.step 11 (by kernel_rfl) rfl (fun C hC=>?_)
    go_simp
    refine hC.out _ _ (fun _=>hS) ?_
    clear hC C
    try simp only[zjA]
    refine Ord.qaf.done (by kernel_rfl) ?_ _
    go_wp2_with fail
    go_meet
    exact⟨v,rfl,rfl,Hrow.out,hle,HB6.out⟩
  case rest=>
   obtain⟨v,rfl,rfl,hv,hle,hb⟩:=hcut
   have hbs:=hb.size
   replace HR:=hid (HR.out.on hb)
   replace HU:=hid ((hb.block u hul).trans HU.out)
   have HV:=hid hv
   have hvl:=(Array.getElem?_eq_some_iff.1 hv).1
   replace HW:=hid fun (W:World) (h:Below wc.heap.size wc W)=>(HW.out W (hb.trans (h.mono hbs))).more (show w2.heap.size≤wc.heap.size by have:=Hle2.out;omega)
   replace HF:=hid fun (W:World) (h:Below wc.heap.size wc W)=>(HF.out W (hb.trans (h.mono hbs)))
   have hul2:u<wc.heap.size:=by omega
   clear hv hb hbs HPC hsl hle hul
   go_upto_region 7 with fail
   obtain⟨hz1,ha1,hk1⟩:=HZ.out
   rcases PL with _|⟨z',a'⟩
   case none=>
    obtain rfl:kp=false:=hk1.symm
    have HA:=hid (Qbe (fs:=fs) (r:=r) Hop.out (.inr HPLe.out))
    clear HZ hz1 ha1 hk1 HU HV
    have hfin:=HR.out.fin (f:=#[.int .u8 0,.int .i64 0,.bool false,.nilFunc]) (c:=#[.int .u8 0,.string ⟨#[]⟩,.int .i64 0,.int .i64 0,.int .i64 0,.int .i64 0,.slice none 0 0,.string ⟨#[]⟩,.int .i64 0,.string ⟨#[]⟩]) rfl rfl
    have hx:=fun k=>cell_of_row _ (g+1) k _ _ _ (HR.out.mid #[.int .u8 0,.int .i64 0,.bool false,.nilFunc])
    have fx:=fun o=>frozen_of_row _ (g+1) o _ _ (HR.out.mid #[.int .u8 0,.int .i64 0,.bool false,.nilFunc])
    simp only[qdi,Nat.reduceAdd] at hfin hx fx
    obtain⟨hl1,hl2,hB⟩:=hfin
    have HB:=hid hB
    have e0:=zjc g 0 HR.out.r0
    have e1:=zjc g 1 HR.out.r0
    have e2:=zjc g 2 HR.out.r0
    have e3:=zjc g 3 HR.out.r0
    have x0:=hx 0
    have x1:=hx 1
    have x2:=hx 2
    have x3:=hx 3
    have x4:=hx 4
    have x5:=hx 5
    have x6:=hx 6
    have x7:=hx 7
    have x8:=hx 8
    have x9:=hx 9
    have fw:∀o,wc.frozen? ⟨g,o,none⟩=false:=fun o=>frozen_of_row _ _ o _ _ HR.out.r0
    have HP:=hid (show Qbb (ask fs (w0::r)) w (.returned (.tuple #[.agg #[.int .u8 0,.int .i64 0,.bool false,.nilFunc],.agg #[.int .u8 0,.string ⟨#[]⟩,.int .i64 0,.int .i64 0,.int .i64 0,.int .i64 0,.slice none 0 0,.string ⟨#[]⟩,.int .i64 0,.string ⟨#[]⟩],.int .i64 17])) _ from ⟨_,_,_,_,qZ,by rw[HA.out];rfl,fun e0=>absurd ((congrArg Prod.snd HA.out).symm.trans e0) (by decide),.inl rfl,by rw[Hg.out];exact HB.out⟩)
    clear hx hB HB HA HF HW
    go_wp2_with fail
    exact bodyPost_ret (v:=.tuple #[.agg #[.int .u8 0,.int .i64 0,.bool false,.nilFunc],.agg #[.int .u8 0,.string ⟨#[]⟩,.int .i64 0,.int .i64 0,.int .i64 0,.int .i64 0,.slice none 0 0,.string ⟨#[]⟩,.int .i64 0,.string ⟨#[]⟩],.int .i64 17]) (by simp[results,Tryz.results23,asAddr,hl1,hl2]) rfl HP.out
   obtain rfl:kp=true:=hk1.symm
   obtain rfl:z'=z:=hz1
   obtain rfl:a'=a:=ha1
   have HA:Hid (ask fs (w0::r)=Qb9 (qdf fs op r) op (atW r 0) z' a'):=hid ((ask_at (fs:=fs) Hop.out HNr.out HPLe.out).trans (by cases qdf fs op r<;>rfl))
   have HCM:=hid (qsw op ((nW op:Nat):Int) z' (mvW op) (qjg op) a' wc.heap.size A1 m c1 r F fn fc fs wc rfl (HF.out wc zjb) (HW.out wc zjb) zjn (by omega) HNm.out (fun e=>by have h1:=HPLe.out;rw[e,nW_zero e] at h1;exact plW_nil h1) hfn)
   obtain⟨CO,hCO⟩:∃CO,Qb9 (qdf fs op r) op (atW r 0) z' a'=CO:=⟨_,rfl⟩
   have HOP2:Hid (CO.2=0→CO.1.op=op):=hid (by
    rw[←hCO]
    rcases qdf fs op r with _|x
    ·exact fun e=>absurd e (show ¬(15:Int)=0 by decide)
    ·exact fun _=>rfl)
   rw[hCO] at HCM HA
   unfold fnV at HCM
   have hlu:=qpe HU.out rfl
   have hlv:=run_loadVar_row (P:=Tryz.prog) _ _ 54 54 _ (0,0) _ HV.out Tryz.underlying54 rfl (by kernel_rfl)
   have u0:=zjc u 0 HU.out
   have u1:=zjc u 1 HU.out
   have u2:=zjc u 2 HU.out
   have u3:=zjc u 3 HU.out
   have zzv:=fun k=>zjc v k HV.out
   clear hCO hk1 HZ HF HW HNr HNm HPLe
   go_wp2_with fail
   refine HCM.out.mono ?_
   rintro e w6 ⟨q,rfl,hq,b6⟩
   have HQ:=hid hq
   obtain⟨cz,hcz⟩:∃cz,CO.2=cz:=⟨_,rfl⟩
   have HCZ:=hid hcz
   obtain⟨qop,⟨m0,m1,m2,m3,m4,m5,m6,m7,m8⟩,qn,qz,qa⟩:=q
   simp only[Cmd.val,Cmd.cells]
   rw[hcz]
   replace HR:=hid (HR.out.on b6)
   replace HU:=hid ((b6.block u hul2).trans HU.out)
   have hg6:=HR.out.s
   have s6:=b6.size
   clear hcz hq b6 HCM hlu hlv u0 u1 u2 u3 zzv HV
   have ba:=zjB w6 (.cells #[.int .u8 (qop.toNat:Int),.string m0,.int .i64 m1,.int .i64 m2,.int .i64 m3,.int .i64 m4,.slice m5 m6 m7,.string qn,.int .i64 qz,.string qa] 56)
   have hX:=heap_alloc_new w6 (.cells #[.int .u8 (qop.toNat:Int),.string m0,.int .i64 m1,.int .i64 m2,.int .i64 m3,.int .i64 m4,.slice m5 m6 m7,.string qn,.int .i64 qz,.string qa] 56)
   go_upto_region 10 with fail
   generalize w6.alloc (.cells #[.int .u8 (qop.toNat:Int),.string m0,.int .i64 m1,.int .i64 m2,.int .i64 m3,.int .i64 m4,.slice m5 m6 m7,.string qn,.int .i64 qz,.string qa] 56)=w7 at *
   replace HR:=hid (HR.out.on ba)
   replace HU:=hid ((ba.block u (by omega)).trans HU.out)
   have hlu:=qpe HU.out rfl
   have hlx:=qpa hX rfl
   have hfin:=HR.out.find (f:=#[.int .u8 (op.toNat:Int),.int .i64 ((nW op:Nat):Int),.bool (mvW op),.func (.func (qjg op)) #[] #[]]) (c:=#[.int .u8 (qop.toNat:Int),.string m0,.int .i64 m1,.int .i64 m2,.int .i64 m3,.int .i64 m4,.slice m5 m6 m7,.string qn,.int .i64 qz,.string qa]) rfl rfl
   have hx:=fun k=>cell_of_row _ (g+1) k _ _ _ (HR.out.mid #[.int .u8 (op.toNat:Int),.int .i64 ((nW op:Nat):Int),.bool (mvW op),.func (.func (qjg op)) #[] #[]])
   have fx:=fun o=>frozen_of_row _ (g+1) o _ _ (HR.out.mid #[.int .u8 (op.toNat:Int),.int .i64 ((nW op:Nat):Int),.bool (mvW op),.func (.func (qjg op)) #[] #[]])
   simp only[qdi,Nat.reduceAdd] at hfin hx fx
   obtain⟨hl1,hl2,hB⟩:=hfin
   have HB:=hid hB
   have ht:=fun k=>cell_of_row _ w6.heap.size k _ _ _ ((qi9 (B:=g) (g:=w6.heap.size) (by omega) [.int .u8 (op.toNat:Int),.int .i64 ((nW op:Nat):Int),.bool (mvW op),.func (.func (qjg op)) #[] #[]] 0 w7).trans hX)
   simp only[qdi,Nat.reduceAdd] at ht
   have e0:=zjc g 0 HR.out.r0
   have e1:=zjc g 1 HR.out.r0
   have e2:=zjc g 2 HR.out.r0
   have e3:=zjc g 3 HR.out.r0
   have x0:=hx 0
   have x1:=hx 1
   have x2:=hx 2
   have x3:=hx 3
   have x4:=hx 4
   have x5:=hx 5
   have x6:=hx 6
   have x7:=hx 7
   have x8:=hx 8
   have x9:=hx 9
   have u0:=zjc u 0 HU.out
   have u1:=zjc u 1 HU.out
   have u2:=zjc u 2 HU.out
   have u3:=zjc u 3 HU.out
   have zzt:=fun k=>zjc w6.heap.size k hX
   have s0:=ht 0
   have s1:=ht 1
   have s2:=ht 2
   have s3:=ht 3
   have s4:=ht 4
   have s5:=ht 5
   have s6:=ht 6
   have s7:=ht 7
   have s8:=ht 8
   have s9:=ht 9
   have fw:∀o,w7.frozen? ⟨g,o,none⟩=false:=fun o=>frozen_of_row _ _ o _ _ HR.out.r0
   clear hx hB ba hX ht
   go_region
   go_wp2_with fail
   have HP:=hid (show Qbb (ask fs (w0::r)) w (.returned (.tuple #[.agg #[.int .u8 (op.toNat:Int),.int .i64 ((nW op:Nat):Int),.bool (mvW op),.func (.func (qjg op)) #[] #[]],.agg #[.int .u8 (qop.toNat:Int),.string m0,.int .i64 m1,.int .i64 m2,.int .i64 m3,.int .i64 m4,.slice m5 m6 m7,.string qn,.int .i64 qz,.string qa],.int .i64 cz])) _ from ⟨_,_,_,_,⟨qop,⟨m0,m1,m2,m3,m4,m5,m6,m7,m8⟩,qn,qz,qa⟩,by rw[HA.out,HCZ.out];first|done|rfl,fun e0=>(by rw[HA.out] at e0 ⊢;exact⟨HQ.out e0,by rw[HOP2.out e0];first|done|rfl⟩),.inr ⟨_,rfl⟩,by rw[Hg.out];exact HB.out⟩)
   exact bodyPost_ret (v:=.tuple #[.agg #[.int .u8 (op.toNat:Int),.int .i64 ((nW op:Nat):Int),.bool (mvW op),.func (.func (qjg op)) #[] #[]],.agg #[.int .u8 (qop.toNat:Int),.string m0,.int .i64 m1,.int .i64 m2,.int .i64 m3,.int .i64 m4,.slice m5 m6 m7,.string qn,.int .i64 qz,.string qa],.int .i64 cz]) (by simp[results,Tryz.results23,asAddr,hl1,hl2]) rfl HP.out
end Lsc
end Go.Proofs.YtlmolmohhpdhdaaGreatDoor
