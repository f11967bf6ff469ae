/-
  LibscriptKeeps: the arguments are not modified, and the
-/
import Derived.Test.YtlmolmohhpdhdaaGreatDoorZTu
import Derived.Test.YtlmolmohhpdhdaaGreatDoorZEe
set_option maxRecDepth 100000
set_option maxHeartbeats 16000000
set_option linter.unusedSimpArgs false
set_option linter.unusedVariables false
namespace Go.Proofs.YtlmolmohhpdhdaaGreatDoor
open Go.RowKit Go.Proofs
namespace Lsc
open JB
open JN (bts str qa8 qak qa0 Gnd qcj)
open JR (Mem qdc ar qqy)
open JL
open JD (tx)
open JE (Spd)
open JW (qab)
def ndF (x:Mem):ByteArray×Nat×List UInt8:=(x.name,x.len,x.data)
def qcv:List Mem→List Value
 |[]=>[]
 |x::r=>[.string x.name,.slice x.ptr x.len x.cap]++qcv r
theorem qj1:∀a b:List Mem,qcv (a++b)=qcv a++qcv b
 |[],_=>rfl
 |x::r,b=>by rw[List.cons_append,qcv,qj1 r b,qcv,List.append_assoc]
theorem qj2:∀a:List Mem,(qcv a).length=a.length * 2
 |[]=>rfl
 |x::r=>by rw[qcv,List.length_append,qj2 r,List.length_cons];simp;omega
theorem qtd:∀(a:List Mem)(k:Nat)(h:k<a.length),(qcv a)[k * 2]?=some (.string a[k].name)∧(qcv a)[k * 2+1]?=some (.slice a[k].ptr a[k].len a[k].cap)
 |x::r,0,_=>by simp[qcv]
 |x::r,k+1,h=>by
  have ih:=qtd r k (by simpa using h)
  have e:∀j,(qcv (x::r))[(k+1) * 2+j]?=(qcv r)[k * 2+j]?:=fun j=>by
   rw[qcv,List.getElem?_append_right (by simp;omega)]
   congr 1
   simp
   omega
  exact⟨(e 0).trans ih.1,(e 1).trans ih.2⟩
theorem kF:JC.quu 23 41 2 40 (.agg #[.string ⟨#[]⟩,.slice none 0 0]):=⟨by kernel_rfl,by kernel_rfl,by kernel_rfl,by decide⟩
theorem rdF_own {w:World}{K n c:Nat}{A:Option Addr}{xs:List Mem}(h:JC.Own 41 2 w K (.slice A n c) n (qcv xs))(hd:qdc w K xs):RdF w w.heap.size A n xs:=by
 obtain⟨A',c',e,hr,_⟩:=h.reads
 injection e with e1 _ e3
 subst e1 e3
 have hl:xs.length=n:=by have:=hr.1;rw[qj2] at this;omega
 refine⟨hl,fun k hk=>⟨?_,?_⟩⟩
 ·obtain⟨q0,q1⟩:=qtd xs k hk
  have key:∀j v,(qcv xs)[k * 2+j]?=some v→∃b o:Nat,A=some ⟨b,o,none⟩∧b<w.heap.size∧w.cell? ⟨b,o+k * 2+j,none⟩=some v:=fun j v hv=>by
   obtain⟨hj,e⟩:=List.getElem?_eq_some_iff.1 hv
   obtain⟨b,o,e2,hb,hc⟩:=hr.2 (k * 2+j) hj
   exact⟨b,o,e2,hb,by rw[Nat.add_assoc,hc,e]⟩
  obtain⟨b,o,rfl,hb,k0⟩:=key 0 _ q0
  obtain⟨b1,o1,e1,_,k1⟩:=key 1 _ q1
  cases e1
  exact⟨b,o,rfl,hb,k0,k1⟩
 ·obtain⟨A2,c2,e2,hr2,_⟩:=(hd _ (List.getElem_mem hk)).reads
  injection e2 with e3 _ _
  rw[e3]
  exact hr2
theorem nd_ok {w:World}{K:Nat}{xs ys:List Mem}(h:ys.map ndF=xs.map ndF)(hx:FOk xs)(hd:qdc w K ys):FOk ys:=by
 have key:∀y∈ys,∃x∈xs,ndF x=ndF y:=fun y hy=>by
  have h1:ndF y∈xs.map ndF:=by rw[←h];exact List.mem_map_of_mem hy
  obtain⟨x,hx1,hx2⟩:=List.mem_map.1 h1
  exact⟨x,hx1,hx2⟩
 refine⟨fun y hy=>?_,fun y hy=>(hd y hy).1,fun y hy=>?_⟩
 ·obtain⟨x,hx1,hx2⟩:=key y hy
  injection hx2 with _ h2
  injection h2 with h2 _
  rw[←h2]
  exact hx.len x hx1
 ·obtain⟨_,_,e,_,h3,h4⟩:=(hd y hy).reads
  injection e with _ _ e3
  rw[e3]
  exact⟨h3,h4⟩
theorem keeps12 (w:World)(hG:qcj w)(A:Option Addr)(n c:Nat)(l:List UInt8)(hr:JB.Rd w w.heap.size A n l)(hnc:n≤c)(hcm:c≤maxLen)(F:Option Addr)(fn fc:Nat)(fs:List Mem)(hF:qg9 w F fn fs)(s:ByteArray):
 Calls Tryz.prog 6 #[.slice A n c,.slice F fn fc,.string s] w fun e w'=>e=.returned (.bool true)∧Below w.heap.size w w':=by
 have Hr:=hid hr.1
 have HFB:=hid hF
 have Hnc:=hid (And.intro hnc hcm)
 have FB:=hid fun (W:World) (h:Below w.heap.size w W)=>h
 have FG:=hid fun (W:World) (h:Below w.heap.size w W)=>hG.on h
 have FA:=hid fun (W:World) (h:Below w.heap.size w W)=>(hr.below h).more h.size
 have FF:=hid fun (W:World) (h:Below w.heap.size w W)=>(hF.1.below h).more h.size
 clear hG hr hF hnc hcm
 go_enter Tryz.func6,Tryz.ntmps6
 go_wp2_with fail
 refine (qaq _ (FG.out w zjb)).mono ?_
 rintro e v1 ⟨rfl,b1⟩
 replace FB:=zjF FB b1
 replace FG:=zjF FG b1
 replace FA:=zjF FA b1
 replace FF:=zjF FF b1
 clear b1
 by_cases hn:5000<n
 ·have hni:(5000:Int)<(n:Int):=by omega
  go_wp2_with fail
  refine (qaq _ (FG.out v1 zjb)).mono ?_
  rintro e v9 ⟨rfl,bq⟩
  go_wp2_with fail
  go_ret
  exact⟨rfl,(FB.out v1 zjb).trans (bq.mono (FB.out v1 zjb).size)⟩
 have hni:¬(5000:Int)<(n:Int):=by omega
 have HX:=hid (qiu _ F fn fc fs s v1 (FF.out v1 zjb) zjn)
 go_wp2_with fail
 refine HX.out.mono ?_
 rintro e v2 ⟨rfl,b2⟩
 replace FB:=zjF FB b2
 replace FG:=zjF FG b2
 replace FA:=zjF FA b2
 replace FF:=zjF FF b2
 clear HX
 clear b2
 cases hf:qw4 fs s
 case false=>
  go_wp2_with fail
  refine (qaq _ (FG.out v2 zjb)).mono ?_
  rintro e v9 ⟨rfl,bq⟩
  go_wp2_with fail
  go_ret
  exact⟨rfl,(FB.out v2 zjb).trans (bq.mono (FB.out v2 zjb).size)⟩
 obtain⟨hok,hfn⟩:=qkq HFB.out hf
 have HFk:=hid hok
 have HSc:=hid (qwc (l:=l) (by have:=Hr.out;omega) hok hf)
 have Hsz:Hid (s.size≤1000):=hid (qd3 hf).2.2.1
 clear hf hok
 have hn':n≤5000:=by omega
 have hlit:=JB.Own.lit0 v2 v2.heap.size zjn
 have hbe:=zjB v2 (.cells #[] 5)
 have hAr:=((FA.out v2 zjb)).below hbe
 go_upto_region 4 with (at_builtin;go_must (refine qff _ v2.heap.size _ 0 [] hlit hbe.size A n c v2.heap.size l hAr (by omega) rfl (.tmp 28) (.tmp 29) rfl rfl rfl ?_);intro x3 v3 ho hb3 _;rw[Nat.zero_add,List.nil_append] at ho;obtain⟨Ao,co,rfl,rho,_⟩:=ho.reads)
 have b23:=hbe.trans hb3
 have rho':=rho
 replace FB:=zjF FB b23
 replace FG:=zjF FG b23
 replace FA:=zjF FA b23
 replace FF:=zjF FF b23
 have FO:=hid fun (W:World) (h:Below v3.heap.size v3 W)=>(rho'.below h).more h.size
 clear hlit hbe hAr hb3 b23 rho ho rho'
 have Hfl:=hid (FF.out v3 zjb).1
 go_wp2_with fail
 go_loopw [9,8] (fun iv v W=>∃(k:Nat)(A1:Option Addr)(c1:Nat)(ys:List Mem),iv=.int .i64 (k:Int)∧v=.slice A1 k c1∧k≤fn∧JC.Own 41 2 W v3.heap.size (.slice A1 k c1) k (qcv ys)∧qdc W v3.heap.size ys∧Hid (ys.map ndF=(fs.take k).map ndF)∧Below v3.heap.size v3 W) (fun iv _ _=>fn-(intOf iv).toNat)
 case atStart=>exact⟨0,none,0,[],rfl,rfl,by omega,JC.Own.nil _ _ _ _,fun x hx=>(by cases hx),hid (by simp),Below.refl _ _⟩
 case round=>
  obtain⟨k,A1,c1,ys,rfl,rfl,hk,hO,hD,HC,hb⟩:=hrel
  by_cases hlt:k<fn
  ·have hkl:k<fs.length:=by have:=Hfl.out;omega
   have hki:(k:Int)<(fn:Int):=by omega
   have hxk:=HFk.out.len fs[k] (List.getElem_mem hkl)
   obtain⟨⟨b,o,rfl,hbK,_,_⟩,_⟩:=(FF.out v3 zjb).2 k hkl
   have HS:Hid (∀W,Below v3.heap.size v3 W→(W.cell? ⟨b,o+k * 2,none⟩=some (.string fs[k].name)∧W.cell? ⟨b,o+k * 2+1,none⟩=some (.slice fs[k].ptr fs[k].len fs[k].cap))∧JB.Rd W W.heap.size fs[k].ptr fs[k].len fs[k].data):=hid fun W h=>by obtain⟨⟨b',o',e,_,h0,h1⟩,h2⟩:=(FF.out W h).2 k hkl;cases e;exact⟨⟨h0,h1⟩,h2⟩
   have HT:Hid ((fs.take (k+1)).map ndF=(fs.take k).map ndF++[ndF fs[k]]):=hid (by rw[List.take_succ_eq_append_getElem hkl,List.map_append];rfl)
   clear HFk HSc
   generalize fs[k]=x at *
   obtain⟨x0,x1,x2,x3,x4,x5,x6,x7,x8⟩:=x
   simp only at HS hxk
   have hb0:Below wr.heap.size wr wr.drew:=(Below.refl _ _).drew
   have bd:=hb.trans (hb0.mono hb.size)
   go_upto_region 8 with fail
   have hS:(fun W'=>W'.cell? ⟨b,o+k * 2,none⟩=some (.string x0)∧W'.cell? ⟨b,o+k * 2+1,none⟩=some (.slice x5 x6 x7)) wr.drew:=(HS.out _ bd).1
   refine Ord.qaf.begin (fun W'=>W'.cell? ⟨b,o+k * 2,none⟩=some (.string x0)∧W'.cell? ⟨b,o+k * 2+1,none⟩=some (.slice x5 x6 x7)) 60 (by kernel_rfl) ?_
   have hO1:=hO.below hb0
   have hD1:=hD.keep hb0
   clear hb0 hO hD
   generalize wr.drew=wd at *
   refine zjT 0 37 rfl rfl (by kernel_rfl) (x:=?_) (fun _ _ _ h=>h) ?_ hS ?_
   rotate_left 1
   ·rintro v ⟨z0,z1⟩;go_simp;first|done|rfl
   try simp only[zjA]
   refine zjT 1 38 rfl rfl (by kernel_rfl) (x:=?_) (fun _ _ _ h=>h) ?_ hS ?_
   rotate_left 1
   ·rintro v ⟨z0,z1⟩;go_simp;first|done|rfl
   try simp only[zjA]
   refine zjT 2 39 rfl rfl (by kernel_rfl) (x:=?_) (fun _ _ _ h=>h) ?_ hS ?_
   rotate_left 1
   ·rintro v ⟨z0,z1⟩;go_simp;first|done|rfl
   try simp only[zjA]
   refine zjT 3 40 rfl rfl (by kernel_rfl) (x:=?_) (fun _ _ _ h=>h) ?_ hS ?_
   rotate_left 1
   ·rintro v ⟨z0,z1⟩;go_simp;first|done|rfl
   try simp only[zjA]
   refine zjT 4 41 rfl rfl (by kernel_rfl) (x:=?_) (fun _ _ _ h=>h) ?_ hS ?_
   rotate_left 1
   ·rintro v ⟨z0,z1⟩;go_simp;first|done|rfl
   try simp only[zjA]
   refine zjT 5 42 rfl rfl (by kernel_rfl) (x:=?_) (fun _ _ _ h=>h) ?_ hS ?_
   rotate_left 1
   ·rintro v ⟨z0,z1⟩;go_simp;first|done|rfl
   try simp only[zjA]
   refine zjT 7 44 rfl rfl (by kernel_rfl) (x:=?_) (fun _ _ _ h=>h) ?_ hS ?_
   rotate_left 1
   ·rintro v ⟨z0,z1⟩;go_simp;first|done|rfl
   try simp only[zjA]
   refine zjT 8 45 rfl rfl (by kernel_rfl) (x:=?_) (fun _ _ _ h=>h) ?_ hS ?_
   rotate_left 1
   ·rintro v ⟨z0,z1⟩;go_simp;first|done|rfl
   try simp only[zjA]
   refine zjT 9 46 rfl rfl (by kernel_rfl) (x:=?_) (fun _ _ _ h=>h) ?_ hS ?_
   rotate_left 1
   ·rintro v ⟨z0,z1⟩;go_simp;first|done|rfl
   try simp only[zjA]
   refine zjT 10 47 rfl rfl (by kernel_rfl) (x:=?_) (fun _ _ _ h=>h) ?_ hS ?_
   rotate_left 1
   ·rintro v ⟨z0,z1⟩;go_simp;first|done|rfl
   try simp only[zjA]
   refine zjT 11 48 rfl rfl (by kernel_rfl) (x:=?_) (fun _ _ _ h=>h) ?_ hS ?_
   rotate_left 1
   ·rintro v ⟨z0,z1⟩;go_simp;first|done|rfl
   try simp only[zjA]
   have ba:=zjB wd (.cells #[] 5)
   have hlit:=JB.Own.lit0 wd wd.heap.size zjn
   have ba2:=bd.trans (ba.mono bd.size)
   refine Ord.qaf.step 6 (by kernel_rfl) rfl (fun C hC=>?_)
   go_simp
   refine hC.out _ _ (fun _=>(HS.out _ ba2).1) ?_
   clear hC C
   try simp only[zjA]
   refine Ord.qaf.step 12 (by kernel_rfl) rfl (fun C hC=>?_)
   refine qz5 _ wd.heap.size _ 0 [] hlit ba.size x5 x6 x7 _ x8 (HS.out _ ba2).2 (by omega) (by rfl) _ _ (by rfl) (by rfl) (by rfl) ?_
   intro vd w2 ho2 hb2 _
   rw[Nat.zero_add,List.nil_append] at ho2
   obtain⟨A2,c2,rfl,_⟩:=ho2.reads
   have bq:=ba.trans hb2
   have b2:=bd.trans (bq.mono bd.size)
   have hO2:=hO1.below bq
   have hD2:=hD1.keep bq
   refine hC.out _ _ (fun _=>(HS.out _ b2).1) ?_
   clear hC C hS ba ba2 hlit hb2 bq hO1 hD1
   try simp only[zjA]
   refine Ord.qaf.step 13 (by kernel_rfl) rfl (fun C hC=>?_)
   go_simp
   refine hC.out _ _ (fun _=>(HS.out _ b2).1) ?_
   clear hC C
   try simp only[zjA]
   have hnew:=heap_alloc_new w2 (.cells #[.string x0,.slice A2 x6 c2] 41)
   have bw:=zjB w2 (.cells #[.string x0,.slice A2 x6 c2] 41)
   have hb3:=b2.trans (bw.mono b2.size)
   have hO3:=hO2.below bw
   have hD3:=hD2.keep bw
   have ho3:=ho2.below bw
   refine Ord.qaf.step 14 (by kernel_rfl) rfl (fun C hC=>?_)
   go_simp
   refine hC.out _ _ (fun _=>(HS.out _ hb3).1) ?_
   clear hC C
   try simp only[zjA]
   refine Ord.qaf.step 15 (by kernel_rfl) rfl (fun C hC=>?_)
   refine JC.qps kF _ v3.heap.size (.slice A1 k c1) k (qcv ys) hO3 hb3.size ⟨w2.heap.size,0,none⟩ 1 1 [.string x0,.slice A2 x6 c2] rfl (by simp[Value.oneCell']) (World.news_of_block (cs:=#[.string x0,.slice A2 x6 c2]) (t:=41) (fr:=(0,0)) hnew) (by omega) (by omega) (by rfl) _ _ (by rfl) (by rfl) (by rfl) ?_
   intro v4 w4 ho4 hb4 hot4 _
   obtain⟨A4,c4,rfl,_⟩:=ho4.reads
   have b04:=hb3.trans hb4
   have hD4:qdc w4 v3.heap.size (ys++[qqy x0 x1 x2 x3 x4 A2 x6 c2 x8]):=fun y hy=>by
    rcases List.mem_append.1 hy with hy|hy
    ·exact qab (hD3 y hy) hot4 (by decide)
    ·rw[List.mem_singleton] at hy
     subst hy
     exact qab (ho3.more bd.size) hot4 (by decide)
   have ho4':JC.Own 41 2 w4 v3.heap.size (.slice A4 (k+1) c4) (k+1) (qcv (ys++[qqy x0 x1 x2 x3 x4 A2 x6 c2 x8])):=by rw[qj1];exact ho4
   have hC4:Hid ((ys++[qqy x0 x1 x2 x3 x4 A2 x6 c2 x8]).map ndF=(fs.take (k+1)).map ndF):=hid (by rw[HT.out,List.map_append,HC.out];rfl)
   refine hC.out _ _ (fun _=>(HS.out _ b04).1) ?_
   clear hC C hO3 hD3 ho3 hnew bw hot4 hb4 hb3 b2 hO2 hD2 ho2 ho4 bd
   try simp only[zjA]
   refine Ord.qaf.step 16 (by kernel_rfl) rfl (fun C hC=>?_)
   go_simp
   refine hC.out _ _ (fun _=>(HS.out _ b04).1) ?_
   clear hC C
   try simp only[zjA]
   refine Ord.qaf.done (by kernel_rfl) ?_ _
   go_wp2_with fail
   go_roundw
   all_goals first
    |exact⟨k+1,A4,c4,ys++[qqy x0 x1 x2 x3 x4 A2 x6 c2 x8],by go_num,by go_num,by omega,ho4',hD4,hC4,b04⟩
    |(simp[intOf];omega)
  ·obtain rfl:fn=k:=by omega
   have hki:¬(fn:Int)<(fn:Int):=by omega
   have HC':Hid (ys.map ndF=fs.map ndF):=hid (by have:=HC.out;rwa [List.take_of_length_le (by have:=Hfl.out;omega)] at this)
   have HFy:=hid (nd_ok HC'.out HFk.out hD)
   have HScy:Hid (qge l ys (qag s) 83 5000):=hid ⟨HSc.out.sml,HSc.out.n,HSc.out.s,HFy.out,HSc.out.l⟩
   have hrm:=rdF_own hO hD
   obtain⟨V1,rfl⟩:∃V1,V1=wr:=⟨wr,rfl⟩
   replace FB:=zjF FB hb
   replace FG:=zjF FG hb
   replace FA:=zjF FA hb
   replace FF:=zjF FF hb
   replace FO:=zjF FO hb
   have FM:=hid fun (W:World) (h:Below V1.heap.size V1 W)=>(hrm.below h).more h.size
   clear hrm hO hD hb HC
   obtain⟨RX,hRX⟩:∃RX,qh0 l ys (qag s)=RX:=⟨_,rfl⟩
   have HRX:=hid hRX
   have HLn:Hid (RX.1.length≤99000):=hid (by rw[←hRX];exact HScy.out.len.1)
   clear hRX
   have HX:=hid (qd2 Ao n co l A1 fn c1 ys s 83 5000 V1 (FG.out V1 zjb) (FO.out V1 zjb) (by omega) HScy.out (FM.out V1 zjb) (by omega) (by have:=Hsz.out;omega))
   rw[HRX.out] at HX
   go_wp2_with fail
   refine HX.out.mono ?_
   rintro e v4 ⟨A4,n4,c4,B4,k4,d4,rfl,o4,_,b4⟩
   have hn4:n4≤99000:=by rw[←o4.1];exact HLn.out
   have HD:=hid o4
   have Hb4:=hid b4
   clear HX o4 b4
   go_wp2_with fail
   go_loopw [12] (fun iv W=>∃i:Nat,iv=.int .i64 (i:Int)∧i≤n4∧Spd V1.heap.size v4 W) (fun iv _=>n4-(intOf iv).toNat)
   case atStart=>exact⟨0,rfl,by omega,Spd.refl _ _⟩
   case round=>
    obtain⟨i,rfl,hi,hSp⟩:=hrel
    by_cases hit:i<n4
    ·have hii:(i:Int)<(n4:Int):=by omega
     obtain⟨q,p,x,rfl,_,hc,hf,hset⟩:=hSp.at_ HD.out hit
     have HSt:=hid hset
     clear hset hSp
     go_wp2_with fail
     go_roundw
     ·exact⟨i+1,by go_num,by omega,HSt.out _⟩
     ·simp[intOf];omega
    ·obtain rfl:n4=i:=by omega
     have hii:¬(n4:Int)<(n4:Int):=by omega
     have hW:=Hb4.out.trans hSp.1
     obtain⟨V2,rfl⟩:∃V2,V2=wr:=⟨wr,rfl⟩
     replace FB:=zjF FB hW
     replace FG:=zjF FG hW
     replace FA:=zjF FA hW
     replace FF:=zjF FF hW
     replace FO:=zjF FO hW
     replace FM:=zjF FM hW
     clear hW hSp HD Hb4 FG
     go_wp2_with fail
     go_loopw [13] (fun iv W=>∃i:Nat,iv=.int .i64 (i:Int)∧i≤fn∧Below V2.heap.size V2 W) (fun iv _=>fn-(intOf iv).toNat)
     case atStart=>exact⟨0,rfl,by omega,Below.refl _ _⟩
     case round=>
      obtain⟨j,rfl,hj,hb⟩:=hrel
      by_cases hjt:j<fn
      ·have hji:(j:Int)<(fn:Int):=by omega
       have hjx:j<fs.length:=by have:=Hfl.out;omega
       have hjy:j<ys.length:=by have:=(FM.out wr hb).1;omega
       obtain⟨⟨b,o,rfl,_,c0,c1'⟩,_⟩:=(FF.out wr hb).2 j hjx
       obtain⟨⟨b1,o1,rfl,_,d0,d1⟩,_⟩:=(FM.out wr hb).2 j hjy
       have hnd:ndF ys[j]=ndF fs[j]:=by
        have h1:(ys.map ndF)[j]?=(fs.map ndF)[j]?:=by rw[HC'.out]
        rw[List.getElem?_map,List.getElem?_map,List.getElem?_eq_getElem hjx,List.getElem?_eq_getElem hjy] at h1
        exact Option.some.inj h1
       have hxk:=HFk.out.len fs[j] (List.getElem_mem hjx)
       have HSm:Hid (∀q,Calls Tryz.prog 12 #[.slice ys[j].ptr ys[j].len ys[j].cap,.slice fs[j].ptr fs[j].len fs[j].cap] (wr.drewN q) fun e w'=>e=.returned (.bool true)∧∃m,w'=(wr.drewN q).drewN m):=hid fun q=>by
        have hq:=hb.trans ((JD.qa4 (K:=wr.heap.size) wr q).mono hb.size)
        have h1:=JD.qiy 12 rfl _ _ ys[j].ptr fs[j].ptr ys[j].len ys[j].cap fs[j].len fs[j].cap _ _ (wr.drewN q) ((FM.out _ hq).2 j hjy).2 ((FF.out _ hq).2 j hjx).2 (by injection hnd with _ h2;injection h2 with h2 _;omega)
        rw[show (ys[j].data==fs[j].data)=true from by injection hnd with _ h2;injection h2 with _ h2;rw[h2];simp] at h1
        exact h1
       have Hfin:=hid fun q=>hb.trans ((JD.qa4 (K:=wr.heap.size) wr q).mono hb.size)
       injection hnd with hnm _
       clear HFk HSc HFy HScy HC' HRX
       generalize fs[j]=x at *
       generalize ys[j]=y at *
       obtain⟨y0,y1,y2,y3,y4,y5,y6,y7,y8⟩:=y
       obtain⟨x0,x1,x2,x3,x4,x5,x6,x7,x8⟩:=x
       simp only at *
       subst hnm
       have hne:(y0.toList !=y0.toList)=false:=by simp
       go_upto_region 17 with fail
       go_quiet (first|(go_at_call 12;refine Calls.quiet_of (HSm.out _))|fail)
       go_wp2_with fail
       go_roundw
       all_goals first
        |exact⟨j+1,by go_num,by omega,Hfin.out _⟩
        |(simp[intOf];omega)
      ·obtain rfl:fn=j:=by omega
       have hji:¬(fn:Int)<(fn:Int):=by omega
       obtain⟨V3,rfl⟩:∃V3,V3=wr:=⟨wr,rfl⟩
       replace FB:=zjF FB hb
       replace FA:=zjF FA hb
       replace FF:=zjF FF hb
       replace FO:=zjF FO hb
       replace FM:=zjF FM hb
       clear hb
       have HX:=hid (JD.qiy _ rfl _ _ Ao A n co n c l l V3 (FO.out V3 zjb) (FA.out V3 zjb) (by omega))
       rw[show (l==l)=true from by simp] at HX
       go_wp2_with fail
       refine HX.out.mono ?_
       rintro e v7 ⟨rfl,mm,hm⟩
       have bb:=JD.qa4 (K:=V3.heap.size) V3 mm
       rw[←hm] at bb
       have hfin:=((FB.out V3 zjb)).trans (bb.mono ((FB.out V3 zjb)).size)
       clear HX bb hm
       go_wp2_with fail
       go_ret
       exact⟨rfl,hfin⟩
end Lsc
end Go.Proofs.YtlmolmohhpdhdaaGreatDoor
