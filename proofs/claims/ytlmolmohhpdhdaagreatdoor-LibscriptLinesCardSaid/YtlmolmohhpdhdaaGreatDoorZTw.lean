/-
  LibscriptLists: after any script, the line t prints the
-/
import Derived.Test.YtlmolmohhpdhdaaGreatDoorZTu
set_option maxRecDepth 100000
set_option maxHeartbeats 16000000
set_option linter.unusedSimpArgs false
set_option linter.unusedVariables false
namespace Go.Proofs.YtlmolmohhpdhdaaGreatDoor
open Go.RowKit Go.Proofs
namespace Lsc
open JB
open JN (bts str qa8 qak qa0 Gnd qcj)
open JR (Mem ar)
open JL
open JD (tx)
open JR (RdM)
open JE (qbg)
theorem line_t (l:List UInt8)(fs:List Mem):qbf l fs ⟨#[116]⟩=if (qaa l).2≠0 then (l,errL (qaa l).2,(qaa l).2) else (l,qbg (qaa l).1,0):=by
 have e:qd9 32 ⟨#[116]⟩=[⟨#[116]⟩]:=by decide+kernel
 have e2:ask fs [⟨#[116]⟩]=(⟨116,zM,eN,0,eN⟩,0):=rfl
 unfold qbf
 rw[e,e2]
 by_cases h:(qaa l).2=0
 ·have h2:=qsn (q:=⟨116,zM,eN,0,eN⟩) h rfl
  rw[if_neg (by simp[h]),qfw (by rw[h2]),h2]
  rfl
 ·have h2:=qkn (q:=⟨116,zM,eN,0,eN⟩) (by decide) h
  rw[if_pos h,qf7 (by rw[h2];exact h),h2]
theorem qge.fin {l:List UInt8}{fs:List Mem}{ls:List ByteArray}(h:qge l fs ls 83 5000)(hl:ls.length≤12):Sml (qh0 l fs ls).1 95 9800:=by
 have h1:=h.at_ zjn
 rw[List.take_length] at h1
 exact h1.wide (by omega) (by omega)
theorem lists12 (w:World)(hG:qcj w)(A:Option Addr)(n c:Nat)(l:List UInt8)(hr:JB.Rd w w.heap.size A n l)(hnc:n≤c)(hcm:c≤maxLen)(F:Option Addr)(fn fc:Nat)(fs:List Mem)(hF:qg9 w F fn fs)(s:ByteArray):
 Calls Tryz.prog 7 #[.slice A n c,.slice F fn fc,.string s] w fun e w'=>e=.returned (.bool true)∧Below w.heap.size w w':=by
 have Hr:=hid hr.1
 have HFB:=hid hF
 have Hnc:=hid (And.intro hnc hcm)
 have FB:=hid fun (W:World) (h:Below w.heap.size w W)=>h
 have FG:=hid fun (W:World) (h:Below w.heap.size w W)=>hG.on h
 have FA:=hid fun (W:World) (h:Below w.heap.size w W)=>(hr.below h).more h.size
 have FF:=hid fun (W:World) (h:Below w.heap.size w W)=>(hF.1.below h).more h.size
 clear hG hr hF hnc hcm
 go_enter Tryz.func7,Tryz.ntmps7
 go_wp2_with fail
 refine (qaq _ (FG.out w zjb)).mono ?_
 rintro e v1 ⟨rfl,b1⟩
 replace FB:=zjF FB b1
 replace FG:=zjF FG b1
 replace FA:=zjF FA b1
 replace FF:=zjF FF b1
 clear b1
 by_cases hn:5000<n
 ·have hni:(5000:Int)<(n:Int):=by omega
  go_wp2_with fail
  refine (qaq _ (FG.out v1 zjb)).mono ?_
  rintro e v9 ⟨rfl,bq⟩
  go_wp2_with fail
  go_ret
  exact⟨rfl,(FB.out v1 zjb).trans (bq.mono (FB.out v1 zjb).size)⟩
 have hni:¬(5000:Int)<(n:Int):=by omega
 have HX:=hid (qiu _ F fn fc fs s v1 (FF.out v1 zjb) zjn)
 go_wp2_with fail
 refine HX.out.mono ?_
 rintro e v2 ⟨rfl,b2⟩
 replace FB:=zjF FB b2
 replace FG:=zjF FG b2
 replace FA:=zjF FA b2
 replace FF:=zjF FF b2
 clear HX
 clear b2
 cases hf:qw4 fs s
 case false=>
  go_wp2_with fail
  refine (qaq _ (FG.out v2 zjb)).mono ?_
  rintro e v9 ⟨rfl,bq⟩
  go_wp2_with fail
  go_ret
  exact⟨rfl,(FB.out v2 zjb).trans (bq.mono (FB.out v2 zjb).size)⟩
 obtain⟨hok,hfn⟩:=qkq HFB.out hf
 have HFk:=hid hok
 have HSc:=hid (qwc (l:=l) (by have:=Hr.out;omega) hok hf)
 have Hsz:Hid (s.size≤1000):=hid (qd3 hf).2.2.1
 obtain⟨RX,hRX⟩:∃RX,qh0 l fs (qag s)=RX:=⟨_,rfl⟩
 have HRX:=hid hRX
 have HLn:Hid (RX.1.length≤99000∧RX.2.length≤40000):=hid (by rw[←hRX];exact HSc.out.len)
 have HBX:Hid (BOk RX.1):=hid (by rw[←hRX];exact (HSc.out.fin (qd3 hf).2.2.2).bok (by decide) (by decide))
 clear hRX hf hok
 have HX:=hid (qd2 A n c l F fn fc fs s 83 5000 v2 (FG.out v2 zjb) (FA.out v2 zjb) (by omega) HSc.out (FF.out v2 zjb) (by omega) (by have:=Hsz.out;omega))
 rw[HRX.out] at HX
 go_wp2_with fail
 refine HX.out.mono ?_
 rintro e v3 ⟨A3,n3,c3,B3,k3,d3,rfl,o3,s3,b3⟩
 replace FB:=zjF FB b3
 replace FG:=zjF FG b3
 replace FA:=zjF FA b3
 replace FF:=zjF FF b3
 obtain⟨_,_,ee,hr3,hn3,hm3⟩:=o3.reads
 injection ee with ee2 _ ee3
 subst ee2 ee3
 have F1:=hid fun (W:World) (h:Below v3.heap.size v3 W)=>(hr3.below h).more h.size
 have Hn3:=hid (And.intro hn3 hm3)
 clear hr3 hn3 hm3
 have F2:=hid fun (W:World) (h:Below v3.heap.size v3 W)=>(s3.below h).more h.size
 clear HX b3 s3 o3
 clear F2
 obtain⟨mm,mz,hM⟩:∃mm mz,qaa RX.1=(mm,mz):=⟨_,_,rfl⟩
 have HLT:=hid (line_t RX.1 fs)
 rw[hM] at HLT
 have HM:=hid hM
 have HMo:Hid (∀x∈mm,JW.MOk x):=hid (by have:=HBX.out.ok;rw[hM] at this;exact this)
 have hMl:mm.length≤199:=by have:=HBX.out.n;rw[hM] at this;exact this
 clear hM
 have HX:=hid (qgz A3 n3 c3 RX.1 v3 (FG.out v3 zjb) (F1.out v3 zjb) Hn3.out.1 Hn3.out.2 (by have:=(F1.out v3 zjb).1;have:=HLn.out.1;omega))
 rw[HM.out] at HX
 go_wp2_with fail
 refine HX.out.mono ?_
 rintro e v4 hC
 obtain⟨L4,m4,q4,ys,rfl,am,cm,hl4,b4⟩:=hC.arg HMo.out (by omega)
 replace FB:=zjF FB b4
 replace FG:=zjF FG b4
 replace FA:=zjF FA b4
 replace FF:=zjF FF b4
 replace F1:=zjF F1 b4
 have hRm:=am.rd
 have Hcm:=hid cm
 have hm9:m4≤199:=by omega
 have FM:=hid fun (W:World) (h:Below v4.heap.size v4 W)=>(hRm.below h).more h.size
 clear HX hC b4 am cm hl4 hRm
 have HTz:Hid ((⟨#[116]⟩:ByteArray).size≤1000):=hid (by decide)
 obtain⟨LX,hLX⟩:∃LX,qbf RX.1 fs ⟨#[116]⟩=LX:=⟨_,rfl⟩
 have HLX:=hid hLX
 rw[hLX] at HLT
 clear hLX
 have HX:=hid (qiv A3 n3 c3 RX.1 F fn fc fs ⟨#[116]⟩ v4 (FG.out v4 zjb) (F1.out v4 zjb) Hn3.out.1 Hn3.out.2 HBX.out (FF.out v4 zjb) HFk.out (by omega) HTz.out)
 rw[HLX.out] at HX
 go_wp2_with fail
 refine HX.out.mono ?_
 rintro e v5 ⟨A5,n5,c5,B5,k5,d5,rfl,o5,s5,b5⟩
 replace FB:=zjF FB b5
 replace FG:=zjF FG b5
 replace FA:=zjF FA b5
 replace FF:=zjF FF b5
 replace F1:=zjF F1 b5
 replace FM:=zjF FM b5
 obtain⟨_,_,ee,hr5,hn5,hm5⟩:=o5.reads
 injection ee with ee2 _ ee3
 subst ee2 ee3
 have G1:=hid fun (W:World) (h:Below v5.heap.size v5 W)=>(hr5.below h).more h.size
 have Hn5:=hid (And.intro hn5 hm5)
 clear hr5 hn5 hm5
 have G2:=hid fun (W:World) (h:Below v5.heap.size v5 W)=>(s5.below h).more h.size
 clear HX b5 s5 o5
 clear G1 F1 FA FF
 by_cases hz:mz=0
 case neg=>
  have HE:Hid (LX.2.2=mz):=hid (by rw[HLT.out,if_pos hz])
  have hzb:(mz !=0)=true:=by simpa using hz
  have hzz:(mz==mz)=true:=by simp
  rw[HE.out]
  clear hz
  go_wp2_with fail
  go_ret
  exact⟨rfl,(FB.out v5 zjb)⟩
 subst hz
 have HE:Hid (LX.2.2=0∧LX.2.1=qbg mm):=hid (by rw[HLT.out];exact⟨rfl,rfl⟩)
 rw[HE.out.1]
 obtain⟨NS,hNS⟩:∃NS,ys.map (·.name)=NS:=⟨_,rfl⟩
 have HNS:=hid hNS
 have HNl:Hid (NS.length=m4):=hid (by rw[←hNS,List.length_map];exact (FM.out v5 zjb).1)
 have HNE:Hid (LX.2.1=NS):=hid (by rw[HE.out.2,←hNS];exact (qvz (show mm.map JW.core=ys.map JW.core from Hcm.out.symm) eN).2.2)
 clear hNS
 go_upto_region 9 with fail
 go_wp2_with fail
 go_loopw [14,15] (fun v i W=>∃(k:Nat)(A1:Option Addr)(d1:Nat),v=.slice A1 k d1∧i=.int .i64 (k:Int)∧k≤m4∧JS.Own W v5.heap.size (.slice A1 k d1) k (NS.take k)∧Below v5.heap.size v5 W) (fun _ i _=>m4-(intOf i).toNat)
 case atStart=>exact⟨0,none,0,rfl,rfl,by omega,JS.Own.nil _ _,Below.refl _ _⟩
 case round=>
  obtain⟨k,A1,d1,rfl,rfl,hk,hO,hb⟩:=hrel
  have hbs:=hb.size
  by_cases hlt:k<m4
  ·have hkl:k<ys.length:=by have:=(FM.out v5 zjb).1;omega
   have hki:(k:Int)<(m4:Int):=by omega
   obtain⟨⟨b,o,rfl,hbK,hcell⟩,_,_⟩:=(FM.out wr hb).2 k hkl
   have hkn:k<NS.length:=by have:=HNl.out;omega
   have HT:Hid (NS.take (k+1)=NS.take k++[ys[k].name]):=hid (by rw[List.take_succ_eq_append_getElem hkn];simp[←HNS.out])
   obtain⟨p0,_⟩:=hcell
   generalize ys[k].name=nm at *
   go_wp2_with (at_builtin;go_must (refine JS.qa6 wr v5.heap.size (.slice A1 k d1) k (NS.take k) nm hO hbs (by omega) rfl (.tmp 60) (.tmp 66) rfl rfl rfl ?_);intro v2 w2 hO2 hb2 _ _;obtain⟨A2,d2,rfl,_⟩:=hO2.reads)
   go_roundw
   case rel=>exact⟨k+1,A2,d2,rfl,by go_num,by omega,by rw[HT.out];exact hO2,hb.trans hb2⟩
   case measure=>simp[intOf];omega
  ·obtain rfl:k=m4:=by omega
   have hki:¬(k:Int)<(k:Int):=by omega
   obtain⟨_,_,ee,hQ,_⟩:=hO.reads
   injection ee with ee2 _ ee3
   subst ee2 ee3
   rw[List.take_of_length_le (by have:=HNl.out;omega)] at hQ
   have HX:=hid (JN.qeb _ _ B5 A1 k5 d5 k d1 LX.2.1 NS wr (G2.out wr hb) hQ (by have h1:=(G2.out wr hb).1;have h2:=HNl.out;rw[HNE.out] at h1;omega))
   rw[HNE.out,show JN.eqs NS NS=true from JN.qfx.2 rfl] at HX
   have HB:=hid (FB.out wr hb)
   clear hO hQ hb
   go_wp2_with fail
   refine HX.out.mono ?_
   rintro e v8 ⟨rfl,mm,hm⟩
   have bb:=JD.qa4 (K:=wr.heap.size) wr mm
   rw[←hm] at bb
   have HB8:=hid (HB.out.trans (bb.mono HB.out.size))
   clear HX HB bb hm
   go_wp2_with fail
   go_ret
   exact⟨rfl,HB8.out⟩
end Lsc
end Go.Proofs.YtlmolmohhpdhdaaGreatDoor
