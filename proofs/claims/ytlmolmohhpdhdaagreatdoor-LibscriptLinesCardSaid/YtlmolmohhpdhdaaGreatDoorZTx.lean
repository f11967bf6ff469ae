/-
  LibscriptLines: the output of a script is that of its first
-/
import Derived.Test.YtlmolmohhpdhdaaGreatDoorZTw
set_option maxRecDepth 100000
set_option maxHeartbeats 16000000
set_option linter.unusedSimpArgs false
set_option linter.unusedVariables false
namespace Go.Proofs.YtlmolmohhpdhdaaGreatDoor
open Go.RowKit Go.Proofs
namespace Lsc
open JB
open JN (bts str qa8 qak qa0 Gnd qcj)
open JR (Mem ar)
open JL
open JD (tx)
theorem qhz {P:Program}{ops:Array Oper}{rest:List Oper}{o:Oper}{a:Act}{w:World}{Q:Exit→Act→World→Prop}(hw:Region.wanted o (yielded ops a.tmps)=true)
 (h:wpList P ops Q ({o with guard:=none}::rest) a w):wpList P ops Q (o::rest) a w:=by
 unfold wpList at h ⊢
 rw[if_pos hw]
 rw[if_pos (by simp[Region.wanted])] at h
 cases o
 exact h
theorem spl_last (a:List UInt8):(spl 10 [] (a++[10])).dropLast=spl 10 [] a:=by
 rw[show a++[10]=a++10::[] from rfl,qf6,spl,List.dropLast_concat]
theorem qwf {s:ByteArray}{a:List UInt8}(h:bts s=a++[10]):qag s=(spl 10 [] a).map str:=by
 unfold qag qd9
 rw[if_neg (by rw[←qa0,h];simp),h,if_pos (by simp),←List.map_dropLast,spl_last]
theorem qjn (s t:ByteArray):bts (s++t)=bts s++bts t:=by simp[bts]
theorem Qc6 {s t:ByteArray}{a:List UInt8}(h:bts s=a++[10]):qag (s++t)=qag s++qag t:=by
 rw[qwf h]
 have h1:bts (s++t)=a++10::bts t:=by rw[qjn,h];simp
 unfold qag qd9
 rw[if_neg (by rw[←qa0,h1];simp),h1,qf6,List.map_append]
 by_cases h0:t.size=0
 ·have e:bts t=[]:=List.eq_nil_of_length_eq_zero (by rw[qa0];exact h0)
  rw[if_pos h0,e,if_pos (by simp),spl]
  simp
 ·have hne:bts t≠[]:=fun e=>h0 (by rw[←qa0,e];rfl)
  rw[if_neg h0]
  have e:(a++10::bts t).getLast?=(bts t).getLast?:=by
   rw[List.getLast?_append,List.getLast?_cons]
   rcases hq:(bts t).getLast? with _|y
   ·exact absurd (List.getLast?_eq_none_iff.1 hq) hne
   ·rfl
  rw[e]
  by_cases h2:(bts t).getLast?=some 10
  ·rw[if_pos h2,if_pos h2,List.dropLast_append_of_ne_nil (fun e=>qp8 10 _ _ (List.map_eq_nil_iff.1 e))]
  ·rw[if_neg h2,if_neg h2]
theorem Qc7 {s:ByteArray}(h0:s.size≠0)(h:(bts s).getLast?≠some 10):qag (s++⟨#[10]⟩)=qag s:=by
 rw[qwf (a:=bts s) (by rw[qjn];rfl)]
 unfold qag
 rw[if_neg h0,if_neg h]
 rfl
theorem ends_lf {s:ByteArray}(h:(bts s).getLast?=some 10):∃a,bts s=a++[10]:=by
 obtain⟨a,b,e⟩:∃a b,bts s=a++[b]:=⟨(bts s).dropLast,(bts s).getLast (fun e=>by rw[e] at h;cases h),(List.dropLast_concat_getLast _).symm⟩
 rw[e] at h
 simp at h
 subst h
 exact⟨a,e⟩
theorem lines12 (w:World)(hG:qcj w)(A:Option Addr)(n c:Nat)(l:List UInt8)(hr:JB.Rd w w.heap.size A n l)(hnc:n≤c)(hcm:c≤maxLen)(F:Option Addr)(fn fc:Nat)(fs:List Mem)(hF:qg9 w F fn fs)(s:ByteArray)(t:ByteArray):
 Calls Tryz.prog 4 #[.slice A n c,.slice F fn fc,.string s,.string t] w fun e w'=>e=.returned (.bool true)∧Below w.heap.size w w':=by
 have Hr:=hid hr.1
 have HFB:=hid hF
 have Hnc:=hid (And.intro hnc hcm)
 have FB:=hid fun (W:World) (h:Below w.heap.size w W)=>h
 have FG:=hid fun (W:World) (h:Below w.heap.size w W)=>hG.on h
 have FA:=hid fun (W:World) (h:Below w.heap.size w W)=>(hr.below h).more h.size
 have FF:=hid fun (W:World) (h:Below w.heap.size w W)=>(hF.1.below h).more h.size
 clear hG hr hF hnc hcm
 go_enter Tryz.func4,Tryz.ntmps4
 go_wp2_with fail
 refine (qaq _ (FG.out w zjb)).mono ?_
 rintro e v1 ⟨rfl,b1⟩
 replace FB:=zjF FB b1
 replace FG:=zjF FG b1
 replace FA:=zjF FA b1
 replace FF:=zjF FF b1
 clear b1
 by_cases hn:5000<n
 ·have hni:(5000:Int)<(n:Int):=by omega
  go_wp2_with fail
  refine (qaq _ (FG.out v1 zjb)).mono ?_
  rintro e v9 ⟨rfl,bq⟩
  go_wp2_with fail
  go_ret
  exact⟨rfl,(FB.out v1 zjb).trans (bq.mono (FB.out v1 zjb).size)⟩
 have hni:¬(5000:Int)<(n:Int):=by omega
 have HX:=hid (qiu _ F fn fc fs s v1 (FF.out v1 zjb) zjn)
 go_wp2_with fail
 refine HX.out.mono ?_
 rintro e v2 ⟨rfl,b2⟩
 replace FB:=zjF FB b2
 replace FG:=zjF FG b2
 replace FA:=zjF FA b2
 replace FF:=zjF FF b2
 clear HX
 clear b2
 cases hf:qw4 fs s
 case false=>
  go_wp2_with fail
  refine (qaq _ (FG.out v2 zjb)).mono ?_
  rintro e v9 ⟨rfl,bq⟩
  go_wp2_with fail
  go_ret
  exact⟨rfl,(FB.out v2 zjb).trans (bq.mono (FB.out v2 zjb).size)⟩
 have HX:=hid (qiu _ F fn fc fs t v2 (FF.out v2 zjb) zjn)
 go_wp2_with fail
 refine HX.out.mono ?_
 rintro e v3 ⟨rfl,b3⟩
 replace FB:=zjF FB b3
 replace FG:=zjF FG b3
 replace FA:=zjF FA b3
 replace FF:=zjF FF b3
 clear HX
 clear b3
 cases hft:qw4 fs t
 case false=>
  go_wp2_with fail
  refine (qaq _ (FG.out v3 zjb)).mono ?_
  rintro e v9 ⟨rfl,bq⟩
  go_wp2_with fail
  go_ret
  exact⟨rfl,(FB.out v3 zjb).trans (bq.mono (FB.out v3 zjb).size)⟩
 by_cases hs0:s.size=0
 ·have hs0i:((s.size:Int)==0)=true:=by rw[hs0];rfl
  clear hs0
  go_wp2_with fail
  refine (qaq _ (FG.out v3 zjb)).mono ?_
  rintro e v9 ⟨rfl,bq⟩
  go_wp2_with fail
  go_ret
  exact⟨rfl,(FB.out v3 zjb).trans (bq.mono (FB.out v3 zjb).size)⟩
 have hs0i:((s.size:Int)==0)=false:=by rw[beq_eq_false_iff_ne];omega
 go_upto_region 3 with fail
 obtain⟨hok,hfn⟩:=qkq HFB.out hf
 have HFk:=hid hok
 have HScs:=hid (qwc (l:=l) (by have:=Hr.out;omega) hok hf)
 have hss:=(qd3 hf).2.2.1
 have Hll:=hid (qd3 hf).2.2.2
 have Htt:=hid (qd3 hft).2.2
 obtain⟨m,hm⟩:∃m,s.size=m+1:=⟨s.size-1,by omega⟩
 have hlt:m<s.size:=by omega
 have hx:=JN.qt3 s m hlt
 have HLs:=hid (show (bts s).getLast?=some s[m] from by
  rw[List.getLast?_eq_getElem?,qa0,hm]
  exact hx)
 have Hs0:=hid hs0
 have hsi:(s.size:Int)=(m:Int)+1:=by omega
 have hmi:(m:Int)<(m:Int)+1:=by omega
 clear hf hft hok hs0 hx hm
 by_cases hx:s[m]=10
 case' pos=>
  have hx2:((s[m].toNat:Int) !=10)=false:=by rw[bne_eq_false_iff_eq,hx];rfl
  have HE:Hid ((bts s).getLast?=some 10):=hid (by rw[HLs.out,hx])
  have HSc:Hid (qge l fs (qag s) 83 5000∧(qag s).length≤12∧s.size≤1001):=hid ⟨HScs.out,Hll.out,by omega⟩
  clear hx HScs Hll HLs Hs0
  go_upto_region 5 with fail
  generalize s[m]=ch
  clear hx2 hss hs0i
  obtain⟨s2,rfl⟩:∃s2,s2=s:=⟨_,rfl⟩
  clear hsi hmi hlt
 case' neg=>
  have hx2:((s[m].toNat:Int) !=10)=true:=by rw[bne_iff_ne];exact fun e=>hx (UInt8.toNat_inj.1 (have h9:s[m].toNat=10:=(by omega);h9))
  have HE:Hid ((bts (s++⟨#[10]⟩)).getLast?=some 10):=hid (by rw[qjn];exact List.getLast?_concat)
  have HSc:Hid (qge l fs (qag (s++⟨#[10]⟩)) 83 5000∧(qag (s++⟨#[10]⟩)).length≤12∧(s++⟨#[10]⟩:ByteArray).size≤1001):=hid (by
   rw[Qc7 Hs0.out (by rw[HLs.out];exact fun e=>hx (by injection e))]
   exact⟨HScs.out,Hll.out,by rw[ByteArray.size_append];show s.size+1≤1001;omega⟩)
  have hadd:s.size+1≤9223372036854775807:=by omega
  clear hx HScs Hll HLs Hs0
  go_upto_region 5 with fail
  generalize s[m]=ch
  clear hx2 hss hs0i hadd
  obtain⟨s2,hs2⟩:∃s2,s++⟨#[10]⟩=s2:=⟨_,rfl⟩
  rw[hs2] at HE HSc ⊢
  clear hs2
  clear hsi hmi hlt
 all_goals
  have HSc1:=hid HSc.out.1
  have Hsz:=hid HSc.out.2.2
  obtain⟨RX,hRX⟩:∃RX,qh0 l fs (qag s2)=RX:=⟨_,rfl⟩
  have HRX:=hid hRX
  have HLn:Hid (RX.1.length≤99000∧RX.2.length≤40000):=hid (by rw[←hRX];exact HSc1.out.len)
  have HSc2:Hid (qge RX.1 fs (qag t) 95 9800):=hid (by rw[←hRX];exact⟨HSc1.out.fin HSc.out.2.1,by have:=Htt.out.2;omega,by have:=Htt.out.2;omega,HFk.out,fun x hx=>Nat.le_trans (qsy x hx) Htt.out.1⟩)
  have Hszt:=hid Htt.out.1
  obtain⟨RY,hRY⟩:∃RY,qh0 RX.1 fs (qag t)=RY:=⟨_,rfl⟩
  have HRY:=hid hRY
  have HLm:Hid (RY.1.length≤99000∧RY.2.length≤40000):=hid (by rw[←hRY];exact HSc2.out.len)
  have HCat:Hid (qag (s2++t)=qag s2++qag t):=hid (by obtain⟨a,ha⟩:=ends_lf HE.out;exact Qc6 ha)
  have HRZ:Hid (qh0 l fs (qag (s2++t))=(RY.1,RX.2++RY.2)):=hid (by rw[HCat.out,qi8,hRX,hRY])
  have HSc3:Hid (qge l fs (qag (s2++t)) 83 5000):=hid (by rw[HCat.out];exact⟨HSc1.out.sml,by rw[List.length_append];have:=Htt.out.2;have:=HSc.out.2.1;omega,by rw[List.length_append];have:=Htt.out.2;have:=HSc.out.2.1;omega,HFk.out,fun x hx=>(List.mem_append.1 hx).elim (HSc1.out.l x) (HSc2.out.l x)⟩)
  have Hszz:Hid ((s2++t).size≤2001):=hid (by rw[ByteArray.size_append];have:=HSc.out.2.2;have:=Htt.out.1;omega)
  clear hRX hRY HCat HE
  have HX:=hid (qd2 A n c l F fn fc fs s2 83 5000 v3 (FG.out v3 zjb) (FA.out v3 zjb) (by omega) HSc1.out (FF.out v3 zjb) (by omega) (by have:=Hsz.out;omega))
  rw[HRX.out] at HX
  go_wp2_with fail
  refine HX.out.mono ?_
  rintro e v4 ⟨A4,n4,c4,B4,k4,d4,rfl,o4,s4,b4⟩
  replace FB:=zjF FB b4
  replace FG:=zjF FG b4
  replace FA:=zjF FA b4
  replace FF:=zjF FF b4
  obtain⟨_,_,ee,hr4,hn4,hm4⟩:=o4.reads
  injection ee with ee2 _ ee3
  subst ee2 ee3
  have F1:=hid fun (W:World) (h:Below v4.heap.size v4 W)=>(hr4.below h).more h.size
  have Hn4:=hid (And.intro hn4 hm4)
  clear hr4 hn4 hm4
  have F2:=hid fun (W:World) (h:Below v4.heap.size v4 W)=>(s4.below h).more h.size
  clear HX b4 s4 o4
  have HX:=hid (qd2 A4 n4 c4 RX.1 F fn fc fs t 95 9800 v4 (FG.out v4 zjb) (F1.out v4 zjb) (by have:=(F1.out v4 zjb).1;have:=HLn.out.1;omega) HSc2.out (FF.out v4 zjb) (by omega) (by have:=Hszt.out;omega))
  rw[HRY.out] at HX
  go_wp2_with fail
  refine HX.out.mono ?_
  rintro e v5 ⟨A5,n5,c5,B5,k5,d5,rfl,o5,s5,b5⟩
  replace FB:=zjF FB b5
  replace FG:=zjF FG b5
  replace FA:=zjF FA b5
  replace FF:=zjF FF b5
  replace F1:=zjF F1 b5
  replace F2:=zjF F2 b5
  obtain⟨_,_,ee,hr5,hn5,hm5⟩:=o5.reads
  injection ee with ee2 _ ee3
  subst ee2 ee3
  have G1:=hid fun (W:World) (h:Below v5.heap.size v5 W)=>(hr5.below h).more h.size
  have Hn5:=hid (And.intro hn5 hm5)
  clear hr5 hn5 hm5
  have G2:=hid fun (W:World) (h:Below v5.heap.size v5 W)=>(s5.below h).more h.size
  clear HX b5 s5 o5
  clear F1
  have hadd:s2.size+t.size≤9223372036854775807:=by have:=Hsz.out;have:=Hszt.out;omega
  have HX:=hid (qd2 A n c l F fn fc fs (s2++t) 83 5000 v5 (FG.out v5 zjb) (FA.out v5 zjb) (by omega) HSc3.out (FF.out v5 zjb) (by omega) (by have:=Hszz.out;omega))
  rw[HRZ.out] at HX
  go_wp2_with fail
  refine HX.out.mono ?_
  rintro e v6 ⟨A6,n6,c6,B6,k6,d6,rfl,o6,s6,b6⟩
  replace FB:=zjF FB b6
  replace FG:=zjF FG b6
  replace FA:=zjF FA b6
  replace FF:=zjF FF b6
  replace F2:=zjF F2 b6
  replace G1:=zjF G1 b6
  replace G2:=zjF G2 b6
  obtain⟨_,_,ee,hr6,hn6,hm6⟩:=o6.reads
  injection ee with ee2 _ ee3
  subst ee2 ee3
  have H1:=hid fun (W:World) (h:Below v6.heap.size v6 W)=>(hr6.below h).more h.size
  have Hn6:=hid (And.intro hn6 hm6)
  clear hr6 hn6 hm6
  have H2:=hid fun (W:World) (h:Below v6.heap.size v6 W)=>(s6.below h).more h.size
  clear HX b6 s6 o6
  clear hadd
  have HX:=hid (JD.qiy _ rfl _ _ A5 A6 n5 c5 n6 c6 RY.1 RY.1 v6 (G1.out v6 zjb) (H1.out v6 zjb) (by have:=(G1.out v6 zjb).1;have:=HLm.out.1;omega))
  rw[show (RY.1==RY.1)=true from by simp] at HX
  go_wp2_with fail
  refine HX.out.mono ?_
  rintro e v7 ⟨rfl,mm,hm⟩
  have bb:=JD.qa4 (K:=v6.heap.size) v6 mm
  rw[←hm] at bb
  replace FB:=zjF FB bb
  replace FG:=zjF FG bb
  replace FA:=zjF FA bb
  replace FF:=zjF FF bb
  replace F2:=zjF F2 bb
  replace G1:=zjF G1 bb
  replace G2:=zjF G2 bb
  replace H1:=zjF H1 bb
  replace H2:=zjF H2 bb
  clear HX bb hm
  clear G1 H1 FA FF FG
  have hk4:k4≤40000:=by have h1:=(F2.out v7 zjb).1;have:=HLn.out.2;omega
  have hk5:k5≤40000:=by have h1:=(G2.out v7 zjb).1;have:=HLm.out.2;omega
  have hbe:=zjB v7 (.cells #[] 9)
  have hlit:=JS.Own.lit0 v7 v7.heap.size zjn
  have hr3:=F2.out _ hbe
  go_wp2_with (at_builtin;first|(refine qhz rfl ?_;refine JS.qar _ v7.heap.size _ 0 [] hlit hbe.size B4 k4 d4 _ RX.2 hr3 (by omega) rfl (.tmp 75) (.tmp 76) rfl rfl rfl ?_;intro x2 w2 ho2 hb2 _ _;rw[Nat.zero_add,List.nil_append] at ho2;obtain⟨Ax,cx,rfl,_⟩:=ho2.reads;have hb82:=hbe.trans hb2;have hr5:=G2.out w2 hb82)|(refine qhz rfl ?_;refine JS.qar w2 v7.heap.size (.slice Ax k4 cx) k4 RX.2 ho2 hb82.size B5 k5 d5 _ RY.2 hr5 (by omega) rfl (.tmp 77) (.tmp 78) rfl rfl rfl ?_;intro x3 w3 ho3 hb3 _ _;obtain⟨Ay,cy,rfl,hry,_⟩:=ho3.reads))
  have hb83:=hb82.trans hb3
  have HX:=hid (JN.qeb _ _ Ay B6 (k4+k5) cy k6 d6 (RX.2++RY.2) (RX.2++RY.2) w3 hry (H2.out w3 hb83) (by omega))
  rw[show ∀x:List ByteArray,JN.eqs x x=true from fun x=>JN.qfx.2 rfl] at HX
  have HB:=hid (FB.out w3 hb83)
  clear hbe hlit hr3 hb2 ho2 hb82 hr5 ho3 hb3 hry hb83
  refine HX.out.mono ?_
  rintro e v8 ⟨rfl,mm,hm⟩
  have bb:=JD.qa4 (K:=w3.heap.size) w3 mm
  rw[←hm] at bb
  have HB8:=hid (HB.out.trans (bb.mono HB.out.size))
  clear HX HB bb hm
  go_wp2_with fail
  go_ret
  exact⟨rfl,HB8.out⟩
end Lsc
end Go.Proofs.YtlmolmohhpdhdaaGreatDoor
