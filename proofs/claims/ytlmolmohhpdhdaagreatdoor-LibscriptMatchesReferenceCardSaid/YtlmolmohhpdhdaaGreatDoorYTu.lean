/-
  LibscriptMatchesReference: for all bytes, files and texts,
-/
import Derived.Test.YtlmolmohhpdhdaaGreatDoorYTr
set_option maxRecDepth 100000
set_option maxHeartbeats 16000000
set_option linter.all false
namespace Go.Proofs.YtlmolmohhpdhdaaGreatDoor
open Go.RowKit Go.Proofs Tryz
namespace Lsc
open JB
open JN (bts str qac qaw qa2 Gnd qev)
open JR (Mem ar)
open JL
open JD (tx)
theorem qn4.len {l:List UInt8}{fs:List Mem}{ls:List ByteArray}{N S:Nat}(h:qn4 l fs ls N S):(qj4 l fs ls).1.length<=99000/\(qj4 l fs ls).2.length<=40000:=by
 have h1:=(h.at_ zjn).len;rw[List.take_length] at h1;have h2:=Qa6 h.f ls h.sml h.n h.s h.l;have:=h.n;exact⟨h1,by omega⟩
theorem match12 (w:World)(hG:qev w)(A:Option Addr)(n c:Nat)(l:List UInt8)(hr:JB.Rd w w.heap.size A n l)(hnc:n<=c)(hcm:c<=maxLen)(F:Option Addr)(fn fc:Nat)(fs:List Mem)(hF:qs5 w F fn fs)(s:ByteArray):
 Calls prog 3 #[.slice A n c,.slice F fn fc,.string s] w fun e w'=>e=.returned (.bool true)/\Below w.heap.size w w':=by
 have Hr:=hid hr.1;have Yw:=hid hF;have Xk:=hid (And.intro hnc hcm);have FB:=hid fun (W:World) (h:Below w.heap.size w W)=>h;have FG:=hid fun (W:World) (h:Below w.heap.size w W)=>hG.on h;have FA:=hid fun (W:World) (h:Below w.heap.size w W)=>(hr.below h).more h.size;have FF:=hid fun (W:World) (h:Below w.heap.size w W)=>(hF.1.below h).more h.size;clear hG hr hF hnc hcm;go_enter func3,ntmps3;go_wp2_with fail
 refine (qjs _ (FG.out w zjb)).mono ?_;rintro e v1 ⟨rfl,b1⟩;replace FB:=zjF FB b1;replace FG:=zjF FG b1;replace FA:=zjF FA b1;replace FF:=zjF FF b1;clear b1;by_cases hn:5000<n
 ·have Ys:(5000:Int)<(n:Int):=by omega
  go_wp2_with fail
  refine (qjs _ (FG.out v1 zjb)).mono ?_;rintro e v9 ⟨rfl,bq⟩;go_wp2_with fail
  go_ret
  exact⟨rfl,(FB.out v1 zjb).trans (bq.mono (FB.out v1 zjb).size)⟩
 have Ys:¬(5000:Int)<(n:Int):=by omega
 have HX:=hid (rfew_any _ F fn fc fs s v1 (FF.out v1 zjb) zjn);go_wp2_with fail
 refine HX.out.mono ?_;rintro e v2 ⟨rfl,b2⟩;replace FB:=zjF FB b2;replace FG:=zjF FG b2;replace FA:=zjF FA b2;replace FF:=zjF FF b2;clear HX;clear b2;cases hf:fewF fs s
 case false=>
  go_wp2_with fail
  refine (qjs _ (FG.out v2 zjb)).mono ?_;rintro e v9 ⟨rfl,bq⟩;go_wp2_with fail
  go_ret
  exact⟨rfl,(FB.out v2 zjb).trans (bq.mono (FB.out v2 zjb).size)⟩
 obtain⟨Xn,Kd⟩:=files_ok Yw.out hf;have Xr:=hid Xn;have Xc:=hid (scr_ok (l:=l) (by have:=Hr.out;omega) Xn hf);have Xd:Hid (s.size<=1000):=hid (qjr hf).2.2.1;obtain⟨RX,Xq⟩:∃RX,qj4 l fs (qbm s)=RX:=⟨_,rfl⟩;have Yc:=hid Xq;have Xz:Hid (RX.1.length<=99000/\RX.2.length<=40000):=hid (by rw[<-Xq];exact Xc.out.len);have Xx:Hid ((qbm s).length<=12):=hid (qjr hf).2.2.2;clear Xq hf Xn;have HX:=hid (qq8 A n c l F fn fc fs s 83 5000 v2 (FG.out v2 zjb) (FA.out v2 zjb) (by omega) Xc.out (FF.out v2 zjb) (by omega) (by have:=Xd.out;omega));rw[Yc.out] at HX;go_wp2_with fail
 refine HX.out.mono ?_;rintro e v3 ⟨A3,n3,c3,B3,k3,d3,rfl,o3,s3,b3⟩;replace FB:=zjF FB b3;replace FG:=zjF FG b3;replace FA:=zjF FA b3;replace FF:=zjF FF b3;obtain⟨_,_,ee,Xy,Yi,Yf⟩:=o3.reads;injection ee with ee2 _ ee3;subst ee2 ee3;have F1:=hid fun (W:World) (h:Below v3.heap.size v3 W)=>(Xy.below h).more h.size;have Kh:=hid (And.intro Yi Yf);clear Xy Yi Yf;have F2:=hid fun (W:World) (h:Below v3.heap.size v3 W)=>(s3.below h).more h.size;clear HX b3 s3 o3;have HX:=hid (qyc A n c l F fn fc fs s 83 5000 v3 (FA.out v3 zjb) Xk.out.1 Xc.out (FF.out v3 zjb) (by omega) (by have:=Xd.out;omega));rw[Yc.out] at HX;go_wp2_with fail
 refine HX.out.mono ?_;rintro e v4 ⟨A4,n4,c4,B4,k4,d4,rfl,o4,s4,b4⟩;replace FB:=zjF FB b4;replace FG:=zjF FG b4;replace FA:=zjF FA b4;replace FF:=zjF FF b4;replace F1:=zjF F1 b4;replace F2:=zjF F2 b4;obtain⟨_,_,ee,Ya,Yd,Ye⟩:=o4.reads;injection ee with ee2 _ ee3;subst ee2 ee3;have E1:=hid fun (W:World) (h:Below v4.heap.size v4 W)=>(Ya.below h).more h.size;have Kf:=hid (And.intro Yd Ye);clear Ya Yd Ye;have E2:=hid fun (W:World) (h:Below v4.heap.size v4 W)=>(s4.below h).more h.size;clear HX b4 s4 o4;have HX:=hid (JD.qe7 _ rfl _ _ A3 A4 n3 c3 n4 c4 RX.1 RX.1 v4 (F1.out v4 zjb) (E1.out v4 zjb) (by have:=(F1.out v4 zjb).1;have:=Xz.out.1;omega));rw[show (RX.1==RX.1)=true from by simp] at HX;go_wp2_with fail
 refine HX.out.mono ?_;rintro e v5 ⟨rfl,mm,hm⟩;have bb:=JD.qa0 (K:=v4.heap.size) v4 mm;rw[<-hm] at bb;replace FB:=zjF FB bb;replace FG:=zjF FG bb;replace FA:=zjF FA bb;replace FF:=zjF FF bb;replace F1:=zjF F1 bb;replace F2:=zjF F2 bb;replace E1:=zjF E1 bb;replace E2:=zjF E2 bb;clear HX bb hm;have HX:=hid (JN.qgk _ _ B3 B4 k3 d3 k4 d4 RX.2 RX.2 v5 (F2.out v5 zjb) (E2.out v5 zjb) (by have:=(F2.out v5 zjb).1;have:=Xz.out.2;omega));rw[show JN.eqs RX.2 RX.2=true from JN.qib.2 rfl] at HX;go_wp2_with fail
 refine HX.out.mono ?_;rintro e v6 ⟨rfl,mm,hm⟩;have bb:=JD.qa0 (K:=v5.heap.size) v5 mm;rw[<-hm] at bb;replace FB:=zjF FB bb;replace FG:=zjF FG bb;replace FA:=zjF FA bb;replace FF:=zjF FF bb;replace F1:=zjF F1 bb;replace F2:=zjF F2 bb;replace E1:=zjF E1 bb;replace E2:=zjF E2 bb;clear HX bb hm;clear F1 F2 E1 E2;obtain⟨ls,Xu⟩:∃ls,qbm s=ls:=⟨_,rfl⟩;have Xm:=hid Xu;rw[Xu] at Xx;clear Xu;have HX:=hid (qmb s v6 (FG.out v6 zjb).gnd (by have:=Xd.out;omega));rw[Xm.out] at HX;go_wp2_with fail
 refine HX.out.mono ?_;rintro e v7 ⟨L7,m7,q7,rfl,h7,_,_,b7⟩;replace FB:=zjF FB b7;replace FG:=zjF FG b7;replace FA:=zjF FA b7;replace FF:=zjF FF b7;have F1:=hid fun (W:World) (h:Below v7.heap.size v7 W)=>(h7.below h).more h.size;clear HX b7 h7;have HX:=hid (qiv s v7 (by have:=Xd.out;omega));rw[Xm.out] at HX;go_wp2_with fail
 refine HX.out.mono ?_;rintro e v8 ⟨L8,m8,q8,rfl,h8,_,_,b8⟩;replace FB:=zjF FB b8;replace FG:=zjF FG b8;replace FA:=zjF FA b8;replace FF:=zjF FF b8;replace F1:=zjF F1 b8;have F2:=hid fun (W:World) (h:Below v8.heap.size v8 W)=>(h8.below h).more h.size;clear HX b8 h8;have HX:=hid (JN.qgk _ _ L7 L8 m7 q7 m8 q8 ls ls v8 (F1.out v8 zjb) (F2.out v8 zjb) (by have:=(F1.out v8 zjb).1;have:=Xx.out;omega));rw[show JN.eqs ls ls=true from JN.qib.2 rfl] at HX;go_wp2_with fail
 refine HX.out.mono ?_;rintro e v9 ⟨rfl,mm,hm⟩;have bb:=JD.qa0 (K:=v8.heap.size) v8 mm;rw[<-hm] at bb;replace FB:=zjF FB bb;replace FG:=zjF FG bb;replace FA:=zjF FA bb;replace FF:=zjF FF bb;replace F1:=zjF F1 bb;replace F2:=zjF F2 bb;clear HX bb hm;clear F1 F2;have HX:=hid (qiv s v9 (by have:=Xd.out;omega));rw[Xm.out] at HX;go_wp2_with fail
 refine HX.out.mono ?_;rintro e va ⟨L9,m9,q9,rfl,h9,_,_,b9⟩;replace FB:=zjF FB b9;replace FG:=zjF FG b9;replace FA:=zjF FA b9;replace FF:=zjF FF b9;have F1:=hid fun (W:World) (h:Below va.heap.size va W)=>(h9.below h).more h.size;clear HX b9 h9;have Yy:Hid (ls.length=m9):=hid (F1.out va zjb).1;by_cases h0:m9=0
 ·have Yr:((m9:Int)==0)=true:=by rw[h0];rfl
  clear h0;go_wp2_with fail
  go_ret
  exact⟨rfl,(FB.out va zjb)⟩
 have Yr:((m9:Int)==0)=false:=by rw[zls];omega
 have Kg:(0:Int)<(m9:Int):=by omega
 have Xs:0<ls.length:=by have:=Yy.out;omega
 obtain⟨t,ht⟩:∃t,ls[0]'Xs=t:=⟨_,rfl⟩;have Xp:Hid (t.size<=1000):=hid (by rw[<-ht];exact Xc.out.l _ (by rw[Xm.out];exact zlq Xs));have Xv:Hid (BOk l):=hid (Xc.out.sml.bok (by omega) (by omega));obtain⟨LX,Xt⟩:∃LX,qcs l fs t=LX:=⟨_,rfl⟩;have Xw:=hid Xt;have Yb:Hid (LX.1.length<=99000/\LX.2.1.length<=200):=hid (by rw[<-Xt];exact⟨(qq5 Xc.out.sml (by omega) (by omega) Xr.out Xp.out).len,qq6 Xv.out.n fs t⟩);clear Xt h0;obtain⟨b0,o0,rfl,_,y0⟩:=(F1.out va zjb).2 0 Xs;rw[ht,Nat.add_zero] at y0;have HX:=hid (qq7 A n c l F fn fc fs t va (FG.out va zjb) (FA.out va zjb) Xk.out.1 Xk.out.2 Xv.out (FF.out va zjb) Xr.out (by omega) Xp.out);rw[Xw.out] at HX;go_wp2_with fail
 refine HX.out.mono ?_;rintro e vb ⟨Yu,Yz,Ka,Kb,Yn,Yp,rfl,Yh,s11,Xb⟩;replace FB:=zjF FB Xb;replace FG:=zjF FG Xb;replace FA:=zjF FA Xb;replace FF:=zjF FF Xb;replace F1:=zjF F1 Xb;obtain⟨_,_,ee,Xh,Xg,Xi⟩:=Yh.reads;injection ee with ee2 _ ee3;subst ee2 ee3;have G1:=hid fun (W:World) (h:Below vb.heap.size vb W)=>(Xh.below h).more h.size;have Yk:=hid (And.intro Xg Xi);clear Xh Xg Xi;have G2:=hid fun (W:World) (h:Below vb.heap.size vb W)=>(s11.below h).more h.size;clear HX Xb s11 Yh;clear y0;have y0:=((F1.out vb zjb).2 0 Xs);obtain⟨b1,o1,e1,_,y0⟩:=y0;injection e1 with e1;injection e1 with e2 e3;subst e2 e3;rw[ht,Nat.add_zero] at y0;have HX:=hid (qwb A n c l F fn fc fs t vb (FA.out vb zjb) Xk.out.1 Xv.out (FF.out vb zjb) Xr.out (by omega) Xp.out);rw[Xw.out] at HX;go_wp2_with fail
 refine HX.out.mono ?_;rintro e vc ⟨Yq,Yt,Kc,Yv,Yx,Ym,rfl,Yg,s12,Xa⟩;replace FB:=zjF FB Xa;replace FG:=zjF FG Xa;replace FA:=zjF FA Xa;replace FF:=zjF FF Xa;replace F1:=zjF F1 Xa;replace G1:=zjF G1 Xa;replace G2:=zjF G2 Xa;obtain⟨_,_,ee,Xe,Xf,Xj⟩:=Yg.reads;injection ee with ee2 _ ee3;subst ee2 ee3;have H1:=hid fun (W:World) (h:Below vc.heap.size vc W)=>(Xe.below h).more h.size;have Yj:=hid (And.intro Xf Xj);clear Xe Xf Xj;have H2:=hid fun (W:World) (h:Below vc.heap.size vc W)=>(s12.below h).more h.size;clear HX Xa s12 Yg;clear y0;have HX:=hid (JD.qe7 _ rfl _ _ Yu Yq Yz Ka Yt Kc LX.1 LX.1 vc (G1.out vc zjb) (H1.out vc zjb) (by have:=(G1.out vc zjb).1;have:=Yb.out.1;omega));rw[show (LX.1==LX.1)=true from by simp] at HX;go_wp2_with fail
 refine HX.out.mono ?_;rintro e vd ⟨rfl,mm,hm⟩;have bb:=JD.qa0 (K:=vc.heap.size) vc mm;rw[<-hm] at bb;replace FB:=zjF FB bb;replace FG:=zjF FG bb;replace FA:=zjF FA bb;replace FF:=zjF FF bb;replace F1:=zjF F1 bb;replace G1:=zjF G1 bb;replace G2:=zjF G2 bb;replace H1:=zjF H1 bb;replace H2:=zjF H2 bb;clear HX bb hm;have HX:=hid (JN.qgk _ _ Kb Yv Yn Yp Yx Ym LX.2.1 LX.2.1 vd (G2.out vd zjb) (H2.out vd zjb) (by have:=(G2.out vd zjb).1;have:=Yb.out.2;omega));rw[show JN.eqs LX.2.1 LX.2.1=true from JN.qib.2 rfl] at HX;go_wp2_with fail
 refine HX.out.mono ?_;rintro e ve ⟨rfl,mm,hm⟩;have bb:=JD.qa0 (K:=vd.heap.size) vd mm;rw[<-hm] at bb;replace FB:=zjF FB bb;replace FG:=zjF FG bb;replace FA:=zjF FA bb;replace FF:=zjF FF bb;replace F1:=zjF F1 bb;replace G1:=zjF G1 bb;replace G2:=zjF G2 bb;replace H1:=zjF H1 bb;replace H2:=zjF H2 bb;clear HX bb hm;have Ke:(LX.2.2==LX.2.2)=true:=by simp
 go_wp2_with fail
 go_ret
 exact⟨rfl,(FB.out ve zjb)⟩
end Lsc
end Go.Proofs.YtlmolmohhpdhdaaGreatDoor
