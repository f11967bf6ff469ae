/-
  librarian: LibrarianInverse, from the program's contracts:
-/
import Derived.Test.YtkegpjjehejaoaaGreatDoorYLn
import Derived.BigQuiet
set_option maxRecDepth 100000
set_option maxHeartbeats 16000000
set_option linter.unusedSimpArgs false
set_option linter.unusedVariables false
namespace Go.Proofs.YtkegpjjehejaoaaGreatDoor
open Go.RowKit Go.Proofs
namespace JL
open JB
open JS (Oth qcw)
open JN (qe3)
open JR (Mem RdM qde qa5 qcv ar)
open JW (core MOk lens qaw qj3)
open Go.Proofs.YtkegpjjehejaoaaGreatDoor.Six (Few qbe)
open JE (qak qbq qef qbw qe5 qek qbj qir qgb qaj qax)
open Go.Proofs.YtkegpjjehejaoaaGreatDoor.Six (Arg8 qsa)
theorem qvm:∀{xs:List Mem} {m:Mem},(∀j (h:j<xs.length),xs[j].name≠m.name)→qaj (xs++[m]) m.name=some xs.length
 |[],m,_=>by show (if m.name=m.name then _ else _)=_;rw[if_pos rfl];rfl
 |x::r,m,h=>by
  have h0:x.name≠m.name:=h 0 (by simp)
  have ih:=qvm (xs:=r) (m:=m) fun j hj=>h (j+1) (by simp;omega)
  show (if x.name=m.name then some 0 else (qaj (r++[m]) m.name).map (·+1))=_
  rw[if_neg h0,ih]
  rfl
theorem Qfc (xs:List Mem)(m:Mem):qef xs xs.length m=xs++[m]:=by simp[qef]
theorem del_end (xs:List Mem)(m:Mem):qbw (xs++[m]) xs.length=xs:=by simp[qbw]
def qAp (m:Mem):Cmd:=⟨113,m,eN,0,eN⟩
def qDe (s:ByteArray):Cmd:=⟨100,zM,s,0,eN⟩
theorem ap_few {xs:List Mem}{m:Mem}(h1:xs.length≤199)(h2:lens xs≤14500)(h:Few xs)(hm:MOk m)(hd:m.data.length=m.len)(h5:m.len≤500):Few (xs++[m]):=by
 have:=qpn (xs:=xs) (q:=qAp m) h1 h2 h.ok h.len hm hd h5
 rw[edC_q rfl] at this
 rw[←Qfc]
 exact this
theorem run_ap {xs:List Mem}{m:Mem}(h:Few xs)(h0:(qaw 0 xs).2=0):((qaw 0 (xs++[m])).2≠0→qb8 (qbe xs) (qAp m)=(qbe xs,[],[],(qaw 0 (xs++[m])).2))∧((qaw 0 (xs++[m])).2=0→qb8 (qbe xs) (qAp m)=(qbe (xs++[m]),[],[],0)):=by
 obtain⟨_,r2,r3⟩:=qik (q:=qAp m) h h0 (.inr (.inl rfl))
 have e:edC xs (qAp m)=(xs++[m],0):=by rw[edC_q rfl,Qfc];rfl
 rw[e] at r2 r3
 exact⟨r2 rfl,r3 rfl⟩
theorem run_de {xs:List Mem}{m:Mem}(h:Few (xs++[m]))(h0:(qaw 0 (xs++[m])).2=0)(hx:(qaw 0 xs).2=0)(hn:∀j (h:j<xs.length),xs[j].name≠m.name):qb8 (qbe (xs++[m])) (qDe m.name)=(qbe xs,[],[],0):=by
 obtain⟨_,_,r3⟩:=qik (q:=qDe m.name) h h0 (.inr (.inr (.inl rfl)))
 have e:edC (xs++[m]) (qDe m.name)=(xs,0):=by
  rw[edC_d rfl]
  unfold JE.qe5
  rw[show qaj (xs++[m]) (qDe m.name).nm=some xs.length from qvm hn]
  show (qbw (xs++[m]) xs.length,(0:Int))=_
  rw[del_end]
 rw[e] at r3
 exact r3 rfl hx
theorem Qfd (P:PC11)(w:World)(hG:qe3 w)(A:Option Addr)(n c:Nat)(xs:List Mem)(h:qj3 w w.heap.size A n xs)(_hnc:n≤c)(_hcm:c≤maxLen)(hB:∀x∈xs,Frame.MB x)(m:Mem)(hm:JB.Rd w w.heap.size m.ptr m.len m.data)(gm:Frame.MB m):
 Calls Tryz.prog 8 #[.slice A n c,m.val] w fun e w'=>e=.returned (.bool true)∧Below w.heap.size w w':=by
 have HP:=hid P
 have Hl:=hid h.1
 have FB:=hid fun (W:World) (h:Below w.heap.size w W)=>h
 have FG:=hid fun (W:World) (h:Below w.heap.size w W)=>hG.on h
 have F0:=hid fun (W:World) (hb:Below w.heap.size w W)=>h.below hb
 have FD:=hid fun (W:World) (h:Below w.heap.size w W)=>(hm.below h).more h.size
 have FL:=hid fun (hf:JW.qzr xs=true) (W:World) (hb:Below w.heap.size w W)=>qsa (hG.on hb) h hb hB hf
 have Hgm:=hid gm
 have Hdl:=hid hm.1
 unfold Mem.val
 clear hG h hB hm gm
 go_enter Tryz.func8,Tryz.ntmps8
 have ba:=zjB w (.cells #[.string m.name,.int .i64 m.time,.int .i64 m.uid,.int .i64 m.gid,.int .i64 m.mode,.slice m.ptr m.len m.cap] 24)
 have ha:=heap_alloc_new w (.cells #[.string m.name,.int .i64 m.time,.int .i64 m.uid,.int .i64 m.gid,.int .i64 m.mode,.slice m.ptr m.len m.cap] 24)
 have sa:=World.size_alloc w (.cells #[.string m.name,.int .i64 m.time,.int .i64 m.uid,.int .i64 m.gid,.int .i64 m.mode,.slice m.ptr m.len m.cap] 24)
 go_upto_region 1 with fail
 generalize w.alloc (.cells #[.string m.name,.int .i64 m.time,.int .i64 m.uid,.int .i64 m.gid,.int .i64 m.mode,.slice m.ptr m.len m.cap] 24)=w1 at *
 have la:w.heap.size<w1.heap.size:=by omega
 replace FB:=zjF FB ba
 replace FG:=zjF FG ba
 replace F0:=zjF F0 ba
 replace FD:=zjF FD ba
 obtain⟨G1,hG1⟩:∃G,w.heap.size=G:=⟨_,rfl⟩
 rw[hG1] at ha la ⊢
 have FR:=hid fun (W:World) (h:Below w1.heap.size w1 W)=>(h.block G1 la).trans ha
 clear ba ha sa la hG1
 go_wp2_with fail
 refine (qb2 HP.out _ (FG.out w1 zjb)).mono ?_
 rintro e v1 ⟨rfl,b1⟩
 replace FB:=zjF FB b1
 replace FG:=zjF FG b1
 replace F0:=zjF F0 b1
 replace FD:=zjF FD b1
 replace FR:=zjF FR b1
 clear b1
 go_wp2_with fail
 refine (JW.qxw _ A n c xs v1 (F0.out v1 zjb) (by have:=(FB.out v1 zjb).size;omega)).mono ?_
 rintro e v2 ⟨rfl,b2⟩
 replace FB:=zjF FB b2
 replace FG:=zjF FG b2
 replace F0:=zjF F0 b2
 replace FD:=zjF FD b2
 replace FR:=zjF FR b2
 clear F0
 clear b2
 cases hm:JW.qzr xs with
 |false=>
  go_wp2_with fail
  refine (qb2 HP.out _ (FG.out v2 zjb)).mono ?_
  rintro e v9 ⟨rfl,bq⟩
  go_wp2_with fail
  go_ret
  exact⟨rfl,(FB.out v2 zjb).trans (bq.mono (FB.out v2 zjb).size)⟩
 |true=>
  have y0:=zjc G1 0 (FR.out v2 (Below.refl _ _))
  have y1:=zjc G1 1 (FR.out v2 (Below.refl _ _))
  have y2:=zjc G1 2 (FR.out v2 (Below.refl _ _))
  have y3:=zjc G1 3 (FR.out v2 (Below.refl _ _))
  have y4:=zjc G1 4 (FR.out v2 (Below.refl _ _))
  have y5:=zjc G1 5 (FR.out v2 (Below.refl _ _))
  by_cases hd:500<m.len
  ·have hdi:(500:Int)<(m.len:Int):=by omega
   go_wp2_with fail
   refine (qb2 HP.out _ (FG.out v2 zjb)).mono ?_
   rintro e v9 ⟨rfl,bq⟩
   go_wp2_with fail
   go_ret
   exact⟨rfl,(FB.out v2 zjb).trans (bq.mono (FB.out v2 zjb).size)⟩
  have hdi:¬(500:Int)<(m.len:Int):=by omega
  by_cases hs:300<m.name.size
  ·have hsi:(300:Int)<(m.name.size:Int):=by omega
   go_wp2_with fail
   refine (qb2 HP.out _ (FG.out v2 zjb)).mono ?_
   rintro e v9 ⟨rfl,bq⟩
   go_wp2_with fail
   go_ret
   exact⟨rfl,(FB.out v2 zjb).trans (bq.mono (FB.out v2 zjb).size)⟩
  have hsi:¬(300:Int)<(m.name.size:Int):=by omega
  replace FL:=hid fun (W:World) (h:Below v2.heap.size v2 W)=>FL.out hm W (FB.out W h)
  have hL:=(FL.out v2 zjb)
  have HF:=hid hL.few
  have hsm:=qvk hm
  have Hsm:=hid hsm
  have hn20:n≤20:=by have:=Hl.out;omega
  have HMo:Hid (MOk m):=hid ⟨by omega,by omega,Hgm.out.2.1.2,Hgm.out.2.2.1.2,Hgm.out.2.2.2.1.2,Hgm.out.2.2.2.2.1.2⟩
  have h5:m.len≤500:=by omega
  clear hm hsm hd hs
  have HX:=hid ((Six.qc5 _ A n c xs v2 hL.rd hL.hK hL.few fun x hx=>(hL.cap x hx).1).mono fun e w' h=>JK.qeu h)
  clear hL
  go_wp2_with fail
  refine HX.out.mono ?_
  rintro e v4 ⟨Ac,nc,cc,A1',n1',c1',A2',n2',c2',rfl,hnc',rc,qc1,qc2,_,b4⟩
  replace FB:=zjF FB b4
  replace FG:=zjF FG b4
  replace FD:=zjF FD b4
  replace FR:=zjF FR b4
  replace FL:=zjF FL b4
  have FC:=hid fun (W:World) (h:Below v4.heap.size v4 W)=>(rc.below h).more h.size
  clear HX b4 rc hnc' hdi hsi y0 y1 y2 y3 y4 y5
  generalize hz:(qaw 0 xs).2=fz at *
  have Hz:=hid hz
  clear hz
  go_wp2_with fail
  go_loopw [9] (fun iv W=>∃k:Nat,iv=.int .i64 (k:Int)∧k≤n∧Hid (∀j (h:j<xs.length),j<k→xs[j].name≠m.name)∧Below v4.heap.size v4 W) (fun iv _=>n-(intOf iv).toNat)
  case atStart=>exact⟨0,rfl,by omega,hid (fun j _ hj=>by omega),Below.refl _ _⟩
  case round=>
   obtain⟨k,rfl,hk,hN,hb⟩:=hrel
   by_cases hlt:k<n
   ·have hkl:k<xs.length:=by have:=Hl.out;omega
    have hki:(k:Int)<(n:Int):=by omega
    have hLr:=FL.out wr hb
    obtain⟨⟨b,o,rfl,hbK,hcell⟩,_,_⟩:=hLr.rd.2 k hkl
    have p0:=hcell.1
    have y0:=zjc G1 0 (FR.out wr hb)
    clear hcell hLr
    by_cases hq:xs[k].name=m.name
    ·have hqb:(xs[k].name.toList==m.name.toList)=true:=by rw[hq];simp
     clear hq
     obtain⟨x0,hx0⟩:∃x0,xs[k].name=x0:=⟨_,rfl⟩
     rw[hx0] at p0 hqb
     clear hx0
     go_upto_region 7 with fail
     go_quiet (fail)
     go_wp2_with fail
     go_ret
     exact⟨rfl,(FB.out wr hb).trans ⟨rfl,rfl,rfl,Nat.le_refl _,fun _ _=>rfl⟩⟩
    ·have hN2:Hid (∀j (h:j<xs.length),j<k+1→xs[j].name≠m.name):=hid fun j hj hjk=>by
      by_cases e:j=k
      ·subst e;exact hq
      ·exact hN.out j hj (by omega)
     have hqb:(xs[k].name.toList==m.name.toList)=false:=by rw[beq_eq_false_iff_ne];exact fun e=>hq (JN.qin.1 e)
     clear hq
     obtain⟨x0,hx0⟩:∃x0,xs[k].name=x0:=⟨_,rfl⟩
     rw[hx0] at p0 hqb
     clear hx0
     go_upto_region 7 with fail
     go_quiet (fail)
     go_wp2_with fail
     go_roundw
     ·exact⟨k+1,by go_num,by omega,hN2,hb.trans ⟨rfl,rfl,rfl,Nat.le_refl _,fun _ _=>rfl⟩⟩
     ·simp[intOf];omega
   ·obtain rfl:k=n:=by omega
    have hki:¬(k:Int)<(k:Int):=by omega
    have HN:Hid (∀j (h:j<xs.length),xs[j].name≠m.name):=hid fun j hj=>hN.out j hj (by have:=Hl.out;omega)
    clear hN
    generalize wr=w5 at *
    replace FB:=zjF FB hb
    replace FG:=zjF FG hb
    replace FD:=zjF FD hb
    replace FR:=zjF FR hb
    replace FL:=zjF FL hb
    replace FC:=zjF FC hb
    clear hb
    by_cases h0:fz=0
    ·have hzb:(fz !=0)=false:=by rw[h0];rfl
     have HZ0:=hid (Hz.out.trans h0)
     clear h0 Hz
     have HRA:=hid (run_ap (m:=m) HF.out HZ0.out)
     have HSm:=hid (qfr HF.out HZ0.out)
     have hncl:nc≤99000:=by have h1:=(FC.out w5 zjb).1;have:=HSm.out.len;omega
     have HBk:=hid (HSm.out.bok (by have:=Hsm.out.1;omega) (by have:=Hsm.out.2;omega))
     obtain⟨lc,hlc⟩:∃lc,qbe xs=lc:=⟨_,rfl⟩
     have HLC:=hid hlc
     rw[hlc] at FC HRA HBk HSm
     clear hlc
     have y0:=zjc G1 0 (FR.out w5 (Below.refl _ _))
     have y1:=zjc G1 1 (FR.out w5 (Below.refl _ _))
     have y2:=zjc G1 2 (FR.out w5 (Below.refl _ _))
     have y3:=zjc G1 3 (FR.out w5 (Below.refl _ _))
     have y4:=zjc G1 4 (FR.out w5 (Below.refl _ _))
     have y5:=zjc G1 5 (FR.out w5 (Below.refl _ _))
     obtain⟨ra,rn,rx,rz,hR⟩:∃ra rn rx rz,qb8 lc (qAp m)=(ra,rn,rx,rz):=⟨_,_,_,_,rfl⟩
     have HR:=hid hR
     rw[hR] at HRA
     have HCm:=hid fun (W:World) (h:Below w5.heap.size w5 W)=>(show qdd W W.heap.size (qAp m) from ⟨HMo.out,FD.out W h,Nat.le_refl _,Hgm.out.cap,by show (-9223372036854775808:Int)≤0;decide,by show (0:Int)<_;decide,Hdl.out,h5⟩)
     have HZ:Hid (ra.length≤99000):=hid (by have:=qkw HBk.out ((HCm.out w5 zjb)).s;rw[hR] at this;exact this)
     clear hR
     have HX:Hid (Calls Tryz.prog 11 #[.slice Ac nc cc,.agg #[.int .u8 113,.string m.name,.int .i64 m.time,.int .i64 m.uid,.int .i64 m.gid,.int .i64 m.mode,.slice m.ptr m.len m.cap,.string ⟨#[]⟩,.int .i64 0,.string ⟨#[]⟩]] w5 (RunR ra rn rx rz w5)):=hid ((HP.out.run Ac nc cc lc (qAp m) w5 (FG.out w5 zjb) (FC.out w5 zjb) qc1 qc2 HBk.out (HCm.out w5 zjb)).mono fun e w' h=>h.p.at_ HR.out)
     go_wp2_with fail
     refine HX.out.mono ?_
     rintro e v6 ⟨A1,n1,c1,B1,k1,d1,D1,j1,f1,rfl,⟨r1,hn1,hm1⟩,s1,x1,b6⟩
     replace FB:=zjF FB b6
     replace FG:=zjF FG b6
     replace FD:=zjF FD b6
     replace FR:=zjF FR b6
     replace FL:=zjF FL b6
     replace FC:=zjF FC b6
     clear HX b6
     have F1:=hid fun (W:World) (h:Below v6.heap.size v6 W)=>(r1.below h).more h.size
     clear r1 s1 x1 HCm
     have ba:=zjB v6 (.cells #[.slice A1 n1 c1,.slice B1 k1 d1,.slice D1 j1 f1] 33)
     have ha:=heap_alloc_new v6 (.cells #[.slice A1 n1 c1,.slice B1 k1 d1,.slice D1 j1 f1] 33)
     have sa:=World.size_alloc v6 (.cells #[.slice A1 n1 c1,.slice B1 k1 d1,.slice D1 j1 f1] 33)
     go_upto_region 12 with fail
     generalize v6.alloc (.cells #[.slice A1 n1 c1,.slice B1 k1 d1,.slice D1 j1 f1] 33)=w7 at *
     have la:v6.heap.size<w7.heap.size:=by omega
     replace FB:=zjF FB ba
     replace FG:=zjF FG ba
     replace FD:=zjF FD ba
     replace FR:=zjF FR ba
     replace FL:=zjF FL ba
     replace FC:=zjF FC ba
     replace F1:=zjF F1 ba
     obtain⟨G7,hG7⟩:∃G,v6.heap.size=G:=⟨_,rfl⟩
     rw[hG7] at ha la ⊢
     have FR1:=hid fun (W:World) (h:Below w7.heap.size w7 W)=>(h.block G7 la).trans ha
     clear ba ha sa la hG7
     have hn1':n1≤99000:=by have h1:=(F1.out w7 zjb).1;have:=HZ.out;omega
     generalize hfz:(qaw 0 (xs++[m])).2=hz at *
     have Hfz:=hid hfz
     clear hfz
     by_cases hh0:hz=0
     ·have HEQ:Hid (ra=qbe (xs++[m])∧rz=0):=hid (by have:=HRA.out.2 hh0;injection this with t1 t2;injection t2 with _ t2;injection t2 with _ t2;exact⟨t1,t2⟩)
      have hrz:=HEQ.out.2
      subst hrz
      have HFw:=hid (ap_few (m:=m) (by have:=Hsm.out.1;omega) (by have:=Hsm.out.2;omega) HF.out HMo.out Hdl.out h5)
      have HZm:=hid (Hfz.out.trans hh0)
      have HRD:=hid (run_de HFw.out HZm.out HZ0.out HN.out)
      rw[HLC.out,←HEQ.out.1] at HRD
      have HBk2:=hid (show BOk ra by rw[HEQ.out.1];exact (qfr HFw.out HZm.out).bok (by rw[List.length_append];have:=Hsm.out.1;simp;omega) (by have h1:=qc7 xs [m];have h2:=Hsm.out.2;have h3:lens [m]=m.len:=(by simp[lens]);omega))
      clear hh0 HRA Hfz HEQ
      have y0:=zjc G1 0 (FR.out w7 (Below.refl _ _))
      have t0:=zjc G7 0 (FR1.out w7 (Below.refl _ _))
      have HX:Hid (Calls Tryz.prog 11 #[.slice A1 n1 c1,.agg #[.int .u8 100,.string ⟨#[]⟩,.int .i64 0,.int .i64 0,.int .i64 0,.int .i64 0,.slice none 0 0,.string m.name,.int .i64 0,.string ⟨#[]⟩]] w7 (RunR lc [] [] 0 w7)):=hid ((HP.out.run A1 n1 c1 ra (qDe m.name) w7 (FG.out w7 zjb) (F1.out w7 zjb) hn1 hm1 HBk2.out zC).mono fun e w' h=>h.p.at_ HRD.out)
      go_wp2_with fail
      refine HX.out.mono ?_
      rintro e v8 ⟨A2,n2,c2,B2,k2,d2,D2,j2,f2,rfl,⟨r2,hn2,hm2⟩,s2,x2,b8⟩
      replace FB:=zjF FB b8
      replace FG:=zjF FG b8
      replace FD:=zjF FD b8
      replace FR:=zjF FR b8
      replace FL:=zjF FL b8
      replace FC:=zjF FC b8
      replace F1:=zjF F1 b8
      replace FR1:=zjF FR1 b8
      clear HX b8
      have F2:=hid fun (W:World) (h:Below v8.heap.size v8 W)=>(r2.below h).more h.size
      clear r2 s2 x2 y0 t0
      have ba:=zjB v8 (.cells #[.slice A2 n2 c2,.slice B2 k2 d2,.slice D2 j2 f2] 33)
      have ha:=heap_alloc_new v8 (.cells #[.slice A2 n2 c2,.slice B2 k2 d2,.slice D2 j2 f2] 33)
      have sa:=World.size_alloc v8 (.cells #[.slice A2 n2 c2,.slice B2 k2 d2,.slice D2 j2 f2] 33)
      go_upto_region 15 with fail
      generalize v8.alloc (.cells #[.slice A2 n2 c2,.slice B2 k2 d2,.slice D2 j2 f2] 33)=w9 at *
      have la:v8.heap.size<w9.heap.size:=by omega
      replace FB:=zjF FB ba
      replace FG:=zjF FG ba
      replace FD:=zjF FD ba
      replace FR:=zjF FR ba
      replace FL:=zjF FL ba
      replace FC:=zjF FC ba
      replace F1:=zjF F1 ba
      replace FR1:=zjF FR1 ba
      replace F2:=zjF F2 ba
      obtain⟨G9,hG9⟩:∃G,v8.heap.size=G:=⟨_,rfl⟩
      rw[hG9] at ha la ⊢
      have FR2:=hid fun (W:World) (h:Below w9.heap.size w9 W)=>(h.block G9 la).trans ha
      clear ba ha sa la hG9
      have hn2e:n2≤99000:=by have h1:=(F2.out w9 zjb).1;have h2:=HSm.out.len;omega
      have HS:=hid (JD.qb6 _ rfl _ _ A2 Ac n2 c2 nc cc lc lc w9 (F2.out w9 zjb) (FC.out w9 zjb) (by have h1:=(F2.out w9 zjb).1;have h2:=HSm.out.len;omega))
      rw[show (lc==lc)=true from by simp] at HS
      have t0:=zjc G9 0 (FR2.out w9 (Below.refl _ _))
      go_wp2_with fail
      refine HS.out.mono ?_
      rintro e v13 ⟨rfl,m13,hv13⟩
      have b13:=JD.qa1 (K:=w9.heap.size) w9 m13
      rw[←hv13] at b13
      clear hv13 HS t0
      go_wp2_with fail
      go_ret
      exact⟨rfl,FB.out _ b13⟩
     have HEQ:Hid (ra=lc∧rz=hz):=hid (by have:=HRA.out.1 hh0;injection this with t1 t2;injection t2 with _ t2;injection t2 with _ t2;exact⟨t1,t2⟩)
     have hrz:=HEQ.out.2
     subst hrz
     have hhb:(rz !=0)=true:=by simpa using hh0
     have hF1:JB.Rd w7 w7.heap.size A1 n1 lc:=by rw[←HEQ.out.1];exact (F1.out w7 zjb)
     clear hh0 HRA
     have HS:=hid (JD.qb6 _ rfl _ _ A1 Ac n1 c1 nc cc lc lc w7 hF1 (FC.out w7 zjb) (by have h1:=(FC.out w7 zjb).1;have h2:=HSm.out.len;omega))
     rw[show (lc==lc)=true from by simp] at HS
     have t0:=zjc G7 0 (FR1.out w7 (Below.refl _ _))
     go_wp2_with fail
     refine HS.out.mono ?_
     rintro e v13 ⟨rfl,m13,hv13⟩
     have b13:=JD.qa1 (K:=w7.heap.size) w7 m13
     rw[←hv13] at b13
     clear hv13 HS t0
     go_wp2_with fail
     go_ret
     exact⟨rfl,FB.out _ b13⟩
    have hzb:(fz !=0)=true:=by simpa using h0
    clear h0 Hz
    go_wp2_with fail
    go_ret
    exact⟨rfl,FB.out w5 zjb⟩
end JL
end Go.Proofs.YtkegpjjehejaoaaGreatDoor
