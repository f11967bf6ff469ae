/-
  librarian: LibrarianKeeps, from the program's contracts:
-/
import Derived.Test.YtkegpjjehejaoaaGreatDoorYLk
import Derived.Test.YtkegpjjehejaoaaGreatDoorYEe
set_option maxRecDepth 100000
set_option maxHeartbeats 16000000
set_option linter.unusedSimpArgs false
set_option linter.unusedVariables false
namespace Go.Proofs.YtkegpjjehejaoaaGreatDoor
open Go.RowKit Go.Proofs
namespace JL
open JB
open JS (Oth qcw)
open JN (qe3)
open JR (Mem RdM qde qa5 qcv ar)
open JW (core MOk lens qaw qj3)
open Go.Proofs.YtkegpjjehejaoaaGreatDoor.Six (Few qbe)
open JE (qak qbq qef qbw qe5 qek qbj qir qgb qaj qax)
open JE (Spd)
theorem res_u8:(33:Nat)≠5:=by decide
theorem res_mem:(33:Nat)≠24:=by decide
theorem keeps11 (P:PC11)(w:World)(hG:qe3 w)(A:Option Addr)(n c:Nat)(l:List UInt8)(hr:JB.Rd w w.heap.size A n l)(_hnc:n≤c)(_hcm:c≤maxLen)(q:Cmd)(hq:Qef w q):
 Calls Tryz.prog 7 #[.slice A n c,q.val] w fun e w'=>e=.returned (.bool true)∧Below w.heap.size w w':=by
 have HP:=hid P
 have Hr:=hid hr.1
 have FB:=hid fun (W:World) (h:Below w.heap.size w W)=>h
 have FG:=hid fun (W:World) (h:Below w.heap.size w W)=>hG.on h
 have FA:=hid fun (W:World) (h:Below w.heap.size w W)=>(hr.below h).more h.size
 have FQ:=hid fun (hf:qws q=true) (W:World) (h:Below w.heap.size w W)=>((Qeg hq hf).on h).more h.size zjn
 unfold Cmd.val Cmd.cells
 clear hG hr hq
 go_enter Tryz.func7,Tryz.ntmps7
 have ba:=zjB w (.cells #[.int .u8 (q.op.toNat:Int),.string q.m.name,.int .i64 q.m.time,.int .i64 q.m.uid,.int .i64 q.m.gid,.int .i64 q.m.mode,.slice q.m.ptr q.m.len q.m.cap,.string q.nm,.int .i64 q.z,.string q.a] 28)
 have ha:=heap_alloc_new w (.cells #[.int .u8 (q.op.toNat:Int),.string q.m.name,.int .i64 q.m.time,.int .i64 q.m.uid,.int .i64 q.m.gid,.int .i64 q.m.mode,.slice q.m.ptr q.m.len q.m.cap,.string q.nm,.int .i64 q.z,.string q.a] 28)
 have sa:=World.size_alloc w (.cells #[.int .u8 (q.op.toNat:Int),.string q.m.name,.int .i64 q.m.time,.int .i64 q.m.uid,.int .i64 q.m.gid,.int .i64 q.m.mode,.slice q.m.ptr q.m.len q.m.cap,.string q.nm,.int .i64 q.z,.string q.a] 28)
 go_upto_region 1 with fail
 generalize w.alloc (.cells #[.int .u8 (q.op.toNat:Int),.string q.m.name,.int .i64 q.m.time,.int .i64 q.m.uid,.int .i64 q.m.gid,.int .i64 q.m.mode,.slice q.m.ptr q.m.len q.m.cap,.string q.nm,.int .i64 q.z,.string q.a] 28)=w1 at *
 have la:w.heap.size<w1.heap.size:=by omega
 replace FB:=zjF FB ba
 replace FG:=zjF FG ba
 replace FA:=zjF FA ba
 obtain⟨G1,hG1⟩:∃G,w.heap.size=G:=⟨_,rfl⟩
 rw[hG1] at ha la ⊢
 have FR:=hid fun (W:World) (h:Below w1.heap.size w1 W)=>(h.block G1 la).trans ha
 clear ba ha sa la hG1
 go_wp2_with fail
 refine (qb2 HP.out _ (FG.out w1 zjb)).mono ?_
 rintro e v1 ⟨rfl,b1⟩
 replace FB:=zjF FB b1
 replace FG:=zjF FG b1
 replace FA:=zjF FA b1
 replace FR:=zjF FR b1
 clear b1
 by_cases hn:10000<n
 ·have hni:(10000:Int)<(n:Int):=by omega
  go_wp2_with fail
  refine (qb2 HP.out _ (FG.out v1 zjb)).mono ?_
  rintro e v9 ⟨rfl,bq⟩
  go_wp2_with fail
  go_ret
  exact⟨rfl,(FB.out v1 zjb).trans (bq.mono (FB.out v1 zjb).size)⟩
 have hni:¬(10000:Int)<(n:Int):=by omega
 have y0:=zjc G1 0 (FR.out v1 (Below.refl _ _))
 have y1:=zjc G1 1 (FR.out v1 (Below.refl _ _))
 have y2:=zjc G1 2 (FR.out v1 (Below.refl _ _))
 have y3:=zjc G1 3 (FR.out v1 (Below.refl _ _))
 have y4:=zjc G1 4 (FR.out v1 (Below.refl _ _))
 have y5:=zjc G1 5 (FR.out v1 (Below.refl _ _))
 have y6:=zjc G1 6 (FR.out v1 (Below.refl _ _))
 have y7:=zjc G1 7 (FR.out v1 (Below.refl _ _))
 have y8:=zjc G1 8 (FR.out v1 (Below.refl _ _))
 have y9:=zjc G1 9 (FR.out v1 (Below.refl _ _))
 have HX:Hid (Calls Tryz.prog 10 #[.agg #[.int .u8 (q.op.toNat:Int),.string q.m.name,.int .i64 q.m.time,.int .i64 q.m.uid,.int .i64 q.m.gid,.int .i64 q.m.mode,.slice q.m.ptr q.m.len q.m.cap,.string q.nm,.int .i64 q.z,.string q.a]] v1 (fun e w'=>e=.returned (.bool (qws q))∧Below v1.heap.size v1 w')):=hid (qpm q v1)
 go_wp2_with fail
 refine HX.out.mono ?_
 rintro e v2 ⟨rfl,b2⟩
 replace FB:=zjF FB b2
 replace FG:=zjF FG b2
 replace FA:=zjF FA b2
 replace FR:=zjF FR b2
 clear HX b2
 clear y0 y1 y2 y3 y4 y5 y6 y7 y8 y9
 cases hf:qws q with
 |false=>
  go_wp2_with fail
  refine (qb2 HP.out _ (FG.out v2 zjb)).mono ?_
  rintro e v9 ⟨rfl,bq⟩
  go_wp2_with fail
  go_ret
  exact⟨rfl,(FB.out v2 zjb).trans (bq.mono (FB.out v2 zjb).size)⟩
 |true=>
  replace FQ:=hid fun (W:World) (h:Below v2.heap.size v2 W)=>FQ.out hf W (FB.out W h)
  have hB:=bok_of (l:=l) (by have:=Hr.out;omega)
  have HB:=hid hB
  clear hf hB
  have hn':n≤10000:=by omega
  have hlq:=((FQ.out v2 zjb)).l5
  have hlit:=JB.Own.lit0 v2 v2.heap.size zjn
  have hbe:=zjB v2 (.cells #[] 5)
  have hAr:=((FA.out v2 zjb)).below hbe
  go_upto_region 4 with (at_builtin;go_must (refine qd4 _ v2.heap.size _ 0 [] hlit hbe.size A n c v2.heap.size l hAr (by omega) rfl (.tmp 24) (.tmp 25) rfl rfl rfl ?_);intro x3 v3 ho hb3 _;rw[Nat.zero_add,List.nil_append] at ho;obtain⟨Ao,co,rfl,rho,qhoa,qhob⟩:=ho.reads)
  have b23:=hbe.trans hb3
  have rho':=rho
  replace FB:=zjF FB b23
  replace FG:=zjF FG b23
  replace FA:=zjF FA b23
  replace FR:=zjF FR b23
  replace FQ:=zjF FQ b23
  have FO:=hid fun (W:World) (h:Below v3.heap.size v3 W)=>(rho'.below h).more h.size
  clear hlit hbe hAr hb3 b23 rho ho rho'
  have y0:=zjc G1 0 (FR.out v3 (Below.refl _ _))
  have y1:=zjc G1 1 (FR.out v3 (Below.refl _ _))
  have y2:=zjc G1 2 (FR.out v3 (Below.refl _ _))
  have y3:=zjc G1 3 (FR.out v3 (Below.refl _ _))
  have y4:=zjc G1 4 (FR.out v3 (Below.refl _ _))
  have y5:=zjc G1 5 (FR.out v3 (Below.refl _ _))
  have y6:=zjc G1 6 (FR.out v3 (Below.refl _ _))
  have y7:=zjc G1 7 (FR.out v3 (Below.refl _ _))
  have y8:=zjc G1 8 (FR.out v3 (Below.refl _ _))
  have y9:=zjc G1 9 (FR.out v3 (Below.refl _ _))
  have ba:=zjB v3 (.cells #[.int .u8 (q.op.toNat:Int),.string q.m.name,.int .i64 q.m.time,.int .i64 q.m.uid,.int .i64 q.m.gid,.int .i64 q.m.mode,.slice q.m.ptr q.m.len q.m.cap,.string q.nm,.int .i64 q.z,.string q.a] 28)
  have ha:=heap_alloc_new v3 (.cells #[.int .u8 (q.op.toNat:Int),.string q.m.name,.int .i64 q.m.time,.int .i64 q.m.uid,.int .i64 q.m.gid,.int .i64 q.m.mode,.slice q.m.ptr q.m.len q.m.cap,.string q.nm,.int .i64 q.z,.string q.a] 28)
  have sa:=World.size_alloc v3 (.cells #[.int .u8 (q.op.toNat:Int),.string q.m.name,.int .i64 q.m.time,.int .i64 q.m.uid,.int .i64 q.m.gid,.int .i64 q.m.mode,.slice q.m.ptr q.m.len q.m.cap,.string q.nm,.int .i64 q.z,.string q.a] 28)
  go_upto_region 5 with fail
  generalize v3.alloc (.cells #[.int .u8 (q.op.toNat:Int),.string q.m.name,.int .i64 q.m.time,.int .i64 q.m.uid,.int .i64 q.m.gid,.int .i64 q.m.mode,.slice q.m.ptr q.m.len q.m.cap,.string q.nm,.int .i64 q.z,.string q.a] 28)=w6 at *
  have la:v3.heap.size<w6.heap.size:=by omega
  obtain⟨G6,hG6⟩:∃G,v3.heap.size=G:=⟨_,rfl⟩
  have HG6:=hid hG6
  rw[hG6] at ha la ⊢
  have Ha:=hid ha
  have hba:Below v3.heap.size v3 w6:=by rw[hG6] at ba ⊢;exact ba
  have HBa:=hid hba
  clear ba ha sa hG6 y0 y1 y2 y3 y4 y5 y6 y7 y8 y9
  have rdq:=(FQ.out w6 HBa.out).rd
  clear hba
  have hlit:=JB.Own.lit0 w6 w6.heap.size zjn
  have hbe:=zjB w6 (.cells #[] 5)
  have hAr:=(rdq).below hbe
  have y6:=cell_of_row _ G1 6 _ _ _ (FR.out _ (HBa.out.trans (hbe.mono HBa.out.size)))
  go_upto_region 6 with (at_builtin;go_must (refine qd4 _ w6.heap.size _ 0 [] hlit hbe.size q.m.ptr q.m.len q.m.cap w6.heap.size q.m.data hAr (by omega) rfl (.tmp 28) (.tmp 31) rfl rfl rfl ?_);intro x7 v7 hd hb7 _;rw[Nat.zero_add,List.nil_append] at hd;obtain⟨Ad,cd,rfl,rhd,qhda,qhdb⟩:=hd.reads;have b67:=hbe.trans hb7;have hr6:=(b67.block G6 la).trans Ha.out;have fz:∀o,v7.frozen? ⟨G6,o,none⟩=false:=(fun o=>by simp[World.frozen?,hr6]);have z6:=cell_of_row _ G6 6 _ _ _ hr6)
  have hr8:=heap_setCell_same v7 G6 6 _ _ (.slice Ad q.m.len cd) hr6
  have o8:=Own.cel.2 ((Own.cel.1 hd).setc hr6 (by decide) 6 (.slice Ad q.m.len cd))
  have b38:Below v3.heap.size v3 (v7.setCell ⟨G6,6,none⟩ (.slice Ad q.m.len cd)):=(HBa.out.trans (b67.mono (by have:=HG6.out;omega))).setCell (p:=⟨G6,6,none⟩) (by rw[HG6.out];exact Nat.le_refl _) _
  clear hlit hbe hAr hb7 rhd hd b67 fz z6 y6 rdq
  generalize v7.setCell ⟨G6,6,none⟩ (.slice Ad q.m.len cd)=w8 at *
  have k38:=b38.size
  replace FB:=zjF FB b38
  replace FG:=zjF FG b38
  replace FA:=zjF FA b38
  replace FR:=zjF FR b38
  replace FQ:=zjF FQ b38
  replace FO:=zjF FO b38
  obtain⟨_,_,e8,r8,_⟩:=o8.reads
  injection e8 with e81 _ e83
  subst e81 e83
  have FD:=hid fun (W:World) (h:Below w8.heap.size w8 W)=>(r8.below h).more h.size
  have l8:G6<w8.heap.size:=(Array.getElem?_eq_some_iff.1 hr8).1
  have FR6:=hid fun (W:World) (h:Below w8.heap.size w8 W)=>(h.block G6 l8).trans hr8
  have FQ2:=hid fun (W:World) (h:Below w8.heap.size w8 W)=>(show qdd W W.heap.size ⟨q.op,⟨q.m.name,q.m.time,q.m.uid,q.m.gid,q.m.mode,Ad,q.m.len,cd,q.m.data⟩,q.nm,q.z,q.a⟩ from ⟨⟨(FQ.out W h).ok.name,(FQ.out W h).ok.len,(FQ.out W h).ok.t,(FQ.out W h).ok.u,(FQ.out W h).ok.g,(FQ.out W h).ok.m⟩,FD.out W h,Nat.le_refl _,⟨qhda,qhdb⟩,(FQ.out W h).zl,(FQ.out W h).zu,(FQ.out W h).dl,(FQ.out W h).l5⟩)
  clear b38 o8 r8 hr8 hr6
  have y0:=zjc G6 0 (FR6.out w8 (Below.refl _ _))
  have y1:=zjc G6 1 (FR6.out w8 (Below.refl _ _))
  have y2:=zjc G6 2 (FR6.out w8 (Below.refl _ _))
  have y3:=zjc G6 3 (FR6.out w8 (Below.refl _ _))
  have y4:=zjc G6 4 (FR6.out w8 (Below.refl _ _))
  have y5:=zjc G6 5 (FR6.out w8 (Below.refl _ _))
  have y6:=zjc G6 6 (FR6.out w8 (Below.refl _ _))
  have y7:=zjc G6 7 (FR6.out w8 (Below.refl _ _))
  have y8:=zjc G6 8 (FR6.out w8 (Below.refl _ _))
  have y9:=zjc G6 9 (FR6.out w8 (Below.refl _ _))
  have HX:Hid (Calls Tryz.prog 12 #[.agg #[.int .u8 (q.op.toNat:Int),.string q.m.name,.int .i64 q.m.time,.int .i64 q.m.uid,.int .i64 q.m.gid,.int .i64 q.m.mode,.slice Ad q.m.len cd,.string q.nm,.int .i64 q.z,.string q.a]] w8 (fun e w'=>e=.returned (.agg #[.int .u8 (q.op.toNat:Int),.string q.m.name,.int .i64 q.m.time,.int .i64 q.m.uid,.int .i64 q.m.gid,.int .i64 q.m.mode,.slice Ad q.m.len cd,.string q.nm,.int .i64 q.z,.string q.a])∧Below w8.heap.size w8 w')):=hid (qcs ⟨q.op,⟨q.m.name,q.m.time,q.m.uid,q.m.gid,q.m.mode,Ad,q.m.len,cd,q.m.data⟩,q.nm,q.z,q.a⟩ w8)
  go_wp2_with fail
  refine HX.out.mono ?_
  rintro e v9 ⟨rfl,b9⟩
  replace FB:=zjF FB b9
  replace FG:=zjF FG b9
  replace FA:=zjF FA b9
  replace FR:=zjF FR b9
  replace FQ:=zjF FQ b9
  replace FO:=zjF FO b9
  replace FD:=zjF FD b9
  replace FR6:=zjF FR6 b9
  replace FQ2:=zjF FQ2 b9
  clear HX b9
  clear y0 y1 y2 y3 y4 y5 y6 y7 y8 y9
  obtain⟨Q,hQ⟩:∃Q:Cmd,Q=⟨q.op,⟨q.m.name,q.m.time,q.m.uid,q.m.gid,q.m.mode,Ad,q.m.len,cd,q.m.data⟩,q.nm,q.z,q.a⟩:=⟨_,rfl⟩
  have HX:Hid (Calls Tryz.prog 11 #[.slice Ao n co,.agg #[.int .u8 (q.op.toNat:Int),.string q.m.name,.int .i64 q.m.time,.int .i64 q.m.uid,.int .i64 q.m.gid,.int .i64 q.m.mode,.slice Ad q.m.len cd,.string q.nm,.int .i64 q.z,.string q.a]] v9 (RunQ l Q v9)):=hid (by rw[hQ];exact HP.out.run Ao n co l ⟨q.op,⟨q.m.name,q.m.time,q.m.uid,q.m.gid,q.m.mode,Ad,q.m.len,cd,q.m.data⟩,q.nm,q.z,q.a⟩ v9 (FG.out v9 zjb) (FO.out v9 zjb) qhoa qhob HB.out (FQ2.out v9 zjb))
  have HZ:=hid (Qeh (l:=l) (q:=Q) HB.out (by rw[hQ];exact ((FQ2.out v9 zjb)).s))
  clear hQ
  go_wp2_with fail
  refine HX.out.mono ?_
  rintro e v10 ⟨A1,n1,c1,B1,k1,d1,D1,j1,f1,rfl,o1,_,x1,_,b10⟩
  have k10:=b10.size
  obtain⟨_,_,e1,_,q1a,q1b⟩:=o1.reads
  injection e1 with e11 _ e13
  subst e11 e13
  obtain⟨_,_,e3,_,q3a,q3b⟩:=x1.reads
  injection e3 with e31 _ e33
  subst e31 e33
  have hn1z:n1≤100000:=by have:=o1.1;have:=HZ.out.1;omega
  have hj1z:j1≤100000:=by have:=x1.1;have:=HZ.out.2.2;omega
  have ba:=zjB v10 (.cells #[.slice A1 n1 c1,.slice B1 k1 d1,.slice D1 j1 f1] 33)
  have ha:=heap_alloc_new v10 (.cells #[.slice A1 n1 c1,.slice B1 k1 d1,.slice D1 j1 f1] 33)
  have sa:=World.size_alloc v10 (.cells #[.slice A1 n1 c1,.slice B1 k1 d1,.slice D1 j1 f1] 33)
  clear HX
  go_upto_region 7 with fail
  generalize v10.alloc (.cells #[.slice A1 n1 c1,.slice B1 k1 d1,.slice D1 j1 f1] 33)=V at *
  have O1:=hid (o1.below ba)
  have X1:=hid (x1.below ba)
  have HBV:=hid (b10.trans (ba.mono k10))
  have HRV:=hid ha
  obtain⟨G7,hG7⟩:∃G,v10.heap.size=G:=⟨_,rfl⟩
  rw[hG7] at HRV ⊢
  have hG7K:v9.heap.size≤G7:=by omega
  clear ba ha sa o1 x1 b10 hG7
  have HRow:=hid fun (W:World) (h:Spd v9.heap.size V W)=>(h.2 G7 _ _ _ hG7K HRV.out).1 res_u8 res_mem
  go_wp2_with fail
  go_loopw [9] (fun iv W=>∃k:Nat,iv=.int .i64 (k:Int)∧k≤n1∧Spd v9.heap.size V W) (fun iv _=>n1-(intOf iv).toNat)
  case atStart=>exact⟨0,rfl,by omega,Spd.refl _ _⟩
  case round=>
   obtain⟨k,rfl,hk,hS⟩:=hrel
   have t0:=zjc G7 0 (HRow.out wr hS)
   by_cases hlt:k<n1
   ·have hki:(k:Int)<(n1:Int):=by omega
    obtain⟨g,o,x,hA,hnc1,hx,hfx,hput⟩:=hS.at_ O1.out hlt
    subst hA
    have HPut:=hid hput
    clear hput hS
    go_wp2_with fail
    go_roundw
    ·exact⟨k+1,by go_num,by omega,HPut.out _⟩
    ·simp[intOf];omega
   ·obtain rfl:k=n1:=by omega
    have hki:¬(k:Int)<(k:Int):=by omega
    have HS1:=hid hS
    clear hS
    go_wp2_with fail
    obtain⟨V2,hV2⟩:∃V2,V2=wr:=⟨_,rfl⟩
    rw[←hV2] at HS1 ⊢
    clear hV2 t0
    go_loopw [10] (fun iv W=>∃k:Nat,iv=.int .i64 (k:Int)∧k≤j1∧Spd v9.heap.size V W) (fun iv _=>j1-(intOf iv).toNat)
    case atStart=>exact⟨0,rfl,by omega,HS1.out⟩
    case round=>
     obtain⟨k,rfl,hk,hS⟩:=hrel
     have t2:=zjc G7 2 (HRow.out wr hS)
     by_cases hlt:k<j1
     ·have hki:(k:Int)<(j1:Int):=by omega
      obtain⟨g,o,x,hA,hnc1,hx,hfx,hput⟩:=hS.at_ X1.out hlt
      subst hA
      have HPut:=hid hput
      clear hput hS
      go_wp2_with fail
      go_roundw
      ·exact⟨k+1,by go_num,by omega,HPut.out _⟩
      ·simp[intOf];omega
     ·obtain rfl:k=j1:=by omega
      have hki:¬(k:Int)<(k:Int):=by omega
      have bW:=HBV.out.trans hS.1
      clear hS
      generalize wr=w12 at *
      replace FB:=zjF FB bW
      replace FG:=zjF FG bW
      replace FA:=zjF FA bW
      replace FR:=zjF FR bW
      replace FQ:=zjF FQ bW
      replace FO:=zjF FO bW
      replace FD:=zjF FD bW
      replace FR6:=zjF FR6 bW
      replace FQ2:=zjF FQ2 bW
      have HSo:=hid (JD.qb6 _ rfl _ _ Ao A n co n c l l w12 (FO.out w12 zjb) (FA.out w12 zjb) (by omega))
      rw[show (l==l)=true from by simp] at HSo
      go_wp2_with fail
      refine HSo.out.mono ?_
      rintro e v13 ⟨rfl,m13,hv13⟩
      have b13:=JD.qa1 (K:=w12.heap.size) w12 m13
      rw[←hv13] at b13
      clear hv13 HSo bW t2
      replace FB:=zjF FB b13
      replace FG:=zjF FG b13
      replace FA:=zjF FA b13
      replace FR:=zjF FR b13
      replace FQ:=zjF FQ b13
      replace FO:=zjF FO b13
      replace FD:=zjF FD b13
      replace FR6:=zjF FR6 b13
      replace FQ2:=zjF FQ2 b13
      have u6:=zjc G6 6 (FR6.out v13 (Below.refl _ _))
      have y6:=zjc G1 6 (FR.out v13 (Below.refl _ _))
      have HSd:=hid (JD.qb6 _ rfl _ _ Ad q.m.ptr q.m.len cd q.m.len q.m.cap q.m.data q.m.data v13 (FD.out v13 zjb) ((FQ.out v13 zjb)).rd (by omega))
      rw[show (q.m.data==q.m.data)=true from by simp] at HSd
      go_wp2_with fail
      refine HSd.out.mono ?_
      rintro e v14 ⟨rfl,m14,hv14⟩
      have b14:=JD.qa1 (K:=v13.heap.size) v13 m14
      rw[←hv14] at b14
      clear hv14 HSd u6 y6
      go_wp2_with fail
      go_ret
      exact⟨rfl,FB.out _ b14⟩
end JL
end Go.Proofs.YtkegpjjehejaoaaGreatDoor
