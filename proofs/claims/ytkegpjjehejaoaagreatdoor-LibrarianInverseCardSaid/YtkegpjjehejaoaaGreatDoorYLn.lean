/-
  librarian: LibrarianModel, from the program's contracts: a
-/
import Derived.Test.YtkegpjjehejaoaaGreatDoorYLk
set_option maxRecDepth 100000
set_option maxHeartbeats 16000000
set_option linter.unusedSimpArgs false
set_option linter.unusedVariables false
namespace Go.Proofs.YtkegpjjehejaoaaGreatDoor
open Go.RowKit Go.Proofs
namespace JL
open JB
open JS (Oth qcw)
open JN (qe3)
open JR (Mem RdM qde qa5 qcv ar)
open JW (core MOk lens qaw qj3)
open Go.Proofs.YtkegpjjehejaoaaGreatDoor.Six (Few qbe)
open JE (qak qbq qef qbw qe5 qek qbj qir qgb qaj qax)
open Go.Proofs.YtkegpjjehejaoaaGreatDoor.Six (Arg8 qsa)
theorem qvk {xs:List Mem}(hf:JW.qzr xs=true):xs.length≤20∧lens xs≤5000:=by
 obtain⟨h1,h2,_⟩:=JW.qmr.1 hf
 exact⟨h1,h2⟩
theorem qik {xs:List Mem}{q:Cmd}(h:Few xs)(h0:(qaw 0 xs).2=0)(hc:qmz q.op):
 ((edC xs q).2≠0→qb8 (qbe xs) q=(qbe xs,[],[],(edC xs q).2))∧
 ((edC xs q).2=0→(qaw 0 (edC xs q).1).2≠0→qb8 (qbe xs) q=(qbe xs,[],[],(qaw 0 (edC xs q).1).2))∧
 ((edC xs q).2=0→(qaw 0 (edC xs q).1).2=0→qb8 (qbe xs) q=(qbe (edC xs q).1,[],[],0)):=by
 have hm:=qkk h h0
 have h1:(qab (qbe xs)).2=0:=by rw[hm]
 have hk:(xs.map core).map core=xs.map core:=by rw[List.map_map];rfl
 obtain⟨c1,c2⟩:=qym (xs:=(qab (qbe xs)).1) (ys:=xs) (by rw[hm];exact hk) q
 obtain⟨o1,_,_,o4⟩:=Six.qie c1
 refine⟨fun e=>?_,fun e f=>?_,fun e f=>?_⟩
 ·rw[qpj h1 hc (by rw[c2];exact e),c2]
 ·rw[qn0 h1 hc (by rw[c2];exact e) (by rw[o4];exact f),o4]
 ·rw[qpk h1 hc (by rw[c2];exact e) (by rw[o4];exact f),o1]
theorem model11 (P:PC11)(w:World)(hG:qe3 w)(A:Option Addr)(n c:Nat)(xs:List Mem)(h:qj3 w w.heap.size A n xs)(_hnc:n≤c)(_hcm:c≤maxLen)(hB:∀x∈xs,Frame.MB x)(q:Cmd)(hq:Qef w q):
 Calls Tryz.prog 4 #[.slice A n c,q.val] w fun e w'=>e=.returned (.bool true)∧Below w.heap.size w w':=by
 have HP:=hid P
 have Hl:=hid h.1
 have FB:=hid fun (W:World) (h:Below w.heap.size w W)=>h
 have FG:=hid fun (W:World) (h:Below w.heap.size w W)=>hG.on h
 have F0:=hid fun (W:World) (hb:Below w.heap.size w W)=>h.below hb
 have FQ:=hid fun (hf:qws q=true) (W:World) (h:Below w.heap.size w W)=>((Qeg hq hf).on h).more h.size zjn
 have FL:=hid fun (hf:JW.qzr xs=true) (W:World) (hb:Below w.heap.size w W)=>qsa (hG.on hb) h hb hB hf
 unfold Cmd.val Cmd.cells
 clear hG hq h hB
 go_enter Tryz.func4,Tryz.ntmps4
 have ba:=zjB w (.cells #[.int .u8 (q.op.toNat:Int),.string q.m.name,.int .i64 q.m.time,.int .i64 q.m.uid,.int .i64 q.m.gid,.int .i64 q.m.mode,.slice q.m.ptr q.m.len q.m.cap,.string q.nm,.int .i64 q.z,.string q.a] 28)
 have ha:=heap_alloc_new w (.cells #[.int .u8 (q.op.toNat:Int),.string q.m.name,.int .i64 q.m.time,.int .i64 q.m.uid,.int .i64 q.m.gid,.int .i64 q.m.mode,.slice q.m.ptr q.m.len q.m.cap,.string q.nm,.int .i64 q.z,.string q.a] 28)
 have sa:=World.size_alloc w (.cells #[.int .u8 (q.op.toNat:Int),.string q.m.name,.int .i64 q.m.time,.int .i64 q.m.uid,.int .i64 q.m.gid,.int .i64 q.m.mode,.slice q.m.ptr q.m.len q.m.cap,.string q.nm,.int .i64 q.z,.string q.a] 28)
 go_upto_region 1 with fail
 generalize w.alloc (.cells #[.int .u8 (q.op.toNat:Int),.string q.m.name,.int .i64 q.m.time,.int .i64 q.m.uid,.int .i64 q.m.gid,.int .i64 q.m.mode,.slice q.m.ptr q.m.len q.m.cap,.string q.nm,.int .i64 q.z,.string q.a] 28)=w1 at *
 have la:w.heap.size<w1.heap.size:=by omega
 replace FB:=zjF FB ba
 replace FG:=zjF FG ba
 replace F0:=zjF F0 ba
 obtain⟨G1,hG1⟩:∃G,w.heap.size=G:=⟨_,rfl⟩
 rw[hG1] at ha la ⊢
 have FR:=hid fun (W:World) (h:Below w1.heap.size w1 W)=>(h.block G1 la).trans ha
 clear ba ha sa la hG1
 go_wp2_with fail
 refine (qb2 HP.out _ (FG.out w1 zjb)).mono ?_
 rintro e v1 ⟨rfl,b1⟩
 replace FB:=zjF FB b1
 replace FG:=zjF FG b1
 replace F0:=zjF F0 b1
 replace FR:=zjF FR b1
 clear b1
 go_wp2_with fail
 refine (JW.qxw _ A n c xs v1 (F0.out v1 zjb) (by have:=(FB.out v1 zjb).size;omega)).mono ?_
 rintro e v2 ⟨rfl,b2⟩
 replace FB:=zjF FB b2
 replace FG:=zjF FG b2
 replace F0:=zjF F0 b2
 replace FR:=zjF FR b2
 clear F0
 clear b2
 cases hm:JW.qzr xs with
 |false=>
  go_wp2_with fail
  refine (qb2 HP.out _ (FG.out v2 zjb)).mono ?_
  rintro e v9 ⟨rfl,bq⟩
  go_wp2_with fail
  go_ret
  exact⟨rfl,(FB.out v2 zjb).trans (bq.mono (FB.out v2 zjb).size)⟩
 |true=>
  have y0:=zjc G1 0 (FR.out v2 (Below.refl _ _))
  have y1:=zjc G1 1 (FR.out v2 (Below.refl _ _))
  have y2:=zjc G1 2 (FR.out v2 (Below.refl _ _))
  have y3:=zjc G1 3 (FR.out v2 (Below.refl _ _))
  have y4:=zjc G1 4 (FR.out v2 (Below.refl _ _))
  have y5:=zjc G1 5 (FR.out v2 (Below.refl _ _))
  have y6:=zjc G1 6 (FR.out v2 (Below.refl _ _))
  have y7:=zjc G1 7 (FR.out v2 (Below.refl _ _))
  have y8:=zjc G1 8 (FR.out v2 (Below.refl _ _))
  have y9:=zjc G1 9 (FR.out v2 (Below.refl _ _))
  have HX:Hid (Calls Tryz.prog 10 #[.agg #[.int .u8 (q.op.toNat:Int),.string q.m.name,.int .i64 q.m.time,.int .i64 q.m.uid,.int .i64 q.m.gid,.int .i64 q.m.mode,.slice q.m.ptr q.m.len q.m.cap,.string q.nm,.int .i64 q.z,.string q.a]] v2 (fun e w'=>e=.returned (.bool (qws q))∧Below v2.heap.size v2 w')):=hid (qpm q v2)
  go_wp2_with fail
  refine HX.out.mono ?_
  rintro e v3 ⟨rfl,b3⟩
  replace FB:=zjF FB b3
  replace FG:=zjF FG b3
  replace FR:=zjF FR b3
  clear HX b3
  clear y0 y1 y2 y3 y4 y5 y6 y7 y8 y9
  cases hf:qws q with
  |false=>
   go_wp2_with fail
   refine (qb2 HP.out _ (FG.out v3 zjb)).mono ?_
   rintro e v9 ⟨rfl,bq⟩
   go_wp2_with fail
   go_ret
   exact⟨rfl,(FB.out v3 zjb).trans (bq.mono (FB.out v3 zjb).size)⟩
  |true=>
   replace FQ:=hid fun (W:World) (h:Below v3.heap.size v3 W)=>FQ.out hf W (FB.out W h)
   replace FL:=hid fun (W:World) (h:Below v3.heap.size v3 W)=>FL.out hm W (FB.out W h)
   have hL:=(FL.out v3 zjb)
   have HF:=hid hL.few
   have Hcs:=hid ((FQ.out v3 zjb)).s
   have hsm:=qvk hm
   have Hsm:=hid hsm
   have hn20:n≤20:=by have:=Hl.out;omega
   clear hf hm hsm
   have HX:=hid ((Six.qc5 _ A n c xs v3 hL.rd hL.hK hL.few fun x hx=>(hL.cap x hx).1).mono fun e w' h=>JK.qeu h)
   clear hL
   go_wp2_with fail
   refine HX.out.mono ?_
   rintro e v4 ⟨Ac,nc,cc,A1',n1',c1',A2',n2',c2',rfl,hnc',rc,qc1,qc2,_,b4⟩
   replace FB:=zjF FB b4
   replace FG:=zjF FG b4
   replace FR:=zjF FR b4
   replace FQ:=zjF FQ b4
   replace FL:=zjF FL b4
   have FC:=hid fun (W:World) (h:Below v4.heap.size v4 W)=>(rc.below h).more h.size
   clear HX b4 rc hnc'
   generalize hz:(qaw 0 xs).2=fz at *
   by_cases h0:fz=0
   ·have hzb:(fz !=0)=false:=by rw[h0];rfl
    have HZ0:=hid (hz.trans h0)
    clear h0 hz
    by_cases hc:qmz q.op
    ·have Hc:=hid hc
     rcases hc with hc|hc|hc|hc
     ·have b114:((q.op.toNat:Int)==114)=true:=(qbn (op:=q.op) (k:=114) (by omega)).trans (by rw[hc];decide)
      have c114:((q.op.toNat:Int) !=114)=false:=by rw[bne,b114];rfl
      have b113:((q.op.toNat:Int)==113)=false:=(qbn (op:=q.op) (k:=113) (by omega)).trans (by rw[hc];decide)
      have c113:((q.op.toNat:Int) !=113)=true:=by rw[bne,b113];rfl
      have b100:((q.op.toNat:Int)==100)=false:=(qbn (op:=q.op) (k:=100) (by omega)).trans (by rw[hc];decide)
      have c100:((q.op.toNat:Int) !=100)=true:=by rw[bne,b100];rfl
      have b109:((q.op.toNat:Int)==109)=false:=(qbn (op:=q.op) (k:=109) (by omega)).trans (by rw[hc];decide)
      have c109:((q.op.toNat:Int) !=109)=true:=by rw[bne,b109];rfl
      clear hc
      have HRA:=hid (qik (q:=q) HF.out HZ0.out Hc.out)
      have HSm:=hid (qfr HF.out HZ0.out)
      have hncl:nc≤99000:=by have h1:=(FC.out v4 zjb).1;have:=HSm.out.len;omega
      have HBk:=hid (HSm.out.bok (by have:=Hsm.out.1;omega) (by have:=Hsm.out.2;omega))
      obtain⟨lc,hlc⟩:∃lc,qbe xs=lc:=⟨_,rfl⟩
      rw[hlc] at FC HRA HBk HSm
      have HLC:=hid hlc
      clear hlc
      have y0:=zjc G1 0 (FR.out v4 (Below.refl _ _))
      have y1:=zjc G1 1 (FR.out v4 (Below.refl _ _))
      have y2:=zjc G1 2 (FR.out v4 (Below.refl _ _))
      have y3:=zjc G1 3 (FR.out v4 (Below.refl _ _))
      have y4:=zjc G1 4 (FR.out v4 (Below.refl _ _))
      have y5:=zjc G1 5 (FR.out v4 (Below.refl _ _))
      have y6:=zjc G1 6 (FR.out v4 (Below.refl _ _))
      have y7:=zjc G1 7 (FR.out v4 (Below.refl _ _))
      have y8:=zjc G1 8 (FR.out v4 (Below.refl _ _))
      have y9:=zjc G1 9 (FR.out v4 (Below.refl _ _))
      have HX:Hid (Calls Tryz.prog 12 #[.agg #[.int .u8 (q.op.toNat:Int),.string q.m.name,.int .i64 q.m.time,.int .i64 q.m.uid,.int .i64 q.m.gid,.int .i64 q.m.mode,.slice q.m.ptr q.m.len q.m.cap,.string q.nm,.int .i64 q.z,.string q.a]] v4 (fun e w'=>e=.returned (.agg #[.int .u8 (q.op.toNat:Int),.string q.m.name,.int .i64 q.m.time,.int .i64 q.m.uid,.int .i64 q.m.gid,.int .i64 q.m.mode,.slice q.m.ptr q.m.len q.m.cap,.string q.nm,.int .i64 q.z,.string q.a])∧Below v4.heap.size v4 w')):=hid (qcs q v4)
      go_wp2_with fail
      refine HX.out.mono ?_
      rintro e v5 ⟨rfl,b5⟩
      replace FB:=zjF FB b5
      replace FG:=zjF FG b5
      replace FR:=zjF FR b5
      replace FQ:=zjF FQ b5
      replace FL:=zjF FL b5
      replace FC:=zjF FC b5
      clear HX b5
      clear y0 y1 y2 y3 y4 y5 y6 y7 y8 y9
      obtain⟨ra,rn,rx,rz,hR⟩:∃ra rn rx rz,qb8 lc q=(ra,rn,rx,rz):=⟨_,_,_,_,rfl⟩
      have HR:=hid hR
      rw[hR] at HRA
      have HZ:Hid (ra.length≤99000):=hid (by have:=qkw HBk.out Hcs.out;rw[hR] at this;exact this)
      clear hR
      have HX:Hid (Calls Tryz.prog 11 #[.slice Ac nc cc,.agg #[.int .u8 (q.op.toNat:Int),.string q.m.name,.int .i64 q.m.time,.int .i64 q.m.uid,.int .i64 q.m.gid,.int .i64 q.m.mode,.slice q.m.ptr q.m.len q.m.cap,.string q.nm,.int .i64 q.z,.string q.a]] v5 (RunR ra rn rx rz v5)):=hid ((HP.out.run Ac nc cc lc q v5 (FG.out v5 zjb) (FC.out v5 zjb) qc1 qc2 HBk.out (FQ.out v5 zjb)).mono fun e w' h=>h.p.at_ HR.out)
      go_wp2_with fail
      refine HX.out.mono ?_
      rintro e v6 ⟨A1,n1,c1,B1,k1,d1,D1,j1,f1,rfl,⟨r1,hn1,hm1⟩,s1,x1,b6⟩
      replace FB:=zjF FB b6
      replace FG:=zjF FG b6
      replace FR:=zjF FR b6
      replace FQ:=zjF FQ b6
      replace FL:=zjF FL b6
      replace FC:=zjF FC b6
      clear HX b6
      have F1:=hid fun (W:World) (h:Below v6.heap.size v6 W)=>(r1.below h).more h.size
      clear r1 s1 x1
      have ba:=zjB v6 (.cells #[.slice A1 n1 c1,.slice B1 k1 d1,.slice D1 j1 f1] 33)
      have ha:=heap_alloc_new v6 (.cells #[.slice A1 n1 c1,.slice B1 k1 d1,.slice D1 j1 f1] 33)
      have sa:=World.size_alloc v6 (.cells #[.slice A1 n1 c1,.slice B1 k1 d1,.slice D1 j1 f1] 33)
      go_upto_region 7 with fail
      generalize v6.alloc (.cells #[.slice A1 n1 c1,.slice B1 k1 d1,.slice D1 j1 f1] 33)=w7 at *
      have la:v6.heap.size<w7.heap.size:=by omega
      replace FB:=zjF FB ba
      replace FG:=zjF FG ba
      replace FR:=zjF FR ba
      replace FQ:=zjF FQ ba
      replace FL:=zjF FL ba
      replace FC:=zjF FC ba
      replace F1:=zjF F1 ba
      obtain⟨G7,hG7⟩:∃G,v6.heap.size=G:=⟨_,rfl⟩
      rw[hG7] at ha la ⊢
      have FR1:=hid fun (W:World) (h:Below w7.heap.size w7 W)=>(h.block G7 la).trans ha
      clear ba ha sa la hG7
      have hn1':n1≤99000:=by have h1:=(F1.out w7 zjb).1;have:=HZ.out;omega
      have y0:=zjc G1 0 (FR.out w7 (Below.refl _ _))
      have y1:=zjc G1 1 (FR.out w7 (Below.refl _ _))
      have y2:=zjc G1 2 (FR.out w7 (Below.refl _ _))
      have y3:=zjc G1 3 (FR.out w7 (Below.refl _ _))
      have y4:=zjc G1 4 (FR.out w7 (Below.refl _ _))
      have y5:=zjc G1 5 (FR.out w7 (Below.refl _ _))
      have y6:=zjc G1 6 (FR.out w7 (Below.refl _ _))
      have y7:=zjc G1 7 (FR.out w7 (Below.refl _ _))
      have y8:=zjc G1 8 (FR.out w7 (Below.refl _ _))
      have y9:=zjc G1 9 (FR.out w7 (Below.refl _ _))
      have hL:=(FL.out w7 zjb)
      have HX:=hid (qjz w7.heap.size A n c xs q w7 (hL.rd.more hL.hK) zjn hL.few.ok (by omega) (FQ.out w7 zjb))
      unfold Cmd.val Cmd.cells at HX
      clear hL
      go_wp2_with fail
      refine HX.out.mono ?_
      rintro e v8 hC8
      have hfe:=qpn (xs:=xs) (q:=q) (by have:=Hsm.out.1;omega) (by have:=Hsm.out.2;omega) HF.out.ok HF.out.len Hcs.out.ok Hcs.out.dl Hcs.out.l5
      have Hfe:=hid hfe
      obtain⟨A5,n5,c5,ys,rfl,harg,hcy,hn5,b8⟩:=hC8.arg hfe.ok (by have:=hfe.n;omega)
      replace FB:=zjF FB b8
      replace FG:=zjF FG b8
      replace FR:=zjF FR b8
      replace FQ:=zjF FQ b8
      replace FL:=zjF FL b8
      replace FC:=zjF FC b8
      replace F1:=zjF F1 b8
      replace FR1:=zjF FR1 b8
      have hRy:=harg.rd
      have Hcap:=hid harg.cap
      have Hcy:=hid hcy
      have Hfy:=hid (hfe.core hcy)
      have FY:=hid fun (W:World) (h:Below v8.heap.size v8 W)=>(hRy.below h).more h.size
      clear HX hC8 b8 harg hcy hfe hRy hn5 y0 y1 y2 y3 y4 y5 y6 y7 y8 y9
      generalize hg:(edC xs q).2=gz at *
      have Hg:=hid hg
      clear hg
      by_cases hg0:gz=0
      ·have hgb:(gz !=0)=false:=by rw[hg0];rfl
       have HR2:=hid (HRA.out.2.1 hg0)
       have HR3:=hid (HRA.out.2.2 hg0)
       clear hg0 HRA
       have HX:=hid ((Six.qc5 _ A5 n5 c5 ys v8 (FY.out v8 zjb) zjn Hfy.out fun x hx=>(Hcap.out x hx).1).mono fun e w' h=>JK.qeu h)
       go_wp2_with fail
       refine HX.out.mono ?_
       rintro e v9 ⟨Ae,ne,ce,A3',n3',c3',A4',n4',c4',rfl,hne',re,qe1,qe2,_,b9⟩
       replace FB:=zjF FB b9
       replace FG:=zjF FG b9
       replace FR:=zjF FR b9
       replace FQ:=zjF FQ b9
       replace FL:=zjF FL b9
       replace FC:=zjF FC b9
       replace F1:=zjF F1 b9
       replace FR1:=zjF FR1 b9
       replace FY:=zjF FY b9
       have FE:=hid fun (W:World) (h:Below v9.heap.size v9 W)=>(re.below h).more h.size
       clear HX b9 re hne'
       have hso:=Six.qie Hcy.out
       have Hso:=hid hso.1
       rw[hso.2.2.2]
       clear hso
       generalize hhz:(qaw 0 (edC xs q).1).2=hz at *
       clear hhz
       by_cases hh0:hz=0
       ·have HEQ:Hid (ra=qbe (edC xs q).1∧rz=0):=hid (by have:=HR3.out hh0;injection this with t1 t2;injection t2 with _ t2;injection t2 with _ t2;exact⟨t1,t2⟩)
        have hhb:(hz !=0)=false:=by rw[hh0];rfl
        clear hh0 HR2 HR3
        have hre:JB.Rd v9 v9.heap.size Ae ne (qbe (edC xs q).1):=by rw[←Hso.out];exact (FE.out v9 zjb)
        have hr2:JB.Rd v9 v9.heap.size A1 n1 (qbe (edC xs q).1):=by rw[←HEQ.out.1];exact (F1.out v9 zjb)
        have HS:=hid (JD.qb6 _ rfl _ _ A1 Ae n1 c1 ne ce (qbe (edC xs q).1) (qbe (edC xs q).1) v9 hr2 hre (by omega))
        rw[show ((qbe (edC xs q).1)==(qbe (edC xs q).1))=true from by simp] at HS
        have t0:=zjc G7 0 (FR1.out v9 (Below.refl _ _))
        clear hr2
        have hrz:=HEQ.out.2
        subst hrz
        go_wp2_with fail
        refine HS.out.mono ?_
        rintro e v13 ⟨rfl,m13,hv13⟩
        have b13:=JD.qa1 (K:=v9.heap.size) v9 m13
        rw[←hv13] at b13
        clear hv13 HS t0
        go_wp2_with fail
        go_ret
        exact⟨rfl,FB.out _ b13⟩
       have HEQ:Hid (ra=lc∧rz=hz):=hid (by have:=HR2.out hh0;injection this with t1 t2;injection t2 with _ t2;injection t2 with _ t2;exact⟨t1,t2⟩)
       have hhb:(hz !=0)=true:=by simpa using hh0
       have hzz:(hz==hz)=true:=by simp
       clear hh0 HR2 HR3
       have hr2:JB.Rd v9 v9.heap.size A1 n1 lc:=by rw[←HEQ.out.1];exact (F1.out v9 zjb)
       have HS:=hid (JD.qb6 _ rfl _ _ A1 Ac n1 c1 nc cc lc lc v9 hr2 (FC.out v9 zjb) (by omega))
       rw[show (lc==lc)=true from by simp] at HS
       have t0:=zjc G7 0 (FR1.out v9 (Below.refl _ _))
       clear hr2
       have hrz:=HEQ.out.2
       subst hrz
       go_wp2_with fail
       refine HS.out.mono ?_
       rintro e v13 ⟨rfl,m13,hv13⟩
       have b13:=JD.qa1 (K:=v9.heap.size) v9 m13
       rw[←hv13] at b13
       clear hv13 HS t0
       go_wp2_with fail
       go_ret
       exact⟨rfl,FB.out _ b13⟩
      have HEQ:Hid (ra=lc∧rz=gz):=hid (by have:=HRA.out.1 hg0;injection this with t1 t2;injection t2 with _ t2;injection t2 with _ t2;exact⟨t1,t2⟩)
      have hgb:(gz !=0)=true:=by simpa using hg0
      have hzz:(gz==gz)=true:=by simp
      clear hg0 HRA
      have hr2:JB.Rd v8 v8.heap.size A1 n1 lc:=by rw[←HEQ.out.1];exact (F1.out v8 zjb)
      have HS:=hid (JD.qb6 _ rfl _ _ A1 Ac n1 c1 nc cc lc lc v8 hr2 (FC.out v8 zjb) (by omega))
      rw[show (lc==lc)=true from by simp] at HS
      have t0:=zjc G7 0 (FR1.out v8 (Below.refl _ _))
      clear hr2
      have hrz:=HEQ.out.2
      subst hrz
      go_wp2_with fail
      refine HS.out.mono ?_
      rintro e v13 ⟨rfl,m13,hv13⟩
      have b13:=JD.qa1 (K:=v8.heap.size) v8 m13
      rw[←hv13] at b13
      clear hv13 HS t0
      go_wp2_with fail
      go_ret
      exact⟨rfl,FB.out _ b13⟩
     ·have b114:((q.op.toNat:Int)==114)=false:=(qbn (op:=q.op) (k:=114) (by omega)).trans (by rw[hc];decide)
      have c114:((q.op.toNat:Int) !=114)=true:=by rw[bne,b114];rfl
      have b113:((q.op.toNat:Int)==113)=true:=(qbn (op:=q.op) (k:=113) (by omega)).trans (by rw[hc];decide)
      have c113:((q.op.toNat:Int) !=113)=false:=by rw[bne,b113];rfl
      have b100:((q.op.toNat:Int)==100)=false:=(qbn (op:=q.op) (k:=100) (by omega)).trans (by rw[hc];decide)
      have c100:((q.op.toNat:Int) !=100)=true:=by rw[bne,b100];rfl
      have b109:((q.op.toNat:Int)==109)=false:=(qbn (op:=q.op) (k:=109) (by omega)).trans (by rw[hc];decide)
      have c109:((q.op.toNat:Int) !=109)=true:=by rw[bne,b109];rfl
      clear hc
      have HRA:=hid (qik (q:=q) HF.out HZ0.out Hc.out)
      have HSm:=hid (qfr HF.out HZ0.out)
      have hncl:nc≤99000:=by have h1:=(FC.out v4 zjb).1;have:=HSm.out.len;omega
      have HBk:=hid (HSm.out.bok (by have:=Hsm.out.1;omega) (by have:=Hsm.out.2;omega))
      obtain⟨lc,hlc⟩:∃lc,qbe xs=lc:=⟨_,rfl⟩
      rw[hlc] at FC HRA HBk HSm
      have HLC:=hid hlc
      clear hlc
      have y0:=zjc G1 0 (FR.out v4 (Below.refl _ _))
      have y1:=zjc G1 1 (FR.out v4 (Below.refl _ _))
      have y2:=zjc G1 2 (FR.out v4 (Below.refl _ _))
      have y3:=zjc G1 3 (FR.out v4 (Below.refl _ _))
      have y4:=zjc G1 4 (FR.out v4 (Below.refl _ _))
      have y5:=zjc G1 5 (FR.out v4 (Below.refl _ _))
      have y6:=zjc G1 6 (FR.out v4 (Below.refl _ _))
      have y7:=zjc G1 7 (FR.out v4 (Below.refl _ _))
      have y8:=zjc G1 8 (FR.out v4 (Below.refl _ _))
      have y9:=zjc G1 9 (FR.out v4 (Below.refl _ _))
      have HX:Hid (Calls Tryz.prog 12 #[.agg #[.int .u8 (q.op.toNat:Int),.string q.m.name,.int .i64 q.m.time,.int .i64 q.m.uid,.int .i64 q.m.gid,.int .i64 q.m.mode,.slice q.m.ptr q.m.len q.m.cap,.string q.nm,.int .i64 q.z,.string q.a]] v4 (fun e w'=>e=.returned (.agg #[.int .u8 (q.op.toNat:Int),.string q.m.name,.int .i64 q.m.time,.int .i64 q.m.uid,.int .i64 q.m.gid,.int .i64 q.m.mode,.slice q.m.ptr q.m.len q.m.cap,.string q.nm,.int .i64 q.z,.string q.a])∧Below v4.heap.size v4 w')):=hid (qcs q v4)
      go_wp2_with fail
      refine HX.out.mono ?_
      rintro e v5 ⟨rfl,b5⟩
      replace FB:=zjF FB b5
      replace FG:=zjF FG b5
      replace FR:=zjF FR b5
      replace FQ:=zjF FQ b5
      replace FL:=zjF FL b5
      replace FC:=zjF FC b5
      clear HX b5
      clear y0 y1 y2 y3 y4 y5 y6 y7 y8 y9
      obtain⟨ra,rn,rx,rz,hR⟩:∃ra rn rx rz,qb8 lc q=(ra,rn,rx,rz):=⟨_,_,_,_,rfl⟩
      have HR:=hid hR
      rw[hR] at HRA
      have HZ:Hid (ra.length≤99000):=hid (by have:=qkw HBk.out Hcs.out;rw[hR] at this;exact this)
      clear hR
      have HX:Hid (Calls Tryz.prog 11 #[.slice Ac nc cc,.agg #[.int .u8 (q.op.toNat:Int),.string q.m.name,.int .i64 q.m.time,.int .i64 q.m.uid,.int .i64 q.m.gid,.int .i64 q.m.mode,.slice q.m.ptr q.m.len q.m.cap,.string q.nm,.int .i64 q.z,.string q.a]] v5 (RunR ra rn rx rz v5)):=hid ((HP.out.run Ac nc cc lc q v5 (FG.out v5 zjb) (FC.out v5 zjb) qc1 qc2 HBk.out (FQ.out v5 zjb)).mono fun e w' h=>h.p.at_ HR.out)
      go_wp2_with fail
      refine HX.out.mono ?_
      rintro e v6 ⟨A1,n1,c1,B1,k1,d1,D1,j1,f1,rfl,⟨r1,hn1,hm1⟩,s1,x1,b6⟩
      replace FB:=zjF FB b6
      replace FG:=zjF FG b6
      replace FR:=zjF FR b6
      replace FQ:=zjF FQ b6
      replace FL:=zjF FL b6
      replace FC:=zjF FC b6
      clear HX b6
      have F1:=hid fun (W:World) (h:Below v6.heap.size v6 W)=>(r1.below h).more h.size
      clear r1 s1 x1
      have ba:=zjB v6 (.cells #[.slice A1 n1 c1,.slice B1 k1 d1,.slice D1 j1 f1] 33)
      have ha:=heap_alloc_new v6 (.cells #[.slice A1 n1 c1,.slice B1 k1 d1,.slice D1 j1 f1] 33)
      have sa:=World.size_alloc v6 (.cells #[.slice A1 n1 c1,.slice B1 k1 d1,.slice D1 j1 f1] 33)
      go_upto_region 7 with fail
      generalize v6.alloc (.cells #[.slice A1 n1 c1,.slice B1 k1 d1,.slice D1 j1 f1] 33)=w7 at *
      have la:v6.heap.size<w7.heap.size:=by omega
      replace FB:=zjF FB ba
      replace FG:=zjF FG ba
      replace FR:=zjF FR ba
      replace FQ:=zjF FQ ba
      replace FL:=zjF FL ba
      replace FC:=zjF FC ba
      replace F1:=zjF F1 ba
      obtain⟨G7,hG7⟩:∃G,v6.heap.size=G:=⟨_,rfl⟩
      rw[hG7] at ha la ⊢
      have FR1:=hid fun (W:World) (h:Below w7.heap.size w7 W)=>(h.block G7 la).trans ha
      clear ba ha sa la hG7
      have hn1':n1≤99000:=by have h1:=(F1.out w7 zjb).1;have:=HZ.out;omega
      have y0:=zjc G1 0 (FR.out w7 (Below.refl _ _))
      have y1:=zjc G1 1 (FR.out w7 (Below.refl _ _))
      have y2:=zjc G1 2 (FR.out w7 (Below.refl _ _))
      have y3:=zjc G1 3 (FR.out w7 (Below.refl _ _))
      have y4:=zjc G1 4 (FR.out w7 (Below.refl _ _))
      have y5:=zjc G1 5 (FR.out w7 (Below.refl _ _))
      have y6:=zjc G1 6 (FR.out w7 (Below.refl _ _))
      have y7:=zjc G1 7 (FR.out w7 (Below.refl _ _))
      have y8:=zjc G1 8 (FR.out w7 (Below.refl _ _))
      have y9:=zjc G1 9 (FR.out w7 (Below.refl _ _))
      have hL:=(FL.out w7 zjb)
      have HX:=hid (qjz w7.heap.size A n c xs q w7 (hL.rd.more hL.hK) zjn hL.few.ok (by omega) (FQ.out w7 zjb))
      unfold Cmd.val Cmd.cells at HX
      clear hL
      go_wp2_with fail
      refine HX.out.mono ?_
      rintro e v8 hC8
      have hfe:=qpn (xs:=xs) (q:=q) (by have:=Hsm.out.1;omega) (by have:=Hsm.out.2;omega) HF.out.ok HF.out.len Hcs.out.ok Hcs.out.dl Hcs.out.l5
      have Hfe:=hid hfe
      obtain⟨A5,n5,c5,ys,rfl,harg,hcy,hn5,b8⟩:=hC8.arg hfe.ok (by have:=hfe.n;omega)
      replace FB:=zjF FB b8
      replace FG:=zjF FG b8
      replace FR:=zjF FR b8
      replace FQ:=zjF FQ b8
      replace FL:=zjF FL b8
      replace FC:=zjF FC b8
      replace F1:=zjF F1 b8
      replace FR1:=zjF FR1 b8
      have hRy:=harg.rd
      have Hcap:=hid harg.cap
      have Hcy:=hid hcy
      have Hfy:=hid (hfe.core hcy)
      have FY:=hid fun (W:World) (h:Below v8.heap.size v8 W)=>(hRy.below h).more h.size
      clear HX hC8 b8 harg hcy hfe hRy hn5 y0 y1 y2 y3 y4 y5 y6 y7 y8 y9
      generalize hg:(edC xs q).2=gz at *
      have Hg:=hid hg
      clear hg
      by_cases hg0:gz=0
      ·have hgb:(gz !=0)=false:=by rw[hg0];rfl
       have HR2:=hid (HRA.out.2.1 hg0)
       have HR3:=hid (HRA.out.2.2 hg0)
       clear hg0 HRA
       have HX:=hid ((Six.qc5 _ A5 n5 c5 ys v8 (FY.out v8 zjb) zjn Hfy.out fun x hx=>(Hcap.out x hx).1).mono fun e w' h=>JK.qeu h)
       go_wp2_with fail
       refine HX.out.mono ?_
       rintro e v9 ⟨Ae,ne,ce,A3',n3',c3',A4',n4',c4',rfl,hne',re,qe1,qe2,_,b9⟩
       replace FB:=zjF FB b9
       replace FG:=zjF FG b9
       replace FR:=zjF FR b9
       replace FQ:=zjF FQ b9
       replace FL:=zjF FL b9
       replace FC:=zjF FC b9
       replace F1:=zjF F1 b9
       replace FR1:=zjF FR1 b9
       replace FY:=zjF FY b9
       have FE:=hid fun (W:World) (h:Below v9.heap.size v9 W)=>(re.below h).more h.size
       clear HX b9 re hne'
       have hso:=Six.qie Hcy.out
       have Hso:=hid hso.1
       rw[hso.2.2.2]
       clear hso
       generalize hhz:(qaw 0 (edC xs q).1).2=hz at *
       clear hhz
       by_cases hh0:hz=0
       ·have HEQ:Hid (ra=qbe (edC xs q).1∧rz=0):=hid (by have:=HR3.out hh0;injection this with t1 t2;injection t2 with _ t2;injection t2 with _ t2;exact⟨t1,t2⟩)
        have hhb:(hz !=0)=false:=by rw[hh0];rfl
        clear hh0 HR2 HR3
        have hre:JB.Rd v9 v9.heap.size Ae ne (qbe (edC xs q).1):=by rw[←Hso.out];exact (FE.out v9 zjb)
        have hr2:JB.Rd v9 v9.heap.size A1 n1 (qbe (edC xs q).1):=by rw[←HEQ.out.1];exact (F1.out v9 zjb)
        have HS:=hid (JD.qb6 _ rfl _ _ A1 Ae n1 c1 ne ce (qbe (edC xs q).1) (qbe (edC xs q).1) v9 hr2 hre (by omega))
        rw[show ((qbe (edC xs q).1)==(qbe (edC xs q).1))=true from by simp] at HS
        have t0:=zjc G7 0 (FR1.out v9 (Below.refl _ _))
        clear hr2
        have hrz:=HEQ.out.2
        subst hrz
        go_wp2_with fail
        refine HS.out.mono ?_
        rintro e v13 ⟨rfl,m13,hv13⟩
        have b13:=JD.qa1 (K:=v9.heap.size) v9 m13
        rw[←hv13] at b13
        clear hv13 HS t0
        go_wp2_with fail
        go_ret
        exact⟨rfl,FB.out _ b13⟩
       have HEQ:Hid (ra=lc∧rz=hz):=hid (by have:=HR2.out hh0;injection this with t1 t2;injection t2 with _ t2;injection t2 with _ t2;exact⟨t1,t2⟩)
       have hhb:(hz !=0)=true:=by simpa using hh0
       have hzz:(hz==hz)=true:=by simp
       clear hh0 HR2 HR3
       have hr2:JB.Rd v9 v9.heap.size A1 n1 lc:=by rw[←HEQ.out.1];exact (F1.out v9 zjb)
       have HS:=hid (JD.qb6 _ rfl _ _ A1 Ac n1 c1 nc cc lc lc v9 hr2 (FC.out v9 zjb) (by omega))
       rw[show (lc==lc)=true from by simp] at HS
       have t0:=zjc G7 0 (FR1.out v9 (Below.refl _ _))
       clear hr2
       have hrz:=HEQ.out.2
       subst hrz
       go_wp2_with fail
       refine HS.out.mono ?_
       rintro e v13 ⟨rfl,m13,hv13⟩
       have b13:=JD.qa1 (K:=v9.heap.size) v9 m13
       rw[←hv13] at b13
       clear hv13 HS t0
       go_wp2_with fail
       go_ret
       exact⟨rfl,FB.out _ b13⟩
      have HEQ:Hid (ra=lc∧rz=gz):=hid (by have:=HRA.out.1 hg0;injection this with t1 t2;injection t2 with _ t2;injection t2 with _ t2;exact⟨t1,t2⟩)
      have hgb:(gz !=0)=true:=by simpa using hg0
      have hzz:(gz==gz)=true:=by simp
      clear hg0 HRA
      have hr2:JB.Rd v8 v8.heap.size A1 n1 lc:=by rw[←HEQ.out.1];exact (F1.out v8 zjb)
      have HS:=hid (JD.qb6 _ rfl _ _ A1 Ac n1 c1 nc cc lc lc v8 hr2 (FC.out v8 zjb) (by omega))
      rw[show (lc==lc)=true from by simp] at HS
      have t0:=zjc G7 0 (FR1.out v8 (Below.refl _ _))
      clear hr2
      have hrz:=HEQ.out.2
      subst hrz
      go_wp2_with fail
      refine HS.out.mono ?_
      rintro e v13 ⟨rfl,m13,hv13⟩
      have b13:=JD.qa1 (K:=v8.heap.size) v8 m13
      rw[←hv13] at b13
      clear hv13 HS t0
      go_wp2_with fail
      go_ret
      exact⟨rfl,FB.out _ b13⟩
     ·have b114:((q.op.toNat:Int)==114)=false:=(qbn (op:=q.op) (k:=114) (by omega)).trans (by rw[hc];decide)
      have c114:((q.op.toNat:Int) !=114)=true:=by rw[bne,b114];rfl
      have b113:((q.op.toNat:Int)==113)=false:=(qbn (op:=q.op) (k:=113) (by omega)).trans (by rw[hc];decide)
      have c113:((q.op.toNat:Int) !=113)=true:=by rw[bne,b113];rfl
      have b100:((q.op.toNat:Int)==100)=true:=(qbn (op:=q.op) (k:=100) (by omega)).trans (by rw[hc];decide)
      have c100:((q.op.toNat:Int) !=100)=false:=by rw[bne,b100];rfl
      have b109:((q.op.toNat:Int)==109)=false:=(qbn (op:=q.op) (k:=109) (by omega)).trans (by rw[hc];decide)
      have c109:((q.op.toNat:Int) !=109)=true:=by rw[bne,b109];rfl
      clear hc
      have HRA:=hid (qik (q:=q) HF.out HZ0.out Hc.out)
      have HSm:=hid (qfr HF.out HZ0.out)
      have hncl:nc≤99000:=by have h1:=(FC.out v4 zjb).1;have:=HSm.out.len;omega
      have HBk:=hid (HSm.out.bok (by have:=Hsm.out.1;omega) (by have:=Hsm.out.2;omega))
      obtain⟨lc,hlc⟩:∃lc,qbe xs=lc:=⟨_,rfl⟩
      rw[hlc] at FC HRA HBk HSm
      have HLC:=hid hlc
      clear hlc
      have y0:=zjc G1 0 (FR.out v4 (Below.refl _ _))
      have y1:=zjc G1 1 (FR.out v4 (Below.refl _ _))
      have y2:=zjc G1 2 (FR.out v4 (Below.refl _ _))
      have y3:=zjc G1 3 (FR.out v4 (Below.refl _ _))
      have y4:=zjc G1 4 (FR.out v4 (Below.refl _ _))
      have y5:=zjc G1 5 (FR.out v4 (Below.refl _ _))
      have y6:=zjc G1 6 (FR.out v4 (Below.refl _ _))
      have y7:=zjc G1 7 (FR.out v4 (Below.refl _ _))
      have y8:=zjc G1 8 (FR.out v4 (Below.refl _ _))
      have y9:=zjc G1 9 (FR.out v4 (Below.refl _ _))
      have HX:Hid (Calls Tryz.prog 12 #[.agg #[.int .u8 (q.op.toNat:Int),.string q.m.name,.int .i64 q.m.time,.int .i64 q.m.uid,.int .i64 q.m.gid,.int .i64 q.m.mode,.slice q.m.ptr q.m.len q.m.cap,.string q.nm,.int .i64 q.z,.string q.a]] v4 (fun e w'=>e=.returned (.agg #[.int .u8 (q.op.toNat:Int),.string q.m.name,.int .i64 q.m.time,.int .i64 q.m.uid,.int .i64 q.m.gid,.int .i64 q.m.mode,.slice q.m.ptr q.m.len q.m.cap,.string q.nm,.int .i64 q.z,.string q.a])∧Below v4.heap.size v4 w')):=hid (qcs q v4)
      go_wp2_with fail
      refine HX.out.mono ?_
      rintro e v5 ⟨rfl,b5⟩
      replace FB:=zjF FB b5
      replace FG:=zjF FG b5
      replace FR:=zjF FR b5
      replace FQ:=zjF FQ b5
      replace FL:=zjF FL b5
      replace FC:=zjF FC b5
      clear HX b5
      clear y0 y1 y2 y3 y4 y5 y6 y7 y8 y9
      obtain⟨ra,rn,rx,rz,hR⟩:∃ra rn rx rz,qb8 lc q=(ra,rn,rx,rz):=⟨_,_,_,_,rfl⟩
      have HR:=hid hR
      rw[hR] at HRA
      have HZ:Hid (ra.length≤99000):=hid (by have:=qkw HBk.out Hcs.out;rw[hR] at this;exact this)
      clear hR
      have HX:Hid (Calls Tryz.prog 11 #[.slice Ac nc cc,.agg #[.int .u8 (q.op.toNat:Int),.string q.m.name,.int .i64 q.m.time,.int .i64 q.m.uid,.int .i64 q.m.gid,.int .i64 q.m.mode,.slice q.m.ptr q.m.len q.m.cap,.string q.nm,.int .i64 q.z,.string q.a]] v5 (RunR ra rn rx rz v5)):=hid ((HP.out.run Ac nc cc lc q v5 (FG.out v5 zjb) (FC.out v5 zjb) qc1 qc2 HBk.out (FQ.out v5 zjb)).mono fun e w' h=>h.p.at_ HR.out)
      go_wp2_with fail
      refine HX.out.mono ?_
      rintro e v6 ⟨A1,n1,c1,B1,k1,d1,D1,j1,f1,rfl,⟨r1,hn1,hm1⟩,s1,x1,b6⟩
      replace FB:=zjF FB b6
      replace FG:=zjF FG b6
      replace FR:=zjF FR b6
      replace FQ:=zjF FQ b6
      replace FL:=zjF FL b6
      replace FC:=zjF FC b6
      clear HX b6
      have F1:=hid fun (W:World) (h:Below v6.heap.size v6 W)=>(r1.below h).more h.size
      clear r1 s1 x1
      have ba:=zjB v6 (.cells #[.slice A1 n1 c1,.slice B1 k1 d1,.slice D1 j1 f1] 33)
      have ha:=heap_alloc_new v6 (.cells #[.slice A1 n1 c1,.slice B1 k1 d1,.slice D1 j1 f1] 33)
      have sa:=World.size_alloc v6 (.cells #[.slice A1 n1 c1,.slice B1 k1 d1,.slice D1 j1 f1] 33)
      go_upto_region 7 with fail
      generalize v6.alloc (.cells #[.slice A1 n1 c1,.slice B1 k1 d1,.slice D1 j1 f1] 33)=w7 at *
      have la:v6.heap.size<w7.heap.size:=by omega
      replace FB:=zjF FB ba
      replace FG:=zjF FG ba
      replace FR:=zjF FR ba
      replace FQ:=zjF FQ ba
      replace FL:=zjF FL ba
      replace FC:=zjF FC ba
      replace F1:=zjF F1 ba
      obtain⟨G7,hG7⟩:∃G,v6.heap.size=G:=⟨_,rfl⟩
      rw[hG7] at ha la ⊢
      have FR1:=hid fun (W:World) (h:Below w7.heap.size w7 W)=>(h.block G7 la).trans ha
      clear ba ha sa la hG7
      have hn1':n1≤99000:=by have h1:=(F1.out w7 zjb).1;have:=HZ.out;omega
      have y0:=zjc G1 0 (FR.out w7 (Below.refl _ _))
      have y1:=zjc G1 1 (FR.out w7 (Below.refl _ _))
      have y2:=zjc G1 2 (FR.out w7 (Below.refl _ _))
      have y3:=zjc G1 3 (FR.out w7 (Below.refl _ _))
      have y4:=zjc G1 4 (FR.out w7 (Below.refl _ _))
      have y5:=zjc G1 5 (FR.out w7 (Below.refl _ _))
      have y6:=zjc G1 6 (FR.out w7 (Below.refl _ _))
      have y7:=zjc G1 7 (FR.out w7 (Below.refl _ _))
      have y8:=zjc G1 8 (FR.out w7 (Below.refl _ _))
      have y9:=zjc G1 9 (FR.out w7 (Below.refl _ _))
      have hL:=(FL.out w7 zjb)
      have HX:=hid (qjz w7.heap.size A n c xs q w7 (hL.rd.more hL.hK) zjn hL.few.ok (by omega) (FQ.out w7 zjb))
      unfold Cmd.val Cmd.cells at HX
      clear hL
      go_wp2_with fail
      refine HX.out.mono ?_
      rintro e v8 hC8
      have hfe:=qpn (xs:=xs) (q:=q) (by have:=Hsm.out.1;omega) (by have:=Hsm.out.2;omega) HF.out.ok HF.out.len Hcs.out.ok Hcs.out.dl Hcs.out.l5
      have Hfe:=hid hfe
      obtain⟨A5,n5,c5,ys,rfl,harg,hcy,hn5,b8⟩:=hC8.arg hfe.ok (by have:=hfe.n;omega)
      replace FB:=zjF FB b8
      replace FG:=zjF FG b8
      replace FR:=zjF FR b8
      replace FQ:=zjF FQ b8
      replace FL:=zjF FL b8
      replace FC:=zjF FC b8
      replace F1:=zjF F1 b8
      replace FR1:=zjF FR1 b8
      have hRy:=harg.rd
      have Hcap:=hid harg.cap
      have Hcy:=hid hcy
      have Hfy:=hid (hfe.core hcy)
      have FY:=hid fun (W:World) (h:Below v8.heap.size v8 W)=>(hRy.below h).more h.size
      clear HX hC8 b8 harg hcy hfe hRy hn5 y0 y1 y2 y3 y4 y5 y6 y7 y8 y9
      generalize hg:(edC xs q).2=gz at *
      have Hg:=hid hg
      clear hg
      by_cases hg0:gz=0
      ·have hgb:(gz !=0)=false:=by rw[hg0];rfl
       have HR2:=hid (HRA.out.2.1 hg0)
       have HR3:=hid (HRA.out.2.2 hg0)
       clear hg0 HRA
       have HX:=hid ((Six.qc5 _ A5 n5 c5 ys v8 (FY.out v8 zjb) zjn Hfy.out fun x hx=>(Hcap.out x hx).1).mono fun e w' h=>JK.qeu h)
       go_wp2_with fail
       refine HX.out.mono ?_
       rintro e v9 ⟨Ae,ne,ce,A3',n3',c3',A4',n4',c4',rfl,hne',re,qe1,qe2,_,b9⟩
       replace FB:=zjF FB b9
       replace FG:=zjF FG b9
       replace FR:=zjF FR b9
       replace FQ:=zjF FQ b9
       replace FL:=zjF FL b9
       replace FC:=zjF FC b9
       replace F1:=zjF F1 b9
       replace FR1:=zjF FR1 b9
       replace FY:=zjF FY b9
       have FE:=hid fun (W:World) (h:Below v9.heap.size v9 W)=>(re.below h).more h.size
       clear HX b9 re hne'
       have hso:=Six.qie Hcy.out
       have Hso:=hid hso.1
       rw[hso.2.2.2]
       clear hso
       generalize hhz:(qaw 0 (edC xs q).1).2=hz at *
       clear hhz
       by_cases hh0:hz=0
       ·have HEQ:Hid (ra=qbe (edC xs q).1∧rz=0):=hid (by have:=HR3.out hh0;injection this with t1 t2;injection t2 with _ t2;injection t2 with _ t2;exact⟨t1,t2⟩)
        have hhb:(hz !=0)=false:=by rw[hh0];rfl
        clear hh0 HR2 HR3
        have hre:JB.Rd v9 v9.heap.size Ae ne (qbe (edC xs q).1):=by rw[←Hso.out];exact (FE.out v9 zjb)
        have hr2:JB.Rd v9 v9.heap.size A1 n1 (qbe (edC xs q).1):=by rw[←HEQ.out.1];exact (F1.out v9 zjb)
        have HS:=hid (JD.qb6 _ rfl _ _ A1 Ae n1 c1 ne ce (qbe (edC xs q).1) (qbe (edC xs q).1) v9 hr2 hre (by omega))
        rw[show ((qbe (edC xs q).1)==(qbe (edC xs q).1))=true from by simp] at HS
        have t0:=zjc G7 0 (FR1.out v9 (Below.refl _ _))
        clear hr2
        have hrz:=HEQ.out.2
        subst hrz
        go_wp2_with fail
        refine HS.out.mono ?_
        rintro e v13 ⟨rfl,m13,hv13⟩
        have b13:=JD.qa1 (K:=v9.heap.size) v9 m13
        rw[←hv13] at b13
        clear hv13 HS t0
        go_wp2_with fail
        go_ret
        exact⟨rfl,FB.out _ b13⟩
       have HEQ:Hid (ra=lc∧rz=hz):=hid (by have:=HR2.out hh0;injection this with t1 t2;injection t2 with _ t2;injection t2 with _ t2;exact⟨t1,t2⟩)
       have hhb:(hz !=0)=true:=by simpa using hh0
       have hzz:(hz==hz)=true:=by simp
       clear hh0 HR2 HR3
       have hr2:JB.Rd v9 v9.heap.size A1 n1 lc:=by rw[←HEQ.out.1];exact (F1.out v9 zjb)
       have HS:=hid (JD.qb6 _ rfl _ _ A1 Ac n1 c1 nc cc lc lc v9 hr2 (FC.out v9 zjb) (by omega))
       rw[show (lc==lc)=true from by simp] at HS
       have t0:=zjc G7 0 (FR1.out v9 (Below.refl _ _))
       clear hr2
       have hrz:=HEQ.out.2
       subst hrz
       go_wp2_with fail
       refine HS.out.mono ?_
       rintro e v13 ⟨rfl,m13,hv13⟩
       have b13:=JD.qa1 (K:=v9.heap.size) v9 m13
       rw[←hv13] at b13
       clear hv13 HS t0
       go_wp2_with fail
       go_ret
       exact⟨rfl,FB.out _ b13⟩
      have HEQ:Hid (ra=lc∧rz=gz):=hid (by have:=HRA.out.1 hg0;injection this with t1 t2;injection t2 with _ t2;injection t2 with _ t2;exact⟨t1,t2⟩)
      have hgb:(gz !=0)=true:=by simpa using hg0
      have hzz:(gz==gz)=true:=by simp
      clear hg0 HRA
      have hr2:JB.Rd v8 v8.heap.size A1 n1 lc:=by rw[←HEQ.out.1];exact (F1.out v8 zjb)
      have HS:=hid (JD.qb6 _ rfl _ _ A1 Ac n1 c1 nc cc lc lc v8 hr2 (FC.out v8 zjb) (by omega))
      rw[show (lc==lc)=true from by simp] at HS
      have t0:=zjc G7 0 (FR1.out v8 (Below.refl _ _))
      clear hr2
      have hrz:=HEQ.out.2
      subst hrz
      go_wp2_with fail
      refine HS.out.mono ?_
      rintro e v13 ⟨rfl,m13,hv13⟩
      have b13:=JD.qa1 (K:=v8.heap.size) v8 m13
      rw[←hv13] at b13
      clear hv13 HS t0
      go_wp2_with fail
      go_ret
      exact⟨rfl,FB.out _ b13⟩
     ·have b114:((q.op.toNat:Int)==114)=false:=(qbn (op:=q.op) (k:=114) (by omega)).trans (by rw[hc];decide)
      have c114:((q.op.toNat:Int) !=114)=true:=by rw[bne,b114];rfl
      have b113:((q.op.toNat:Int)==113)=false:=(qbn (op:=q.op) (k:=113) (by omega)).trans (by rw[hc];decide)
      have c113:((q.op.toNat:Int) !=113)=true:=by rw[bne,b113];rfl
      have b100:((q.op.toNat:Int)==100)=false:=(qbn (op:=q.op) (k:=100) (by omega)).trans (by rw[hc];decide)
      have c100:((q.op.toNat:Int) !=100)=true:=by rw[bne,b100];rfl
      have b109:((q.op.toNat:Int)==109)=true:=(qbn (op:=q.op) (k:=109) (by omega)).trans (by rw[hc];decide)
      have c109:((q.op.toNat:Int) !=109)=false:=by rw[bne,b109];rfl
      clear hc
      have HRA:=hid (qik (q:=q) HF.out HZ0.out Hc.out)
      have HSm:=hid (qfr HF.out HZ0.out)
      have hncl:nc≤99000:=by have h1:=(FC.out v4 zjb).1;have:=HSm.out.len;omega
      have HBk:=hid (HSm.out.bok (by have:=Hsm.out.1;omega) (by have:=Hsm.out.2;omega))
      obtain⟨lc,hlc⟩:∃lc,qbe xs=lc:=⟨_,rfl⟩
      rw[hlc] at FC HRA HBk HSm
      have HLC:=hid hlc
      clear hlc
      have y0:=zjc G1 0 (FR.out v4 (Below.refl _ _))
      have y1:=zjc G1 1 (FR.out v4 (Below.refl _ _))
      have y2:=zjc G1 2 (FR.out v4 (Below.refl _ _))
      have y3:=zjc G1 3 (FR.out v4 (Below.refl _ _))
      have y4:=zjc G1 4 (FR.out v4 (Below.refl _ _))
      have y5:=zjc G1 5 (FR.out v4 (Below.refl _ _))
      have y6:=zjc G1 6 (FR.out v4 (Below.refl _ _))
      have y7:=zjc G1 7 (FR.out v4 (Below.refl _ _))
      have y8:=zjc G1 8 (FR.out v4 (Below.refl _ _))
      have y9:=zjc G1 9 (FR.out v4 (Below.refl _ _))
      have HX:Hid (Calls Tryz.prog 12 #[.agg #[.int .u8 (q.op.toNat:Int),.string q.m.name,.int .i64 q.m.time,.int .i64 q.m.uid,.int .i64 q.m.gid,.int .i64 q.m.mode,.slice q.m.ptr q.m.len q.m.cap,.string q.nm,.int .i64 q.z,.string q.a]] v4 (fun e w'=>e=.returned (.agg #[.int .u8 (q.op.toNat:Int),.string q.m.name,.int .i64 q.m.time,.int .i64 q.m.uid,.int .i64 q.m.gid,.int .i64 q.m.mode,.slice q.m.ptr q.m.len q.m.cap,.string q.nm,.int .i64 q.z,.string q.a])∧Below v4.heap.size v4 w')):=hid (qcs q v4)
      go_wp2_with fail
      refine HX.out.mono ?_
      rintro e v5 ⟨rfl,b5⟩
      replace FB:=zjF FB b5
      replace FG:=zjF FG b5
      replace FR:=zjF FR b5
      replace FQ:=zjF FQ b5
      replace FL:=zjF FL b5
      replace FC:=zjF FC b5
      clear HX b5
      clear y0 y1 y2 y3 y4 y5 y6 y7 y8 y9
      obtain⟨ra,rn,rx,rz,hR⟩:∃ra rn rx rz,qb8 lc q=(ra,rn,rx,rz):=⟨_,_,_,_,rfl⟩
      have HR:=hid hR
      rw[hR] at HRA
      have HZ:Hid (ra.length≤99000):=hid (by have:=qkw HBk.out Hcs.out;rw[hR] at this;exact this)
      clear hR
      have HX:Hid (Calls Tryz.prog 11 #[.slice Ac nc cc,.agg #[.int .u8 (q.op.toNat:Int),.string q.m.name,.int .i64 q.m.time,.int .i64 q.m.uid,.int .i64 q.m.gid,.int .i64 q.m.mode,.slice q.m.ptr q.m.len q.m.cap,.string q.nm,.int .i64 q.z,.string q.a]] v5 (RunR ra rn rx rz v5)):=hid ((HP.out.run Ac nc cc lc q v5 (FG.out v5 zjb) (FC.out v5 zjb) qc1 qc2 HBk.out (FQ.out v5 zjb)).mono fun e w' h=>h.p.at_ HR.out)
      go_wp2_with fail
      refine HX.out.mono ?_
      rintro e v6 ⟨A1,n1,c1,B1,k1,d1,D1,j1,f1,rfl,⟨r1,hn1,hm1⟩,s1,x1,b6⟩
      replace FB:=zjF FB b6
      replace FG:=zjF FG b6
      replace FR:=zjF FR b6
      replace FQ:=zjF FQ b6
      replace FL:=zjF FL b6
      replace FC:=zjF FC b6
      clear HX b6
      have F1:=hid fun (W:World) (h:Below v6.heap.size v6 W)=>(r1.below h).more h.size
      clear r1 s1 x1
      have ba:=zjB v6 (.cells #[.slice A1 n1 c1,.slice B1 k1 d1,.slice D1 j1 f1] 33)
      have ha:=heap_alloc_new v6 (.cells #[.slice A1 n1 c1,.slice B1 k1 d1,.slice D1 j1 f1] 33)
      have sa:=World.size_alloc v6 (.cells #[.slice A1 n1 c1,.slice B1 k1 d1,.slice D1 j1 f1] 33)
      go_upto_region 7 with fail
      generalize v6.alloc (.cells #[.slice A1 n1 c1,.slice B1 k1 d1,.slice D1 j1 f1] 33)=w7 at *
      have la:v6.heap.size<w7.heap.size:=by omega
      replace FB:=zjF FB ba
      replace FG:=zjF FG ba
      replace FR:=zjF FR ba
      replace FQ:=zjF FQ ba
      replace FL:=zjF FL ba
      replace FC:=zjF FC ba
      replace F1:=zjF F1 ba
      obtain⟨G7,hG7⟩:∃G,v6.heap.size=G:=⟨_,rfl⟩
      rw[hG7] at ha la ⊢
      have FR1:=hid fun (W:World) (h:Below w7.heap.size w7 W)=>(h.block G7 la).trans ha
      clear ba ha sa la hG7
      have hn1':n1≤99000:=by have h1:=(F1.out w7 zjb).1;have:=HZ.out;omega
      have y0:=zjc G1 0 (FR.out w7 (Below.refl _ _))
      have y1:=zjc G1 1 (FR.out w7 (Below.refl _ _))
      have y2:=zjc G1 2 (FR.out w7 (Below.refl _ _))
      have y3:=zjc G1 3 (FR.out w7 (Below.refl _ _))
      have y4:=zjc G1 4 (FR.out w7 (Below.refl _ _))
      have y5:=zjc G1 5 (FR.out w7 (Below.refl _ _))
      have y6:=zjc G1 6 (FR.out w7 (Below.refl _ _))
      have y7:=zjc G1 7 (FR.out w7 (Below.refl _ _))
      have y8:=zjc G1 8 (FR.out w7 (Below.refl _ _))
      have y9:=zjc G1 9 (FR.out w7 (Below.refl _ _))
      have hL:=(FL.out w7 zjb)
      have HX:=hid (qjz w7.heap.size A n c xs q w7 (hL.rd.more hL.hK) zjn hL.few.ok (by omega) (FQ.out w7 zjb))
      unfold Cmd.val Cmd.cells at HX
      clear hL
      go_wp2_with fail
      refine HX.out.mono ?_
      rintro e v8 hC8
      have hfe:=qpn (xs:=xs) (q:=q) (by have:=Hsm.out.1;omega) (by have:=Hsm.out.2;omega) HF.out.ok HF.out.len Hcs.out.ok Hcs.out.dl Hcs.out.l5
      have Hfe:=hid hfe
      obtain⟨A5,n5,c5,ys,rfl,harg,hcy,hn5,b8⟩:=hC8.arg hfe.ok (by have:=hfe.n;omega)
      replace FB:=zjF FB b8
      replace FG:=zjF FG b8
      replace FR:=zjF FR b8
      replace FQ:=zjF FQ b8
      replace FL:=zjF FL b8
      replace FC:=zjF FC b8
      replace F1:=zjF F1 b8
      replace FR1:=zjF FR1 b8
      have hRy:=harg.rd
      have Hcap:=hid harg.cap
      have Hcy:=hid hcy
      have Hfy:=hid (hfe.core hcy)
      have FY:=hid fun (W:World) (h:Below v8.heap.size v8 W)=>(hRy.below h).more h.size
      clear HX hC8 b8 harg hcy hfe hRy hn5 y0 y1 y2 y3 y4 y5 y6 y7 y8 y9
      generalize hg:(edC xs q).2=gz at *
      have Hg:=hid hg
      clear hg
      by_cases hg0:gz=0
      ·have hgb:(gz !=0)=false:=by rw[hg0];rfl
       have HR2:=hid (HRA.out.2.1 hg0)
       have HR3:=hid (HRA.out.2.2 hg0)
       clear hg0 HRA
       have HX:=hid ((Six.qc5 _ A5 n5 c5 ys v8 (FY.out v8 zjb) zjn Hfy.out fun x hx=>(Hcap.out x hx).1).mono fun e w' h=>JK.qeu h)
       go_wp2_with fail
       refine HX.out.mono ?_
       rintro e v9 ⟨Ae,ne,ce,A3',n3',c3',A4',n4',c4',rfl,hne',re,qe1,qe2,_,b9⟩
       replace FB:=zjF FB b9
       replace FG:=zjF FG b9
       replace FR:=zjF FR b9
       replace FQ:=zjF FQ b9
       replace FL:=zjF FL b9
       replace FC:=zjF FC b9
       replace F1:=zjF F1 b9
       replace FR1:=zjF FR1 b9
       replace FY:=zjF FY b9
       have FE:=hid fun (W:World) (h:Below v9.heap.size v9 W)=>(re.below h).more h.size
       clear HX b9 re hne'
       have hso:=Six.qie Hcy.out
       have Hso:=hid hso.1
       rw[hso.2.2.2]
       clear hso
       generalize hhz:(qaw 0 (edC xs q).1).2=hz at *
       clear hhz
       by_cases hh0:hz=0
       ·have HEQ:Hid (ra=qbe (edC xs q).1∧rz=0):=hid (by have:=HR3.out hh0;injection this with t1 t2;injection t2 with _ t2;injection t2 with _ t2;exact⟨t1,t2⟩)
        have hhb:(hz !=0)=false:=by rw[hh0];rfl
        clear hh0 HR2 HR3
        have hre:JB.Rd v9 v9.heap.size Ae ne (qbe (edC xs q).1):=by rw[←Hso.out];exact (FE.out v9 zjb)
        have hr2:JB.Rd v9 v9.heap.size A1 n1 (qbe (edC xs q).1):=by rw[←HEQ.out.1];exact (F1.out v9 zjb)
        have HS:=hid (JD.qb6 _ rfl _ _ A1 Ae n1 c1 ne ce (qbe (edC xs q).1) (qbe (edC xs q).1) v9 hr2 hre (by omega))
        rw[show ((qbe (edC xs q).1)==(qbe (edC xs q).1))=true from by simp] at HS
        have t0:=zjc G7 0 (FR1.out v9 (Below.refl _ _))
        clear hr2
        have hrz:=HEQ.out.2
        subst hrz
        go_wp2_with fail
        refine HS.out.mono ?_
        rintro e v13 ⟨rfl,m13,hv13⟩
        have b13:=JD.qa1 (K:=v9.heap.size) v9 m13
        rw[←hv13] at b13
        clear hv13 HS t0
        go_wp2_with fail
        go_ret
        exact⟨rfl,FB.out _ b13⟩
       have HEQ:Hid (ra=lc∧rz=hz):=hid (by have:=HR2.out hh0;injection this with t1 t2;injection t2 with _ t2;injection t2 with _ t2;exact⟨t1,t2⟩)
       have hhb:(hz !=0)=true:=by simpa using hh0
       have hzz:(hz==hz)=true:=by simp
       clear hh0 HR2 HR3
       have hr2:JB.Rd v9 v9.heap.size A1 n1 lc:=by rw[←HEQ.out.1];exact (F1.out v9 zjb)
       have HS:=hid (JD.qb6 _ rfl _ _ A1 Ac n1 c1 nc cc lc lc v9 hr2 (FC.out v9 zjb) (by omega))
       rw[show (lc==lc)=true from by simp] at HS
       have t0:=zjc G7 0 (FR1.out v9 (Below.refl _ _))
       clear hr2
       have hrz:=HEQ.out.2
       subst hrz
       go_wp2_with fail
       refine HS.out.mono ?_
       rintro e v13 ⟨rfl,m13,hv13⟩
       have b13:=JD.qa1 (K:=v9.heap.size) v9 m13
       rw[←hv13] at b13
       clear hv13 HS t0
       go_wp2_with fail
       go_ret
       exact⟨rfl,FB.out _ b13⟩
      have HEQ:Hid (ra=lc∧rz=gz):=hid (by have:=HRA.out.1 hg0;injection this with t1 t2;injection t2 with _ t2;injection t2 with _ t2;exact⟨t1,t2⟩)
      have hgb:(gz !=0)=true:=by simpa using hg0
      have hzz:(gz==gz)=true:=by simp
      clear hg0 HRA
      have hr2:JB.Rd v8 v8.heap.size A1 n1 lc:=by rw[←HEQ.out.1];exact (F1.out v8 zjb)
      have HS:=hid (JD.qb6 _ rfl _ _ A1 Ac n1 c1 nc cc lc lc v8 hr2 (FC.out v8 zjb) (by omega))
      rw[show (lc==lc)=true from by simp] at HS
      have t0:=zjc G7 0 (FR1.out v8 (Below.refl _ _))
      clear hr2
      have hrz:=HEQ.out.2
      subst hrz
      go_wp2_with fail
      refine HS.out.mono ?_
      rintro e v13 ⟨rfl,m13,hv13⟩
      have b13:=JD.qa1 (K:=v8.heap.size) v8 m13
      rw[←hv13] at b13
      clear hv13 HS t0
      go_wp2_with fail
      go_ret
      exact⟨rfl,FB.out _ b13⟩
    have b114:((q.op.toNat:Int)==114)=false:=(qbn (op:=q.op) (k:=114) (by omega)).trans (decide_eq_false fun e=>hc (by unfold qmz;rw[show q.op=114 from e];decide))
    have c114:((q.op.toNat:Int) !=114)=true:=by rw[bne,b114];rfl
    have b113:((q.op.toNat:Int)==113)=false:=(qbn (op:=q.op) (k:=113) (by omega)).trans (decide_eq_false fun e=>hc (by unfold qmz;rw[show q.op=113 from e];decide))
    have c113:((q.op.toNat:Int) !=113)=true:=by rw[bne,b113];rfl
    have b100:((q.op.toNat:Int)==100)=false:=(qbn (op:=q.op) (k:=100) (by omega)).trans (decide_eq_false fun e=>hc (by unfold qmz;rw[show q.op=100 from e];decide))
    have c100:((q.op.toNat:Int) !=100)=true:=by rw[bne,b100];rfl
    have b109:((q.op.toNat:Int)==109)=false:=(qbn (op:=q.op) (k:=109) (by omega)).trans (decide_eq_false fun e=>hc (by unfold qmz;rw[show q.op=109 from e];decide))
    have c109:((q.op.toNat:Int) !=109)=true:=by rw[bne,b109];rfl
    have y0:=zjc G1 0 (FR.out v4 (Below.refl _ _))
    clear hc
    go_wp2_with fail
    go_ret
    exact⟨rfl,(FB.out v4 zjb)⟩
   have hzb:(fz !=0)=true:=by simpa using h0
   clear h0 hz
   go_wp2_with fail
   go_ret
   exact⟨rfl,(FB.out v4 zjb)⟩
end JL
end Go.Proofs.YtkegpjjehejaoaaGreatDoor
