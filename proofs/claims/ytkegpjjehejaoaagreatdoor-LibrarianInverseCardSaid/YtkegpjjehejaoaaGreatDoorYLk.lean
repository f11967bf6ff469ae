/-
  librarian: LibrarianConsistent, from the program's
-/
import Derived.Test.YtkegpjjehejaoaaGreatDoorYLg
import Derived.Test.YtkegpjjehejaoaaGreatDoorYCoa
set_option maxRecDepth 100000
set_option maxHeartbeats 16000000
set_option linter.unusedSimpArgs false
set_option linter.unusedVariables false
namespace Go.Proofs.YtkegpjjehejaoaaGreatDoor
open Go.RowKit Go.Proofs
namespace JL
open JB
open JS (Oth qcw)
open JN (qe3)
open JR (Mem RdM qde qa5 qcv ar)
open JW (core MOk lens qaw qj3)
open Go.Proofs.YtkegpjjehejaoaaGreatDoor.Six (Few qbe)
open JE (qak qbq qef qbw qe5 qek qbj qir qgb qaj qax)
theorem run_look {l:List UInt8}{q:Cmd}(h:q.op=120∨q.op=116):(qb8 l q).1=l:=by
 have h1:qq8 q.op:=by rcases h with h|h<;>(unfold qq8;rw[h];decide)
 by_cases h2:(qab l).2=0
 ·rcases h with h|h
  ·rw[qr2 h2 h]
  ·rw[qv4 h2 h]
 ·rw[qmy h1 h2]
theorem run_done {l:List UInt8}{q:Cmd}(h:BOk l)(hq:CmdS q)(hz:(qb8 l q).2.2.2=0)(h1:q.op≠120)(h2:q.op≠116):∃M,Few M∧(qaw 0 M).2=0∧(qb8 l q).1=qbe M:=by
 have hs:Sml l 199 14500:=⟨h.len,h.n,h.all,h.ok,h.dl⟩
 by_cases h3:qq8 q.op
 ·by_cases h4:(qab l).2=0
  ·have h5:qmz q.op:=by
    rcases h3 with h|h|h|h|h|h
    ·exact .inl h
    ·exact .inr (.inl h)
    ·exact .inr (.inr (.inl h))
    ·exact .inr (.inr (.inr h))
    ·exact absurd h h1
    ·exact absurd h h2
   by_cases h6:(edC (qab l).1 q).2=0
   ·by_cases h7:(qaw 0 (edC (qab l).1 q).1).2=0
    ·exact⟨_,hs.few (by omega) (by omega) hq,h7,by rw[qpk h4 h5 h6 h7]⟩
    ·rw[qn0 h4 h5 h6 h7] at hz;exact absurd hz h7
   ·rw[qpj h4 h5 h6] at hz;exact absurd hz h6
  ·rw[qmy h3 h4] at hz;exact absurd hz h4
 ·rw[qsj h3] at hz;exact absurd (show (17:Int)=0 from hz) (by decide)
theorem qkw {l:List UInt8}{q:Cmd}(h:BOk l)(hq:CmdS q):(qb8 l q).1.length≤99000:=by
 have hs:Sml l 199 14500:=⟨h.len,h.n,h.all,h.ok,h.dl⟩
 exact (hs.run (by omega) (by omega) hq).len
theorem Qfb (P:PC11)(w:World)(hG:qe3 w)(A:Option Addr)(n c:Nat)(l:List UInt8)(hr:JB.Rd w w.heap.size A n l)(hnc:n≤c)(hcm:c≤maxLen)(q:Cmd)(hq:Qef w q):
 Calls Tryz.prog 5 #[.slice A n c,q.val] w fun e w'=>e=.returned (.bool true)∧Below w.heap.size w w':=by
 have HP:=hid P
 have Hr:=hid hr.1
 have FB:=hid fun (W:World) (h:Below w.heap.size w W)=>h
 have FG:=hid fun (W:World) (h:Below w.heap.size w W)=>hG.on h
 have FA:=hid fun (W:World) (h:Below w.heap.size w W)=>(hr.below h).more h.size
 have FQ:=hid fun (hf:qws q=true) (W:World) (h:Below w.heap.size w W)=>((Qeg hq hf).on h).more h.size zjn
 unfold Cmd.val Cmd.cells
 clear hG hr hq
 go_enter Tryz.func5,Tryz.ntmps5
 have ba:=zjB w (.cells #[.int .u8 (q.op.toNat:Int),.string q.m.name,.int .i64 q.m.time,.int .i64 q.m.uid,.int .i64 q.m.gid,.int .i64 q.m.mode,.slice q.m.ptr q.m.len q.m.cap,.string q.nm,.int .i64 q.z,.string q.a] 28)
 have ha:=heap_alloc_new w (.cells #[.int .u8 (q.op.toNat:Int),.string q.m.name,.int .i64 q.m.time,.int .i64 q.m.uid,.int .i64 q.m.gid,.int .i64 q.m.mode,.slice q.m.ptr q.m.len q.m.cap,.string q.nm,.int .i64 q.z,.string q.a] 28)
 have sa:=World.size_alloc w (.cells #[.int .u8 (q.op.toNat:Int),.string q.m.name,.int .i64 q.m.time,.int .i64 q.m.uid,.int .i64 q.m.gid,.int .i64 q.m.mode,.slice q.m.ptr q.m.len q.m.cap,.string q.nm,.int .i64 q.z,.string q.a] 28)
 go_upto_region 1 with fail
 generalize w.alloc (.cells #[.int .u8 (q.op.toNat:Int),.string q.m.name,.int .i64 q.m.time,.int .i64 q.m.uid,.int .i64 q.m.gid,.int .i64 q.m.mode,.slice q.m.ptr q.m.len q.m.cap,.string q.nm,.int .i64 q.z,.string q.a] 28)=w1 at *
 have la:w.heap.size<w1.heap.size:=by omega
 replace FB:=zjF FB ba
 replace FG:=zjF FG ba
 replace FA:=zjF FA ba
 obtain⟨G1,hG1⟩:∃G,w.heap.size=G:=⟨_,rfl⟩
 rw[hG1] at ha la ⊢
 have FR:=hid fun (W:World) (h:Below w1.heap.size w1 W)=>(h.block G1 la).trans ha
 clear ba ha sa la hG1
 go_wp2_with fail
 refine (qb2 HP.out _ (FG.out w1 zjb)).mono ?_
 rintro e v1 ⟨rfl,b1⟩
 replace FB:=zjF FB b1
 replace FG:=zjF FG b1
 replace FA:=zjF FA b1
 replace FR:=zjF FR b1
 clear b1
 by_cases hn:10000<n
 ·have hni:(10000:Int)<(n:Int):=by omega
  go_wp2_with fail
  refine (qb2 HP.out _ (FG.out v1 zjb)).mono ?_
  rintro e v9 ⟨rfl,bq⟩
  go_wp2_with fail
  go_ret
  exact⟨rfl,(FB.out v1 zjb).trans (bq.mono (FB.out v1 zjb).size)⟩
 have hni:¬(10000:Int)<(n:Int):=by omega
 have y0:=zjc G1 0 (FR.out v1 (Below.refl _ _))
 have y1:=zjc G1 1 (FR.out v1 (Below.refl _ _))
 have y2:=zjc G1 2 (FR.out v1 (Below.refl _ _))
 have y3:=zjc G1 3 (FR.out v1 (Below.refl _ _))
 have y4:=zjc G1 4 (FR.out v1 (Below.refl _ _))
 have y5:=zjc G1 5 (FR.out v1 (Below.refl _ _))
 have y6:=zjc G1 6 (FR.out v1 (Below.refl _ _))
 have y7:=zjc G1 7 (FR.out v1 (Below.refl _ _))
 have y8:=zjc G1 8 (FR.out v1 (Below.refl _ _))
 have y9:=zjc G1 9 (FR.out v1 (Below.refl _ _))
 have HX:Hid (Calls Tryz.prog 10 #[.agg #[.int .u8 (q.op.toNat:Int),.string q.m.name,.int .i64 q.m.time,.int .i64 q.m.uid,.int .i64 q.m.gid,.int .i64 q.m.mode,.slice q.m.ptr q.m.len q.m.cap,.string q.nm,.int .i64 q.z,.string q.a]] v1 (fun e w'=>e=.returned (.bool (qws q))∧Below v1.heap.size v1 w')):=hid (qpm q v1)
 go_wp2_with fail
 refine HX.out.mono ?_
 rintro e v2 ⟨rfl,b2⟩
 replace FB:=zjF FB b2
 replace FG:=zjF FG b2
 replace FA:=zjF FA b2
 replace FR:=zjF FR b2
 clear HX b2
 clear y0 y1 y2 y3 y4 y5 y6 y7 y8 y9
 cases hf:qws q with
 |false=>
  go_wp2_with fail
  refine (qb2 HP.out _ (FG.out v2 zjb)).mono ?_
  rintro e v9 ⟨rfl,bq⟩
  go_wp2_with fail
  go_ret
  exact⟨rfl,(FB.out v2 zjb).trans (bq.mono (FB.out v2 zjb).size)⟩
 |true=>
  replace FQ:=hid fun (W:World) (h:Below v2.heap.size v2 W)=>FQ.out hf W (FB.out W h)
  have hB:=bok_of (l:=l) (by have:=Hr.out;omega)
  have HB:=hid hB
  have hcs:=((FQ.out v2 zjb)).s
  obtain⟨ra,rn,rx,rz,hR⟩:∃ra rn rx rz,qb8 l q=(ra,rn,rx,rz):=⟨_,_,_,_,rfl⟩
  have HR:=hid hR
  have HZ:Hid (ra.length≤99000):=hid (by have:=qkw hB hcs;rw[hR] at this;exact this)
  have HEr:Hid (rz≠0→ra=l):=hid fun h=>by have:=runS_err (l:=l) (q:=q) (by rw[hR];exact h);rw[hR] at this;exact this
  have HLk:Hid (q.op=120∨q.op=116→ra=l):=hid fun h=>by have:=run_look (l:=l) h;rw[hR] at this;exact this
  have HDn:Hid (rz=0→q.op≠120→q.op≠116→∃M,Few M∧(qaw 0 M).2=0∧ra=qbe M):=hid fun h a b=>by have:=run_done hB hcs (by rw[hR];exact h) a b;rw[hR] at this;exact this
  clear hf hB hR hcs
  have y0:=zjc G1 0 (FR.out v2 (Below.refl _ _))
  have y1:=zjc G1 1 (FR.out v2 (Below.refl _ _))
  have y2:=zjc G1 2 (FR.out v2 (Below.refl _ _))
  have y3:=zjc G1 3 (FR.out v2 (Below.refl _ _))
  have y4:=zjc G1 4 (FR.out v2 (Below.refl _ _))
  have y5:=zjc G1 5 (FR.out v2 (Below.refl _ _))
  have y6:=zjc G1 6 (FR.out v2 (Below.refl _ _))
  have y7:=zjc G1 7 (FR.out v2 (Below.refl _ _))
  have y8:=zjc G1 8 (FR.out v2 (Below.refl _ _))
  have y9:=zjc G1 9 (FR.out v2 (Below.refl _ _))
  have HX:Hid (Calls Tryz.prog 12 #[.agg #[.int .u8 (q.op.toNat:Int),.string q.m.name,.int .i64 q.m.time,.int .i64 q.m.uid,.int .i64 q.m.gid,.int .i64 q.m.mode,.slice q.m.ptr q.m.len q.m.cap,.string q.nm,.int .i64 q.z,.string q.a]] v2 (fun e w'=>e=.returned (.agg #[.int .u8 (q.op.toNat:Int),.string q.m.name,.int .i64 q.m.time,.int .i64 q.m.uid,.int .i64 q.m.gid,.int .i64 q.m.mode,.slice q.m.ptr q.m.len q.m.cap,.string q.nm,.int .i64 q.z,.string q.a])∧Below v2.heap.size v2 w')):=hid (qcs q v2)
  go_wp2_with fail
  refine HX.out.mono ?_
  rintro e v3 ⟨rfl,b3⟩
  replace FB:=zjF FB b3
  replace FG:=zjF FG b3
  replace FA:=zjF FA b3
  replace FR:=zjF FR b3
  replace FQ:=zjF FQ b3
  clear HX b3
  clear y0 y1 y2 y3 y4 y5 y6 y7 y8 y9
  have HX:Hid (Calls Tryz.prog 11 #[.slice A n c,.agg #[.int .u8 (q.op.toNat:Int),.string q.m.name,.int .i64 q.m.time,.int .i64 q.m.uid,.int .i64 q.m.gid,.int .i64 q.m.mode,.slice q.m.ptr q.m.len q.m.cap,.string q.nm,.int .i64 q.z,.string q.a]] v3 (RunR ra rn rx rz v3)):=hid ((HP.out.run A n c l q v3 (FG.out v3 zjb) (FA.out v3 zjb) hnc hcm HB.out (FQ.out v3 zjb)).mono fun e w' h=>h.p.at_ HR.out)
  go_wp2_with fail
  refine HX.out.mono ?_
  rintro e v4 ⟨A1,n1,c1,B1,k1,d1,D1,j1,f1,rfl,⟨r1,hn1,hm1⟩,s1,x1,b4⟩
  replace FB:=zjF FB b4
  replace FG:=zjF FG b4
  replace FA:=zjF FA b4
  replace FR:=zjF FR b4
  replace FQ:=zjF FQ b4
  clear HX b4
  have F1:=hid fun (W:World) (h:Below v4.heap.size v4 W)=>(r1.below h).more h.size
  clear r1 s1 x1
  have ba:=zjB v4 (.cells #[.slice A1 n1 c1,.slice B1 k1 d1,.slice D1 j1 f1] 33)
  have ha:=heap_alloc_new v4 (.cells #[.slice A1 n1 c1,.slice B1 k1 d1,.slice D1 j1 f1] 33)
  have sa:=World.size_alloc v4 (.cells #[.slice A1 n1 c1,.slice B1 k1 d1,.slice D1 j1 f1] 33)
  go_upto_region 4 with fail
  generalize v4.alloc (.cells #[.slice A1 n1 c1,.slice B1 k1 d1,.slice D1 j1 f1] 33)=w5 at *
  have la:v4.heap.size<w5.heap.size:=by omega
  replace FB:=zjF FB ba
  replace FG:=zjF FG ba
  replace FA:=zjF FA ba
  replace FR:=zjF FR ba
  replace FQ:=zjF FQ ba
  replace F1:=zjF F1 ba
  obtain⟨G5,hG5⟩:∃G,v4.heap.size=G:=⟨_,rfl⟩
  rw[hG5] at ha la ⊢
  have FR1:=hid fun (W:World) (h:Below w5.heap.size w5 W)=>(h.block G5 la).trans ha
  clear ba ha sa la hG5
  clear FQ
  have hn1':n1≤99000:=by have h1:=(F1.out w5 zjb).1;have:=HZ.out;omega
  by_cases hz:rz=0
  ·have hzb:(rz !=0)=false:=by rw[hz];rfl
   by_cases hop:q.op=120∨q.op=116
   ·have hal:=HLk.out hop
    rcases hop with hop|hop
    ·have b120:((q.op.toNat:Int)==120)=true:=(qbn (op:=q.op) (k:=120) (by omega)).trans (by rw[hop];decide)
     have b116:((q.op.toNat:Int)==116)=false:=(qbn (op:=q.op) (k:=116) (by omega)).trans (by rw[hop];decide)
     have y0:=zjc G1 0 (FR.out w5 (Below.refl _ _))
     have HAL:=hid hal
     clear hal
     clear hop hz
     have hr2:JB.Rd w5 w5.heap.size A1 n1 l:=by rw[←HAL.out];exact (F1.out w5 zjb)
     have HS:=hid (JD.qb6 _ rfl _ _ A1 A n1 c1 n c l l w5 hr2 (FA.out w5 zjb) (by omega))
     rw[show (l==l)=true from by simp] at HS
     have t0:=zjc G5 0 (FR1.out w5 (Below.refl _ _))
     clear hr2
     go_wp2_with fail
     refine HS.out.mono ?_
     rintro e v6 ⟨rfl,m6,hv6⟩
     have b6:=JD.qa1 (K:=w5.heap.size) w5 m6
     rw[←hv6] at b6
     clear hv6 HS t0
     go_wp2_with fail
     go_ret
     exact⟨rfl,FB.out _ b6⟩
    ·have b120:((q.op.toNat:Int)==120)=false:=(qbn (op:=q.op) (k:=120) (by omega)).trans (by rw[hop];decide)
     have b116:((q.op.toNat:Int)==116)=true:=(qbn (op:=q.op) (k:=116) (by omega)).trans (by rw[hop];decide)
     have y0:=zjc G1 0 (FR.out w5 (Below.refl _ _))
     have HAL:=hid hal
     clear hal
     clear hop hz
     have hr2:JB.Rd w5 w5.heap.size A1 n1 l:=by rw[←HAL.out];exact (F1.out w5 zjb)
     have HS:=hid (JD.qb6 _ rfl _ _ A1 A n1 c1 n c l l w5 hr2 (FA.out w5 zjb) (by omega))
     rw[show (l==l)=true from by simp] at HS
     have t0:=zjc G5 0 (FR1.out w5 (Below.refl _ _))
     clear hr2
     go_wp2_with fail
     refine HS.out.mono ?_
     rintro e v6 ⟨rfl,m6,hv6⟩
     have b6:=JD.qa1 (K:=w5.heap.size) w5 m6
     rw[←hv6] at b6
     clear hv6 HS t0
     go_wp2_with fail
     go_ret
     exact⟨rfl,FB.out _ b6⟩
   have o1:q.op≠120:=fun e=>hop (.inl e)
   have o2:q.op≠116:=fun e=>hop (.inr e)
   obtain⟨M,hM,hM0,hra⟩:=HDn.out hz o1 o2
   obtain⟨mp,t,hop2⟩:=JK.qm5 hM hM0
   rw[←hra] at hop2
   have b120:((q.op.toNat:Int)==120)=false:=(qbn (op:=q.op) (k:=120) (by omega)).trans (decide_eq_false o1)
   have b116:((q.op.toNat:Int)==116)=false:=(qbn (op:=q.op) (k:=116) (by omega)).trans (decide_eq_false o2)
   have HO:=hid (JK.Qdg A1 n1 c1 ra w5 (FG.out w5 zjb).gnd (F1.out w5 zjb) hn1 (by omega))
   have HP2:=hid hop2
   clear hop hz o1 o2 hM hM0 hra hop2
   have y0:=zjc G1 0 (FR.out w5 (Below.refl _ _))
   have t0:=zjc G5 0 (FR1.out w5 (Below.refl _ _))
   go_wp2_with fail
   refine HO.out.mono ?_
   rintro e v6 ⟨⟨p1,p2,p3,p4,p5,p6,p7,p8⟩,rfl,_,_,_,_,b6⟩
   rw[HP2.out]
   simp only[JK.Vw.val]
   replace FB:=zjF FB b6
   replace FG:=zjF FG b6
   replace FA:=zjF FA b6
   replace FR:=zjF FR b6
   replace F1:=zjF F1 b6
   replace FR1:=zjF FR1 b6
   have ba:=zjB v6 (.cells #[.slice p1 p2 p3,.slice p5 p6 p7] 62)
   clear HO b6 y0 t0
   go_wp2_with fail
   go_ret
   exact⟨rfl,FB.out _ ba⟩
  have hzb:(rz !=0)=true:=by simpa using hz
  have HAL:=hid (HEr.out hz)
  clear hz
  have hr2:JB.Rd w5 w5.heap.size A1 n1 l:=by rw[←HAL.out];exact (F1.out w5 zjb)
  have HS:=hid (JD.qb6 _ rfl _ _ A1 A n1 c1 n c l l w5 hr2 (FA.out w5 zjb) (by omega))
  rw[show (l==l)=true from by simp] at HS
  have t0:=zjc G5 0 (FR1.out w5 (Below.refl _ _))
  clear hr2
  go_wp2_with fail
  refine HS.out.mono ?_
  rintro e v6 ⟨rfl,m6,hv6⟩
  have b6:=JD.qa1 (K:=w5.heap.size) w5 m6
  rw[←hv6] at b6
  clear hv6 HS t0
  go_wp2_with fail
  go_ret
  exact⟨rfl,FB.out _ b6⟩
end JL
end Go.Proofs.YtkegpjjehejaoaaGreatDoor
