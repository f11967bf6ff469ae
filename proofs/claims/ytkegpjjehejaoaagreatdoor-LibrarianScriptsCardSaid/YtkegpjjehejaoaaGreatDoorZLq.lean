/-
  librarian: LibrarianScripts, from the program's contracts:
-/
import Derived.Test.YtkegpjjehejaoaaGreatDoorZLk
import Derived.Test.YtkegpjjehejaoaaGreatDoorZEya
import Derived.Test.YtkegpjjehejaoaaGreatDoorZEe
import Derived.Deep.Fields
import Derived.Deep.Slices
set_option maxRecDepth 100000
set_option maxHeartbeats 16000000
set_option linter.unusedSimpArgs false
set_option linter.unusedVariables false
namespace Go.Proofs.YtkegpjjehejaoaaGreatDoor
open Go.RowKit Go.Proofs
namespace JL
open JB
open JS (Oth qdh)
open JN (qfp)
open JR (Mem RdM qeb qa6 qcv ar)
open JW (core MOk lens qbi RdM0)
open Go.Proofs.YtkegpjjehejaoaaGreatDoor.Six (Few qfs)
open JE (qak qc2 qex qc1 qep qey qbd qjd qgf qar qay)
theorem kC:JC.qy3 66 39 10 120 (.agg #[.int .u8 0,.string ⟨#[]⟩,.int .i64 0,.int .i64 0,.int .i64 0,.int .i64 0,.slice none 0 0,.string ⟨#[]⟩,.int .i64 0,.string ⟨#[]⟩]):=⟨by kernel_rfl,by kernel_rfl,by kernel_rfl,by decide⟩
def Qeu (w:World)(B:Option Addr)(k:Nat)(qs:List Cmd):Prop:=JC.Rd w w.heap.size B k 10 (qb0 qs)∧∀q∈qs,CmdB w q
theorem qpr:∀(a:List Cmd)(j:Nat),(qb0 a).take (j * 10)=qb0 (a.take j)
 |[],j=>by simp[qb0]
 |q::r,0=>by simp[qb0]
 |q::r,j+1=>by
  rw[List.take_succ_cons,qb0,qb0,←qpr r j,show (j+1) * 10=q.cells.toList.length+j * 10 by rw[qce];omega,List.take_length_add_append]
theorem qps:∀(a:List Cmd)(j:Nat),(qb0 a).drop (j * 10)=qb0 (a.drop j)
 |[],j=>by simp[qb0]
 |q::r,0=>by simp[qb0]
 |q::r,j+1=>by
  rw[List.drop_succ_cons,qb0,←qps r j,show (j+1) * 10=q.cells.toList.length+j * 10 by rw[qce];omega,List.drop_length_add_append]
theorem qxg {a:List Cmd}{j:Nat}(h:j<a.length):qb0 (a.take (j+1))=qb0 (a.take j)++a[j].cells.toList:=by
 rw[List.take_succ_eq_append_getElem h,qk9]
 simp[qb0]
def frC (A:Option Addr)(c k:Nat):Option Addr:=if c=k then A else A.map fun a=>a.add (k * 10)
theorem qxh {w:World}{K n m:Nat}{A:Option Addr}{qs:List Cmd}(h:JC.Rd w K A n 10 (qb0 qs))(hm:m≤n):JC.Rd w K A m 10 (qb0 (qs.take m)):=by
 have hl:=h.1
 rw[qae] at hl
 refine⟨by rw[qae,List.length_take];omega,fun i hi=>?_⟩
 have hi2:i<(qb0 qs).length:=by rw[qae,List.length_take] at hi;rw[qae];omega
 obtain⟨b,o,e,hb,hc⟩:=h.2 i hi2
 refine⟨b,o,e,hb,?_⟩
 rw[hc,←List.getElem?_eq_getElem hi2,←List.getElem?_eq_getElem hi,←qpr,List.getElem?_take,if_pos]
 rw[qae,List.length_take] at hi
 omega
theorem qt0 {w:World}{K n c k:Nat}{A:Option Addr}{qs:List Cmd}(h:JC.Rd w K A n 10 (qb0 qs))(hk:k≤n)(hc:n≤c):JC.Rd w K (frC A c k) (n-k) 10 (qb0 (qs.drop k)):=by
 have hl:=h.1
 rw[qae] at hl
 refine⟨by rw[qae,List.length_drop];omega,fun i hi=>?_⟩
 have hi':i<(qs.length-k) * 10:=by rw[qae,List.length_drop] at hi;exact hi
 have hi2:k * 10+i<(qb0 qs).length:=by rw[qae];omega
 obtain⟨b,o,e,hb,hcc⟩:=h.2 (k * 10+i) hi2
 refine⟨b,o+k * 10,?_,hb,?_⟩
 ·unfold frC
  rw[if_neg (by omega),e]
  simp[Addr.add]
 ·rw[show o+k * 10+i=o+(k * 10+i) by omega,hcc,←List.getElem?_eq_getElem hi2,←List.getElem?_eq_getElem hi,←qps,List.getElem?_drop]
theorem qpt (A:Option Addr)(n c k:Nat)(hk:k≤n)(hc:n≤c)(W:World):
 (Instr.slice 66 (.slice A n c) none (some (.int .i64 (k:Int))) none).run Tryz.prog W=.ok (.slice A k c) W:=by
 have h1:(k:Int)≤(c:Int):=by omega
 rcases A with _|a
 ·go_simp
 ·go_simp
theorem qpu (A:Option Addr)(n c k:Nat)(hk:k≤n)(hc:n≤c)(W:World):
 (Instr.slice 66 (.slice A n c) (some (.int .i64 (k:Int))) none none).run Tryz.prog W=.ok (.slice (frC A c k) (n-k) (c-k)) W:=by
 have h1:(k:Int)≤(n:Int):=by omega
 have h2:(n:Int)≤(c:Int):=by omega
 have h3:(k:Int)≤(c:Int):=by omega
 unfold frC
 by_cases hq:c=k
 ·subst hq
  rw[if_pos rfl]
  rcases A with _|a
  ·go_simp
  ·go_simp
 ·rw[if_neg hq]
  rcases A with _|a
  ·go_simp
  ·go_simp
theorem qpv {w:World}{K k:Nat}{B:Option Addr}{qs:List Cmd}(h:JC.Rd w K B k 10 (qb0 qs)){i:Nat}(hi:i<qs.length):∃b o:Nat,B=some ⟨b,o,none⟩∧b<K∧∀j,j<10→w.cell? ⟨b,o+i * 10+j,none⟩=qs[i].cells[j]?:=by
 have hl:∀j,j<10→i * 10+j<(qb0 qs).length:=fun j hj=>by rw[qae];omega
 obtain⟨b,o,e,hb,_⟩:=h.2 (i * 10+0) (hl 0 (by omega))
 refine⟨b,o,e,hb,fun j hj=>?_⟩
 obtain⟨b',o',e',_,hc⟩:=h.2 (i * 10+j) (hl j hj)
 rw[e] at e'
 injection e' with e'
 injection e' with e1 e2
 subst e1 e2
 rw[←qi3 qs i j hi hj,List.getElem?_eq_getElem (hl j hj),←hc,Nat.add_assoc]
def Std (l:List UInt8)(qs:List Cmd)(j:Nat)(la:List UInt8)(z:Int):Prop:=(z=0∧qcy l (qs.take j)=(la,j,0))∨(z≠0∧qcy l qs=(la,j,z))
theorem Std.next {l:List UInt8}{qs:List Cmd}{j:Nat}{la:List UInt8}(h:Std l qs j la 0)(hj:j<qs.length):
 ((qbe la qs[j]).2.2.2=0→Std l qs (j+1) (qbe la qs[j]).1 0)∧((qbe la qs[j]).2.2.2≠0→Std l qs j (qbe la qs[j]).1 (qbe la qs[j]).2.2.2):=by
 have h1:qcy l (qs.take j)=(la,j,0):=by
  rcases h with h|h
  ·exact h.2
  ·exact absurd rfl h.1
 have h2:=qvh l (qs.take j) qs[j] (by rw[h1])
 rw[h1] at h2
 refine⟨fun e=>.inl ⟨rfl,?_⟩,fun e=>.inr ⟨e,?_⟩⟩
 ·rw[List.take_succ_eq_append_getElem hj,h2,if_neg (by simp[e])]
 ·rw[if_pos e] at h2
  have h3:qs=(qs.take j++[qs[j]])++qs.drop (j+1):=by
   rw[List.append_assoc,List.singleton_append,←List.drop_eq_getElem_cons hj,List.take_append_drop]
  conv=>lhs;rw[h3]
  rw[qfg,h2,if_pos e,runS_err e]
theorem Std.done {l:List UInt8}{qs:List Cmd}{j:Nat}{la:List UInt8}{z:Int}(h:Std l qs j la z)(hz:z≠0∨qs.length≤j):qcy l qs=(la,j,z):=by
 rcases h with ⟨h0,h1⟩|⟨_,h1⟩
 ·rcases hz with hz|hz
  ·exact absurd h0 hz
  ·rw[List.take_of_length_le hz] at h1
   rw[h1,h0]
 ·exact h1
theorem parts {l:List UInt8}{qs:List Cmd}{la:List UInt8}{j:Nat}{z:Int}(h:qcy l qs=(la,j,z))(k:Nat)(hk:k≤qs.length):
 ((qcy l (qs.take k)).2.2≠0→j<k)∧((qcy l (qs.take k)).2.2=0→(qcy (qcy l (qs.take k)).1 (qs.drop k)).1=la∧(qcy (qcy l (qs.take k)).1 (qs.drop k)).2.2=z):=by
 have h1:=qfg l (qs.take k) (qs.drop k)
 rw[List.take_append_drop,h] at h1
 refine⟨fun e=>?_,fun e=>?_⟩
 ·rw[if_pos e] at h1
  have h2:=Qem l (qs.take k) e
  rw[←h1,List.length_take] at h2
  have h3:j<min k qs.length:=h2
  omega
 ·rw[if_neg (by simp[e])] at h1
  injection h1 with h2 h3
  injection h3 with _ h4
  exact⟨h2.symm,h4.symm⟩
theorem sml5 {l:List UInt8}(h:l.length≤5000):Sml l 83 5000:=(sml_of (by omega)).wide (by omega) h
theorem Qev (P:PC11)(w:World)(hG:qfp w)(A:Option Addr)(n c:Nat)(l:List UInt8)(hr:JB.Rd w w.heap.size A n l)(hnc:n≤c)(hcm:c≤maxLen)(B:Option Addr)(k d:Nat)(qs:List Cmd)(hq:Qeu w B k qs)(x:Nat)(hx:x<256):
 Calls Tryz.prog 6 #[.slice A n c,.slice B k d,.int .u8 (x:Int)] w fun e w'=>e=.returned (.bool true)∧Below w.heap.size w w':=by
 have HP:=hid P
 have Hr:=hid hr.1
 have Hk:Hid (qs.length=k):=hid (by have:=hq.1.1;rw[qae] at this;omega)
 have FB:=hid fun (W:World) (h:Below w.heap.size w W)=>h
 have FG:=hid fun (W:World) (h:Below w.heap.size w W)=>hG.on h
 have FA:=hid fun (W:World) (h:Below w.heap.size w W)=>(hr.below h).more h.size
 have FC:=hid fun (W:World) (h:Below w.heap.size w W)=>hq.1.below h
 have FQ:=hid fun (q:Cmd) (hm:q∈qs) (hf:qz6 q=true) (W:World) (h:Below w.heap.size w W)=>((cmd_ok (hq.2 q hm) hf).on h).more h.size zjn
 clear hG hr hq
 go_enter Tryz.func6,Tryz.ntmps6
 go_wp2_with fail
 refine (qe1 HP.out _ (FG.out w zjb)).mono ?_
 rintro e v1 ⟨rfl,b1⟩
 replace FB:=zjF FB b1
 replace FG:=zjF FG b1
 replace FA:=zjF FA b1
 replace FC:=zjF FC b1
 clear b1
 by_cases hn:5000<n
 ·have hni:(5000:Int)<(n:Int):=by omega
  go_wp2_with fail
  refine (qe1 HP.out _ (FG.out v1 zjb)).mono ?_
  rintro e v9 ⟨rfl,bq⟩
  go_wp2_with fail
  go_ret
  exact⟨rfl,(FB.out v1 zjb).trans (bq.mono (FB.out v1 zjb).size)⟩
 have hni:¬(5000:Int)<(n:Int):=by omega
 by_cases hk8:8<k
 ·have hki8:(8:Int)<(k:Int):=by omega
  go_wp2_with fail
  refine (qe1 HP.out _ (FG.out v1 zjb)).mono ?_
  rintro e v9 ⟨rfl,bq⟩
  go_wp2_with fail
  go_ret
  exact⟨rfl,(FB.out v1 zjb).trans (bq.mono (FB.out v1 zjb).size)⟩
 have hki8:¬(8:Int)<(k:Int):=by omega
 go_wp2_with fail
 go_loopw [7,8] (fun v iv W=>∃(j:Nat)(A1:Option Addr)(c1:Nat),iv=.int .i64 (j:Int)∧j≤k∧v=.slice A1 j c1∧JC.Own 39 10 W v1.heap.size (.slice A1 j c1) j (qb0 (qs.take j))∧Hid (∀q∈qs.take j,qz6 q=true)∧Below v1.heap.size v1 W) (fun _ iv _=>k-(intOf iv).toNat)
 case atStart=>exact⟨0,none,0,rfl,by omega,rfl,JC.Own.nil _ _ _ _,hid (fun q hq=>by simp at hq),Below.refl _ _⟩
 case round=>
  obtain⟨j,A1,c1,rfl,hj,rfl,hO,hF,hb⟩:=hrel
  by_cases hlt:j<k
  ·have hjl:j<qs.length:=by have:=Hk.out;omega
   have hji:(j:Int)<(k:Int):=by omega
   have Hsn:=hid (qxg hjl)
   obtain⟨b,o,hBe,hbK,hcell⟩:=qpv (FC.out wr hb) hjl
   subst hBe
   have Hmem:=hid (List.getElem_mem hjl)
   obtain⟨q,hqe⟩:∃q,qs[j]=q:=⟨_,rfl⟩
   rw[hqe] at hcell Hmem
   have p0:wr.cell? ⟨b,o+j * 10,none⟩=some (.int .u8 (q.op.toNat:Int)):=hcell 0 (by omega)
   have p1:wr.cell? ⟨b,o+j * 10+1,none⟩=some (.string q.m.name):=hcell 1 (by omega)
   have p2:wr.cell? ⟨b,o+j * 10+2,none⟩=some (.int .i64 q.m.time):=hcell 2 (by omega)
   have p3:wr.cell? ⟨b,o+j * 10+3,none⟩=some (.int .i64 q.m.uid):=hcell 3 (by omega)
   have p4:wr.cell? ⟨b,o+j * 10+4,none⟩=some (.int .i64 q.m.gid):=hcell 4 (by omega)
   have p5:wr.cell? ⟨b,o+j * 10+5,none⟩=some (.int .i64 q.m.mode):=hcell 5 (by omega)
   have p6:wr.cell? ⟨b,o+j * 10+6,none⟩=some (.slice q.m.ptr q.m.len q.m.cap):=hcell 6 (by omega)
   have p7:wr.cell? ⟨b,o+j * 10+7,none⟩=some (.string q.nm):=hcell 7 (by omega)
   have p8:wr.cell? ⟨b,o+j * 10+8,none⟩=some (.int .i64 q.z):=hcell 8 (by omega)
   have p9:wr.cell? ⟨b,o+j * 10+9,none⟩=some (.string q.a):=hcell 9 (by omega)
   have Hqe:=hid hqe
   clear hqe hcell
   rw[Hqe.out] at Hsn
   have HX:Hid (Calls Tryz.prog 10 #[.agg #[.int .u8 (q.op.toNat:Int),.string q.m.name,.int .i64 q.m.time,.int .i64 q.m.uid,.int .i64 q.m.gid,.int .i64 q.m.mode,.slice q.m.ptr q.m.len q.m.cap,.string q.nm,.int .i64 q.z,.string q.a]] wr (fun e w'=>e=.returned (.bool (qz6 q))∧Below wr.heap.size wr w')):=hid (qve q wr)
   go_wp2_with fail
   refine HX.out.mono ?_
   rintro e v2 ⟨rfl,b2⟩
   have kb:=hb.size
   have hb2:=hb.trans (b2.mono kb)
   cases hf:qz6 q with
   |false=>
    go_wp2_with fail
    go_ret
    exact⟨rfl,FB.out v2 hb2⟩
   |true=>
    have HF2:Hid (∀q'∈qs.take (j+1),qz6 q'=true):=hid fun q' hq'=>by
     rw[List.take_succ_eq_append_getElem hjl] at hq'
     rcases List.mem_append.1 hq' with h1|h1
     ·exact hF.out q' h1
     ·rw[List.mem_singleton.1 h1,Hqe.out];exact hf
    have hO2:=hO.below b2
    clear hf hO hF HX p0 p1 p2 p3 p4 p5 p6 p7 p8 p9
    obtain⟨b',o',hBe,hbK',hcell⟩:=qpv (FC.out v2 hb2) hjl
    injection hBe with hBe
    injection hBe with hB1 hB2
    subst hB1 hB2
    rw[Hqe.out] at hcell
    have p0:v2.cell? ⟨b,o+j * 10,none⟩=some (.int .u8 (q.op.toNat:Int)):=hcell 0 (by omega)
    have p1:v2.cell? ⟨b,o+j * 10+1,none⟩=some (.string q.m.name):=hcell 1 (by omega)
    have p2:v2.cell? ⟨b,o+j * 10+2,none⟩=some (.int .i64 q.m.time):=hcell 2 (by omega)
    have p3:v2.cell? ⟨b,o+j * 10+3,none⟩=some (.int .i64 q.m.uid):=hcell 3 (by omega)
    have p4:v2.cell? ⟨b,o+j * 10+4,none⟩=some (.int .i64 q.m.gid):=hcell 4 (by omega)
    have p5:v2.cell? ⟨b,o+j * 10+5,none⟩=some (.int .i64 q.m.mode):=hcell 5 (by omega)
    have p6:v2.cell? ⟨b,o+j * 10+6,none⟩=some (.slice q.m.ptr q.m.len q.m.cap):=hcell 6 (by omega)
    have p7:v2.cell? ⟨b,o+j * 10+7,none⟩=some (.string q.nm):=hcell 7 (by omega)
    have p8:v2.cell? ⟨b,o+j * 10+8,none⟩=some (.int .i64 q.z):=hcell 8 (by omega)
    have p9:v2.cell? ⟨b,o+j * 10+9,none⟩=some (.string q.a):=hcell 9 (by omega)
    clear hcell
    have HX:Hid (Calls Tryz.prog 12 #[.agg #[.int .u8 (q.op.toNat:Int),.string q.m.name,.int .i64 q.m.time,.int .i64 q.m.uid,.int .i64 q.m.gid,.int .i64 q.m.mode,.slice q.m.ptr q.m.len q.m.cap,.string q.nm,.int .i64 q.z,.string q.a]] v2 (fun e w'=>e=.returned (.agg #[.int .u8 (q.op.toNat:Int),.string q.m.name,.int .i64 q.m.time,.int .i64 q.m.uid,.int .i64 q.m.gid,.int .i64 q.m.mode,.slice q.m.ptr q.m.len q.m.cap,.string q.nm,.int .i64 q.z,.string q.a])∧Below v2.heap.size v2 w')):=hid (qka q v2)
    go_wp2_with fail
    refine HX.out.mono ?_
    rintro e v3 ⟨rfl,b3⟩
    have hb3:=hb2.trans (b3.mono hb2.size)
    have hO3:=hO2.below b3
    clear HX b2 b3 hO2 hb p0 p1 p2 p3 p4 p5 p6 p7 p8 p9
    go_wp2_with (at_builtin;go_must (refine JC.qa3 kC v3 v1.heap.size (.slice A1 j c1) j _ hO3 hb3.size 1 1 #[.int .u8 (q.op.toNat:Int),.string q.m.name,.int .i64 q.m.time,.int .i64 q.m.uid,.int .i64 q.m.gid,.int .i64 q.m.mode,.slice q.m.ptr q.m.len q.m.cap,.string q.nm,.int .i64 q.z,.string q.a] (0,0) rfl (by simp[Value.oneCell']) (by omega) (by omega) rfl (.tmp 49) (.tmp 55) rfl rfl rfl ?_);intro v4 w4 ho4 hb4 _ _;obtain⟨A4,c4,rfl,_⟩:=ho4.reads)
    have ho4':JC.Own 39 10 w4 v1.heap.size (.slice A4 (j+1) c4) (j+1) (qb0 (qs.take (j+1))):=by rw[Hsn.out];exact ho4
    have hb04:=hb3.trans hb4
    clear ho4 hb4 hO3 hb3 hb2
    go_roundw
    ·exact⟨j+1,A4,c4,by go_num,by omega,rfl,ho4',HF2,hb04⟩
    ·simp[intOf];omega
  ·obtain rfl:j=k:=by omega
   have hji:¬(j:Int)<(j:Int):=by omega
   rw[show qs.take j=qs from List.take_of_length_le (by have:=Hk.out;omega)] at hO hF
   generalize wr=w2 at *
   have kb:=hb.size
   replace FB:=zjF FB hb
   replace FG:=zjF FG hb
   replace FA:=zjF FA hb
   replace FC:=zjF FC hb
   replace FQ:=hid fun (q:Cmd) (hm:q∈qs) (W:World) (h:Below w2.heap.size w2 W)=>FQ.out q hm (hF.out q hm) W (FB.out W h)
   obtain⟨_,_,e1,r1,hA1c,hA1m⟩:=hO.reads
   injection e1 with e11 _ e13
   subst e11 e13
   have FI:=hid fun (W:World) (h:Below w2.heap.size w2 W)=>(show qw8 W W.heap.size A1 j qs from ⟨(r1.below h).more h.size,Nat.le_refl _,fun q hq=>FQ.out q hq W h⟩)
   clear hO hF r1 hb
   have hlit:=JB.Own.lit0 w2 w2.heap.size zjn
   have hbe:=zjB w2 (.cells #[] 5)
   have hAr:=((FA.out w2 zjb)).below hbe
   go_upto_region 11 with (at_builtin;go_must (refine qd8 _ w2.heap.size _ 0 [] hlit hbe.size A n c w2.heap.size l hAr (by omega) rfl (.tmp 57) (.tmp 58) rfl rfl rfl ?_);intro x3 v3 ho3 hb3 _;rw[Nat.zero_add,List.nil_append] at ho3;obtain⟨Ao,co,rfl,rho,hoa,hob⟩:=ho3.reads)
   have b23:=hbe.trans hb3
   have ro3:=rho
   clear hlit hbe hAr ho3 hb3 rho
   replace FB:=zjF FB b23
   replace FG:=zjF FG b23
   replace FA:=zjF FA b23
   replace FC:=zjF FC b23
   replace FI:=zjF FI b23
   replace FQ:=hid fun (q:Cmd) (hm:q∈qs) (W:World) (h:Below v3.heap.size v3 W)=>FQ.out q hm W (b23.trans (h.mono b23.size))
   clear b23
   have Hs5:=hid (sml5 (l:=l) (by have:=Hr.out;omega))
   go_wp2_with fail
   go_loopw [9,10,11] (fun v jv ev W=>∃(i:Nat)(A2:Option Addr)(n2 c2:Nat)(la:List UInt8)(z:Int),jv=.int .i64 (i:Int)∧i≤j∧v=.slice A2 n2 c2∧ev=.int .i64 z∧JB.Rd W W.heap.size A2 n2 la∧n2≤c2∧c2≤maxLen∧Hid (Std l qs i la z)∧Below v3.heap.size v3 W) (fun _ jv ev _=>(j-(intOf jv).toNat)+(if intOf ev=0 then 1 else 0))
   case atStart=>exact⟨0,Ao,n,co,l,0,rfl,by omega,rfl,rfl,ro3,hoa,hob,hid (.inl ⟨rfl,by simp[qcy]⟩),Below.refl _ _⟩
   case round=>
    obtain⟨i,A2,n2,c2,la,z,rfl,hi,rfl,rfl,r2,hn2,hm2,hS,hb⟩:=hrel
    have kb:=hb.size
    by_cases hz0:z=0
    ·have hzt:(z==0)=true:=by rw[hz0];rfl
     by_cases hil0:i<j
     ·subst hz0
      have hil:i<qs.length:=by have:=Hk.out;omega
      have hij:(i:Int)<(j:Int):=by omega
      have Hil:=hid hil
      have hnx:=hS.out.next hil
      have hla:Sml la (83+i) (5000+500 * i):=by
       have h1:qcy l (qs.take i)=(la,i,0):=by rcases hS.out with h|h;exact h.2;exact absurd rfl h.1
       have h2:=Sml.runs (qs.take i) Hs5.out (by rw[List.length_take];omega) (by rw[List.length_take];omega) (fun q hq=>(FQ.out q (List.mem_of_mem_take hq) wr hb).s)
       rw[h1,List.length_take,show min i qs.length=i by omega] at h2
       exact h2
      have Hla:=hid hla
      have Hbo:=hid (hla.bok (by omega) (by omega))
      obtain⟨b,o,hBe,hbK,hcell⟩:=qpv (FC.out wr hb) hil
      subst hBe
      have Hmem:=hid (List.getElem_mem hil)
      obtain⟨q,hqe⟩:∃q:Cmd,qs[i]'hil=q:=⟨_,rfl⟩
      rw[hqe] at Hmem hcell
      have hnx2:((qbe la q).2.2.2=0→Std l qs (i+1) (qbe la q).1 0)∧((qbe la q).2.2.2≠0→Std l qs i (qbe la q).1 (qbe la q).2.2.2):=by rw[←hqe];exact hnx
      replace hnx:=hnx2
      have p0:wr.cell? ⟨b,o+i * 10,none⟩=some (.int .u8 (q.op.toNat:Int)):=hcell 0 (by omega)
      have p1:wr.cell? ⟨b,o+i * 10+1,none⟩=some (.string q.m.name):=hcell 1 (by omega)
      have p2:wr.cell? ⟨b,o+i * 10+2,none⟩=some (.int .i64 q.m.time):=hcell 2 (by omega)
      have p3:wr.cell? ⟨b,o+i * 10+3,none⟩=some (.int .i64 q.m.uid):=hcell 3 (by omega)
      have p4:wr.cell? ⟨b,o+i * 10+4,none⟩=some (.int .i64 q.m.gid):=hcell 4 (by omega)
      have p5:wr.cell? ⟨b,o+i * 10+5,none⟩=some (.int .i64 q.m.mode):=hcell 5 (by omega)
      have p6:wr.cell? ⟨b,o+i * 10+6,none⟩=some (.slice q.m.ptr q.m.len q.m.cap):=hcell 6 (by omega)
      have p7:wr.cell? ⟨b,o+i * 10+7,none⟩=some (.string q.nm):=hcell 7 (by omega)
      have p8:wr.cell? ⟨b,o+i * 10+8,none⟩=some (.int .i64 q.z):=hcell 8 (by omega)
      have p9:wr.cell? ⟨b,o+i * 10+9,none⟩=some (.string q.a):=hcell 9 (by omega)
      clear hqe hil hla hcell
      obtain⟨ra,rn,rx,rz,hR⟩:∃ra rn rx rz,qbe la q=(ra,rn,rx,rz):=⟨_,_,_,_,rfl⟩
      rw[hR] at hnx
      have HR:=hid hR
      have Hnx:=hid hnx
      clear hR hnx hS
      have HX:Hid (Calls Tryz.prog 13 #[.slice A2 n2 c2,.agg #[.int .u8 (q.op.toNat:Int),.string q.m.name,.int .i64 q.m.time,.int .i64 q.m.uid,.int .i64 q.m.gid,.int .i64 q.m.mode,.slice q.m.ptr q.m.len q.m.cap,.string q.nm,.int .i64 q.z,.string q.a]] wr (RunR ra rn rx rz wr)):=hid ((qza A2 n2 c2 la q wr r2 hn2 Hbo.out (FQ.out q Hmem.out wr hb)).mono fun e w' h=>h.at_ HR.out)
      go_wp2_with fail
      refine HX.out.mono ?_
      rintro e v5 ⟨A5,n5,c5,B5,k5,d5,D5,j5,f5,rfl,⟨r5,hn5,hm5⟩,s5,x5,b5⟩
      have b35:=hb.trans (b5.mono kb)
      clear HX b5 hb s5 x5 p0 p1 p2 p3 p4 p5 p6 p7 p8 p9
      have ba:=zjB v5 (.cells #[.slice A5 n5 c5,.slice B5 k5 d5,.slice D5 j5 f5] 41)
      have ha:=heap_alloc_new v5 (.cells #[.slice A5 n5 c5,.slice B5 k5 d5,.slice D5 j5 f5] 41)
      go_upto_region 15 with fail
      generalize v5.alloc (.cells #[.slice A5 n5 c5,.slice B5 k5 d5,.slice D5 j5 f5] 41)=w6 at *
      have b36:=b35.trans (ba.mono b35.size)
      have r6:=(r5.below ba).more ba.size
      obtain⟨G,hGG⟩:∃G,v5.heap.size=G:=⟨_,rfl⟩
      rw[hGG] at ha ⊢
      have t0:=zjc G 0 ha
      clear ba ha r5 b35 hGG
      by_cases hz:rz=0
      ·have hzb:(rz==0)=true:=by rw[hz];rfl
       have hS2:=hid (Hnx.out.1 hz)
       have hz':=hid hz
       clear Hnx hz
       go_wp2_with fail
       go_roundw
       ·exact⟨i+1,A5,n5,c5,ra,0,by go_num,by omega,rfl,by rw[hz'.out],r6,hn5,hm5,hS2,b36⟩
       ·have e:=hz'.out;simp[intOf,e];omega
      ·have hzb:(rz==0)=false:=by simpa using hz
       have hS2:=hid (Hnx.out.2 hz)
       have hz':=hid hz
       clear Hnx hz
       go_wp2_with fail
       go_roundw
       ·exact⟨i,A5,n5,c5,ra,rz,rfl,by omega,rfl,rfl,r6,hn5,hm5,hS2,b36⟩
       ·have e:=hz'.out;simp[intOf,e]
     have hij:¬(i:Int)<(j:Int):=by omega
     have hend:z≠0∨qs.length≤i:=.inr (by have:=Hk.out;omega)
     have HD:=hid (hS.out.done hend)
     clear hS hend
     generalize wr=w7 at *
     replace FB:=zjF FB hb
     replace FG:=zjF FG hb
     replace FA:=zjF FA hb
     replace FC:=zjF FC hb
     replace FI:=zjF FI hb
     replace FQ:=hid fun (q:Cmd) (hm:q∈qs) (W:World) (h:Below w7.heap.size w7 W)=>FQ.out q hm W (hb.trans (h.mono hb.size))
     have FW:=hid fun (W:World) (h:Below w7.heap.size w7 W)=>(r2.below h).more h.size
     clear hb r2
     have hn2s:n2≤99000:=by have h2:=Sml.runs qs Hs5.out (by have:=Hk.out;omega) (by have:=Hk.out;omega) (fun q hq=>(FQ.out q hq w7 zjb).s);rw[HD.out] at h2;have h3:=h2.len;have h4:=(FW.out w7 zjb).1;have h5:la.length≤99000:=h3;omega
     have HX:=hid (HP.out.runAll A n c l 83 5000 A1 j c1 qs w7 (FG.out w7 zjb) (FA.out w7 zjb) hnc hcm Hs5.out (by omega) (by omega) (FI.out w7 zjb) hA1c hA1m)
     go_wp2_with fail
     refine HX.out.mono ?_
     rintro e v8 ⟨A8,n8,c8,rfl,o8,b8⟩
     rw[HD.out] at o8
     replace o8:JB.Own v8 w7.heap.size (.slice A8 n8 c8) n8 la:=o8
     rw[HD.out]
     simp only
     obtain⟨_,_,e8,r8,ha8,hb8⟩:=o8.reads
     injection e8 with e81 _ e83
     subst e81 e83
     replace FB:=zjF FB b8
     replace FG:=zjF FG b8
     replace FA:=zjF FA b8
     replace FC:=zjF FC b8
     replace FI:=zjF FI b8
     replace FW:=zjF FW b8
     replace FQ:=hid fun (q:Cmd) (hm:q∈qs) (W:World) (h:Below v8.heap.size v8 W)=>FQ.out q hm W (b8.trans (h.mono b8.size))
     have FX:=hid fun (W:World) (h:Below v8.heap.size v8 W)=>(r8.below h).more h.size
     clear HX b8 o8 r8
     have HS:=hid (JD.qbn _ rfl _ _ A8 A2 n8 c8 n2 c2 la la v8 (FX.out v8 zjb) (FW.out v8 zjb) (by have h1:=(FX.out v8 zjb).1;have h2:=(FW.out v8 zjb).1;omega))
     rw[show (la==la)=true from by simp] at HS
     have hii:((i:Int) !=(i:Int))=false:=by simp
     have hzz:(z !=z)=false:=by simp
     go_wp2_with fail
     refine HS.out.mono ?_
     rintro e v9 ⟨rfl,m9,hv9⟩
     have b9:=JD.qa1 (K:=v8.heap.size) v8 m9
     rw[←hv9] at b9
     clear hv9 HS
     replace FB:=zjF FB b9
     replace FG:=zjF FG b9
     replace FA:=zjF FA b9
     replace FC:=zjF FC b9
     replace FI:=zjF FI b9
     replace FW:=zjF FW b9
     replace FX:=zjF FX b9
     replace FQ:=hid fun (q:Cmd) (hm:q∈qs) (W:World) (h:Below v9.heap.size v9 W)=>FQ.out q hm W (b9.trans (h.mono b9.size))
     clear b9
     obtain⟨t,ht⟩:∃t,x%(j+1)=t:=⟨_,rfl⟩
     have htj:t≤j:=by have:=Nat.mod_lt x (show 0<j+1 by omega);omega
     have htm:(x:Int)%((j:Int)+1)=(t:Int):=by rw[←ht];simp
     have hU:=qpt A1 j c1 t htj hA1c v9
     have hPa:=parts HD.out t (by have:=Hk.out;omega)
     have HPa:=hid hPa
     clear hPa ht
     obtain⟨ya,yk,yz,hY⟩:∃ya yk yz,qcy l (qs.take t)=(ya,yk,yz):=⟨_,_,_,rfl⟩
     have HY:=hid hY
     rw[hY] at HPa
     clear hY
     have hIt:=(FI.out v9 zjb)
     have hAt:qw8 v9 v9.heap.size A1 t (qs.take t):=⟨qxh hIt.rd htj,Nat.le_refl _,fun q hq=>hIt.ok q (List.mem_of_mem_take hq)⟩
     have HX:=hid (HP.out.runAll A n c l 83 5000 A1 t c1 (qs.take t) v9 (FG.out v9 zjb) (FA.out v9 zjb) hnc hcm Hs5.out (by omega) (by omega) hAt (by omega) hA1m)
     clear hIt hAt
     go_wp2_with fail
     refine HX.out.mono ?_
     rintro e v10 ⟨A9,n9,c9,rfl,o9,b10⟩
     rw[HY.out] at o9
     replace o9:JB.Own v10 v9.heap.size (.slice A9 n9 c9) n9 ya:=o9
     rw[HY.out]
     simp only
     obtain⟨_,_,e9,r9,ha9,hb9⟩:=o9.reads
     injection e9 with e91 _ e93
     subst e91 e93
     replace FB:=zjF FB b10
     replace FG:=zjF FG b10
     replace FA:=zjF FA b10
     replace FC:=zjF FC b10
     replace FI:=zjF FI b10
     replace FW:=zjF FW b10
     replace FX:=zjF FX b10
     replace FQ:=hid fun (q:Cmd) (hm:q∈qs) (W:World) (h:Below v10.heap.size v10 W)=>FQ.out q hm W (b10.trans (h.mono b10.size))
     have FY:=hid fun (W:World) (h:Below v10.heap.size v10 W)=>(r9.below h).more h.size
     clear HX b10 o9 r9 hU
     by_cases hy:yz=0
     ·have hyb:(yz !=0)=false:=by rw[hy];rfl
      have hp2:=HPa.out.2 hy
      have HP2:=hid hp2
      have hya:Sml ya (83+t) (5000+500 * t):=by
       have h2:=Sml.runs (qs.take t) Hs5.out (by rw[List.length_take];omega) (by rw[List.length_take];omega) (fun q hq=>(FQ.out q (List.mem_of_mem_take hq) v10 zjb).s)
       rw[HY.out,List.length_take,show min t qs.length=t by have:=Hk.out;omega] at h2
       exact h2
      have Hya:=hid hya
      clear hy hp2 hya HPa
      have hIt:=(FI.out v10 zjb)
      have hAt:qw8 v10 v10.heap.size (frC A1 c1 t) (j-t) (qs.drop t):=⟨qt0 hIt.rd htj hA1c,Nat.le_refl _,fun q hq=>hIt.ok q (List.mem_of_mem_drop hq)⟩
      have hU:=qpu A1 j c1 t htj hA1c v10
      have HX:=hid (HP.out.runAll A9 n9 c9 ya (83+t) (5000+500 * t) (frC A1 c1 t) (j-t) (c1-t) (qs.drop t) v10 (FG.out v10 zjb) (FY.out v10 zjb) ha9 hb9 Hya.out (by omega) (by omega) hAt (by omega) (by omega))
      clear hIt hAt
      go_wp2_with fail
      refine HX.out.mono ?_
      rintro e v11 ⟨Az,nz,cz,rfl,oz,b11⟩
      rw[HP2.out.1] at oz
      rw[HP2.out.2]
      obtain⟨_,_,ez,rz9,_⟩:=oz.reads
      injection ez with ez1 _ ez3
      subst ez1 ez3
      replace FB:=zjF FB b11
      replace FG:=zjF FG b11
      replace FA:=zjF FA b11
      replace FC:=zjF FC b11
      replace FI:=zjF FI b11
      replace FW:=zjF FW b11
      replace FX:=zjF FX b11
      replace FY:=zjF FY b11
      have FZ:=hid fun (W:World) (h:Below v11.heap.size v11 W)=>(rz9.below h).more h.size
      clear HX b11 oz rz9 hU
      have HS:=hid (JD.qbn _ rfl _ _ Az A8 nz cz n8 c8 la la v11 (FZ.out v11 zjb) (FX.out v11 zjb) (by have h1:=(FZ.out v11 zjb).1;have h2:=(FW.out v11 zjb).1;omega))
      rw[show (la==la)=true from by simp] at HS
      have hzq:(z==z)=true:=by simp
      go_wp2_with fail
      refine HS.out.mono ?_
      rintro e v12 ⟨rfl,m12,hv12⟩
      have b12:=JD.qa1 (K:=v11.heap.size) v11 m12
      rw[←hv12] at b12
      clear hv12 HS
      go_wp2_with fail
      go_ret
      exact⟨rfl,FB.out v12 b12⟩
     have hyb:(yz !=0)=true:=by simpa using hy
     have hit:(i:Int)<(t:Int):=by have:=HPa.out.1 hy;omega
     clear hy HPa
     go_wp2_with fail
     go_ret
     exact⟨rfl,FB.out v10 zjb⟩
    have hzt:(z==0)=false:=by simpa using hz0
    have hend:z≠0∨qs.length≤i:=.inl hz0
    by_cases hij0:i<j
    ·have hij:(i:Int)<(j:Int):=by omega
     have HD:=hid (hS.out.done hend)
     clear hS hend
     generalize wr=w7 at *
     replace FB:=zjF FB hb
     replace FG:=zjF FG hb
     replace FA:=zjF FA hb
     replace FC:=zjF FC hb
     replace FI:=zjF FI hb
     replace FQ:=hid fun (q:Cmd) (hm:q∈qs) (W:World) (h:Below w7.heap.size w7 W)=>FQ.out q hm W (hb.trans (h.mono hb.size))
     have FW:=hid fun (W:World) (h:Below w7.heap.size w7 W)=>(r2.below h).more h.size
     clear hb r2
     have hn2s:n2≤99000:=by have h2:=Sml.runs qs Hs5.out (by have:=Hk.out;omega) (by have:=Hk.out;omega) (fun q hq=>(FQ.out q hq w7 zjb).s);rw[HD.out] at h2;have h3:=h2.len;have h4:=(FW.out w7 zjb).1;have h5:la.length≤99000:=h3;omega
     have HX:=hid (HP.out.runAll A n c l 83 5000 A1 j c1 qs w7 (FG.out w7 zjb) (FA.out w7 zjb) hnc hcm Hs5.out (by omega) (by omega) (FI.out w7 zjb) hA1c hA1m)
     go_wp2_with fail
     refine HX.out.mono ?_
     rintro e v8 ⟨A8,n8,c8,rfl,o8,b8⟩
     rw[HD.out] at o8
     replace o8:JB.Own v8 w7.heap.size (.slice A8 n8 c8) n8 la:=o8
     rw[HD.out]
     simp only
     obtain⟨_,_,e8,r8,ha8,hb8⟩:=o8.reads
     injection e8 with e81 _ e83
     subst e81 e83
     replace FB:=zjF FB b8
     replace FG:=zjF FG b8
     replace FA:=zjF FA b8
     replace FC:=zjF FC b8
     replace FI:=zjF FI b8
     replace FW:=zjF FW b8
     replace FQ:=hid fun (q:Cmd) (hm:q∈qs) (W:World) (h:Below v8.heap.size v8 W)=>FQ.out q hm W (b8.trans (h.mono b8.size))
     have FX:=hid fun (W:World) (h:Below v8.heap.size v8 W)=>(r8.below h).more h.size
     clear HX b8 o8 r8
     have HS:=hid (JD.qbn _ rfl _ _ A8 A2 n8 c8 n2 c2 la la v8 (FX.out v8 zjb) (FW.out v8 zjb) (by have h1:=(FX.out v8 zjb).1;have h2:=(FW.out v8 zjb).1;omega))
     rw[show (la==la)=true from by simp] at HS
     have hii:((i:Int) !=(i:Int))=false:=by simp
     have hzz:(z !=z)=false:=by simp
     go_wp2_with fail
     refine HS.out.mono ?_
     rintro e v9 ⟨rfl,m9,hv9⟩
     have b9:=JD.qa1 (K:=v8.heap.size) v8 m9
     rw[←hv9] at b9
     clear hv9 HS
     replace FB:=zjF FB b9
     replace FG:=zjF FG b9
     replace FA:=zjF FA b9
     replace FC:=zjF FC b9
     replace FI:=zjF FI b9
     replace FW:=zjF FW b9
     replace FX:=zjF FX b9
     replace FQ:=hid fun (q:Cmd) (hm:q∈qs) (W:World) (h:Below v9.heap.size v9 W)=>FQ.out q hm W (b9.trans (h.mono b9.size))
     clear b9
     obtain⟨t,ht⟩:∃t,x%(j+1)=t:=⟨_,rfl⟩
     have htj:t≤j:=by have:=Nat.mod_lt x (show 0<j+1 by omega);omega
     have htm:(x:Int)%((j:Int)+1)=(t:Int):=by rw[←ht];simp
     have hU:=qpt A1 j c1 t htj hA1c v9
     have hPa:=parts HD.out t (by have:=Hk.out;omega)
     have HPa:=hid hPa
     clear hPa ht
     obtain⟨ya,yk,yz,hY⟩:∃ya yk yz,qcy l (qs.take t)=(ya,yk,yz):=⟨_,_,_,rfl⟩
     have HY:=hid hY
     rw[hY] at HPa
     clear hY
     have hIt:=(FI.out v9 zjb)
     have hAt:qw8 v9 v9.heap.size A1 t (qs.take t):=⟨qxh hIt.rd htj,Nat.le_refl _,fun q hq=>hIt.ok q (List.mem_of_mem_take hq)⟩
     have HX:=hid (HP.out.runAll A n c l 83 5000 A1 t c1 (qs.take t) v9 (FG.out v9 zjb) (FA.out v9 zjb) hnc hcm Hs5.out (by omega) (by omega) hAt (by omega) hA1m)
     clear hIt hAt
     go_wp2_with fail
     refine HX.out.mono ?_
     rintro e v10 ⟨A9,n9,c9,rfl,o9,b10⟩
     rw[HY.out] at o9
     replace o9:JB.Own v10 v9.heap.size (.slice A9 n9 c9) n9 ya:=o9
     rw[HY.out]
     simp only
     obtain⟨_,_,e9,r9,ha9,hb9⟩:=o9.reads
     injection e9 with e91 _ e93
     subst e91 e93
     replace FB:=zjF FB b10
     replace FG:=zjF FG b10
     replace FA:=zjF FA b10
     replace FC:=zjF FC b10
     replace FI:=zjF FI b10
     replace FW:=zjF FW b10
     replace FX:=zjF FX b10
     replace FQ:=hid fun (q:Cmd) (hm:q∈qs) (W:World) (h:Below v10.heap.size v10 W)=>FQ.out q hm W (b10.trans (h.mono b10.size))
     have FY:=hid fun (W:World) (h:Below v10.heap.size v10 W)=>(r9.below h).more h.size
     clear HX b10 o9 r9 hU
     by_cases hy:yz=0
     ·have hyb:(yz !=0)=false:=by rw[hy];rfl
      have hp2:=HPa.out.2 hy
      have HP2:=hid hp2
      have hya:Sml ya (83+t) (5000+500 * t):=by
       have h2:=Sml.runs (qs.take t) Hs5.out (by rw[List.length_take];omega) (by rw[List.length_take];omega) (fun q hq=>(FQ.out q (List.mem_of_mem_take hq) v10 zjb).s)
       rw[HY.out,List.length_take,show min t qs.length=t by have:=Hk.out;omega] at h2
       exact h2
      have Hya:=hid hya
      clear hy hp2 hya HPa
      have hIt:=(FI.out v10 zjb)
      have hAt:qw8 v10 v10.heap.size (frC A1 c1 t) (j-t) (qs.drop t):=⟨qt0 hIt.rd htj hA1c,Nat.le_refl _,fun q hq=>hIt.ok q (List.mem_of_mem_drop hq)⟩
      have hU:=qpu A1 j c1 t htj hA1c v10
      have HX:=hid (HP.out.runAll A9 n9 c9 ya (83+t) (5000+500 * t) (frC A1 c1 t) (j-t) (c1-t) (qs.drop t) v10 (FG.out v10 zjb) (FY.out v10 zjb) ha9 hb9 Hya.out (by omega) (by omega) hAt (by omega) (by omega))
      clear hIt hAt
      go_wp2_with fail
      refine HX.out.mono ?_
      rintro e v11 ⟨Az,nz,cz,rfl,oz,b11⟩
      rw[HP2.out.1] at oz
      rw[HP2.out.2]
      obtain⟨_,_,ez,rz9,_⟩:=oz.reads
      injection ez with ez1 _ ez3
      subst ez1 ez3
      replace FB:=zjF FB b11
      replace FG:=zjF FG b11
      replace FA:=zjF FA b11
      replace FC:=zjF FC b11
      replace FI:=zjF FI b11
      replace FW:=zjF FW b11
      replace FX:=zjF FX b11
      replace FY:=zjF FY b11
      have FZ:=hid fun (W:World) (h:Below v11.heap.size v11 W)=>(rz9.below h).more h.size
      clear HX b11 oz rz9 hU
      have HS:=hid (JD.qbn _ rfl _ _ Az A8 nz cz n8 c8 la la v11 (FZ.out v11 zjb) (FX.out v11 zjb) (by have h1:=(FZ.out v11 zjb).1;have h2:=(FW.out v11 zjb).1;omega))
      rw[show (la==la)=true from by simp] at HS
      have hzq:(z==z)=true:=by simp
      go_wp2_with fail
      refine HS.out.mono ?_
      rintro e v12 ⟨rfl,m12,hv12⟩
      have b12:=JD.qa1 (K:=v11.heap.size) v11 m12
      rw[←hv12] at b12
      clear hv12 HS
      go_wp2_with fail
      go_ret
      exact⟨rfl,FB.out v12 b12⟩
     have hyb:(yz !=0)=true:=by simpa using hy
     have hit:(i:Int)<(t:Int):=by have:=HPa.out.1 hy;omega
     clear hy HPa
     go_wp2_with fail
     go_ret
     exact⟨rfl,FB.out v10 zjb⟩
    ·have hij:¬(i:Int)<(j:Int):=by omega
     have HD:=hid (hS.out.done hend)
     clear hS hend
     generalize wr=w7 at *
     replace FB:=zjF FB hb
     replace FG:=zjF FG hb
     replace FA:=zjF FA hb
     replace FC:=zjF FC hb
     replace FI:=zjF FI hb
     replace FQ:=hid fun (q:Cmd) (hm:q∈qs) (W:World) (h:Below w7.heap.size w7 W)=>FQ.out q hm W (hb.trans (h.mono hb.size))
     have FW:=hid fun (W:World) (h:Below w7.heap.size w7 W)=>(r2.below h).more h.size
     clear hb r2
     have hn2s:n2≤99000:=by have h2:=Sml.runs qs Hs5.out (by have:=Hk.out;omega) (by have:=Hk.out;omega) (fun q hq=>(FQ.out q hq w7 zjb).s);rw[HD.out] at h2;have h3:=h2.len;have h4:=(FW.out w7 zjb).1;have h5:la.length≤99000:=h3;omega
     have HX:=hid (HP.out.runAll A n c l 83 5000 A1 j c1 qs w7 (FG.out w7 zjb) (FA.out w7 zjb) hnc hcm Hs5.out (by omega) (by omega) (FI.out w7 zjb) hA1c hA1m)
     go_wp2_with fail
     refine HX.out.mono ?_
     rintro e v8 ⟨A8,n8,c8,rfl,o8,b8⟩
     rw[HD.out] at o8
     replace o8:JB.Own v8 w7.heap.size (.slice A8 n8 c8) n8 la:=o8
     rw[HD.out]
     simp only
     obtain⟨_,_,e8,r8,ha8,hb8⟩:=o8.reads
     injection e8 with e81 _ e83
     subst e81 e83
     replace FB:=zjF FB b8
     replace FG:=zjF FG b8
     replace FA:=zjF FA b8
     replace FC:=zjF FC b8
     replace FI:=zjF FI b8
     replace FW:=zjF FW b8
     replace FQ:=hid fun (q:Cmd) (hm:q∈qs) (W:World) (h:Below v8.heap.size v8 W)=>FQ.out q hm W (b8.trans (h.mono b8.size))
     have FX:=hid fun (W:World) (h:Below v8.heap.size v8 W)=>(r8.below h).more h.size
     clear HX b8 o8 r8
     have HS:=hid (JD.qbn _ rfl _ _ A8 A2 n8 c8 n2 c2 la la v8 (FX.out v8 zjb) (FW.out v8 zjb) (by have h1:=(FX.out v8 zjb).1;have h2:=(FW.out v8 zjb).1;omega))
     rw[show (la==la)=true from by simp] at HS
     have hii:((i:Int) !=(i:Int))=false:=by simp
     have hzz:(z !=z)=false:=by simp
     go_wp2_with fail
     refine HS.out.mono ?_
     rintro e v9 ⟨rfl,m9,hv9⟩
     have b9:=JD.qa1 (K:=v8.heap.size) v8 m9
     rw[←hv9] at b9
     clear hv9 HS
     replace FB:=zjF FB b9
     replace FG:=zjF FG b9
     replace FA:=zjF FA b9
     replace FC:=zjF FC b9
     replace FI:=zjF FI b9
     replace FW:=zjF FW b9
     replace FX:=zjF FX b9
     replace FQ:=hid fun (q:Cmd) (hm:q∈qs) (W:World) (h:Below v9.heap.size v9 W)=>FQ.out q hm W (b9.trans (h.mono b9.size))
     clear b9
     obtain⟨t,ht⟩:∃t,x%(j+1)=t:=⟨_,rfl⟩
     have htj:t≤j:=by have:=Nat.mod_lt x (show 0<j+1 by omega);omega
     have htm:(x:Int)%((j:Int)+1)=(t:Int):=by rw[←ht];simp
     have hU:=qpt A1 j c1 t htj hA1c v9
     have hPa:=parts HD.out t (by have:=Hk.out;omega)
     have HPa:=hid hPa
     clear hPa ht
     obtain⟨ya,yk,yz,hY⟩:∃ya yk yz,qcy l (qs.take t)=(ya,yk,yz):=⟨_,_,_,rfl⟩
     have HY:=hid hY
     rw[hY] at HPa
     clear hY
     have hIt:=(FI.out v9 zjb)
     have hAt:qw8 v9 v9.heap.size A1 t (qs.take t):=⟨qxh hIt.rd htj,Nat.le_refl _,fun q hq=>hIt.ok q (List.mem_of_mem_take hq)⟩
     have HX:=hid (HP.out.runAll A n c l 83 5000 A1 t c1 (qs.take t) v9 (FG.out v9 zjb) (FA.out v9 zjb) hnc hcm Hs5.out (by omega) (by omega) hAt (by omega) hA1m)
     clear hIt hAt
     go_wp2_with fail
     refine HX.out.mono ?_
     rintro e v10 ⟨A9,n9,c9,rfl,o9,b10⟩
     rw[HY.out] at o9
     replace o9:JB.Own v10 v9.heap.size (.slice A9 n9 c9) n9 ya:=o9
     rw[HY.out]
     simp only
     obtain⟨_,_,e9,r9,ha9,hb9⟩:=o9.reads
     injection e9 with e91 _ e93
     subst e91 e93
     replace FB:=zjF FB b10
     replace FG:=zjF FG b10
     replace FA:=zjF FA b10
     replace FC:=zjF FC b10
     replace FI:=zjF FI b10
     replace FW:=zjF FW b10
     replace FX:=zjF FX b10
     replace FQ:=hid fun (q:Cmd) (hm:q∈qs) (W:World) (h:Below v10.heap.size v10 W)=>FQ.out q hm W (b10.trans (h.mono b10.size))
     have FY:=hid fun (W:World) (h:Below v10.heap.size v10 W)=>(r9.below h).more h.size
     clear HX b10 o9 r9 hU
     by_cases hy:yz=0
     ·have hyb:(yz !=0)=false:=by rw[hy];rfl
      have hp2:=HPa.out.2 hy
      have HP2:=hid hp2
      have hya:Sml ya (83+t) (5000+500 * t):=by
       have h2:=Sml.runs (qs.take t) Hs5.out (by rw[List.length_take];omega) (by rw[List.length_take];omega) (fun q hq=>(FQ.out q (List.mem_of_mem_take hq) v10 zjb).s)
       rw[HY.out,List.length_take,show min t qs.length=t by have:=Hk.out;omega] at h2
       exact h2
      have Hya:=hid hya
      clear hy hp2 hya HPa
      have hIt:=(FI.out v10 zjb)
      have hAt:qw8 v10 v10.heap.size (frC A1 c1 t) (j-t) (qs.drop t):=⟨qt0 hIt.rd htj hA1c,Nat.le_refl _,fun q hq=>hIt.ok q (List.mem_of_mem_drop hq)⟩
      have hU:=qpu A1 j c1 t htj hA1c v10
      have HX:=hid (HP.out.runAll A9 n9 c9 ya (83+t) (5000+500 * t) (frC A1 c1 t) (j-t) (c1-t) (qs.drop t) v10 (FG.out v10 zjb) (FY.out v10 zjb) ha9 hb9 Hya.out (by omega) (by omega) hAt (by omega) (by omega))
      clear hIt hAt
      go_wp2_with fail
      refine HX.out.mono ?_
      rintro e v11 ⟨Az,nz,cz,rfl,oz,b11⟩
      rw[HP2.out.1] at oz
      rw[HP2.out.2]
      obtain⟨_,_,ez,rz9,_⟩:=oz.reads
      injection ez with ez1 _ ez3
      subst ez1 ez3
      replace FB:=zjF FB b11
      replace FG:=zjF FG b11
      replace FA:=zjF FA b11
      replace FC:=zjF FC b11
      replace FI:=zjF FI b11
      replace FW:=zjF FW b11
      replace FX:=zjF FX b11
      replace FY:=zjF FY b11
      have FZ:=hid fun (W:World) (h:Below v11.heap.size v11 W)=>(rz9.below h).more h.size
      clear HX b11 oz rz9 hU
      have HS:=hid (JD.qbn _ rfl _ _ Az A8 nz cz n8 c8 la la v11 (FZ.out v11 zjb) (FX.out v11 zjb) (by have h1:=(FZ.out v11 zjb).1;have h2:=(FW.out v11 zjb).1;omega))
      rw[show (la==la)=true from by simp] at HS
      have hzq:(z==z)=true:=by simp
      go_wp2_with fail
      refine HS.out.mono ?_
      rintro e v12 ⟨rfl,m12,hv12⟩
      have b12:=JD.qa1 (K:=v11.heap.size) v11 m12
      rw[←hv12] at b12
      clear hv12 HS
      go_wp2_with fail
      go_ret
      exact⟨rfl,FB.out v12 b12⟩
     have hyb:(yz !=0)=true:=by simpa using hy
     have hit:(i:Int)<(t:Int):=by have:=HPa.out.1 hy;omega
     clear hy HPa
     go_wp2_with fail
     go_ret
     exact⟨rfl,FB.out v10 zjb⟩
end JL
namespace Frame
open Go.ChangeShapes Go.WideShapes Go.ChangeAt Go.RowKit Go.Proofs Go.Deep
open JL (Cmd CmdB Qeu qb0 qae qi3 qce)
set_option maxRecDepth 100000
theorem qin {H:Type}{enc:TypeId×Value→H}{W:World}{fs:Array Field}{cs:List Value}{xs:List (DataW H×List MemPlace)}{n:Nat}(hl:xs.length=fs.size)
 (hg:∀(i:Nat)(f:Field),fs[i]?=some f→DataW.trod enc Tryz.prog W 0 (fun _=>true) true n f.type ((cs.drop f.offset).take (Tryz.prog.cellsOf f.type))=xs[i]?)(i:Nat)(f:Field)(hf:fs[i]?=some f)(k:Nat)(hk:Tryz.prog.cellsOf f.type=k)(d:List Value)(hd:(cs.drop f.offset).take k=d):
 ∃y,DataW.trod enc Tryz.prog W 0 (fun _=>true) true n f.type d=some y:=by
 have hlt:i<xs.length:=by rw[hl];exact (Array.getElem?_eq_some_iff.1 hf).1
 have h3:=hg i f hf
 rw[hk,hd,List.getElem?_eq_getElem hlt] at h3
 exact⟨_,h3⟩
theorem memb_at {H:Type}{enc:TypeId×Value→H}{W:World}{fuel:Nat}{c0 c1 c2 c3 c4 c5:Value}{x:DataW H×List MemPlace}(hf:DataW.trod enc Tryz.prog W 0 (fun _=>true) true fuel 24 [c0,c1,c2,c3,c4,c5]=some x):
 ∃y:JR.Mem,(c0=.string y.name∧c1=.int .i64 y.time∧c2=.int .i64 y.uid∧c3=.int .i64 y.gid∧c4=.int .i64 y.mode∧c5=.slice y.ptr y.len y.cap)∧JB.Rd W W.heap.size y.ptr y.len y.data∧MB y:=by
 obtain⟨xs,n,_,_,_,hyl,hg⟩:=DataW.trod_struct Tryz.underlying24 hf
 have hone:oneCellFields Tryz.prog _=true:=(by kernel_rfl:oneCellFields Tryz.prog (match Tryz.prog.underlying 24 with|some (.struct fs)=>fs|_=>#[])=true)
 obtain⟨y0,g0⟩:=qef hone hyl hg 0 _ rfl c0 rfl
 obtain⟨y1,g1⟩:=qef hone hyl hg 1 _ rfl c1 rfl
 obtain⟨y2,g2⟩:=qef hone hyl hg 2 _ rfl c2 rfl
 obtain⟨y3,g3⟩:=qef hone hyl hg 3 _ rfl c3 rfl
 obtain⟨y4,g4⟩:=qef hone hyl hg 4 _ rfl c4 rfl
 obtain⟨y5,g5⟩:=qef hone hyl hg 5 _ rfl c5 rfl
 obtain⟨s,e0,_,hs⟩:=DataW.trod_string Tryz.underlying9 g0
 obtain⟨t,e1,_,b1⟩:=DataW.trod_int Tryz.underlying3 g1
 obtain⟨u,e2,_,b2⟩:=DataW.trod_int Tryz.underlying3 g2
 obtain⟨g,e3,_,b3⟩:=DataW.trod_int Tryz.underlying3 g3
 obtain⟨z,e4,_,b4⟩:=DataW.trod_int Tryz.underlying3 g4
 obtain⟨P,d,e,l,rfl,h5,hde,hem⟩:=qsi g5
 injection e0 with e0;injection e1 with e1;injection e2 with e2;injection e3 with e3;injection e4 with e4
 subst e0;subst e1;subst e2;subst e3;subst e4
 have k1:=bounds_i64 b1
 have k2:=bounds_i64 b2
 have k3:=bounds_i64 b3
 have k4:=bounds_i64 b4
 exact⟨⟨s,t,u,g,z,P,d,e,l⟩,⟨rfl,rfl,rfl,rfl,rfl,rfl⟩,h5,hs,⟨by show (-9223372036854775808:Int)≤t;omega,by show t<9223372036854775808;omega⟩,⟨by show (-9223372036854775808:Int)≤u;omega,by show u<9223372036854775808;omega⟩,⟨by show (-9223372036854775808:Int)≤g;omega,by show g<9223372036854775808;omega⟩,⟨by show (-9223372036854775808:Int)≤z;omega,by show z<9223372036854775808;omega⟩,hde,hem⟩
theorem place_at {H:Type}{enc:TypeId×Value→H}{W:World}{fuel:Nat}{c0 c1:Value}{x:DataW H×List MemPlace}(hf:DataW.trod enc Tryz.prog W 0 (fun _=>true) true fuel 26 [c0,c1]=some x):
 ∃(z:Int)(s:ByteArray),c0=.int .i64 z∧c1=.string s∧s.size≤maxLen∧ -9223372036854775808≤z∧z<9223372036854775808:=by
 obtain⟨xs,n,_,_,_,hyl,hg⟩:=DataW.trod_struct Tryz.underlying26 hf
 have hone:oneCellFields Tryz.prog _=true:=(by kernel_rfl:oneCellFields Tryz.prog (match Tryz.prog.underlying 26 with|some (.struct fs)=>fs|_=>#[])=true)
 obtain⟨y0,g0⟩:=qef hone hyl hg 0 _ rfl c0 rfl
 obtain⟨y1,g1⟩:=qef hone hyl hg 1 _ rfl c1 rfl
 obtain⟨z,e0,_,b0⟩:=DataW.trod_int Tryz.underlying3 g0
 obtain⟨s,e1,_,hs⟩:=DataW.trod_string Tryz.underlying9 g1
 injection e0 with e0;injection e1 with e1
 subst e0;subst e1
 have k0:=bounds_i64 b0
 exact⟨z,s,rfl,rfl,hs,by omega,by omega⟩
theorem cmd_at {H:Type}{enc:TypeId×Value→H}{W:World}{fuel:Nat}{cs:List Value}(hsz:cs.length=10){x:DataW H×List MemPlace}(hf:DataW.trod enc Tryz.prog W 0 (fun _=>true) true fuel 28 cs=some x):
 ∃q:Cmd,cs=q.cells.toList∧CmdB W q:=by
 match cs,hsz with
 |[c0,c1,c2,c3,c4,c5,c6,c7,c8,c9],_=>
  obtain⟨xs,n,_,_,_,hyl,hg⟩:=DataW.trod_struct Tryz.underlying28 hf
  obtain⟨y0,g0⟩:=qin hyl hg 0 _ rfl 1 (by kernel_rfl) [c0] rfl
  obtain⟨y1,g1⟩:=qin hyl hg 1 _ rfl 6 (by kernel_rfl) [c1,c2,c3,c4,c5,c6] rfl
  obtain⟨y2,g2⟩:=qin hyl hg 2 _ rfl 1 (by kernel_rfl) [c7] rfl
  obtain⟨y3,g3⟩:=qin hyl hg 3 _ rfl 2 (by kernel_rfl) [c8,c9] rfl
  obtain⟨o,e0,_,b0⟩:=DataW.trod_int Tryz.underlying5 g0
  obtain⟨m,⟨rfl,rfl,rfl,rfl,rfl,rfl⟩,hr,hm⟩:=memb_at g1
  obtain⟨s,e2,_,hs⟩:=DataW.trod_string Tryz.underlying9 g2
  obtain⟨z,a,rfl,rfl,ha,hz1,hz2⟩:=place_at g3
  injection e0 with e0;injection e2 with e2
  subst e0;subst e2
  obtain⟨h0,h1⟩:=bounds_u8 b0
  obtain⟨p,rfl⟩:=Int.eq_ofNat_of_zero_le h0
  refine⟨⟨UInt8.ofNat p,m,s,z,a⟩,?_,hr,hm,hs,ha,hz1,hz2⟩
  have hp:(UInt8.ofNat p).toNat=p:=by rw[UInt8.toNat_ofNat'];omega
  simp only[Cmd.cells,hp]
theorem open_cmd {H:Type}{enc:TypeId×Value→H}{W:World}{qei:Nat}{v:Value}{d:DataW H}{p:List MemPlace}(hok:Value.okWide Tryz.prog W .any qei 28 v)
 (ht:DataW.Trod enc Tryz.prog W 0 (fun _=>true) true 28 v d p):
 ∃q:Cmd,v=q.val∧CmdB W q:=by
 obtain⟨cs,rfl,hsz⟩:=okWide_struct Tryz.underlying28 hok
 obtain⟨l⟩:=cs
 obtain⟨fuel,hf⟩:=ht
 obtain⟨q,hq,hb⟩:=cmd_at (hsz.trans (by kernel_rfl)) hf
 refine⟨q,?_,hb⟩
 unfold Cmd.val
 have e:l=q.cells.toList:=hq
 rw[e]
theorem qvi {H:Type}{enc:TypeId×Value→H}{W:World}{fuel:Nat}{v:Value}{x:DataW H×List MemPlace}(hf:DataW.trod enc Tryz.prog W 0 (fun _=>true) true fuel 65 [v]=some x):
 ∃A n c qs,v=.slice A n c∧Qeu W A n qs∧n≤c∧c≤maxLen:=by
 rcases Go.Deep.open_slice Tryz.underlying65 hf with ⟨hcs,_⟩|⟨a,len,cap,m,n',D,Pl,hcs,_,hl,hm,hmm,_,hi⟩
 ·injection hcs with hcs
  exact⟨none,0,0,[],hcs,⟨JC.Rd.nil _ _ _ _,by simp⟩,Nat.le_refl _,by unfold maxLen;omega⟩
 ·injection hcs with hcs
  have hmc:m=cap:=by simpa using hmm
  have hsz:Tryz.prog.cellsOf 28=10:=by kernel_rfl
  by_cases h0:len=0
  ·subst h0
   exact⟨some a,0,cap,[],hcs,⟨JC.Rd.nil _ _ _ _,by simp⟩,hl,hm⟩
  ·obtain⟨b,o,spot⟩:=a
   have hspot:spot=none:=by
    obtain⟨cs',hc,_⟩:=hi 0 (by omega)
    rw[hsz] at hc
    obtain⟨_,hlen,hat⟩:=World.cells?_some hc
    have h1:=hat 0 (by omega)
    rw[List.getElem?_eq_getElem (by omega)] at h1
    have:=World.cell?_spot h1
    simpa [Addr.add] using this
   subst hspot
   have ha:∀i j,((⟨b,o,none⟩:Addr).add i).add j=⟨b,o+i+j,none⟩:=fun i j=>by
    unfold Addr.add
    split<;>split<;>simp_all
   have key:∀i,i<len→∃q:Cmd,(b<W.heap.size∧∀j (hj:j<10),W.cell? ⟨b,o+(i * 10+j),none⟩=some (q.cells.toList[j]'(by rw[qce];exact hj)))∧CmdB W q:=fun i hil=>by
    obtain⟨cs',hc,ht⟩:=hi i (by omega)
    rw[hsz] at hc
    obtain⟨_,hlen,hat⟩:=World.cells?_some hc
    obtain⟨q,hq,hb⟩:=cmd_at hlen ht
    subst hq
    have hcell:∀j (hj:j<10),W.cell? ⟨b,o+(i * 10+j),none⟩=some (q.cells.toList[j]'(by rw[qce];exact hj)):=fun j hj=>by
     have h1:=hat j (by omega)
     rw[ha,List.getElem?_eq_getElem (by rw[qce];exact hj),Nat.add_assoc] at h1
     exact h1
    exact⟨q,⟨World.block_lt_of_cell? _ _ (hcell 0 (by omega)),hcell⟩,hb⟩
   obtain⟨qs,hql,hx⟩:=listed len key
   refine⟨_,len,cap,qs,hcs,⟨⟨by rw[qae,hql],fun k hk=>?_⟩,fun q hq'=>?_⟩,hl,hm⟩
   ·rw[qae] at hk
    have hk':k / 10<qs.length:=by omega
    have hj:k%10<10:=by omega
    have e:k / 10 * 10+k%10=k:=by omega
    obtain⟨⟨hb,hc⟩,_⟩:=hx (k / 10) hk'
    have h1:=hc (k%10) hj
    rw[e] at h1
    have h2:=qi3 qs (k / 10) (k%10) hk' hj
    rw[e,List.getElem?_eq_getElem (by rw[qae];exact hk)] at h2
    refine⟨b,o,rfl,hb,?_⟩
    rw[h1,h2]
    rw[←Array.getElem?_toList,List.getElem?_eq_getElem (by rw[qce];exact hj)]
   ·obtain⟨k,hk,rfl⟩:=List.mem_iff_getElem.1 hq'
    exact (hx k hk).2
theorem Qew {H:Type}{enc:TypeId×Value→H}{W:World}{qei:Nat}{v:Value}{d:DataW H}{p:List MemPlace}(hok:Value.okWide Tryz.prog W .any qei 65 v)
 (ht:DataW.Trod enc Tryz.prog W 0 (fun _=>true) true 65 v d p):∃A n c qs,v=.slice A n c∧Qeu W A n qs∧n≤c∧c≤maxLen:=by
 obtain⟨A,n,c,rfl⟩:=okWide_slice Tryz.underlying65 hok
 obtain⟨fuel,hf⟩:=ht
 exact qvi hf
end Frame
end Go.Proofs.YtkegpjjehejaoaaGreatDoor
