/-
  edit: the program's
-/
import Derived.Test.YtlmolmohhpdhdaaGreatDoorZEyf
set_option maxRecDepth 100000
set_option maxHeartbeats 16000000
set_option linter.unusedSimpArgs false
set_option linter.unusedVariables false
namespace Go.Proofs.YtlmolmohhpdhdaaGreatDoor
open Go.RowKit Go.Proofs
namespace JE
open JB
open JR (Mem RdM qdc qa7 qek)
open JW (core MOk)
theorem qjx (K:Nat)(A:Option Addr)(n c:Nat)(xs:List Mem)(m:Mem)(z:Int)(a:ByteArray)(w:World)(h:qmv w K A n c xs)(he:qya w K m):
 Calls Tryz.prog 115 #[.slice A n c,m.val,qjv z a] w (qb7 (qf5 xs m z a).1 (qf5 xs m z a).2 w):=by
 have hn:=h.n100
 have hK:=h.hK
 have HE1:=hid fun (q:(plN xs z a).2≠0)=>repE_bad (m:=m) q
 have HE2:=hid fun (i:Nat) (q:(plN xs z a).2=0) (f:qas xs m.name=some i)=>Qa9 q f
 have HE3:=hid fun (q:(plN xs z a).2=0) (f:qas xs m.name=none)=>Qaa q f
 have HMO:=hid he.ok
 have HEA:=hid he
 have hml:=he.ok.len
 have hA:=heap_alloc_new w (.cells #[.string m.name,.int .i64 m.time,.int .i64 m.uid,.int .i64 m.gid,.int .i64 m.mode,.slice m.ptr m.len m.cap] 46)
 have bA:=zjB w (.cells #[.string m.name,.int .i64 m.time,.int .i64 m.uid,.int .i64 m.gid,.int .i64 m.mode,.slice m.ptr m.len m.cap] 46)
 have sA:=World.size_alloc w (.cells #[.string m.name,.int .i64 m.time,.int .i64 m.uid,.int .i64 m.gid,.int .i64 m.mode,.slice m.ptr m.len m.cap] 46)
 have hP:=heap_alloc_new (w.alloc (.cells #[.string m.name,.int .i64 m.time,.int .i64 m.uid,.int .i64 m.gid,.int .i64 m.mode,.slice m.ptr m.len m.cap] 46)) (.cells #[.int .i64 z,.string a] 54)
 have bP:=(Below.refl (w.alloc (.cells #[.string m.name,.int .i64 m.time,.int .i64 m.uid,.int .i64 m.gid,.int .i64 m.mode,.slice m.ptr m.len m.cap] 46)).heap.size (w.alloc (.cells #[.string m.name,.int .i64 m.time,.int .i64 m.uid,.int .i64 m.gid,.int .i64 m.mode,.slice m.ptr m.len m.cap] 46))).alloc zjn (.cells #[.int .i64 z,.string a] 54)
 have sP:=World.size_alloc (w.alloc (.cells #[.string m.name,.int .i64 m.time,.int .i64 m.uid,.int .i64 m.gid,.int .i64 m.mode,.slice m.ptr m.len m.cap] 46)) (.cells #[.int .i64 z,.string a] 54)
 have HH:=hid h
 obtain⟨m0,m1,m2,m3,m4,m5,m6,m7,m8⟩:=m
 simp only[Mem.val,qjv] at hA bA sA hP bP sP hml HE2 HE3 ⊢
 clear h he
 go_enter Tryz.func115,Tryz.ntmps115
 go_upto_region 1 with fail
 generalize w.alloc (.cells #[.string m0,.int .i64 m1,.int .i64 m2,.int .i64 m3,.int .i64 m4,.slice m5 m6 m7] 46)=wA at *
 generalize wA.alloc (.cells #[.int .i64 z,.string a] 54)=w2 at *
 rw[sA] at hP sP bP
 obtain⟨g,hg⟩:∃g,w.heap.size=g:=⟨_,rfl⟩
 rw[hg] at hA hP sP bP bA hK ⊢
 have HG:=hid hg
 have HB2:=hid (show Below w.heap.size w w2 by rw[hg];exact bA.trans (bP.mono (by omega)))
 have HRm:=hid ((bP.block g (by omega)).trans hA)
 have hg2:g+1<w2.heap.size:=by omega
 have H2:=hid (HH.out.on HB2.out)
 have HE':=hid (HEA.out.on HB2.out)
 have d0:=zjc (g+1) 0 hP
 have d1:=zjc (g+1) 1 hP
 have HP:=hid (qp5 K A n c xs z a w2 H2.out.rd H2.out.hK (by omega))
 unfold qjv at HP
 clear hA bA sA hP bP sP hg
 go_wp2_with fail
 refine HP.out.mono ?_
 rintro e w3 ⟨rfl,hb3⟩
 have HB3:=hid (HB2.out.trans (hb3.mono HB2.out.size))
 have HRm3:=hid ((hb3.block g (by omega)).trans HRm.out)
 have hg3:g<w3.heap.size:=by have:=hb3.size;omega
 have H3:=hid (H2.out.on hb3)
 have HE3':=hid (HE'.out.on hb3)
 have hple:(plN xs z a).1≤n:=by have:=plN_le (xs:=xs) (mode:=z) (a:=a);have:=HH.out.rd.1;omega
 have k3:=HB3.out.size
 clear hb3 d0 d1 HRm HP H2 HE'
 generalize (plN xs z a).1=pk at *
 generalize (plN xs z a).2=pz at *
 by_cases hz:¬pz=0
 ·have hzb:(pz !=0)=true:=by simpa using hz
  have HE:=hid (HE1.out hz)
  have HC3:=hid (qc9 K A n c xs w3 H3.out.rd H3.out.hK H3.out.ok (by omega))
  clear hz HE1 HE2 HE3
  go_wp2_with fail
  refine HC3.out.mono ?_
  rintro e w4 ⟨A2,n2,c2,ys,rfl,o2,dd2,hc2,hs2,hb4⟩
  go_wp2_with fail
  exact bodyPost_ret (v:=.tuple #[.slice A2 n2 c2,.int .i64 pz]) (by simp[results,Tryz.results115,asAddr]) rfl ⟨A2,n2,c2,ys,by rw[HE.out],o2.more k3,fun y hy=>(dd2 y hy).more k3,by rw[HE.out];exact hc2,hs2,HB3.out.trans (hb4.mono k3)⟩
 have hz0:=Decidable.not_not.1 hz
 have hzb:(pz !=0)=false:=by rw[hz0];rfl
 have HE2':=hid fun (i:Nat) (q:qas xs m0=some i)=>HE2.out i hz0 q
 have HE3q:=hid fun (q:qas xs m0=none)=>HE3.out hz0 q
 clear hz hz0 HE1 HE2 HE3
 have d0:=zjc g 0 HRm3.out
 have HF:=hid (qe9 K A n c xs m0 w3 H3.out.rd H3.out.hK (by omega))
 go_wp2_with fail
 refine HF.out.mono ?_
 rintro e w4 ⟨rfl,hb4⟩
 have HB4:=hid (HB3.out.trans (hb4.mono HB3.out.size))
 have HRm4:=hid ((hb4.block g hg3).trans HRm3.out)
 have hg4:g<w4.heap.size:=by have:=hb4.size;omega
 have H4:=hid (H3.out.on hb4)
 have HE4:=hid (HE3'.out.on hb4)
 have k4:=HB4.out.size
 clear hb4 d0 HRm3 HF H3 HE3'
 have d0:=zjc g 0 HRm4.out
 have d1:=zjc g 1 HRm4.out
 have d2:=zjc g 2 HRm4.out
 have d3:=zjc g 3 HRm4.out
 have d4:=zjc g 4 HRm4.out
 have d5:=zjc g 5 HRm4.out
 cases hf:qas xs m0 with
 |none=>
  have hfi:qc5 xs m0= -1:=by unfold qc5;rw[hf]
  have HE:=hid (HE3q.out hf)
  rw[hfi]
  have HI:=hid (qft K A n c xs pk ⟨m0,m1,m2,m3,m4,m5,m6,m7,m8⟩ w4 H4.out.rd H4.out.hK hn H4.out.nc hple HMO.out HE4.out.rd)
  simp only[Mem.val] at HI
  clear hf hfi HE2' HE3q
  go_wp2_with fail
  refine HI.out.mono ?_
  rintro e w5 hJ
  obtain⟨A2,c2,rfl,r2,l2,b5⟩:=hJ.rd ((Dat.of H4.out.rd H4.out.hK).ins pk ⟨m0,m1,m2,m3,m4,m5,m6,m7,m8⟩ (HE4.out.rd.more HE4.out.hK) (by show m6≤_;omega))
  have HC:=hid (qc9 _ A2 _ c2 _ w5 r2 zjn (qvu H4.out.ok pk _ HMO.out) (by rw[qbr];have:=H4.out.rd.1;omega))
  have B5:=HB4.out.trans (b5.mono k4)
  have k5:=B5.size
  clear HI hJ r2 b5 d0 d1 d2 d3 d4 d5
  go_wp2_with fail
  refine HC.out.mono ?_
  rintro e w6 ⟨A3,n3,c3,ys,rfl,o3,dd3,hc3,hs3,hb6⟩
  go_wp2_with fail
  exact bodyPost_ret (v:=.tuple #[.slice A3 n3 c3,.int .i64 0]) (by simp[results,Tryz.results115,asAddr]) rfl ⟨A3,n3,c3,ys,by rw[HE.out],o3.more k5,fun y hy=>(dd3 y hy).more k5,by rw[HE.out];exact hc3,hs3,B5.trans (hb6.mono k5)⟩
 |some i=>
  have hfi:qc5 xs m0=(i:Int):=by unfold qc5;rw[hf]
  have HE:=hid (HE2'.out i hf)
  rw[hfi]
  have hil:i<n:=by have:=(qbb hf).1;have:=H4.out.rd.1;omega
  have hi0:(0:Int)≤(i:Int):=by omega
  have hbd:Below w4.heap.size w4 w4.drew:=(Below.refl _ _).drew
  clear hf hfi HE2' HE3q
  go_wp2_with fail
  clear d0 d1 d2 d3 d4 d5
  refine Ord.qaf.begin (fun W=>W.heap[g]?=some (.cells #[.string m0,.int .i64 m1,.int .i64 m2,.int .i64 m3,.int .i64 m4,.slice m5 m6 m7] 46 (0,0))) 60 (by kernel_rfl) ?_
  generalize w4.drew=wd at *
  have kd:=hbd.size
  have Bd:=HB4.out.trans (hbd.mono k4)
  have Hd:=hid (H4.out.on hbd)
  have HEd:=hid (HE4.out.on hbd)
  have hS:(fun W=>W.heap[g]?=some (.cells #[.string m0,.int .i64 m1,.int .i64 m2,.int .i64 m3,.int .i64 m4,.slice m5 m6 m7] 46 (0,0))) wd:=(hbd.block g hg4).trans HRm4.out
  have hgd:g<wd.heap.size:=by omega
  have HR:=hid (qi6 K A n c xs i wd Hd.out.rd Hd.out.hK hn Hd.out.nc hil)
  clear hbd H4 HE4 HB4 HRm4
  refine zjT 0 28 rfl rfl (by kernel_rfl) (x:=?_) (fun _ _ _ h=>h) ?_ hS ?_
  rotate_left 1
  ·intro v hv;go_simp;first|done|rfl
  try simp only[zjA]
  refine zjT 1 29 rfl rfl (by kernel_rfl) (x:=?_) (fun _ _ _ h=>h) ?_ hS ?_
  rotate_left 1
  ·intro v hv;go_simp;first|done|rfl
  try simp only[zjA]
  refine zjT 3 31 rfl rfl (by kernel_rfl) (x:=.agg #[.string m0,.int .i64 m1,.int .i64 m2,.int .i64 m3,.int .i64 m4,.slice m5 m6 m7]) (fun _ _ _ h=>h) ?_ hS ?_
  ·intro v hv;have z0:=cell_of_row _ g 0 _ _ _ hv;have z1:=cell_of_row _ g 1 _ _ _ hv;have z2:=cell_of_row _ g 2 _ _ _ hv;have z3:=cell_of_row _ g 3 _ _ _ hv;have z4:=cell_of_row _ g 4 _ _ _ hv;have z5:=cell_of_row _ g 5 _ _ _ hv;clear HR Hd HEd HH HE HMO HEA;go_simp;first|done|rfl
  try simp only[zjA]
  refine zjT 4 32 rfl rfl (by kernel_rfl) (x:=?_) (fun _ _ _ h=>h) ?_ hS ?_
  rotate_left 1
  ·intro v hv;go_simp;first|done|rfl
  try simp only[zjA]
  refine Ord.qaf.step 2 (by kernel_rfl) rfl (fun C hC=>?_)
  go_simp
  go_at_call 164
  refine (HR.out).mono ?_
  rintro e w5 hJ
  obtain⟨A5,c5,rfl,r5,l5,b5⟩:=hJ.rd ((Dat.of Hd.out.rd Hd.out.hK).del i)
  have hS:(fun W=>W.heap[g]?=some (.cells #[.string m0,.int .i64 m1,.int .i64 m2,.int .i64 m3,.int .i64 m4,.slice m5 m6 m7] 46 (0,0))) w5:=(b5.block g hgd).trans hS
  have hg5:g<w5.heap.size:=by have:=b5.size;omega
  have B5:=Bd.trans (b5.mono Bd.size)
  have HE5:=hid (HEd.out.on b5)
  have HR5:=hid r5
  have hl5:(qcw xs i).length≤300:=by have:=qhm (xs:=xs) (at_:=i);have:=Hd.out.rd.1;omega
  have hi5:i≤(qcw xs i).length:=by unfold qcw;rw[List.length_append,List.length_take,List.length_drop];have:=Hd.out.rd.1;omega
  have HI:=hid (qft _ A5 _ c5 (qcw xs i) i ⟨m0,m1,m2,m3,m4,m5,m6,m7,m8⟩ w5 r5 zjn hl5 l5 hi5 HMO.out (HE5.out.rd.more HE5.out.hK))
  simp only[Mem.val] at HI
  have HOk:=hid (qvu (Qas Hd.out.ok i) i ⟨m0,m1,m2,m3,m4,m5,m6,m7,m8⟩ HMO.out)
  have HL:Hid ((qhk (qcw xs i) i ⟨m0,m1,m2,m3,m4,m5,m6,m7,m8⟩).length≤301):=hid (by rw[qbr];omega)
  clear hJ HR r5 b5 Bd Hd HEd
  go_wp2_with fail
  refine hC.out _ _ (fun _=>hS) ?_
  clear hC C
  try simp only[zjA]
  refine Ord.qaf.step 5 (by kernel_rfl) rfl (fun C hC=>?_)
  go_simp
  go_at_call 163
  refine (HI.out).mono ?_
  rintro e w6 hJ
  obtain⟨A6,c6,rfl,r6,l6,b6⟩:=hJ.rd ((Dat.of HR5.out zjn).ins i ⟨m0,m1,m2,m3,m4,m5,m6,m7,m8⟩ (HE5.out.rd.more HE5.out.hK) (by show m6≤_;omega))
  have hS:(fun W=>W.heap[g]?=some (.cells #[.string m0,.int .i64 m1,.int .i64 m2,.int .i64 m3,.int .i64 m4,.slice m5 m6 m7] 46 (0,0))) w6:=(b6.block g hg5).trans hS
  have hg6:g<w6.heap.size:=by have:=b6.size;omega
  have B6:=B5.trans (b6.mono B5.size)
  have HC:=hid (qc9 _ A6 _ c6 _ w6 r6 zjn HOk.out (by have:=HL.out;omega))
  clear hJ HI r6 b6 B5 HE5 HR5 HOk HL
  go_wp2_with fail
  refine hC.out _ _ (fun _=>hS) ?_
  clear hC C
  try simp only[zjA]
  refine Ord.qaf.step 6 (by kernel_rfl) rfl (fun C hC=>?_)
  go_simp
  go_at_call 161
  refine (HC.out).mono ?_
  rintro e w7 ⟨A3,n3,c3,ys,rfl,o3,dd3,hc3,hs3,b7⟩
  have hS:(fun W=>W.heap[g]?=some (.cells #[.string m0,.int .i64 m1,.int .i64 m2,.int .i64 m3,.int .i64 m4,.slice m5 m6 m7] 46 (0,0))) w7:=(b7.block g hg6).trans hS
  have B7:=B6.trans (b7.mono B6.size)
  have k6:=B6.size
  clear HC
  go_wp2_with fail
  refine hC.out _ _ (fun _=>hS) ?_
  clear hC C
  try simp only[zjA]
  refine Ord.qaf.step 7 (by kernel_rfl) rfl (fun C hC=>?_)
  go_simp
  refine hC.out _ _ (fun _=>hS) ?_
  clear hC C
  try simp only[zjA]
  refine Ord.qaf.step 8 (by kernel_rfl) rfl (fun C hC=>?_)
  go_simp
  refine hC.out _ _ (fun _=>hS) ?_
  clear hC C
  try simp only[zjA]
  refine Ord.qaf.done (by kernel_rfl) ?_ _
  go_wp2_with fail
  exact bodyPost_ret (v:=.tuple #[.slice A3 n3 c3,.int .i64 0]) (by simp[results,Tryz.results115,asAddr]) rfl ⟨A3,n3,c3,ys,by rw[HE.out],o3.more k6,fun y hy=>(dd3 y hy).more k6,by rw[HE.out];exact hc3,hs3,B7⟩
end JE
namespace JE
open JB
open JR (Mem RdM qdc qa7 qek)
open JW (core MOk)
theorem Qat (z:Int)(a:ByteArray)(h0:¬(z<0∨2<z)):∃(b:Bool)(F:FuncId),∀W:World,Calls Tryz.prog 165 #[.agg #[.int .i64 z,.string a]] W fun e w'=>e=.returned (.tuple #[.agg #[.bool b,.func (.func F) #[] #[]],.bool true])∧Below W.heap.size W w':=by
 rcases (show z=0∨z=1∨z=2 by omega) with hz|hz|hz
 ·exact⟨_,_,fun W=>qbv z a W md0 true (.inr (.inr (.inl ⟨hz,rfl,rfl⟩)))⟩
 ·exact⟨_,_,fun W=>qbv z a W md1 true (.inr (.inr (.inr (.inl ⟨hz,rfl,rfl⟩))))⟩
 ·exact⟨_,_,fun W=>qbv z a W md2 true (.inr (.inr (.inr (.inr ⟨hz,rfl,rfl⟩))))⟩
theorem Qau (z:Int)(a:ByteArray)(h0:z<0∨2<z)(W:World):Calls Tryz.prog 165 #[.agg #[.int .i64 z,.string a]] W fun e w'=>e=.returned (.tuple #[.agg #[.bool false,.nilFunc],.bool false])∧Below W.heap.size W w':=by
 rcases h0 with hz|hz
 ·exact qbv z a W mdz false (.inl ⟨hz,rfl,rfl⟩)
 ·exact qbv z a W mdz false (.inr (.inl ⟨hz,rfl,rfl⟩))
theorem pmove_no (K:Nat)(A:Option Addr)(n c:Nat)(xs:List Mem)(s:ByteArray)(z:Int)(a:ByteArray)(w:World)(h:qmv w K A n c xs)(h0:z<0∨2<z):
 Calls Tryz.prog 118 #[.slice A n c,.string s,qjv z a] w (qb7 (qep xs s z a).1 (qep xs s z a).2 w):=by
 have hn:=h.n100
 have hK:=h.hK
 have HMo:=hid (Qau z a h0)
 have HE:=hid (qgv (xs:=xs) (s:=s) (a:=a) h0)
 have hA:=heap_alloc_new w (.cells #[.int .i64 z,.string a] 54)
 have bA:=zjB w (.cells #[.int .i64 z,.string a] 54)
 have sA:=World.size_alloc w (.cells #[.int .i64 z,.string a] 54)
 have HH:=hid h
 unfold qjv
 clear h h0
 go_enter Tryz.func118,Tryz.ntmps118
 go_upto_region 1 with fail
 generalize w.alloc (.cells #[.int .i64 z,.string a] 54)=w1 at *
 have H1:=hid (HH.out.on bA)
 have HB1:=hid bA
 obtain⟨g,hg⟩:∃g,w.heap.size=g:=⟨_,rfl⟩
 rw[hg] at hA sA hK ⊢
 have HG:=hid hg
 have HA:=hid hA
 have zzd:=fun k=>zjc g k hA
 have s1:g<w1.heap.size:=by omega
 clear hA sA bA hg
 go_wp2_with fail
 refine (HMo.out _).mono ?_
 rintro e w2 ⟨rfl,b2⟩
 have s2:=b2.size
 have HA2:=hid ((b2.block g s1).trans HA.out)
 have HB2:=hid (HB1.out.trans (b2.mono HB1.out.size))
 have H2:=hid (H1.out.on b2)
 have bM:=zjB w2 (.cells #[.bool false,.nilFunc] 255)
 clear HMo b2 zzd HA H1 HB1
 go_upto_region 2 with fail
 generalize w2.alloc (.cells #[.bool false,.nilFunc] 255)=w3 at *
 have HB3:=hid (HB2.out.trans (bM.mono HB2.out.size))
 have H3:=hid (H2.out.on bM)
 have HA3:=hid ((bM.block g (by omega)).trans HA2.out)
 have k3:=HB3.out.size
 have hg3:g<w3.heap.size:=by have:=bM.size;omega
 clear bM H2 HA2 HB2
 have HC:=hid (qc9 K A n c xs w3 H3.out.rd H3.out.hK H3.out.ok (by omega))
 go_wp2_with fail
 refine HC.out.mono ?_
 rintro e wq ⟨A2,n2,c2,ys,rfl,o2,dd2,hc2,hs2,hb⟩
 go_wp2_with fail
 exact bodyPost_ret (v:=.tuple #[.slice A2 n2 c2,.int .i64 13]) (by simp[results,Tryz.results118,asAddr]) rfl ⟨A2,n2,c2,ys,by rw[HE.out],o2.more k3,fun y hy=>(dd2 y hy).more k3,by rw[HE.out];exact hc2,hs2,HB3.out.trans (hb.mono k3)⟩
theorem pmove_ok (K:Nat)(A:Option Addr)(n c:Nat)(xs:List Mem)(s:ByteArray)(z:Int)(a:ByteArray)(w:World)(h:qmv w K A n c xs)(h0:¬(z<0∨2<z)):
 Calls Tryz.prog 118 #[.slice A n c,.string s,qjv z a] w (qb7 (qep xs s z a).1 (qep xs s z a).2 w):=by
 have hn:=h.n100
 have hK:=h.hK
 obtain⟨b,F,hMo⟩:=Qat z a h0
 have HMo:=hid hMo
 have HE10:=hid fun (f:qas xs s=none)=>qgw (a:=a) h0 f
 have HEpl:=hid fun (i:Nat) (f:qas xs s=some i) (q:(plN (qcw xs i) z a).2≠0)=>qfs h0 f q
 have HEok:=hid fun (i:Nat) (f:qas xs s=some i) (q:(plN (qcw xs i) z a).2=0) (hi:i<xs.length)=>qgx h0 f q hi
 clear hMo
 have hA:=heap_alloc_new w (.cells #[.int .i64 z,.string a] 54)
 have bA:=zjB w (.cells #[.int .i64 z,.string a] 54)
 have sA:=World.size_alloc w (.cells #[.int .i64 z,.string a] 54)
 have HH:=hid h
 unfold qjv
 clear h h0
 go_enter Tryz.func118,Tryz.ntmps118
 go_upto_region 1 with fail
 generalize w.alloc (.cells #[.int .i64 z,.string a] 54)=w1 at *
 have H1:=hid (HH.out.on bA)
 have HB1:=hid bA
 obtain⟨g,hg⟩:∃g,w.heap.size=g:=⟨_,rfl⟩
 rw[hg] at hA sA hK ⊢
 have HG:=hid hg
 have HA:=hid hA
 have zzd:=fun k=>zjc g k hA
 have s1:g<w1.heap.size:=by omega
 clear hA sA bA hg
 go_wp2_with fail
 refine (HMo.out _).mono ?_
 rintro e w2 ⟨rfl,b2⟩
 have s2:=b2.size
 have HA2:=hid ((b2.block g s1).trans HA.out)
 have HB2:=hid (HB1.out.trans (b2.mono HB1.out.size))
 have H2:=hid (H1.out.on b2)
 have bM:=zjB w2 (.cells #[.bool b,.func (.func F) #[] #[]] 255)
 clear HMo b2 zzd HA H1 HB1
 go_upto_region 2 with fail
 generalize w2.alloc (.cells #[.bool b,.func (.func F) #[] #[]] 255)=w3 at *
 have HB3:=hid (HB2.out.trans (bM.mono HB2.out.size))
 have H3:=hid (H2.out.on bM)
 have HA3:=hid ((bM.block g (by omega)).trans HA2.out)
 have k3:=HB3.out.size
 have hg3:g<w3.heap.size:=by have:=bM.size;omega
 clear bM H2 HA2 HB2
 have HF:=hid (qe9 K A n c xs s w3 H3.out.rd H3.out.hK (by omega))
 go_wp2_with fail
 refine HF.out.mono ?_
 rintro e w4 ⟨rfl,b4⟩
 have HB4:=hid (HB3.out.trans (b4.mono k3))
 have H4:=hid (H3.out.on b4)
 have HA4:=hid ((b4.block g hg3).trans HA3.out)
 have k4:=HB4.out.size
 have hg4:g<w4.heap.size:=by have:=b4.size;omega
 clear HF b4 H3 HA3 HB3
 cases hf:qas xs s with
 |none=>
  have hfi:qc5 xs s= -1:=by unfold qc5;rw[hf]
  have HE:=hid (HE10.out hf)
  rw[hfi]
  clear hf hfi HE10 HEpl HEok
  have HC:=hid (qc9 K A n c xs w4 H4.out.rd H4.out.hK H4.out.ok (by omega))
  go_wp2_with fail
  refine HC.out.mono ?_
  rintro e wq ⟨A2,n2,c2,ys,rfl,o2,dd2,hc2,hs2,hb⟩
  go_wp2_with fail
  exact bodyPost_ret (v:=.tuple #[.slice A2 n2 c2,.int .i64 10]) (by simp[results,Tryz.results118,asAddr]) rfl ⟨A2,n2,c2,ys,by rw[HE.out],o2.more k4,fun y hy=>(dd2 y hy).more k4,by rw[HE.out];exact hc2,hs2,HB4.out.trans (hb.mono k4)⟩
 |some i=>
  have hfi:qc5 xs s=(i:Int):=by unfold qc5;rw[hf]
  have hix:=(qbb hf).1
  have HEp:=hid (HEpl.out i hf)
  have HEo:=hid fun q=>HEok.out i hf q hix
  rw[hfi]
  have hl:=H4.out.rd.1
  have hil:i<n:=by omega
  have hi0:¬(i:Int)<0:=by omega
  have hii:(i:Int)<(n:Int):=by omega
  have HR:=hid (qi6 K A n c xs i w4 H4.out.rd H4.out.hK hn H4.out.nc hil)
  have hl5:(qcw xs i).length≤300:=by have:=qhm (xs:=xs) (at_:=i);omega
  clear hf hfi HE10 HEpl HEok hl
  go_wp2_with fail
  refine HR.out.mono ?_
  rintro e w5 hJ
  obtain⟨A5,c5,rfl,r5,l5,b5⟩:=hJ.rd ((Dat.of H4.out.rd H4.out.hK).del i)
  have HB5:=hid (HB4.out.trans (b5.mono k4))
  have H5:=hid (H4.out.on b5)
  have HR5:=hid r5
  have hA5:=(b5.block g hg4).trans HA4.out
  have k5:=HB5.out.size
  have hg5:g<w5.heap.size:=by have:=b5.size;omega
  have zzd:=fun k=>zjc g k hA5
  have HP:=hid (qp5 _ A5 _ c5 (qcw xs i) z a w5 r5 zjn (by omega))
  unfold qjv at HP
  clear HR hJ r5 b5 H4 HA4 HB4 hA5
  go_wp2_with fail
  refine HP.out.mono ?_
  rintro e w6 ⟨rfl,b6⟩
  have HB6:=hid (HB5.out.trans (b6.mono k5))
  have H6:=hid (H5.out.on b6)
  have k6:=HB6.out.size
  have HR6:=hid ((HR5.out.below b6).more b6.size)
  have hple:=plN_le (xs:=qcw xs i) (mode:=z) (a:=a)
  clear HP b6 H5 HB5 HR5 zzd
  generalize (plN (qcw xs i) z a).1=pk at *
  generalize (plN (qcw xs i) z a).2=pz at *
  by_cases hz:¬pz=0
  ·have hzb:(pz !=0)=true:=by simpa using hz
   have HE:=hid (HEp.out hz)
   clear hz HEp HEo
   have HC:=hid (qc9 K A n c xs w6 H6.out.rd H6.out.hK H6.out.ok (by omega))
   go_wp2_with fail
   refine HC.out.mono ?_
   rintro e wq ⟨A2,n2,c2,ys,rfl,o2,dd2,hc2,hs2,hb⟩
   go_wp2_with fail
   exact bodyPost_ret (v:=.tuple #[.slice A2 n2 c2,.int .i64 pz]) (by simp[results,Tryz.results118,asAddr]) rfl ⟨A2,n2,c2,ys,by rw[HE.out],o2.more k6,fun y hy=>(dd2 y hy).more k6,by rw[HE.out];exact hc2,hs2,HB6.out.trans (hb.mono k6)⟩
  have hz0:=Decidable.not_not.1 hz
  have hzb:(pz !=0)=false:=by rw[hz0];rfl
  have HE:=hid (HEo.out hz0)
  clear hz hz0 HEp HEo
  obtain⟨⟨b1,o1,rfl,hbK,hcell⟩,hxd,hxl⟩:=H6.out.rd.2 i hix
  have HX:=hid (H6.out.ok xs[i] (List.getElem_mem hix))
  generalize xs[i]=x at *
  have HI:=hid (qft _ A5 _ c5 (qcw xs i) pk x w6 HR6.out zjn hl5 l5 hple HX.out (hxd.more H6.out.hK))
  have HD:=hid ((Dat.of HR6.out zjn).ins pk x (hxd.more H6.out.hK) hxl)
  have HOk:=hid (qvu (Qas H6.out.ok i) pk x HX.out)
  obtain⟨x0,x1,x2,x3,x4,x5,x6,x7,x8⟩:=x
  obtain⟨p0,p1,p2,p3,p4,p5⟩:=hcell
  simp only[Mem.val] at *
  clear hxd HX HR6
  go_wp2_with fail
  refine HI.out.mono ?_
  rintro e w7 hJ
  obtain⟨A7,c7,rfl,r7,l7,b7⟩:=hJ.rd HD.out
  have HC:=hid (qc9 _ A7 _ c7 _ w7 r7 zjn HOk.out (by rw[qbr];omega))
  have HB7:=hid (HB6.out.trans (b7.mono k6))
  have k7:=HB7.out.size
  clear HI HD hJ r7 b7 p0 p1 p2 p3 p4 p5
  go_wp2_with fail
  refine HC.out.mono ?_
  rintro e wq ⟨A2,n2,c2,ys,rfl,o2,dd2,hc2,hs2,hb⟩
  go_wp2_with fail
  exact bodyPost_ret (v:=.tuple #[.slice A2 n2 c2,.int .i64 0]) (by simp[results,Tryz.results118,asAddr]) rfl ⟨A2,n2,c2,ys,by rw[HE.out],o2.more k7,fun y hy=>(dd2 y hy).more k7,by rw[HE.out];exact hc2,hs2,HB7.out.trans (hb.mono k7)⟩
theorem qsk (K:Nat)(A:Option Addr)(n c:Nat)(xs:List Mem)(s:ByteArray)(z:Int)(a:ByteArray)(w:World)(h:qmv w K A n c xs):
 Calls Tryz.prog 118 #[.slice A n c,.string s,qjv z a] w (qb7 (qep xs s z a).1 (qep xs s z a).2 w):=by
 by_cases h0:z<0∨2<z
 ·exact pmove_no K A n c xs s z a w h h0
 ·exact pmove_ok K A n c xs s z a w h h0
end JE
end Go.Proofs.YtlmolmohhpdhdaaGreatDoor
