/-
  edit: the reference's Append and
-/
import Derived.Test.YtkegpjjehejaoaaGreatDoorYEa
import Derived.BigQuiet
import Derived.Test.YtkegpjjehejaoaaGreatDoorYWs
set_option maxRecDepth 100000
set_option maxHeartbeats 16000000
set_option linter.unusedSimpArgs false
set_option linter.unusedVariables false
namespace Go.Proofs.YtkegpjjehejaoaaGreatDoor
open Go.RowKit Go.Proofs
namespace JE
open JB
open JR (Mem RdM qde qa5)
open JW (core MOk qfa)
def qak (xs:List Mem)(z:Int)(w:World)(e:Ending)(w':World):Prop:=
 ∃A n c ys,e=.returned (.tuple #[.slice A n c,.int .i64 z])∧JC.Own 24 6 w' w.heap.size (.slice A n c) n (qa5 ys)∧qde w' w.heap.size ys∧ys.map core=xs.map core∧(∀y∈ys,y.len≤140737488355328)∧Below w.heap.size w w'
def qe5 (xs:List Mem)(s:ByteArray):List Mem×Int:=match qaj xs s with
 |none=>(xs,10)
 |some i=>(qbw xs i,0)
theorem qwq (K:Nat)(A:Option Addr)(n c:Nat)(xs:List Mem)(s:ByteArray)(w:World)(h:RdM w K A n xs)(hK:K≤w.heap.size)(hok:∀x∈xs,MOk x)(hn:n≤300):
 Calls Tryz.prog 38 #[.slice A n c,.string s] w (qak (qe5 xs s).1 (qe5 xs s).2 w):=by
 have Hl:=hid h.1
 have HF:=hid (qjw K A n c xs s w h hK (by omega))
 have H:=hid h
 clear h
 go_enter Tryz.func38,Tryz.ntmps38
 go_wp2_with fail
 refine HF.out.mono ?_
 rintro e w1 ⟨rfl,hb1⟩
 have h1:=H.out.below (hb1.mono hK)
 have k1:=hb1.size
 cases hf:qaj xs s with
 |none=>
  have hfi:qax xs s= -1:=by unfold qax;rw[hf]
  have HE:Hid (qe5 xs s=(xs,10)):=hid (by unfold qe5;rw[hf])
  rw[hfi]
  have HC:=hid (qga K A n c xs w1 h1 (by omega) hok (by omega))
  have HB:=hid hb1
  clear hf hfi HF h1 hb1
  go_wp2_with fail
  refine HC.out.mono ?_
  rintro e w2 ⟨A2,n2,c2,ys,rfl,o2,d2,hc2,hs2,hb2⟩
  go_wp2_with fail
  exact bodyPost_ret (v:=.tuple #[.slice A2 n2 c2,.int .i64 10]) (by simp[results,Tryz.results38,asAddr]) rfl ⟨A2,n2,c2,ys,by rw[HE.out],o2.more k1,fun y hy=>(d2 y hy).more k1,by rw[HE.out];exact hc2,hs2,HB.out.trans (hb2.mono k1)⟩
 |some i=>
  have hfi:qax xs s=(i:Int):=by unfold qax;rw[hf]
  have HE:Hid (qe5 xs s=(qbw xs i,0)):=hid (by unfold qe5;rw[hf])
  rw[hfi]
  have hi0:¬(i:Int)<0:=by omega
  have HC:=hid (qhv K A n c xs i w1 h1 (by omega) hok hn)
  have HB:=hid hb1
  clear hf hfi HF h1 hb1
  go_wp2_with fail
  refine HC.out.mono ?_
  rintro e w2 ⟨A2,n2,c2,ys,rfl,o2,d2,hc2,hs2,hb2⟩
  go_wp2_with fail
  exact bodyPost_ret (v:=.tuple #[.slice A2 n2 c2,.int .i64 0]) (by simp[results,Tryz.results38,asAddr]) rfl ⟨A2,n2,c2,ys,by rw[HE.out],o2.more k1,fun y hy=>(d2 y hy).more k1,by rw[HE.out];exact hc2,hs2,HB.out.trans (hb2.mono k1)⟩
theorem qwr (K:Nat)(A:Option Addr)(n c:Nat)(xs:List Mem)(m:Mem)(w:World)(h:RdM w K A n xs)(hK:K≤w.heap.size)(hok:∀x∈xs,MOk x)(hn:n≤300)(hm:MOk m)(hmr:JB.Rd w K m.ptr m.len m.data):
 Calls Tryz.prog 37 #[.slice A n c,m.val] w (qbq (qef xs n m) w):=by
 have hb1:=zjB w (.cells #[.string m.name,.int .i64 m.time,.int .i64 m.uid,.int .i64 m.gid,.int .i64 m.mode,.slice m.ptr m.len m.cap] 24)
 have hrow:=heap_alloc_new w (.cells #[.string m.name,.int .i64 m.time,.int .i64 m.uid,.int .i64 m.gid,.int .i64 m.mode,.slice m.ptr m.len m.cap] 24)
 have HI:=hid (qh0 K A n c xs n m _ (h.below (hb1.mono hK)) (Nat.le_trans hK hb1.size) hok hn zjn hm (hmr.below (hb1.mono hK)))
 have k1:=hb1.size
 obtain⟨m0,m1,m2,m3,m4,m5,m6,m7,m8⟩:=m
 simp only[Mem.val] at HI ⊢
 simp only at hb1 hrow HI k1
 clear h hm hmr
 go_enter Tryz.func37,Tryz.ntmps37
 go_upto_region 1 with fail
 generalize w.alloc (.cells #[.string m0,.int .i64 m1,.int .i64 m2,.int .i64 m3,.int .i64 m4,.slice m5 m6 m7] 24)=w1 at *
 have zzd:=fun k=>zjc w.heap.size k hrow
 have HB:=hid hb1
 clear hrow hb1
 go_wp2_with fail
 refine HI.out.mono ?_
 rintro e w2 ⟨A2,n2,c2,ys,rfl,o2,dd2,hc2,hs2,hb2⟩
 go_wp2_with fail
 go_ret
 exact⟨A2,n2,c2,ys,rfl,o2.more k1,fun y hy=>(dd2 y hy).more k1,hc2,hs2,HB.out.trans (hb2.mono k1)⟩
end JE
namespace JE
open JB
open JR (Mem RdM qde qa5)
open JW (core MOk qfa)
theorem qdp (xs:List Mem)(k:Nat)(m:Mem):(qef xs k m).map core=qef (xs.map core) k (core m):=by
 unfold qef
 rw[List.map_append,List.map_cons,List.map_take,List.map_drop]
theorem qjx (xs:List Mem)(k:Nat):(qbw xs k).map core=qbw (xs.map core) k:=by
 unfold qbw
 rw[List.map_append,List.map_take,List.map_drop]
theorem qj7 {xs:List Mem}{k:Nat}(h:k<xs.length):(qbw xs k).length=xs.length-1:=by
 unfold qbw
 rw[List.length_append,List.length_take,List.length_drop]
 omega
def qg0 (xs:List Mem)(m:Mem)(mode:Int)(a:ByteArray):List Mem×Int:=
 if (plN xs mode a).2≠0 then (xs,(plN xs mode a).2) else match qaj xs m.name with
  |some i=>(qef (qbw xs i) i m,0)
  |none=>(qef xs (plN xs mode a).1 m,0)
theorem qy8 {xs:List Mem}{m:Mem}{mode:Int}{a:ByteArray}(h:(plN xs mode a).2≠0):qg0 xs m mode a=(xs,(plN xs mode a).2):=by unfold qg0;rw[if_pos h]
theorem quq {xs:List Mem}{m:Mem}{mode:Int}{a:ByteArray}{i:Nat}(h:(plN xs mode a).2=0)(hf:qaj xs m.name=some i):qg0 xs m mode a=(qef (qbw xs i) i m,0):=by unfold qg0;rw[if_neg (by simp[h]),hf]
theorem qur {xs:List Mem}{m:Mem}{mode:Int}{a:ByteArray}(h:(plN xs mode a).2=0)(hf:qaj xs m.name=none):qg0 xs m mode a=(qef xs (plN xs mode a).1 m,0):=by unfold qg0;rw[if_neg (by simp[h]),hf]
theorem qus (K:Nat)(A:Option Addr)(n c:Nat)(xs:List Mem)(m:Mem)(mode:Int)(a:ByteArray)(w:World)(h:RdM w K A n xs)(hK:K≤w.heap.size)(hok:∀x∈xs,MOk x)(hn:n≤300)(hm:MOk m)(hmr:JB.Rd w K m.ptr m.len m.data):
 Calls Tryz.prog 36 #[.slice A n c,m.val,qhw mode a] w (qak (qg0 xs m mode a).1 (qg0 xs m mode a).2 w):=by
 have Hl:=hid h.1
 have hbm:=zjB w (.cells #[.string m.name,.int .i64 m.time,.int .i64 m.uid,.int .i64 m.gid,.int .i64 m.mode,.slice m.ptr m.len m.cap] 24)
 have hrm:=heap_alloc_new w (.cells #[.string m.name,.int .i64 m.time,.int .i64 m.uid,.int .i64 m.gid,.int .i64 m.mode,.slice m.ptr m.len m.cap] 24)
 have hsm:=World.size_alloc w (.cells #[.string m.name,.int .i64 m.time,.int .i64 m.uid,.int .i64 m.gid,.int .i64 m.mode,.slice m.ptr m.len m.cap] 24)
 have HP:=hid fun (W:World) (hW:Below w.heap.size w W)=>qr0 K A n c xs mode a W (h.below (hW.mono hK)) (Nat.le_trans hK hW.size) (by omega)
 have HF:=hid fun (W:World) (hW:Below w.heap.size w W)=>qjw K A n c xs m.name W (h.below (hW.mono hK)) (Nat.le_trans hK hW.size) (by omega)
 have HC:=hid fun (W:World) (hW:Below w.heap.size w W)=>qga K A n c xs W (h.below (hW.mono hK)) (Nat.le_trans hK hW.size) hok (by omega)
 have HD:=hid fun (W:World) (hW:Below w.heap.size w W) (i:Nat)=>qhv K A n c xs i W (h.below (hW.mono hK)) (Nat.le_trans hK hW.size) hok hn
 have HI:=hid fun (W:World) (hW:Below w.heap.size w W) (i:Nat) (hi:i≤n)=>qh0 K A n c xs i m W (h.below (hW.mono hK)) (Nat.le_trans hK hW.size) hok hn hi hm (hmr.below (hW.mono hK))
 have HMr:=hid fun (W:World) (hW:Below w.heap.size w W)=>hmr.below (hW.mono hK)
 have Hm:=hid hm
 have HE1:=hid (qy8 (xs:=xs) (m:=m) (mode:=mode) (a:=a))
 have HE2:=hid fun (i:Nat)=>quq (xs:=xs) (m:=m) (mode:=mode) (a:=a) (i:=i)
 have HE3:=hid (qur (xs:=xs) (m:=m) (mode:=mode) (a:=a))
 obtain⟨m0,m1,m2,m3,m4,m5,m6,m7,m8⟩:=m
 simp only[Mem.val] at HI ⊢
 simp only at hbm hrm hsm HI HF HMr
 unfold qhw at HP ⊢
 clear h hm hmr
 go_enter Tryz.func36,Tryz.ntmps36
 have hrp:=heap_alloc_new (w.alloc (.cells #[.string m0,.int .i64 m1,.int .i64 m2,.int .i64 m3,.int .i64 m4,.slice m5 m6 m7] 24)) (.cells #[.int .i64 mode,.string a] 26)
 have hbp:=(Below.refl (w.alloc (.cells #[.string m0,.int .i64 m1,.int .i64 m2,.int .i64 m3,.int .i64 m4,.slice m5 m6 m7] 24)).heap.size (w.alloc (.cells #[.string m0,.int .i64 m1,.int .i64 m2,.int .i64 m3,.int .i64 m4,.slice m5 m6 m7] 24))).alloc zjn (.cells #[.int .i64 mode,.string a] 26)
 have hsp:=World.size_alloc (w.alloc (.cells #[.string m0,.int .i64 m1,.int .i64 m2,.int .i64 m3,.int .i64 m4,.slice m5 m6 m7] 24)) (.cells #[.int .i64 mode,.string a] 26)
 go_upto_region 1 with fail
 rw[hsm] at hrp hsp
 have hB2:=hbm.trans (hbp.mono hbm.size)
 have hrm2:=(hbp.block w.heap.size (by omega)).trans hrm
 generalize (w.alloc (.cells #[.string m0,.int .i64 m1,.int .i64 m2,.int .i64 m3,.int .i64 m4,.slice m5 m6 m7] 24)).alloc (.cells #[.int .i64 mode,.string a] 26)=w2 at *
 have HB2:=hid hB2
 obtain⟨g,hg⟩:∃g,w.heap.size=g:=⟨_,rfl⟩
 have hg2:g+1<w2.heap.size:=by omega
 rw[hg] at hrm2 hrp
 try rw[hg]
 have HRm:=hid hrm2
 have d0:=zjc (g+1) 0 hrp
 have d1:=zjc (g+1) 1 hrp
 clear hbm hrm hsm hrp hbp hsp hB2 hrm2
 go_wp2_with fail
 refine (HP.out w2 HB2.out).mono ?_
 rintro e w3 ⟨rfl,hb3⟩
 have HB3:=hid (HB2.out.trans (hb3.mono HB2.out.size))
 have HRm3:=hid ((hb3.block g (by omega)).trans HRm.out)
 have hg3:g<w3.heap.size:=by have:=hb3.size;omega
 have hple:(plN xs mode a).1≤n:=by have:=qy7 (xs:=xs) (mode:=mode) (a:=a);have:=Hl.out;omega
 clear hb3 d0 d1 HRm
 generalize (plN xs mode a).1=pk at *
 generalize (plN xs mode a).2=pz at *
 by_cases hz:¬pz=0
 ·have hzb:(pz !=0)=true:=by simpa using hz
  have HE:=hid (HE1.out hz)
  have HC3:=hid (HC.out w3 HB3.out)
  clear hz HE1 HE2 HE3
  go_wp2_with fail
  refine HC3.out.mono ?_
  rintro e w4 ⟨A2,n2,c2,ys,rfl,o2,dd2,hc2,hs2,hb4⟩
  have k3:=HB3.out.size
  go_wp2_with fail
  exact bodyPost_ret (v:=.tuple #[.slice A2 n2 c2,.int .i64 pz]) (by simp[results,Tryz.results36,asAddr]) rfl ⟨A2,n2,c2,ys,by rw[HE.out],o2.more k3,fun y hy=>(dd2 y hy).more k3,by rw[HE.out];exact hc2,hs2,HB3.out.trans (hb4.mono k3)⟩
 have hz0:=Decidable.not_not.1 hz
 have hzb:(pz !=0)=false:=by rw[hz0];rfl
 have HE2':=hid fun (i:Nat) (q:qaj xs m0=some i)=>HE2.out i hz0 q
 have HE3':=hid fun (q:qaj xs m0=none)=>HE3.out hz0 q
 clear hz hz0 HE1 HE2 HE3
 have d0:=zjc g 0 HRm3.out
 go_wp2_with fail
 refine (HF.out w3 HB3.out).mono ?_
 rintro e w4 ⟨rfl,hb4⟩
 have HB4:=hid (HB3.out.trans (hb4.mono HB3.out.size))
 have HRm4:=hid ((hb4.block g hg3).trans HRm3.out)
 have hg4:g<w4.heap.size:=by have:=hb4.size;omega
 have k4:=HB4.out.size
 clear hb4 d0 HRm3
 have d0:=zjc g 0 HRm4.out
 have d1:=zjc g 1 HRm4.out
 have d2:=zjc g 2 HRm4.out
 have d3:=zjc g 3 HRm4.out
 have d4:=zjc g 4 HRm4.out
 have d5:=zjc g 5 HRm4.out
 cases hf:qaj xs m0 with
 |none=>
  have hfi:qax xs m0= -1:=by unfold qax;rw[hf]
  have HE:=hid (HE3'.out hf)
  rw[hfi]
  have HI4:=hid (HI.out w4 HB4.out pk hple)
  clear hf hfi HE2' HE3'
  go_wp2_with fail
  refine HI4.out.mono ?_
  rintro e w5 ⟨A2,n2,c2,ys,rfl,o2,dd2,hc2,hs2,hb5⟩
  go_wp2_with fail
  exact bodyPost_ret (v:=.tuple #[.slice A2 n2 c2,.int .i64 0]) (by simp[results,Tryz.results36,asAddr]) rfl ⟨A2,n2,c2,ys,by rw[HE.out],o2.more k4,fun y hy=>(dd2 y hy).more k4,by rw[HE.out];exact hc2,hs2,HB4.out.trans (hb5.mono k4)⟩
 |some i=>
  have hfi:qax xs m0=(i:Int):=by unfold qax;rw[hf]
  have HE:=hid (HE2'.out i hf)
  rw[hfi]
  have hil:i<n:=by have:=(qb5 hf).1;have:=Hl.out;omega
  have hi0:(0:Int)≤(i:Int):=by omega
  have hbd:Below w4.heap.size w4 w4.drew:=(Below.refl _ _).drew
  clear hf hfi HE2' HE3'
  go_wp2_with fail
  clear d0 d1 d2 d3 d4 d5
  have hS:(fun W'=>W'.cell? ⟨g,0,none⟩=some (.string m0)∧W'.cell? ⟨g,1,none⟩=some (.int .i64 m1)∧W'.cell? ⟨g,2,none⟩=some (.int .i64 m2)∧W'.cell? ⟨g,3,none⟩=some (.int .i64 m3)∧W'.cell? ⟨g,4,none⟩=some (.int .i64 m4)∧W'.cell? ⟨g,5,none⟩=some (.slice m5 m6 m7)) w4.drew:=⟨cell_of_row _ g 0 _ _ _ ((hbd.block g hg4).trans HRm4.out),cell_of_row _ g 1 _ _ _ ((hbd.block g hg4).trans HRm4.out),cell_of_row _ g 2 _ _ _ ((hbd.block g hg4).trans HRm4.out),cell_of_row _ g 3 _ _ _ ((hbd.block g hg4).trans HRm4.out),cell_of_row _ g 4 _ _ _ ((hbd.block g hg4).trans HRm4.out),cell_of_row _ g 5 _ _ _ ((hbd.block g hg4).trans HRm4.out)⟩
  refine Ord.qap.begin (fun W'=>W'.cell? ⟨g,0,none⟩=some (.string m0)∧W'.cell? ⟨g,1,none⟩=some (.int .i64 m1)∧W'.cell? ⟨g,2,none⟩=some (.int .i64 m2)∧W'.cell? ⟨g,3,none⟩=some (.int .i64 m3)∧W'.cell? ⟨g,4,none⟩=some (.int .i64 m4)∧W'.cell? ⟨g,5,none⟩=some (.slice m5 m6 m7)) 60 (by kernel_rfl) ?_
  generalize w4.drew=wd at *
  refine zjT 0 28 rfl rfl (by kernel_rfl) (x:=?_) (fun _ _ _ h=>h) ?_ hS ?_
  rotate_left 1
  ·rintro v ⟨z0,z1,z2,z3,z4,z5⟩;go_simp;first|done|rfl
  try simp only[zjA]
  refine zjT 1 29 rfl rfl (by kernel_rfl) (x:=?_) (fun _ _ _ h=>h) ?_ hS ?_
  rotate_left 1
  ·rintro v ⟨z0,z1,z2,z3,z4,z5⟩;go_simp;first|done|rfl
  try simp only[zjA]
  refine zjT 3 31 rfl rfl (by kernel_rfl) (x:=?_) (fun _ _ _ h=>h) ?_ hS ?_
  rotate_left 1
  ·rintro v ⟨z0,z1,z2,z3,z4,z5⟩;go_simp;first|done|rfl
  try simp only[zjA]
  refine zjT 4 32 rfl rfl (by kernel_rfl) (x:=?_) (fun _ _ _ h=>h) ?_ hS ?_
  rotate_left 1
  ·rintro v ⟨z0,z1,z2,z3,z4,z5⟩;go_simp;first|done|rfl
  try simp only[zjA]
  refine Ord.qap.step 2 (by kernel_rfl) rfl (fun C hC=>?_)
  go_simp
  go_at_call 63
  refine (HD.out _ (HB4.out.trans (hbd.mono k4)) i).mono ?_
  rintro e w5 ⟨A2,n2,c2,ys,rfl,o2,dd2,hc2,hs2,hb5⟩
  have hb45:=hbd.trans (hb5.mono hbd.size)
  have hR5:=qfa o2 dd2 hs2
  obtain⟨_,_,e5,_,h5a,h5b⟩:=o2.reads
  injection e5 with e51 _ e53
  subst e51 e53
  have k5:=hb45.size
  clear hS hb5 hbd o2 dd2
  have hS:(fun W'=>W'.cell? ⟨g,0,none⟩=some (.string m0)∧W'.cell? ⟨g,1,none⟩=some (.int .i64 m1)∧W'.cell? ⟨g,2,none⟩=some (.int .i64 m2)∧W'.cell? ⟨g,3,none⟩=some (.int .i64 m3)∧W'.cell? ⟨g,4,none⟩=some (.int .i64 m4)∧W'.cell? ⟨g,5,none⟩=some (.slice m5 m6 m7)) w5:=⟨cell_of_row _ g 0 _ _ _ ((hb45.block g hg4).trans HRm4.out),cell_of_row _ g 1 _ _ _ ((hb45.block g hg4).trans HRm4.out),cell_of_row _ g 2 _ _ _ ((hb45.block g hg4).trans HRm4.out),cell_of_row _ g 3 _ _ _ ((hb45.block g hg4).trans HRm4.out),cell_of_row _ g 4 _ _ _ ((hb45.block g hg4).trans HRm4.out),cell_of_row _ g 5 _ _ _ ((hb45.block g hg4).trans HRm4.out)⟩
  go_wp2_with fail
  refine hC.out _ _ (fun _=>hS) ?_
  clear hC C
  try simp only[zjA]
  refine Ord.qap.step 5 (by kernel_rfl) rfl (fun C hC=>?_)
  go_simp
  go_at_call 62
  refine ((qh0 w5.heap.size A2 n2 c2 ys i ⟨m0,m1,m2,m3,m4,m5,m6,m7,m8⟩ w5 hR5 zjn (JW.qjs hc2 (fun x hx=>hok x (qcq hx))) (by have h1:=JW.qjr hc2;have h2:=hR5.1;have h3:=qfq (xs:=xs) (at_:=i);have:=Hl.out;omega) (by have h1:=JW.qjr hc2;have h2:=hR5.1;have h3:=qj7 (xs:=xs) (k:=i) (by rw[Hl.out];exact hil);have:=Hl.out;omega) Hm.out ((HMr.out w5 (HB4.out.trans (hb45.mono k4))).more (by omega)))).mono ?_
  rintro e w6 ⟨A3,n3,c3,zs,rfl,o3,dd3,hc3,hs3,hb6⟩
  have hb46:=hb45.trans (hb6.mono k5)
  have HO3:=hid o3
  have HD3:=hid dd3
  have HC3:Hid (zs.map core=(qef (qbw xs i) i ⟨m0,m1,m2,m3,m4,m5,m6,m7,m8⟩).map core):=hid (by rw[hc3,qdp,qdp,hc2])
  have HS3:=hid hs3
  clear hS hb6 hb45 o3 dd3 hc3 hs3 hR5
  have hS:(fun W'=>W'.cell? ⟨g,0,none⟩=some (.string m0)∧W'.cell? ⟨g,1,none⟩=some (.int .i64 m1)∧W'.cell? ⟨g,2,none⟩=some (.int .i64 m2)∧W'.cell? ⟨g,3,none⟩=some (.int .i64 m3)∧W'.cell? ⟨g,4,none⟩=some (.int .i64 m4)∧W'.cell? ⟨g,5,none⟩=some (.slice m5 m6 m7)) w6:=⟨cell_of_row _ g 0 _ _ _ ((hb46.block g hg4).trans HRm4.out),cell_of_row _ g 1 _ _ _ ((hb46.block g hg4).trans HRm4.out),cell_of_row _ g 2 _ _ _ ((hb46.block g hg4).trans HRm4.out),cell_of_row _ g 3 _ _ _ ((hb46.block g hg4).trans HRm4.out),cell_of_row _ g 4 _ _ _ ((hb46.block g hg4).trans HRm4.out),cell_of_row _ g 5 _ _ _ ((hb46.block g hg4).trans HRm4.out)⟩
  go_wp2_with fail
  refine hC.out _ _ (fun _=>hS) ?_
  clear hC C
  try simp only[zjA]
  refine Ord.qap.step 6 (by kernel_rfl) rfl (fun C hC=>?_)
  go_simp
  refine hC.out _ _ (fun _=>hS) ?_
  clear hC C
  try simp only[zjA]
  refine Ord.qap.step 7 (by kernel_rfl) rfl (fun C hC=>?_)
  go_simp
  refine hC.out _ _ (fun _=>hS) ?_
  clear hC C
  try simp only[zjA]
  refine Ord.qap.done (by kernel_rfl) ?_ _
  clear hS
  go_wp2_with fail
  exact bodyPost_ret (v:=.tuple #[.slice A3 n3 c3,.int .i64 0]) (by simp[results,Tryz.results36,asAddr]) rfl ⟨A3,n3,c3,zs,by rw[HE.out],HO3.out.more (by omega),fun y hy=>(HD3.out y hy).more (by omega),by rw[HE.out];exact HC3.out,HS3.out,HB4.out.trans (hb46.mono k4)⟩
end JE
namespace JE
open JB
open JR (Mem RdM qde qa5)
open JW (core MOk qfa)
def qek (xs:List Mem)(s:ByteArray)(mode:Int)(a:ByteArray):List Mem×Int:=
 if mode<0∨2<mode then (xs,13) else match qaj xs s with
  |none=>(xs,10)
  |some i=>if (plN (qbw xs i) mode a).2≠0 then (xs,(plN (qbw xs i) mode a).2) else match xs[i]? with
   |some x=>(qef (qbw xs i) (plN (qbw xs i) mode a).1 x,0)
   |none=>(xs,10)
theorem qh1 {xs:List Mem}{s:ByteArray}{mode:Int}{a:ByteArray}(h:mode<0∨2<mode):qek xs s mode a=(xs,13):=by unfold qek;rw[if_pos h]
theorem qh2 {xs:List Mem}{s:ByteArray}{mode:Int}{a:ByteArray}(h:¬(mode<0∨2<mode))(hf:qaj xs s=none):qek xs s mode a=(xs,10):=by unfold qek;rw[if_neg h,hf]
theorem qh3 {xs:List Mem}{s:ByteArray}{mode:Int}{a:ByteArray}{i:Nat}(h:¬(mode<0∨2<mode))(hf:qaj xs s=some i)(hz:(plN (qbw xs i) mode a).2≠0):qek xs s mode a=(xs,(plN (qbw xs i) mode a).2):=by
 unfold qek;rw[if_neg h,hf];exact if_pos hz
theorem qh4 {xs:List Mem}{s:ByteArray}{mode:Int}{a:ByteArray}{i:Nat}(h:¬(mode<0∨2<mode))(hf:qaj xs s=some i)(hz:(plN (qbw xs i) mode a).2=0)(hi:i<xs.length):qek xs s mode a=(qef (qbw xs i) (plN (qbw xs i) mode a).1 xs[i],0):=by
 unfold qek
 rw[if_neg h,hf]
 show (if _ then _ else _)=_
 rw[if_neg (by simp[hz]),List.getElem?_eq_getElem hi]
theorem Qdm (K:Nat)(A:Option Addr)(n c:Nat)(xs:List Mem)(s:ByteArray)(mode:Int)(a:ByteArray)(w:World)(h:RdM w K A n xs)(hK:K≤w.heap.size)(hok:∀x∈xs,MOk x)(hn:n≤300):
 Calls Tryz.prog 39 #[.slice A n c,.string s,qhw mode a] w (qak (qek xs s mode a).1 (qek xs s mode a).2 w):=by
 have Hl:=hid h.1
 have H:=hid h
 have hrp:=heap_alloc_new w (.cells #[.int .i64 mode,.string a] 26)
 have hbp:=zjB w (.cells #[.int .i64 mode,.string a] 26)
 have hsp:=World.size_alloc w (.cells #[.int .i64 mode,.string a] 26)
 have HF:=hid fun (W:World) (hW:Below w.heap.size w W)=>qjw K A n c xs s W (h.below (hW.mono hK)) (Nat.le_trans hK hW.size) (by omega)
 have HC:=hid fun (W:World) (hW:Below w.heap.size w W)=>qga K A n c xs W (h.below (hW.mono hK)) (Nat.le_trans hK hW.size) hok (by omega)
 have HD:=hid fun (W:World) (hW:Below w.heap.size w W) (i:Nat)=>qhv K A n c xs i W (h.below (hW.mono hK)) (Nat.le_trans hK hW.size) hok hn
 unfold qhw
 clear h
 go_enter Tryz.func39,Tryz.ntmps39
 go_upto_region 1 with fail
 generalize w.alloc (.cells #[.int .i64 mode,.string a] 26)=w1 at *
 have HB1:=hid hbp
 obtain⟨g,hg⟩:∃g,w.heap.size=g:=⟨_,rfl⟩
 have hg1:g<w1.heap.size:=by omega
 rw[hg] at hrp
 rw[hg]
 have HR:=hid hrp
 have d0:=zjc g 0 hrp
 have hk1:=hbp.size
 clear hrp hbp hsp
 by_cases hm:mode<0∨2<mode
 ·have HE:=hid (qh1 (xs:=xs) (s:=s) (a:=a) hm)
  have HC1:=hid (HC.out w1 HB1.out)
  rcases hm with hm|hm
  ·go_wp2_with fail
   refine HC1.out.mono ?_
   rintro e w4 ⟨A2,n2,c2,ys,rfl,o2,dd2,hc2,hs2,hb4⟩
   go_wp2_with fail
   exact bodyPost_ret (v:=.tuple #[.slice A2 n2 c2,.int .i64 13]) (by simp[results,Tryz.results39,asAddr]) rfl ⟨A2,n2,c2,ys,by rw[HE.out],o2.more hk1,fun y hy=>(dd2 y hy).more hk1,by rw[HE.out];exact hc2,hs2,HB1.out.trans (hb4.mono hk1)⟩
  ·have hm0:¬mode<0:=by omega
   go_wp2_with fail
   refine HC1.out.mono ?_
   rintro e w4 ⟨A2,n2,c2,ys,rfl,o2,dd2,hc2,hs2,hb4⟩
   go_wp2_with fail
   exact bodyPost_ret (v:=.tuple #[.slice A2 n2 c2,.int .i64 13]) (by simp[results,Tryz.results39,asAddr]) rfl ⟨A2,n2,c2,ys,by rw[HE.out],o2.more hk1,fun y hy=>(dd2 y hy).more hk1,by rw[HE.out];exact hc2,hs2,HB1.out.trans (hb4.mono hk1)⟩
 have Hm:=hid hm
 have hm0:¬mode<0:=fun q=>hm (.inl q)
 have hm2:¬2<mode:=fun q=>hm (.inr q)
 clear hm
 go_wp2_with fail
 refine (HF.out w1 HB1.out).mono ?_
 rintro e w2 ⟨rfl,hb2⟩
 have HB2:=hid (HB1.out.trans (hb2.mono hk1))
 have HR2:=hid ((hb2.block g hg1).trans HR.out)
 have hg2:g<w2.heap.size:=by have:=hb2.size;omega
 have hk2:=HB2.out.size
 clear hb2 d0 HR
 cases hf:qaj xs s with
 |none=>
  have hfi:qax xs s= -1:=by unfold qax;rw[hf]
  have HE:=hid (qh2 (a:=a) Hm.out hf)
  rw[hfi]
  have HC2:=hid (HC.out w2 HB2.out)
  clear hf hfi
  go_wp2_with fail
  refine HC2.out.mono ?_
  rintro e w4 ⟨A2,n2,c2,ys,rfl,o2,dd2,hc2,hs2,hb4⟩
  go_wp2_with fail
  exact bodyPost_ret (v:=.tuple #[.slice A2 n2 c2,.int .i64 10]) (by simp[results,Tryz.results39,asAddr]) rfl ⟨A2,n2,c2,ys,by rw[HE.out],o2.more hk2,fun y hy=>(dd2 y hy).more hk2,by rw[HE.out];exact hc2,hs2,HB2.out.trans (hb4.mono hk2)⟩
 |some i=>
  have hfi:qax xs s=(i:Int):=by unfold qax;rw[hf]
  have Hf:=hid hf
  rw[hfi]
  have hil:i<n:=by have:=(qb5 hf).1;have:=Hl.out;omega
  have hixs:i<xs.length:=by have:=Hl.out;omega
  have hi0:¬(i:Int)<0:=by omega
  have hii:(i:Int)<(n:Int):=by omega
  have HD2:=hid (HD.out w2 HB2.out i)
  clear hf hfi
  go_wp2_with fail
  refine HD2.out.mono ?_
  rintro e w3 ⟨A2,n2,c2,ys,rfl,o2,dd2,hc2,hs2,hb3⟩
  have HB3:=hid (HB2.out.trans (hb3.mono hk2))
  have HR3:=hid ((hb3.block g hg2).trans HR2.out)
  have hg3:g<w3.heap.size:=by have:=hb3.size;omega
  have hk3:=HB3.out.size
  have hRy:=qfa o2 dd2 hs2
  have hyl:n2=n-1:=by
   have h1:=JW.qjr hc2
   have h2:=hRy.1
   have h3:=qj7 hixs
   have:=Hl.out
   omega
  have hyok:=JW.qjs hc2 (fun x hx=>hok x (qcq hx))
  have hpl:plN ys mode a=plN (qbw xs i) mode a:=by rw[←qmx ys,hc2,qmx]
  have HPl:=hid (qr0 w3.heap.size A2 n2 c2 ys mode a w3 hRy zjn (by omega))
  rw[hpl] at HPl
  unfold qhw at HPl
  have d0:=zjc g 0 HR3.out
  have d1:=zjc g 1 HR3.out
  have hple:(plN (qbw xs i) mode a).1≤n2:=by rw[←hpl];have:=qy7 (xs:=ys) (mode:=mode) (a:=a);have:=hRy.1;omega
  have HE1:=hid (qh3 (xs:=xs) (s:=s) (a:=a) Hm.out Hf.out)
  have HE2:=hid fun q=>qh4 (xs:=xs) (s:=s) (a:=a) Hm.out Hf.out q hixs
  obtain⟨pk,hpk⟩:∃pk,(plN (qbw xs i) mode a).1=pk:=⟨_,rfl⟩
  obtain⟨pz,hpz⟩:∃pz,(plN (qbw xs i) mode a).2=pz:=⟨_,rfl⟩
  rw[hpk,hpz] at HPl
  rw[hpk] at HE2 hple
  rw[hpz] at HE1 HE2
  have HRy:=hid hRy
  have Hc2:=hid hc2
  clear hb3 HR2 HD2 hpl hpk hpz o2 dd2 hRy hc2 hyl
  go_wp2_with fail
  refine HPl.out.mono ?_
  rintro e w4 ⟨rfl,hb4⟩
  have HB4:=hid (HB3.out.trans (hb4.mono hk3))
  have hk4:=HB4.out.size
  have HRy4:=hid ((HRy.out.below hb4).more hb4.size)
  clear hb4 d0 d1 HPl HRy
  by_cases hz:¬pz=0
  ·have hzb:(pz !=0)=true:=by simpa using hz
   have HE:=hid (HE1.out hz)
   have HC4:=hid (HC.out w4 HB4.out)
   clear hz HE1 HE2
   go_wp2_with fail
   refine HC4.out.mono ?_
   rintro e w5 ⟨A3,n3,c3,zs,rfl,o3,dd3,hc3,hs3,hb5⟩
   go_wp2_with fail
   exact bodyPost_ret (v:=.tuple #[.slice A3 n3 c3,.int .i64 pz]) (by simp[results,Tryz.results39,asAddr]) rfl ⟨A3,n3,c3,zs,by rw[HE.out],o3.more hk4,fun y hy=>(dd3 y hy).more hk4,by rw[HE.out];exact hc3,hs3,HB4.out.trans (hb5.mono hk4)⟩
  have hz0:=Decidable.not_not.1 hz
  have hzb:(pz !=0)=false:=by rw[hz0];rfl
  have HE:=hid (HE2.out hz0)
  obtain⟨⟨b,o,rfl,hbK,hcell⟩,hxd,_⟩:=(H.out.below (HB4.out.mono hK)).2 i hixs
  have hxo:=hok _ (List.getElem_mem hixs)
  have HI:=hid (qh0 w4.heap.size A2 n2 c2 ys pk xs[i] w4 HRy4.out zjn hyok (by have h1:=JW.qjr Hc2.out;have h2:=HRy4.out.1;have h3:=qfq (xs:=xs) (at_:=i);have:=Hl.out;omega) hple hxo (hxd.more (by omega)))
  clear hz hz0 HE1 HE2 hxd hxo hyok
  have Hcc:Hid (∀zs:List Mem,zs.map core=(qef ys pk xs[i]).map core→zs.map core=(qef (qbw xs i) pk xs[i]).map core):=hid fun zs q=>by rw[q,qdp,qdp,Hc2.out]
  generalize xs[i]=x at *
  obtain⟨x0,x1,x2,x3,x4,x5,x6,x7,x8⟩:=x
  obtain⟨p0,p1,p2,p3,p4,p5⟩:=hcell
  simp only[Mem.val] at HI
  simp only at p0 p1 p2 p3 p4 p5
  go_wp2_with fail
  refine HI.out.mono ?_
  rintro e w5 ⟨A3,n3,c3,zs,rfl,o3,dd3,hc3,hs3,hb5⟩
  go_wp2_with fail
  exact bodyPost_ret (v:=.tuple #[.slice A3 n3 c3,.int .i64 0]) (by simp[results,Tryz.results39,asAddr]) rfl ⟨A3,n3,c3,zs,by rw[HE.out],o3.more hk4,fun y hy=>(dd3 y hy).more hk4,by rw[HE.out];exact Hcc.out zs hc3,hs3,HB4.out.trans (hb5.mono hk4)⟩
end JE
namespace JE
open JB
open JR (Mem RdM qde qa5)
def qbj (xs:List Mem):List ByteArray:=xs.map (·.name)
def ListP (xs:List Mem)(w:World)(e:Ending)(w':World):Prop:=
 ∃A n c,e=.returned (.slice A n c)∧JS.Own w' w.heap.size (.slice A n c) n (qbj xs)∧Below w.heap.size w w'
end JE
namespace Frame
open Go.ChangeShapes Go.WideShapes Go.ChangeAt Go.RowKit Go.Proofs Go.Deep
set_option maxRecDepth 100000
theorem Qdn {H:Type}{enc:TypeId×Value→H}{W:World}{qec:Nat}{v:Value}{d:DataW H}{p:List MemPlace}(hok:Value.okWide Tryz.prog W .any qec 24 v)
 (ht:DataW.Trod enc Tryz.prog W 0 (fun _=>true) true 24 v d p):
 ∃y:JR.Mem,v=y.val∧JB.Rd W W.heap.size y.ptr y.len y.data∧MB y:=by
 obtain⟨cs,rfl,hsz⟩:=okWide_struct Tryz.underlying24 hok
 obtain⟨l⟩:=cs
 have hsz':l.length=6:=hsz.trans (by kernel_rfl)
 match l,hsz' with
 |[c0,c1,c2,c3,c4,c5],_=>
  obtain⟨fuel,hf⟩:=ht
  obtain⟨xs,n,_,_,_,hyl,hg⟩:=DataW.trod_struct Tryz.underlying24 hf
  have hone:oneCellFields Tryz.prog _=true:=(by kernel_rfl:oneCellFields Tryz.prog (match Tryz.prog.underlying 24 with|some (.struct fs)=>fs|_=>#[])=true)
  obtain⟨y0,g0⟩:=qav hone hyl hg 0 _ rfl c0 rfl
  obtain⟨y1,g1⟩:=qav hone hyl hg 1 _ rfl c1 rfl
  obtain⟨y2,g2⟩:=qav hone hyl hg 2 _ rfl c2 rfl
  obtain⟨y3,g3⟩:=qav hone hyl hg 3 _ rfl c3 rfl
  obtain⟨y4,g4⟩:=qav hone hyl hg 4 _ rfl c4 rfl
  obtain⟨y5,g5⟩:=qav hone hyl hg 5 _ rfl c5 rfl
  obtain⟨s,e0,_,hs⟩:=DataW.trod_string Tryz.underlying9 g0
  obtain⟨t,e1,_,b1⟩:=DataW.trod_int Tryz.underlying3 g1
  obtain⟨u,e2,_,b2⟩:=DataW.trod_int Tryz.underlying3 g2
  obtain⟨g,e3,_,b3⟩:=DataW.trod_int Tryz.underlying3 g3
  obtain⟨z,e4,_,b4⟩:=DataW.trod_int Tryz.underlying3 g4
  obtain⟨P,d,e,l,rfl,h5,hde,hem⟩:=qgv g5
  injection e0 with e0;injection e1 with e1;injection e2 with e2;injection e3 with e3;injection e4 with e4
  subst e0;subst e1;subst e2;subst e3;subst e4
  have k1:=bounds_i64 b1
  have k2:=bounds_i64 b2
  have k3:=bounds_i64 b3
  have k4:=bounds_i64 b4
  exact⟨⟨s,t,u,g,z,P,d,e,l⟩,rfl,h5,hs,⟨by show (-9223372036854775808:Int)≤t;omega,by show t<9223372036854775808;omega⟩,⟨by show (-9223372036854775808:Int)≤u;omega,by show u<9223372036854775808;omega⟩,⟨by show (-9223372036854775808:Int)≤g;omega,by show g<9223372036854775808;omega⟩,⟨by show (-9223372036854775808:Int)≤z;omega,by show z<9223372036854775808;omega⟩,hde,hem⟩
end Frame
namespace JE
open JB
open JR (Mem RdM qde qa5)
open JW (core MOk)
structure qpg (w:World) (K:Nat) (A:Option Addr) (n c:Nat) (xs:List Mem):Prop where
 rd:RdM w K A n xs
 hK:K≤w.heap.size
 nc:n≤c
 cm:c≤maxLen
 ok:∀x∈xs,MOk x
 cap:∀x∈xs,x.len≤x.cap∧x.cap≤maxLen
 n100:n≤300
theorem qpg.on {w w':World}{K n c:Nat}{A:Option Addr}{xs:List Mem}(h:qpg w K A n c xs)(hb:Below w.heap.size w w'):qpg w' K A n c xs:=
 ⟨h.rd.below (hb.mono h.hK),Nat.le_trans h.hK hb.size,h.nc,h.cm,h.ok,h.cap,h.n100⟩
structure Qay (w:World) (K:Nat) (m:Mem):Prop where
 ok:MOk m
 rd:JB.Rd w K m.ptr m.len m.data
 hK:K≤w.heap.size
 cap:m.len≤m.cap∧m.cap≤maxLen
theorem Qay.on {w w':World}{K:Nat}{m:Mem}(h:Qay w K m)(hb:Below w.heap.size w w'):Qay w' K m:=
 ⟨h.ok,h.rd.below (hb.mono h.hK),Nat.le_trans h.hK hb.size,h.cap⟩
def qir (xs:List Mem)(s:ByteArray):List UInt8:=match qaj xs s with|some i=>((xs[i]?).map (·.data)).getD []|none=>[]
def qgb (xs:List Mem)(s:ByteArray):Int:=match qaj xs s with|some _=>0|none=>10
theorem qy9 {xs ys:List Mem}(h:ys.map core=xs.map core)(hok:∀x∈xs,MOk x):∀y∈ys,MOk y:=fun y hy=>by
 have h1:core y∈xs.map core:=h ▸ List.mem_map_of_mem hy
 obtain⟨x,hx,e⟩:=List.mem_map.1 h1
 have h2:=hok x hx
 have e0:x.name=y.name:=show (core x).name=(core y).name from congrArg Mem.name e
 have e1:x.len=y.len:=show (core x).len=(core y).len from congrArg Mem.len e
 have e2:x.time=y.time:=show (core x).time=(core y).time from congrArg Mem.time e
 have e3:x.uid=y.uid:=show (core x).uid=(core y).uid from congrArg Mem.uid e
 have e4:x.gid=y.gid:=show (core x).gid=(core y).gid from congrArg Mem.gid e
 have e5:x.mode=y.mode:=show (core x).mode=(core y).mode from congrArg Mem.mode e
 exact⟨by rw[←e0];exact h2.name,by rw[←e1];exact h2.len,by rw[←e2];exact h2.t,by rw[←e3];exact h2.u,by rw[←e4];exact h2.g,by rw[←e5];exact h2.m⟩
theorem qak.arg {xs:List Mem}{z:Int}{w w':World}{e:Ending}(h:qak xs z w e w')(hok:∀x∈xs,MOk x)(hn:xs.length≤300):
 ∃A n c ys,e=.returned (.tuple #[.slice A n c,.int .i64 z])∧qpg w' w'.heap.size A n c ys∧ys.map core=xs.map core∧n=xs.length∧Below w.heap.size w w':=by
 obtain⟨A,n,c,ys,rfl,hO,hD,hC,hs,hb⟩:=h
 have hc:qbq xs w (.returned (.slice A n c)) w':=⟨A,n,c,ys,rfl,hO,hD,hC,hs,hb⟩
 obtain⟨A',n',c',ys',e1,r1,r2,r3,r4,r5,_⟩:=qbq.reads hc
 injection e1 with e1
 injection e1 with e11 e12 e13
 subst e11 e12 e13
 have hl:n=xs.length:=by
  have h1:=congrArg List.length r2
  rw[List.length_map,List.length_map] at h1
  rw[←h1,r1.1]
 exact⟨A,n,c,ys',rfl,⟨r1,Nat.le_refl _,r3,r4,qy9 r2 hok,r5,by omega⟩,r2,hl,hb⟩
theorem qc6 (xs:List Mem)(k:Nat)(m:Mem):(qef xs k m).length=xs.length+1:=by
 unfold qef
 rw[List.length_append,List.length_cons,List.length_take,List.length_drop]
 omega
theorem Qdp {xs:List Mem}{m:Mem}{z:Int}{a:ByteArray}(h:∀x∈xs,MOk x)(hm:MOk m):∀x∈(qg0 xs m z a).1,MOk x:=by
 unfold qg0
 split
 ·exact h
 ·split
  ·intro x hx
   rcases qcr hx with rfl|hx
   ·exact hm
   ·exact h x (qcq hx)
  ·intro x hx
   rcases qcr hx with rfl|hx
   ·exact hm
   ·exact h x hx
theorem qya {xs:List Mem}{m:Mem}{z:Int}{a:ByteArray}:(qg0 xs m z a).1.length≤xs.length+1:=by
 unfold qg0
 split
 ·exact Nat.le_succ _
 ·split
  ·rw[qc6]
   have:=qfq (xs:=xs) (at_:=‹Nat›)
   omega
  ·rw[qc6]
   exact Nat.le_refl _
theorem Qdq {xs:List Mem}{s:ByteArray}(h:∀x∈xs,MOk x):∀x∈(qe5 xs s).1,MOk x:=by
 unfold qe5
 split
 ·exact h
 ·exact fun x hx=>h x (qcq hx)
theorem qyb {xs:List Mem}{s:ByteArray}:(qe5 xs s).1.length≤xs.length:=by
 unfold qe5
 split
 ·exact Nat.le_refl _
 ·exact qfq
theorem qyc {xs:List Mem}{s:ByteArray}{z:Int}{a:ByteArray}(h:∀x∈xs,MOk x):∀x∈(qek xs s z a).1,MOk x:=by
 by_cases h1:z<0∨2<z
 ·rw[qh1 h1];exact h
 ·cases hf:qaj xs s with
  |none=>rw[qh2 h1 hf];exact h
  |some i=>
   by_cases h2:(plN (qbw xs i) z a).2=0
   ·obtain⟨hi,_⟩:=qb5 hf
    rw[qh4 h1 hf h2 hi]
    intro x hx
    rcases qcr hx with rfl|hx
    ·exact h _ (List.getElem_mem hi)
    ·exact h x (qcq hx)
   ·rw[qh3 h1 hf h2];exact h
theorem qyd {xs:List Mem}{s:ByteArray}{z:Int}{a:ByteArray}:(qek xs s z a).1.length=xs.length:=by
 by_cases h1:z<0∨2<z
 ·rw[qh1 h1]
 ·cases hf:qaj xs s with
  |none=>rw[qh2 h1 hf]
  |some i=>
   by_cases h2:(plN (qbw xs i) z a).2=0
   ·obtain⟨hi,_⟩:=qb5 hf
    rw[qh4 h1 hf h2 hi,qc6,qj7 hi]
    omega
   ·rw[qh3 h1 hf h2]
theorem qut (xs:List Mem)(m:Mem)(z:Int)(a:ByteArray):((qg0 xs m z a).1.map core=(qg0 (xs.map core) (core m) z a).1)∧(qg0 xs m z a).2=(qg0 (xs.map core) (core m) z a).2:=by
 unfold qg0
 rw[qmx,qca]
 show _∧_
 split
 ·exact⟨rfl,rfl⟩
 ·rw[show (core m).name=m.name from rfl]
  split
  ·exact⟨by rw[qdp,qjx],rfl⟩
  ·exact⟨by rw[qdp],rfl⟩
theorem quu (xs:List Mem)(s:ByteArray):((qe5 xs s).1.map core=(qe5 (xs.map core) s).1)∧(qe5 xs s).2=(qe5 (xs.map core) s).2:=by
 unfold qe5
 rw[qca]
 split
 ·exact⟨rfl,rfl⟩
 ·exact⟨by rw[qjx],rfl⟩
theorem quv (xs:List Mem)(s:ByteArray)(z:Int)(a:ByteArray):((qek xs s z a).1.map core=(qek (xs.map core) s z a).1)∧(qek xs s z a).2=(qek (xs.map core) s z a).2:=by
 by_cases h1:z<0∨2<z
 ·rw[qh1 h1,qh1 h1];exact⟨rfl,rfl⟩
 ·cases hf:qaj xs s with
  |none=>rw[qh2 h1 hf,qh2 h1 (by rw[qca];exact hf)];exact⟨rfl,rfl⟩
  |some i=>
   have hf':qaj (xs.map core) s=some i:=by rw[qca];exact hf
   have hp:plN (qbw (xs.map core) i) z a=plN (qbw xs i) z a:=by rw[←qjx,qmx]
   by_cases h2:(plN (qbw xs i) z a).2=0
   ·obtain⟨hi,_⟩:=qb5 hf
    have hi':i<(xs.map core).length:=by rw[List.length_map];exact hi
    rw[qh4 h1 hf h2 hi,qh4 h1 hf' (by rw[hp];exact h2) hi',hp]
    exact⟨by rw[qdp,qjx,List.getElem_map],rfl⟩
   ·rw[qh3 h1 hf h2,qh3 h1 hf' (by rw[hp];exact h2),hp]
    exact⟨rfl,rfl⟩
end JE
namespace JE
open JB
open JR (Mem RdM qde qa5)
open JW (core MOk)
def sA:ByteArray:=⟨#[97]⟩
def sB:ByteArray:=⟨#[98]⟩
def sC:ByteArray:=⟨#[99]⟩
theorem ac:¬sA=sC:=by decide
theorem ba:¬sB=sA:=by decide
end JE
namespace JE
open JB
open JR (Mem RdM qde qa5)
open JW (core MOk)
end JE
namespace JE
open JB
open JR (Mem RdM qde qa5)
open JW (core MOk qj3)
end JE
namespace JE
open JB
open JR (Mem RdM qde qa5)
open JW (core MOk qj3)
def Spd (K:Nat)(V W:World):Prop:=Below K V W∧∀(g:Nat)(cs:Array Value)(t:TypeId)(m:Nat×Nat),K≤g→V.heap[g]?=some (.cells cs t m)→
 (t≠5→t≠24→W.heap[g]?=some (.cells cs t m))∧
 (t=5→∃cs':Array Value,W.heap[g]?=some (.cells cs' t m)∧cs'.size=cs.size∧∀j:Nat,(∃x:Int,cs[j]?=some (Value.int .u8 x))→∃x:Int,cs'[j]?=some (Value.int .u8 x))∧
 (t=24→∃cs':Array Value,W.heap[g]?=some (.cells cs' t m)∧cs'.size=cs.size∧∀j:Nat,j%6≠0→cs'[j]?=cs[j]?)
theorem u8_mem:(5:Nat)≠24:=by decide
theorem Spd.refl (K:Nat)(V:World):Spd K V V:=⟨Below.refl _ _,fun _ cs _ _ _ h=>⟨fun _ _=>h,fun _=>⟨cs,h,rfl,fun _ q=>q⟩,fun _=>⟨cs,h,rfl,fun _ _=>rfl⟩⟩⟩
theorem Spd.put {K:Nat}{V W:World}(h:Spd K V W){g i:Nat}{cs:Array Value}{m:Nat×Nat}(hK:K≤g)(hg:V.heap[g]?=some (.cells cs 5 m))(x:Int):Spd K V (W.setCell ⟨g,i,none⟩ (.int .u8 x)):=by
 refine⟨h.1.setCell (p:=⟨g,i,none⟩) hK _,fun k ds t m' hk hd=>?_⟩
 obtain⟨h1,h2,h3⟩:=h.2 k ds t m' hk hd
 by_cases e:k=g
 ·subst e
  rw[hg] at hd
  injection hd with hd
  injection hd with e1 e2 e3
  subst e1 e2 e3
  refine⟨fun q=>absurd rfl q,fun _=>?_,fun q=>absurd q u8_mem⟩
  obtain⟨cs',q1,q2,q3⟩:=h2 rfl
  refine⟨cs'.setIfInBounds i (.int .u8 x),?_,by simpa using q2,fun j q=>?_⟩
  ·simp[World.setCell,Array.getElem?_modify,q1]
  ·obtain⟨y,hy⟩:=q3 j q
   by_cases hj:i=j
   ·subst hj
    have:=(Array.getElem?_eq_some_iff.1 hy).1
    exact⟨x,by simp[this]⟩
   ·exact⟨y,by simp[hj,hy]⟩
 ·have hs:(W.setCell ⟨g,i,none⟩ (.int .u8 x)).heap[k]?=W.heap[k]?:=Below.heap_setCell W ⟨g,i,none⟩ _ k e
  rw[hs]
  exact⟨h1,h2,h3⟩
theorem Spd.at_ {K:Nat}{V W:World}(h:Spd K V W){p:Option Addr}{n c:Nat}{l:List UInt8}(ho:JB.Own V K (.slice p n c) n l){i:Nat}(hi:i<n):
 ∃(g o:Nat)(x:Int),p=some ⟨g,o,none⟩∧n≤c∧W.cell? ⟨g,o+i,none⟩=some (.int .u8 x)∧W.frozen? ⟨g,o+i,none⟩=false∧∀y:Int,Spd K V (W.setCell ⟨g,o+i,none⟩ (.int .u8 y)):=by
 have hl:=ho.1
 rcases ho.2 with ⟨_,hz⟩|⟨g,cap,cur,m,e,hg,hh,hn,hm,hs,ht,hf⟩
 ·omega
 ·injection e with e1 e2 e3
  subst e1 e3
  obtain⟨cs',q1,q2,q3⟩:=(h.2 g cur _ m hg hh).2.1 rfl
  have hc:cur[i]?=some (Value.int .u8 ((l[i]'(by omega)).toNat:Int)):=by
   have h1:(cur.toList.take n)[i]?=some (Value.int .u8 ((l[i]'(by omega)).toNat:Int)):=by rw[ht];simp[enc,List.getElem?_eq_getElem (show i<l.length by omega)]
   rw[List.getElem?_take,if_pos (by omega)] at h1
   simpa using h1
  obtain⟨x,hx⟩:=q3 i ⟨_,hc⟩
  refine⟨g,0,x,rfl,hn,by rw[cell_of_row W g (0+i) cs' 5 m q1,Nat.zero_add];exact hx,?_,fun y=>h.put hg hh y⟩
  have:=hf i (by omega)
  simp[World.frozen?,q1]
  omega
end JE
end Go.Proofs.YtkegpjjehejaoaaGreatDoor
