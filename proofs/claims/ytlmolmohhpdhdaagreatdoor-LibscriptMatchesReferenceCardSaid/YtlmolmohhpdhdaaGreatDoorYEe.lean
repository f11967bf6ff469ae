/-
  edit: the reference's Append and
-/
import Derived.Test.YtlmolmohhpdhdaaGreatDoorYEa
set_option maxRecDepth 100000
set_option maxHeartbeats 16000000
set_option linter.all false
namespace Go.Proofs.YtlmolmohhpdhdaaGreatDoor
open Go.RowKit Go.Proofs Tryz
namespace JE
open JB
open JR (Mem RdM qft qa8)
open JW (core MOk qfg)
def qav (xs:List Mem)(z:Int)(w:World)(e:Ending)(w':World):Prop:=
 ∃A n c ys,e=.returned (.tuple #[.slice A n c,.int .i64 z])/\JC.Own 46 6 w' w.heap.size (.slice A n c) n (qa8 ys)/\qft w' w.heap.size ys/\ys.map core=xs.map core/\(∀y∈ys,y.len<=140737488355328)/\Below w.heap.size w w'
def qet (xs:List Mem)(s:ByteArray):List Mem×Int:=match qar xs s with
 |none=>(xs,10)
 |some i=>(qc1 xs i,0)
theorem qy1 (K:Nat)(A:Option Addr)(n c:Nat)(xs:List Mem)(s:ByteArray)(w:World)(h:RdM w K A n xs)(hK:K<=w.heap.size)(hok:∀x∈xs,MOk x)(hn:n<=300):
 Calls prog 59 #[.slice A n c,.string s] w (qav (qet xs s).1 (qet xs s).2 w):=by
 have Hl:=hid h.1;have HF:=hid (qi4 K A n c xs s w h hK (by omega));have H:=hid h;clear h;go_enter func59,ntmps59;go_wp2_with fail
 refine HF.out.mono ?_;rintro e w1 ⟨rfl,hb1⟩;have h1:=H.out.below (hb1.mono hK);have k1:=hb1.size
 cases hf:qar xs s with
 |none=>
  have hfi:qaz xs s= -1:=by unfold qaz;rw[hf]
  have HE:Hid (qet xs s=(xs,10)):=hid (by unfold qet;rw[hf]);rw[hfi];have HC:=hid (qgi K A n c xs w1 h1 (by omega) hok (by omega));have HB:=hid hb1;clear hf hfi HF h1 hb1;go_wp2_with fail
  refine HC.out.mono ?_;rintro e w2 ⟨A2,n2,c2,ys,rfl,o2,d2,hc2,hs2,hb2⟩;go_wp2_with fail
  exact zlf (v:=.tuple #[.slice A2 n2 c2,.int .i64 10]) (by simp[results,results59,asAddr]) rfl ⟨A2,n2,c2,ys,by rw[HE.out],o2.more k1,fun y hy=>(d2 y hy).more k1,by rw[HE.out];exact hc2,hs2,HB.out.trans (hb2.mono k1)⟩
 |some i=>
  have hfi:qaz xs s=(i:Int):=by unfold qaz;rw[hf]
  have HE:Hid (qet xs s=(qc1 xs i,0)):=hid (by unfold qet;rw[hf]);rw[hfi];have hi0:¬(i:Int)<0:=by omega
  have HC:=hid (qi5 K A n c xs i w1 h1 (by omega) hok hn);have HB:=hid hb1;clear hf hfi HF h1 hb1;go_wp2_with fail
  refine HC.out.mono ?_;rintro e w2 ⟨A2,n2,c2,ys,rfl,o2,d2,hc2,hs2,hb2⟩;go_wp2_with fail
  exact zlf (v:=.tuple #[.slice A2 n2 c2,.int .i64 0]) (by simp[results,results59,asAddr]) rfl ⟨A2,n2,c2,ys,by rw[HE.out],o2.more k1,fun y hy=>(d2 y hy).more k1,by rw[HE.out];exact hc2,hs2,HB.out.trans (hb2.mono k1)⟩
theorem qy2 (K:Nat)(A:Option Addr)(n c:Nat)(xs:List Mem)(m:Mem)(w:World)(h:RdM w K A n xs)(hK:K<=w.heap.size)(hok:∀x∈xs,MOk x)(hn:n<=300)(hm:MOk m)(hmr:JB.Rd w K m.ptr m.len m.data):
 Calls prog 58 #[.slice A n c,m.val] w (qd1 (qfw xs n m) w):=by
 have hb1:=zjB w (.cells #[.string m.name,.int .i64 m.time,.int .i64 m.uid,.int .i64 m.gid,.int .i64 m.mode,.slice m.ptr m.len m.cap] 46);have hrow:=zld w (.cells #[.string m.name,.int .i64 m.time,.int .i64 m.uid,.int .i64 m.gid,.int .i64 m.mode,.slice m.ptr m.len m.cap] 46);have HI:=hid (qh2 K A n c xs n m _ (h.below (hb1.mono hK)) (Nat.le_trans hK hb1.size) hok hn zjn hm (hmr.below (hb1.mono hK)));have k1:=hb1.size;obtain⟨m0,m1,m2,m3,m4,m5,m6,m7,m8⟩:=m;simp only[Mem.val] at HI |-;simp only at hb1 hrow HI k1;clear h hm hmr;go_enter func58,ntmps58;go_upto_region 1 with fail
 generalize w.alloc (.cells #[.string m0,.int .i64 m1,.int .i64 m2,.int .i64 m3,.int .i64 m4,.slice m5 m6 m7] 46)=w1 at *;have zzd:=fun k=>zjc w.heap.size k hrow;have HB:=hid hb1;clear hrow hb1;go_wp2_with fail
 refine HI.out.mono ?_;rintro e w2 ⟨A2,n2,c2,ys,rfl,o2,dd2,hc2,hs2,hb2⟩;go_wp2_with fail
 go_ret
 exact⟨A2,n2,c2,ys,rfl,o2.more k1,fun y hy=>(dd2 y hy).more k1,hc2,hs2,HB.out.trans (hb2.mono k1)⟩
theorem qdp (xs:List Mem)(k:Nat)(m:Mem):(qfw xs k m).map core=qfw (xs.map core) k (core m):=by
 unfold qfw;rw[List.map_append,List.map_cons,List.map_take,List.map_drop]
theorem qkh (xs:List Mem)(k:Nat):(qc1 xs k).map core=qc1 (xs.map core) k:=by
 unfold qc1;rw[List.map_append,List.map_take,List.map_drop]
theorem qjn {xs:List Mem}{k:Nat}(h:k<xs.length):(qc1 xs k).length=xs.length-1:=by
 unfold qc1;rw[zlb,zlu,zlm];omega
def qfx (xs:List Mem)(m:Mem)(mode:Int)(a:ByteArray):List Mem×Int:=
 if (plN xs mode a).2≠0 then (xs,(plN xs mode a).2) else match qar xs m.name with
  |some i=>(qfw (qc1 xs i) i m,0)
  |none=>(qfw xs (plN xs mode a).1 m,0)
theorem qzm {xs:List Mem}{m:Mem}{mode:Int}{a:ByteArray}(h:(plN xs mode a).2≠0):qfx xs m mode a=(xs,(plN xs mode a).2):=by unfold qfx;rw[if_pos h]
theorem qvm {xs:List Mem}{m:Mem}{mode:Int}{a:ByteArray}{i:Nat}(h:(plN xs mode a).2=0)(hf:qar xs m.name=some i):qfx xs m mode a=(qfw (qc1 xs i) i m,0):=by unfold qfx;rw[if_neg (by simp[h]),hf]
theorem qvn {xs:List Mem}{m:Mem}{mode:Int}{a:ByteArray}(h:(plN xs mode a).2=0)(hf:qar xs m.name=none):qfx xs m mode a=(qfw xs (plN xs mode a).1 m,0):=by unfold qfx;rw[if_neg (by simp[h]),hf]
theorem qvp (K:Nat)(A:Option Addr)(n c:Nat)(xs:List Mem)(m:Mem)(mode:Int)(a:ByteArray)(w:World)(h:RdM w K A n xs)(hK:K<=w.heap.size)(hok:∀x∈xs,MOk x)(hn:n<=300)(hm:MOk m)(hmr:JB.Rd w K m.ptr m.len m.data):
 Calls prog 57 #[.slice A n c,m.val,qi6 mode a] w (qav (qfx xs m mode a).1 (qfx xs m mode a).2 w):=by
 have Hl:=hid h.1;have hbm:=zjB w (.cells #[.string m.name,.int .i64 m.time,.int .i64 m.uid,.int .i64 m.gid,.int .i64 m.mode,.slice m.ptr m.len m.cap] 46);have hrm:=zld w (.cells #[.string m.name,.int .i64 m.time,.int .i64 m.uid,.int .i64 m.gid,.int .i64 m.mode,.slice m.ptr m.len m.cap] 46);have hsm:=zlr w (.cells #[.string m.name,.int .i64 m.time,.int .i64 m.uid,.int .i64 m.gid,.int .i64 m.mode,.slice m.ptr m.len m.cap] 46);have HP:=hid fun (W:World) (hW:Below w.heap.size w W)=>qrs K A n c xs mode a W (h.below (hW.mono hK)) (Nat.le_trans hK hW.size) (by omega);have HF:=hid fun (W:World) (hW:Below w.heap.size w W)=>qi4 K A n c xs m.name W (h.below (hW.mono hK)) (Nat.le_trans hK hW.size) (by omega);have HC:=hid fun (W:World) (hW:Below w.heap.size w W)=>qgi K A n c xs W (h.below (hW.mono hK)) (Nat.le_trans hK hW.size) hok (by omega);have HD:=hid fun (W:World) (hW:Below w.heap.size w W) (i:Nat)=>qi5 K A n c xs i W (h.below (hW.mono hK)) (Nat.le_trans hK hW.size) hok hn;have HI:=hid fun (W:World) (hW:Below w.heap.size w W) (i:Nat) (hi:i<=n)=>qh2 K A n c xs i m W (h.below (hW.mono hK)) (Nat.le_trans hK hW.size) hok hn hi hm (hmr.below (hW.mono hK));have HMr:=hid fun (W:World) (hW:Below w.heap.size w W)=>hmr.below (hW.mono hK);have Hm:=hid hm;have HE1:=hid (qzm (xs:=xs) (m:=m) (mode:=mode) (a:=a));have HE2:=hid fun (i:Nat)=>qvm (xs:=xs) (m:=m) (mode:=mode) (a:=a) (i:=i);have HE3:=hid (qvn (xs:=xs) (m:=m) (mode:=mode) (a:=a));obtain⟨m0,m1,m2,m3,m4,m5,m6,m7,m8⟩:=m;simp only[Mem.val] at HI |-;simp only at hbm hrm hsm HI HF HMr;unfold qi6 at HP |-;clear h hm hmr;go_enter func57,ntmps57;have hrp:=zld (w.alloc (.cells #[.string m0,.int .i64 m1,.int .i64 m2,.int .i64 m3,.int .i64 m4,.slice m5 m6 m7] 46)) (.cells #[.int .i64 mode,.string a] 65);have hbp:=(Below.refl (w.alloc (.cells #[.string m0,.int .i64 m1,.int .i64 m2,.int .i64 m3,.int .i64 m4,.slice m5 m6 m7] 46)).heap.size (w.alloc (.cells #[.string m0,.int .i64 m1,.int .i64 m2,.int .i64 m3,.int .i64 m4,.slice m5 m6 m7] 46))).alloc zjn (.cells #[.int .i64 mode,.string a] 65);have hsp:=zlr (w.alloc (.cells #[.string m0,.int .i64 m1,.int .i64 m2,.int .i64 m3,.int .i64 m4,.slice m5 m6 m7] 46)) (.cells #[.int .i64 mode,.string a] 65);go_upto_region 1 with fail
 rw[hsm] at hrp hsp;have hB2:=hbm.trans (hbp.mono hbm.size);have hrm2:=(hbp.block w.heap.size (by omega)).trans hrm;generalize (w.alloc (.cells #[.string m0,.int .i64 m1,.int .i64 m2,.int .i64 m3,.int .i64 m4,.slice m5 m6 m7] 46)).alloc (.cells #[.int .i64 mode,.string a] 65)=w2 at *;have HB2:=hid hB2;obtain⟨g,hg⟩:∃g,w.heap.size=g:=⟨_,rfl⟩;have hg2:g+1<w2.heap.size:=by omega
 rw[hg] at hrm2 hrp;try rw[hg]
 have HRm:=hid hrm2;have d0:=zjc (g+1) 0 hrp;have d1:=zjc (g+1) 1 hrp;clear hbm hrm hsm hrp hbp hsp hB2 hrm2;go_wp2_with fail
 refine (HP.out w2 HB2.out).mono ?_;rintro e w3 ⟨rfl,hb3⟩;have HB3:=hid (HB2.out.trans (hb3.mono HB2.out.size));have HRm3:=hid ((hb3.block g (by omega)).trans HRm.out);have hg3:g<w3.heap.size:=by have:=hb3.size;omega
 have hple:(plN xs mode a).1<=n:=by have:=qzk (xs:=xs) (mode:=mode) (a:=a);have:=Hl.out;omega
 clear hb3 d0 d1 HRm;generalize (plN xs mode a).1=pk at *;generalize (plN xs mode a).2=pz at *;by_cases hz:¬pz=0
 ·have hzb:(pz !=0)=true:=by simpa using hz
  have HE:=hid (HE1.out hz);have HC3:=hid (HC.out w3 HB3.out);clear hz HE1 HE2 HE3;go_wp2_with fail
  refine HC3.out.mono ?_;rintro e w4 ⟨A2,n2,c2,ys,rfl,o2,dd2,hc2,hs2,hb4⟩;have k3:=HB3.out.size;go_wp2_with fail
  exact zlf (v:=.tuple #[.slice A2 n2 c2,.int .i64 pz]) (by simp[results,results57,asAddr]) rfl ⟨A2,n2,c2,ys,by rw[HE.out],o2.more k3,fun y hy=>(dd2 y hy).more k3,by rw[HE.out];exact hc2,hs2,HB3.out.trans (hb4.mono k3)⟩
 have hz0:=Decidable.not_not.1 hz;have hzb:(pz !=0)=false:=by rw[hz0];rfl
 have HE2':=hid fun (i:Nat) (q:qar xs m0=some i)=>HE2.out i hz0 q;have HE3':=hid fun (q:qar xs m0=none)=>HE3.out hz0 q;clear hz hz0 HE1 HE2 HE3;have d0:=zjc g 0 HRm3.out;go_wp2_with fail
 refine (HF.out w3 HB3.out).mono ?_;rintro e w4 ⟨rfl,hb4⟩;have HB4:=hid (HB3.out.trans (hb4.mono HB3.out.size));have HRm4:=hid ((hb4.block g hg3).trans HRm3.out);have hg4:g<w4.heap.size:=by have:=hb4.size;omega
 have k4:=HB4.out.size;clear hb4 d0 HRm3;have d0:=zjc g 0 HRm4.out;have d1:=zjc g 1 HRm4.out;have d2:=zjc g 2 HRm4.out;have d3:=zjc g 3 HRm4.out;have d4:=zjc g 4 HRm4.out;have d5:=zjc g 5 HRm4.out
 cases hf:qar xs m0 with
 |none=>
  have hfi:qaz xs m0= -1:=by unfold qaz;rw[hf]
  have HE:=hid (HE3'.out hf);rw[hfi];have HI4:=hid (HI.out w4 HB4.out pk hple);clear hf hfi HE2' HE3';go_wp2_with fail
  refine HI4.out.mono ?_;rintro e w5 ⟨A2,n2,c2,ys,rfl,o2,dd2,hc2,hs2,hb5⟩;go_wp2_with fail
  exact zlf (v:=.tuple #[.slice A2 n2 c2,.int .i64 0]) (by simp[results,results57,asAddr]) rfl ⟨A2,n2,c2,ys,by rw[HE.out],o2.more k4,fun y hy=>(dd2 y hy).more k4,by rw[HE.out];exact hc2,hs2,HB4.out.trans (hb5.mono k4)⟩
 |some i=>
  have hfi:qaz xs m0=(i:Int):=by unfold qaz;rw[hf]
  have HE:=hid (HE2'.out i hf);rw[hfi];have hil:i<n:=by have:=(qb6 hf).1;have:=Hl.out;omega
  have hi0:(0:Int)<=(i:Int):=by omega
  have hbd:Below w4.heap.size w4 w4.drew:=(Below.refl _ _).drew;clear hf hfi HE2' HE3';go_wp2_with fail
  clear d0 d1 d2 d3 d4 d5;have hS:(fun W'=>W'.cell? ⟨g,0,none⟩=some (.string m0)/\W'.cell? ⟨g,1,none⟩=some (.int .i64 m1)/\W'.cell? ⟨g,2,none⟩=some (.int .i64 m2)/\W'.cell? ⟨g,3,none⟩=some (.int .i64 m3)/\W'.cell? ⟨g,4,none⟩=some (.int .i64 m4)/\W'.cell? ⟨g,5,none⟩=some (.slice m5 m6 m7)) w4.drew:=⟨zlc _ g 0 _ _ _ ((hbd.block g hg4).trans HRm4.out),zlc _ g 1 _ _ _ ((hbd.block g hg4).trans HRm4.out),zlc _ g 2 _ _ _ ((hbd.block g hg4).trans HRm4.out),zlc _ g 3 _ _ _ ((hbd.block g hg4).trans HRm4.out),zlc _ g 4 _ _ _ ((hbd.block g hg4).trans HRm4.out),zlc _ g 5 _ _ _ ((hbd.block g hg4).trans HRm4.out)⟩;refine Ord.qaf.begin (fun W'=>W'.cell? ⟨g,0,none⟩=some (.string m0)/\W'.cell? ⟨g,1,none⟩=some (.int .i64 m1)/\W'.cell? ⟨g,2,none⟩=some (.int .i64 m2)/\W'.cell? ⟨g,3,none⟩=some (.int .i64 m3)/\W'.cell? ⟨g,4,none⟩=some (.int .i64 m4)/\W'.cell? ⟨g,5,none⟩=some (.slice m5 m6 m7)) 60 (by kernel_rfl) ?_;generalize w4.drew=wd at *;refine zjV 0 28 hS ?_;refine zjV 1 29 hS ?_;refine zjV 3 31 hS ?_;refine zjV 4 32 hS ?_;refine Ord.qaf.step 2 (by kernel_rfl) rfl (fun C hC=>?_);go_simp;go_at_call 92;refine (HD.out _ (HB4.out.trans (hbd.mono k4)) i).mono ?_;rintro e w5 ⟨A2,n2,c2,ys,rfl,o2,dd2,hc2,hs2,hb5⟩;have hb45:=hbd.trans (hb5.mono hbd.size);have hR5:=qfg o2 dd2 hs2;obtain⟨_,_,e5,_,h5a,h5b⟩:=o2.reads;injection e5 with e51 _ e53;subst e51 e53;have k5:=hb45.size;clear hS hb5 hbd o2 dd2;have hS:(fun W'=>W'.cell? ⟨g,0,none⟩=some (.string m0)/\W'.cell? ⟨g,1,none⟩=some (.int .i64 m1)/\W'.cell? ⟨g,2,none⟩=some (.int .i64 m2)/\W'.cell? ⟨g,3,none⟩=some (.int .i64 m3)/\W'.cell? ⟨g,4,none⟩=some (.int .i64 m4)/\W'.cell? ⟨g,5,none⟩=some (.slice m5 m6 m7)) w5:=⟨zlc _ g 0 _ _ _ ((hb45.block g hg4).trans HRm4.out),zlc _ g 1 _ _ _ ((hb45.block g hg4).trans HRm4.out),zlc _ g 2 _ _ _ ((hb45.block g hg4).trans HRm4.out),zlc _ g 3 _ _ _ ((hb45.block g hg4).trans HRm4.out),zlc _ g 4 _ _ _ ((hb45.block g hg4).trans HRm4.out),zlc _ g 5 _ _ _ ((hb45.block g hg4).trans HRm4.out)⟩;go_wp2_with fail
  refine hC.out _ _ (fun _=>hS) ?_;clear hC C;try simp only[zjA]
  refine Ord.qaf.step 5 (by kernel_rfl) rfl (fun C hC=>?_);go_simp;go_at_call 91;refine ((qh2 w5.heap.size A2 n2 c2 ys i ⟨m0,m1,m2,m3,m4,m5,m6,m7,m8⟩ w5 hR5 zjn (JW.qkd hc2 (fun x hx=>hok x (qcq hx))) (by have h1:=JW.qkc hc2;have h2:=hR5.1;have h3:=qg0 (xs:=xs) (at_:=i);have:=Hl.out;omega) (by have h1:=JW.qkc hc2;have h2:=hR5.1;have h3:=qjn (xs:=xs) (k:=i) (by rw[Hl.out];exact hil);have:=Hl.out;omega) Hm.out ((HMr.out w5 (HB4.out.trans (hb45.mono k4))).more (by omega)))).mono ?_;rintro e w6 ⟨A3,n3,c3,zs,rfl,o3,dd3,hc3,hs3,hb6⟩;have hb46:=hb45.trans (hb6.mono k5);have HO3:=hid o3;have HD3:=hid dd3;have HC3:Hid (zs.map core=(qfw (qc1 xs i) i ⟨m0,m1,m2,m3,m4,m5,m6,m7,m8⟩).map core):=hid (by rw[hc3,qdp,qdp,hc2]);have HS3:=hid hs3;clear hS hb6 hb45 o3 dd3 hc3 hs3 hR5;have hS:(fun W'=>W'.cell? ⟨g,0,none⟩=some (.string m0)/\W'.cell? ⟨g,1,none⟩=some (.int .i64 m1)/\W'.cell? ⟨g,2,none⟩=some (.int .i64 m2)/\W'.cell? ⟨g,3,none⟩=some (.int .i64 m3)/\W'.cell? ⟨g,4,none⟩=some (.int .i64 m4)/\W'.cell? ⟨g,5,none⟩=some (.slice m5 m6 m7)) w6:=⟨zlc _ g 0 _ _ _ ((hb46.block g hg4).trans HRm4.out),zlc _ g 1 _ _ _ ((hb46.block g hg4).trans HRm4.out),zlc _ g 2 _ _ _ ((hb46.block g hg4).trans HRm4.out),zlc _ g 3 _ _ _ ((hb46.block g hg4).trans HRm4.out),zlc _ g 4 _ _ _ ((hb46.block g hg4).trans HRm4.out),zlc _ g 5 _ _ _ ((hb46.block g hg4).trans HRm4.out)⟩;go_wp2_with fail
  refine hC.out _ _ (fun _=>hS) ?_;clear hC C;try simp only[zjA]
  refine Ord.qaf.step 6 (by kernel_rfl) rfl (fun C hC=>?_);go_simp;refine hC.out _ _ (fun _=>hS) ?_;clear hC C;try simp only[zjA]
  refine Ord.qaf.step 7 (by kernel_rfl) rfl (fun C hC=>?_);go_simp;refine hC.out _ _ (fun _=>hS) ?_;clear hC C;try simp only[zjA]
  refine Ord.qaf.done (by kernel_rfl) ?_ _;clear hS;go_wp2_with fail
  exact zlf (v:=.tuple #[.slice A3 n3 c3,.int .i64 0]) (by simp[results,results57,asAddr]) rfl ⟨A3,n3,c3,zs,by rw[HE.out],HO3.out.more (by omega),fun y hy=>(HD3.out y hy).more (by omega),by rw[HE.out];exact HC3.out,HS3.out,HB4.out.trans (hb46.mono k4)⟩
def qfh (xs:List Mem)(s:ByteArray)(mode:Int)(a:ByteArray):List Mem×Int:=
 if mode<0∨2<mode then (xs,13) else match qar xs s with
  |none=>(xs,10)
  |some i=>if (plN (qc1 xs i) mode a).2≠0 then (xs,(plN (qc1 xs i) mode a).2) else match xs[i]? with
   |some x=>(qfw (qc1 xs i) (plN (qc1 xs i) mode a).1 x,0)
   |none=>(xs,10)
theorem qh3 {xs:List Mem}{s:ByteArray}{mode:Int}{a:ByteArray}(h:mode<0∨2<mode):qfh xs s mode a=(xs,13):=by unfold qfh;rw[if_pos h]
theorem qh4 {xs:List Mem}{s:ByteArray}{mode:Int}{a:ByteArray}(h:¬(mode<0∨2<mode))(hf:qar xs s=none):qfh xs s mode a=(xs,10):=by unfold qfh;rw[if_neg h,hf]
theorem qg9 {xs:List Mem}{s:ByteArray}{mode:Int}{a:ByteArray}{i:Nat}(h:¬(mode<0∨2<mode))(hf:qar xs s=some i)(hz:(plN (qc1 xs i) mode a).2≠0):qfh xs s mode a=(xs,(plN (qc1 xs i) mode a).2):=by
 unfold qfh;rw[if_neg h,hf];exact if_pos hz
theorem qh5 {xs:List Mem}{s:ByteArray}{mode:Int}{a:ByteArray}{i:Nat}(h:¬(mode<0∨2<mode))(hf:qar xs s=some i)(hz:(plN (qc1 xs i) mode a).2=0)(hi:i<xs.length):qfh xs s mode a=(qfw (qc1 xs i) (plN (qc1 xs i) mode a).1 xs[i],0):=by
 unfold qfh;rw[if_neg h,hf];show (if _ then _ else _)=_
 rw[if_neg (by simp[hz]),zlh hi]
theorem Qev (K:Nat)(A:Option Addr)(n c:Nat)(xs:List Mem)(s:ByteArray)(mode:Int)(a:ByteArray)(w:World)(h:RdM w K A n xs)(hK:K<=w.heap.size)(hok:∀x∈xs,MOk x)(hn:n<=300):
 Calls prog 60 #[.slice A n c,.string s,qi6 mode a] w (qav (qfh xs s mode a).1 (qfh xs s mode a).2 w):=by
 have Hl:=hid h.1;have H:=hid h;have hrp:=zld w (.cells #[.int .i64 mode,.string a] 65);have hbp:=zjB w (.cells #[.int .i64 mode,.string a] 65);have hsp:=zlr w (.cells #[.int .i64 mode,.string a] 65);have HF:=hid fun (W:World) (hW:Below w.heap.size w W)=>qi4 K A n c xs s W (h.below (hW.mono hK)) (Nat.le_trans hK hW.size) (by omega);have HC:=hid fun (W:World) (hW:Below w.heap.size w W)=>qgi K A n c xs W (h.below (hW.mono hK)) (Nat.le_trans hK hW.size) hok (by omega);have HD:=hid fun (W:World) (hW:Below w.heap.size w W) (i:Nat)=>qi5 K A n c xs i W (h.below (hW.mono hK)) (Nat.le_trans hK hW.size) hok hn;unfold qi6;clear h;go_enter func60,ntmps60;go_upto_region 1 with fail
 generalize w.alloc (.cells #[.int .i64 mode,.string a] 65)=w1 at *;have HB1:=hid hbp;obtain⟨g,hg⟩:∃g,w.heap.size=g:=⟨_,rfl⟩;have hg1:g<w1.heap.size:=by omega
 rw[hg] at hrp;rw[hg];have HR:=hid hrp;have d0:=zjc g 0 hrp;have hk1:=hbp.size;clear hrp hbp hsp;by_cases hm:mode<0∨2<mode
 ·have HE:=hid (qh3 (xs:=xs) (s:=s) (a:=a) hm);have HC1:=hid (HC.out w1 HB1.out);rcases hm with hm|hm
  ·go_wp2_with fail
   refine HC1.out.mono ?_;rintro e w4 ⟨A2,n2,c2,ys,rfl,o2,dd2,hc2,hs2,hb4⟩;go_wp2_with fail
   exact zlf (v:=.tuple #[.slice A2 n2 c2,.int .i64 13]) (by simp[results,results60,asAddr]) rfl ⟨A2,n2,c2,ys,by rw[HE.out],o2.more hk1,fun y hy=>(dd2 y hy).more hk1,by rw[HE.out];exact hc2,hs2,HB1.out.trans (hb4.mono hk1)⟩
  ·have hm0:¬mode<0:=by omega
   go_wp2_with fail
   refine HC1.out.mono ?_;rintro e w4 ⟨A2,n2,c2,ys,rfl,o2,dd2,hc2,hs2,hb4⟩;go_wp2_with fail
   exact zlf (v:=.tuple #[.slice A2 n2 c2,.int .i64 13]) (by simp[results,results60,asAddr]) rfl ⟨A2,n2,c2,ys,by rw[HE.out],o2.more hk1,fun y hy=>(dd2 y hy).more hk1,by rw[HE.out];exact hc2,hs2,HB1.out.trans (hb4.mono hk1)⟩
 have Hm:=hid hm;have hm0:¬mode<0:=fun q=>hm (.inl q);have hm2:¬2<mode:=fun q=>hm (.inr q);clear hm;go_wp2_with fail
 refine (HF.out w1 HB1.out).mono ?_;rintro e w2 ⟨rfl,hb2⟩;have HB2:=hid (HB1.out.trans (hb2.mono hk1));have HR2:=hid ((hb2.block g hg1).trans HR.out);have hg2:g<w2.heap.size:=by have:=hb2.size;omega
 have hk2:=HB2.out.size;clear hb2 d0 HR
 cases hf:qar xs s with
 |none=>
  have hfi:qaz xs s= -1:=by unfold qaz;rw[hf]
  have HE:=hid (qh4 (a:=a) Hm.out hf);rw[hfi];have HC2:=hid (HC.out w2 HB2.out);clear hf hfi;go_wp2_with fail
  refine HC2.out.mono ?_;rintro e w4 ⟨A2,n2,c2,ys,rfl,o2,dd2,hc2,hs2,hb4⟩;go_wp2_with fail
  exact zlf (v:=.tuple #[.slice A2 n2 c2,.int .i64 10]) (by simp[results,results60,asAddr]) rfl ⟨A2,n2,c2,ys,by rw[HE.out],o2.more hk2,fun y hy=>(dd2 y hy).more hk2,by rw[HE.out];exact hc2,hs2,HB2.out.trans (hb4.mono hk2)⟩
 |some i=>
  have hfi:qaz xs s=(i:Int):=by unfold qaz;rw[hf]
  have Hf:=hid hf;rw[hfi];have hil:i<n:=by have:=(qb6 hf).1;have:=Hl.out;omega
  have hixs:i<xs.length:=by have:=Hl.out;omega
  have hi0:¬(i:Int)<0:=by omega
  have hii:(i:Int)<(n:Int):=by omega
  have HD2:=hid (HD.out w2 HB2.out i);clear hf hfi;go_wp2_with fail
  refine HD2.out.mono ?_;rintro e w3 ⟨A2,n2,c2,ys,rfl,o2,dd2,hc2,hs2,hb3⟩;have HB3:=hid (HB2.out.trans (hb3.mono hk2));have HR3:=hid ((hb3.block g hg2).trans HR2.out);have hg3:g<w3.heap.size:=by have:=hb3.size;omega
  have hk3:=HB3.out.size;have hRy:=qfg o2 dd2 hs2
  have hyl:n2=n-1:=by
   have h1:=JW.qkc hc2;have h2:=hRy.1;have h3:=qjn hixs;have:=Hl.out;omega
  have hyok:=JW.qkd hc2 (fun x hx=>hok x (qcq hx));have hpl:plN ys mode a=plN (qc1 xs i) mode a:=by rw[<-qng ys,hc2,qng]
  have HPl:=hid (qrs w3.heap.size A2 n2 c2 ys mode a w3 hRy zjn (by omega));rw[hpl] at HPl;unfold qi6 at HPl;have d0:=zjc g 0 HR3.out;have d1:=zjc g 1 HR3.out;have hple:(plN (qc1 xs i) mode a).1<=n2:=by rw[<-hpl];have:=qzk (xs:=ys) (mode:=mode) (a:=a);have:=hRy.1;omega
  have HE1:=hid (qg9 (xs:=xs) (s:=s) (a:=a) Hm.out Hf.out);have HE2:=hid fun q=>qh5 (xs:=xs) (s:=s) (a:=a) Hm.out Hf.out q hixs;obtain⟨pk,hpk⟩:∃pk,(plN (qc1 xs i) mode a).1=pk:=⟨_,rfl⟩;obtain⟨pz,hpz⟩:∃pz,(plN (qc1 xs i) mode a).2=pz:=⟨_,rfl⟩;rw[hpk,hpz] at HPl;rw[hpk] at HE2 hple;rw[hpz] at HE1 HE2;have HRy:=hid hRy;have Hc2:=hid hc2;clear hb3 HR2 HD2 hpl hpk hpz o2 dd2 hRy hc2 hyl;go_wp2_with fail
  refine HPl.out.mono ?_;rintro e w4 ⟨rfl,hb4⟩;have HB4:=hid (HB3.out.trans (hb4.mono hk3));have hk4:=HB4.out.size;have HRy4:=hid ((HRy.out.below hb4).more hb4.size);clear hb4 d0 d1 HPl HRy;by_cases hz:¬pz=0
  ·have hzb:(pz !=0)=true:=by simpa using hz
   have HE:=hid (HE1.out hz);have HC4:=hid (HC.out w4 HB4.out);clear hz HE1 HE2;go_wp2_with fail
   refine HC4.out.mono ?_;rintro e w5 ⟨A3,n3,c3,zs,rfl,o3,dd3,hc3,hs3,hb5⟩;go_wp2_with fail
   exact zlf (v:=.tuple #[.slice A3 n3 c3,.int .i64 pz]) (by simp[results,results60,asAddr]) rfl ⟨A3,n3,c3,zs,by rw[HE.out],o3.more hk4,fun y hy=>(dd3 y hy).more hk4,by rw[HE.out];exact hc3,hs3,HB4.out.trans (hb5.mono hk4)⟩
  have hz0:=Decidable.not_not.1 hz;have hzb:(pz !=0)=false:=by rw[hz0];rfl
  have HE:=hid (HE2.out hz0);obtain⟨⟨b,o,rfl,hbK,hcell⟩,hxd,_⟩:=(H.out.below (HB4.out.mono hK)).2 i hixs;have hxo:=hok _ (zlq hixs);have HI:=hid (qh2 w4.heap.size A2 n2 c2 ys pk xs[i] w4 HRy4.out zjn hyok (by have h1:=JW.qkc Hc2.out;have h2:=HRy4.out.1;have h3:=qg0 (xs:=xs) (at_:=i);have:=Hl.out;omega) hple hxo (hxd.more (by omega)));clear hz hz0 HE1 HE2 hxd hxo hyok;have Hcc:Hid (∀zs:List Mem,zs.map core=(qfw ys pk xs[i]).map core->zs.map core=(qfw (qc1 xs i) pk xs[i]).map core):=hid fun zs q=>by rw[q,qdp,qdp,Hc2.out]
  generalize xs[i]=x at *;obtain⟨x0,x1,x2,x3,x4,x5,x6,x7,x8⟩:=x;obtain⟨p0,p1,p2,p3,p4,p5⟩:=hcell;simp only[Mem.val] at HI;simp only at p0 p1 p2 p3 p4 p5;go_wp2_with fail
  refine HI.out.mono ?_;rintro e w5 ⟨A3,n3,c3,zs,rfl,o3,dd3,hc3,hs3,hb5⟩;go_wp2_with fail
  exact zlf (v:=.tuple #[.slice A3 n3 c3,.int .i64 0]) (by simp[results,results60,asAddr]) rfl ⟨A3,n3,c3,zs,by rw[HE.out],o3.more hk4,fun y hy=>(dd3 y hy).more hk4,by rw[HE.out];exact Hcc.out zs hc3,hs3,HB4.out.trans (hb5.mono hk4)⟩
end JE
namespace JE
open JB
open JR (Mem RdM qft qa8)
def qbr (xs:List Mem):List ByteArray:=xs.map (·.name)
def ListP (xs:List Mem)(w:World)(e:Ending)(w':World):Prop:=
 ∃A n c,e=.returned (.slice A n c)/\JS.Own w' w.heap.size (.slice A n c) n (qbr xs)/\Below w.heap.size w w'
theorem Qew (K:Nat)(A:Option Addr)(n c:Nat)(xs:List Mem)(w:World)(h:RdM w K A n xs)(hK:K<=w.heap.size)(hn:n<=1000):
 Calls prog 38 #[.slice A n c] w (ListP xs w):=by
 have Hl:=hid h.1;go_enter func38,ntmps38;go_wp2_with fail
 go_loopw [3,4] (fun v iv W=>∃(k:Nat)(A1:Option Addr)(c1:Nat),iv=.int .i64 (k:Int)/\k<=n/\v=.slice A1 k c1/\JS.Own W w.heap.size (.slice A1 k c1) k (qbr (xs.take k))/\Below w.heap.size w W) (fun _ iv _=>n-(intOf iv).toNat)
 case atStart=>exact⟨0,none,0,rfl,by omega,rfl,JS.Own.nil _ _,Below.refl _ _⟩
 case round=>
  obtain⟨k,A1,c1,rfl,hk,rfl,hO,hb⟩:=hrel;by_cases hlt:k<n
  ·have hkl:k<xs.length:=by have:=Hl.out;omega
   have hki:(k:Int)<(n:Int):=by omega
   obtain⟨⟨b,o,rfl,hbK,hcell⟩,_,_⟩:=(h.below (hb.mono hK)).2 k hkl;have c0:=hcell.1;have HT:Hid (qbr (xs.take (k+1))=qbr (xs.take k)++[xs[k].name]):=hid (by unfold qbr;rw[zlg hkl,List.map_append];rfl);have hbs:=hb.size;generalize xs[k].name=nm at *;clear hcell;go_wp2_with (at_builtin;refine JS.qa4 wr w.heap.size (.slice A1 k c1) k (qbr (xs.take k)) nm hO hbs (by omega) rfl (.tmp 11) (.tmp 17) rfl rfl rfl ?_;intro v4 w4 ho4 hb4 _ _;obtain⟨A4,c4,rfl,_⟩:=ho4.reads)
   have ho4':JS.Own w4 w.heap.size (.slice A4 (k+1) c4) (k+1) (qbr (xs.take (k+1))):=by rw[HT.out];exact ho4
   have hb04:=hb.trans hb4;clear ho4 hb4 hO hb c0;go_roundw
   ·exact⟨k+1,A4,c4,by go_num,by omega,rfl,ho4',hb04⟩
   ·simp[intOf];omega
  ·obtain rfl:k=n:=by omega
   have hki:¬(k:Int)<(k:Int):=by omega
   have hT:xs.take k=xs:=zlj (by have:=Hl.out;omega);rw[hT] at hO;clear hT;go_wp2_with fail
   go_ret
   exact⟨A1,k,c1,rfl,hO,hb⟩
end JE
namespace Frame
open Go.ChangeShapes Go.WideShapes Go.ChangeAt Go.RowKit Go.Proofs Go.Deep
set_option maxRecDepth 100000
end Frame
namespace JE
open JB
open JR (Mem RdM qft qa8)
open JW (core MOk)
structure qpw (w:World) (K:Nat) (A:Option Addr) (n c:Nat) (xs:List Mem):Prop where
 rd:RdM w K A n xs
 hK:K<=w.heap.size
 nc:n<=c
 cm:c<=maxLen
 ok:∀x∈xs,MOk x
 cap:∀x∈xs,x.len<=x.cap/\x.cap<=maxLen
 n100:n<=300
theorem qpw.on {w w':World}{K n c:Nat}{A:Option Addr}{xs:List Mem}(h:qpw w K A n c xs)(hb:Below w.heap.size w w'):qpw w' K A n c xs:=
 ⟨h.rd.below (hb.mono h.hK),Nat.le_trans h.hK hb.size,h.nc,h.cm,h.ok,h.cap,h.n100⟩
structure Qck (w:World) (K:Nat) (m:Mem):Prop where
 ok:MOk m
 rd:JB.Rd w K m.ptr m.len m.data
 hK:K<=w.heap.size
 cap:m.len<=m.cap/\m.cap<=maxLen
theorem Qck.on {w w':World}{K:Nat}{m:Mem}(h:Qck w K m)(hb:Below w.heap.size w w'):Qck w' K m:=
 ⟨h.ok,h.rd.below (hb.mono h.hK),Nat.le_trans h.hK hb.size,h.cap⟩
def qmr (xs:List Mem)(s:ByteArray):List UInt8:=match qar xs s with|some i=>((xs[i]?).map (·.data)).getD []|none=>[]
def qh6 (xs:List Mem)(s:ByteArray):Int:=match qar xs s with|some _=>0|none=>10
theorem qzn {xs ys:List Mem}(h:ys.map core=xs.map core)(hok:∀x∈xs,MOk x):∀y∈ys,MOk y:=fun y hy=>by
 have h1:core y∈xs.map core:=h ▸ List.mem_map_of_mem hy;obtain⟨x,hx,e⟩:=List.mem_map.1 h1;have h2:=hok x hx;have e0:x.name=y.name:=show (core x).name=(core y).name from congrArg Mem.name e
 have e1:x.len=y.len:=show (core x).len=(core y).len from congrArg Mem.len e
 have e2:x.time=y.time:=show (core x).time=(core y).time from congrArg Mem.time e
 have e3:x.uid=y.uid:=show (core x).uid=(core y).uid from congrArg Mem.uid e
 have e4:x.gid=y.gid:=show (core x).gid=(core y).gid from congrArg Mem.gid e
 have e5:x.mode=y.mode:=show (core x).mode=(core y).mode from congrArg Mem.mode e
 exact⟨by rw[<-e0];exact h2.name,by rw[<-e1];exact h2.len,by rw[<-e2];exact h2.t,by rw[<-e3];exact h2.u,by rw[<-e4];exact h2.g,by rw[<-e5];exact h2.m⟩
theorem qav.arg {xs:List Mem}{z:Int}{w w':World}{e:Ending}(h:qav xs z w e w')(hok:∀x∈xs,MOk x)(hn:xs.length<=300):
 ∃A n c ys,e=.returned (.tuple #[.slice A n c,.int .i64 z])/\qpw w' w'.heap.size A n c ys/\ys.map core=xs.map core/\n=xs.length/\Below w.heap.size w w':=by
 obtain⟨A,n,c,ys,rfl,hO,hD,hC,hs,hb⟩:=h;have hc:qd1 xs w (.returned (.slice A n c)) w':=⟨A,n,c,ys,rfl,hO,hD,hC,hs,hb⟩;obtain⟨A',n',c',ys',e1,r1,r2,r3,r4,r5,_⟩:=qd1.reads hc;injection e1 with e1;injection e1 with e11 e12 e13;subst e11 e12 e13
 have hl:n=xs.length:=by
  have h1:=congrArg List.length r2;rw[zlB,zlB] at h1;rw[<-h1,r1.1]
 exact⟨A,n,c,ys',rfl,⟨r1,Nat.le_refl _,r3,r4,qzn r2 hok,r5,by omega⟩,r2,hl,hb⟩
theorem qc3 (xs:List Mem)(k:Nat)(m:Mem):(qfw xs k m).length=xs.length+1:=by
 unfold qfw;rw[zlb,zlk,zlu,zlm];omega
theorem Qex {xs:List Mem}{m:Mem}{z:Int}{a:ByteArray}(h:∀x∈xs,MOk x)(hm:MOk m):∀x∈(qfx xs m z a).1,MOk x:=by
 unfold qfx;split
 ·exact h
 ·split
  ·intro x hx;rcases qcr hx with rfl|hx
   ·exact hm
   ·exact h x (qcq hx)
  ·intro x hx;rcases qcr hx with rfl|hx
   ·exact hm
   ·exact h x hx
theorem qzp {xs:List Mem}{m:Mem}{z:Int}{a:ByteArray}:(qfx xs m z a).1.length<=xs.length+1:=by
 unfold qfx;split
 ·exact Nat.le_succ _
 ·split
  ·rw[qc3];have:=qg0 (xs:=xs) (at_:=‹Nat›);omega
  ·rw[qc3];exact Nat.le_refl _
theorem Qey {xs:List Mem}{s:ByteArray}(h:∀x∈xs,MOk x):∀x∈(qet xs s).1,MOk x:=by
 unfold qet;split
 ·exact h
 ·exact fun x hx=>h x (qcq hx)
theorem qzq {xs:List Mem}{s:ByteArray}:(qet xs s).1.length<=xs.length:=by
 unfold qet;split
 ·exact Nat.le_refl _
 ·exact qg0
theorem qzr {xs:List Mem}{s:ByteArray}{z:Int}{a:ByteArray}(h:∀x∈xs,MOk x):∀x∈(qfh xs s z a).1,MOk x:=by
 by_cases h1:z<0∨2<z
 ·rw[qh3 h1];exact h
 ·cases hf:qar xs s with
  |none=>rw[qh4 h1 hf];exact h
  |some i=>
   by_cases h2:(plN (qc1 xs i) z a).2=0
   ·obtain⟨hi,_⟩:=qb6 hf;rw[qh5 h1 hf h2 hi];intro x hx;rcases qcr hx with rfl|hx
    ·exact h _ (zlq hi)
    ·exact h x (qcq hx)
   ·rw[qg9 h1 hf h2];exact h
theorem qzs {xs:List Mem}{s:ByteArray}{z:Int}{a:ByteArray}:(qfh xs s z a).1.length=xs.length:=by
 by_cases h1:z<0∨2<z
 ·rw[qh3 h1]
 ·cases hf:qar xs s with
  |none=>rw[qh4 h1 hf]
  |some i=>
   by_cases h2:(plN (qc1 xs i) z a).2=0
   ·obtain⟨hi,_⟩:=qb6 hf;rw[qh5 h1 hf h2 hi,qc3,qjn hi];omega
   ·rw[qg9 h1 hf h2]
theorem qvq (xs:List Mem)(m:Mem)(z:Int)(a:ByteArray):((qfx xs m z a).1.map core=(qfx (xs.map core) (core m) z a).1)/\(qfx xs m z a).2=(qfx (xs.map core) (core m) z a).2:=by
 unfold qfx;rw[qng,qc6];show _/\_
 split
 ·exact⟨rfl,rfl⟩
 ·rw[show (core m).name=m.name from rfl];split
  ·exact⟨by rw[qdp,qkh],rfl⟩
  ·exact⟨by rw[qdp],rfl⟩
theorem qvr (xs:List Mem)(s:ByteArray):((qet xs s).1.map core=(qet (xs.map core) s).1)/\(qet xs s).2=(qet (xs.map core) s).2:=by
 unfold qet;rw[qc6];split
 ·exact⟨rfl,rfl⟩
 ·exact⟨by rw[qkh],rfl⟩
theorem qvs (xs:List Mem)(s:ByteArray)(z:Int)(a:ByteArray):((qfh xs s z a).1.map core=(qfh (xs.map core) s z a).1)/\(qfh xs s z a).2=(qfh (xs.map core) s z a).2:=by
 by_cases h1:z<0∨2<z
 ·rw[qh3 h1,qh3 h1];exact⟨rfl,rfl⟩
 ·cases hf:qar xs s with
  |none=>rw[qh4 h1 hf,qh4 h1 (by rw[qc6];exact hf)];exact⟨rfl,rfl⟩
  |some i=>
   have hf':qar (xs.map core) s=some i:=by rw[qc6];exact hf
   have hp:plN (qc1 (xs.map core) i) z a=plN (qc1 xs i) z a:=by rw[<-qkh,qng]
   by_cases h2:(plN (qc1 xs i) z a).2=0
   ·obtain⟨hi,_⟩:=qb6 hf;have hi':i<(xs.map core).length:=by rw[zlB];exact hi
    rw[qh5 h1 hf h2 hi,qh5 h1 hf' (by rw[hp];exact h2) hi',hp];exact⟨by rw[qdp,qkh,List.getElem_map],rfl⟩
   ·rw[qg9 h1 hf h2,qg9 h1 hf' (by rw[hp];exact h2),hp];exact⟨rfl,rfl⟩
end JE
end Go.Proofs.YtlmolmohhpdhdaaGreatDoor
