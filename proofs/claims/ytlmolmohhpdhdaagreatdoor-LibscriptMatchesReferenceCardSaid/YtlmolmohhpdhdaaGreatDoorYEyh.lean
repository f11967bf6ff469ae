/-
  edit: the program's
-/
import Derived.Test.YtlmolmohhpdhdaaGreatDoorYEyf
set_option maxRecDepth 100000
set_option maxHeartbeats 16000000
set_option linter.all false
namespace Go.Proofs.YtlmolmohhpdhdaaGreatDoor
open Go.RowKit Go.Proofs Tryz
namespace JE
open JB
open JR (Mem RdM qft qa8 qdn)
open JW (core MOk)
theorem qmt (K:Nat)(A:Option Addr)(n c:Nat)(xs:List Mem)(m:Mem)(z:Int)(a:ByteArray)(w:World)(h:qpw w K A n c xs)(he:Qck w K m):
 Calls prog 115 #[.slice A n c,m.val,qi6 z a] w (qav (qfx xs m z a).1 (qfx xs m z a).2 w):=by
 have hn:=h.n100;have hK:=h.hK;have Xv:=hid fun (q:(plN xs z a).2≠0)=>qzm (m:=m) q;have Xr:=hid fun (i:Nat) (q:(plN xs z a).2=0) (f:qar xs m.name=some i)=>qvm q f;have Xn:=hid fun (q:(plN xs z a).2=0) (f:qar xs m.name=none)=>qvn q f;have Xm:=hid he.ok;have Yc:=hid he;have Yq:=he.ok.len;have hA:=zld w (.cells #[.string m.name,.int .i64 m.time,.int .i64 m.uid,.int .i64 m.gid,.int .i64 m.mode,.slice m.ptr m.len m.cap] 46);have bA:=zjB w (.cells #[.string m.name,.int .i64 m.time,.int .i64 m.uid,.int .i64 m.gid,.int .i64 m.mode,.slice m.ptr m.len m.cap] 46);have sA:=zlr w (.cells #[.string m.name,.int .i64 m.time,.int .i64 m.uid,.int .i64 m.gid,.int .i64 m.mode,.slice m.ptr m.len m.cap] 46);have hP:=zld (w.alloc (.cells #[.string m.name,.int .i64 m.time,.int .i64 m.uid,.int .i64 m.gid,.int .i64 m.mode,.slice m.ptr m.len m.cap] 46)) (.cells #[.int .i64 z,.string a] 54);have bP:=(Below.refl (w.alloc (.cells #[.string m.name,.int .i64 m.time,.int .i64 m.uid,.int .i64 m.gid,.int .i64 m.mode,.slice m.ptr m.len m.cap] 46)).heap.size (w.alloc (.cells #[.string m.name,.int .i64 m.time,.int .i64 m.uid,.int .i64 m.gid,.int .i64 m.mode,.slice m.ptr m.len m.cap] 46))).alloc zjn (.cells #[.int .i64 z,.string a] 54);have sP:=zlr (w.alloc (.cells #[.string m.name,.int .i64 m.time,.int .i64 m.uid,.int .i64 m.gid,.int .i64 m.mode,.slice m.ptr m.len m.cap] 46)) (.cells #[.int .i64 z,.string a] 54);have HH:=hid h;obtain⟨m0,m1,m2,m3,m4,m5,m6,m7,m8⟩:=m;simp only[Mem.val,qi6] at hA bA sA hP bP sP Yq Xr Xn |-;clear h he;go_enter func115,ntmps115;go_upto_region 1 with fail
 generalize w.alloc (.cells #[.string m0,.int .i64 m1,.int .i64 m2,.int .i64 m3,.int .i64 m4,.slice m5 m6 m7] 46)=wA at *;generalize wA.alloc (.cells #[.int .i64 z,.string a] 54)=w2 at *;rw[sA] at hP sP bP;obtain⟨g,hg⟩:∃g,w.heap.size=g:=⟨_,rfl⟩;rw[hg] at hA hP sP bP bA hK |-;have HG:=hid hg;have Xs:=hid (show Below w.heap.size w w2 by rw[hg];exact bA.trans (bP.mono (by omega)));have Ya:=hid ((bP.block g (by omega)).trans hA);have Yw:g+1<w2.heap.size:=by omega
 have H2:=hid (HH.out.on Xs.out);have Ye:=hid (Yc.out.on Xs.out);have d0:=zjc (g+1) 0 hP;have d1:=zjc (g+1) 1 hP;have HP:=hid (qrt K A n c xs z a w2 H2.out.rd H2.out.hK (by omega));unfold qi6 at HP;clear hA bA sA hP bP sP hg;go_wp2_with fail
 refine HP.out.mono ?_;rintro e w3 ⟨rfl,Xg⟩;have Xp:=hid (Xs.out.trans (Xg.mono Xs.out.size));have Xd:=hid ((Xg.block g (by omega)).trans Ya.out);have Ys:g<w3.heap.size:=by have:=Xg.size;omega
 have H3:=hid (H2.out.on Xg);have Xj:=hid (Ye.out.on Xg);have Xx:(plN xs z a).1<=n:=by have:=qzk (xs:=xs) (mode:=z) (a:=a);have:=HH.out.rd.1;omega
 have k3:=Xp.out.size;clear Xg d0 d1 Ya HP H2 Ye;generalize (plN xs z a).1=pk at *;generalize (plN xs z a).2=pz at *;by_cases hz:¬pz=0
 ·have Yv:(pz !=0)=true:=by simpa using hz
  have HE:=hid (Xv.out hz);have Yi:=hid (qd4 K A n c xs w3 H3.out.rd H3.out.hK H3.out.ok (by omega));clear hz Xv Xr Xn;go_wp2_with fail
  refine Yi.out.mono ?_;rintro e w4 ⟨A2,n2,c2,ys,rfl,o2,Yt,Yk,Yu,Xb⟩;go_wp2_with fail
  exact zlf (v:=.tuple #[.slice A2 n2 c2,.int .i64 pz]) (by simp[results,results115,asAddr]) rfl ⟨A2,n2,c2,ys,by rw[HE.out],o2.more k3,fun y hy=>(Yt y hy).more k3,by rw[HE.out];exact Yk,Yu,Xp.out.trans (Xb.mono k3)⟩
 have Xq:=Decidable.not_not.1 hz;have Yv:(pz !=0)=false:=by rw[Xq];rfl
 have Xc:=hid fun (i:Nat) (q:qar xs m0=some i)=>Xr.out i Xq q;have Xe:=hid fun (q:qar xs m0=none)=>Xn.out Xq q;clear hz Xq Xv Xr Xn;have d0:=zjc g 0 Xd.out;have HF:=hid (qfi K A n c xs m0 w3 H3.out.rd H3.out.hK (by omega));go_wp2_with fail
 refine HF.out.mono ?_;rintro e w4 ⟨rfl,Xb⟩;have Xt:=hid (Xp.out.trans (Xb.mono Xp.out.size));have Xa:=hid ((Xb.block g Ys).trans Xd.out);have Yh:g<w4.heap.size:=by have:=Xb.size;omega
 have H4:=hid (H3.out.on Xb);have Xh:=hid (Xj.out.on Xb);have k4:=Xt.out.size;clear Xb d0 Xd HF H3 Xj;have d0:=zjc g 0 Xa.out;have d1:=zjc g 1 Xa.out;have d2:=zjc g 2 Xa.out;have d3:=zjc g 3 Xa.out;have d4:=zjc g 4 Xa.out;have d5:=zjc g 5 Xa.out
 cases hf:qar xs m0 with
 |none=>
  have Xi:qaz xs m0= -1:=by unfold qaz;rw[hf]
  have HE:=hid (Xe.out hf);rw[Xi];have HI:=hid (qh7 K A n c xs pk ⟨m0,m1,m2,m3,m4,m5,m6,m7,m8⟩ w4 H4.out.rd H4.out.hK hn H4.out.nc Xx Xm.out Xh.out.rd);simp only[Mem.val] at HI;clear hf Xi Xc Xe;go_wp2_with fail
  refine HI.out.mono ?_;rintro e w5 hJ;obtain⟨A2,c2,rfl,r2,l2,b5⟩:=hJ.rd ((Dat.of H4.out.rd H4.out.hK).ins pk ⟨m0,m1,m2,m3,m4,m5,m6,m7,m8⟩ (Xh.out.rd.more Xh.out.hK) (by show m6<=_;omega));have HC:=hid (qd4 _ A2 _ c2 _ w5 r2 zjn (qzv H4.out.ok pk _ Xm.out) (by rw[qc3];have:=H4.out.rd.1;omega));have B5:=Xt.out.trans (b5.mono k4);have k5:=B5.size;clear HI hJ r2 b5 d0 d1 d2 d3 d4 d5;go_wp2_with fail
  refine HC.out.mono ?_;rintro e w6 ⟨A3,n3,c3,ys,rfl,o3,Xw,Xu,Xz,Yj⟩;go_wp2_with fail
  exact zlf (v:=.tuple #[.slice A3 n3 c3,.int .i64 0]) (by simp[results,results115,asAddr]) rfl ⟨A3,n3,c3,ys,by rw[HE.out],o3.more k5,fun y hy=>(Xw y hy).more k5,by rw[HE.out];exact Xu,Xz,B5.trans (Yj.mono k5)⟩
 |some i=>
  have Xi:qaz xs m0=(i:Int):=by unfold qaz;rw[hf]
  have HE:=hid (Xc.out i hf);rw[Xi];have Yp:i<n:=by have:=(qb6 hf).1;have:=H4.out.rd.1;omega
  have Yx:(0:Int)<=(i:Int):=by omega
  have Xf:Below w4.heap.size w4 w4.drew:=(Below.refl _ _).drew;clear hf Xi Xc Xe;go_wp2_with fail
  clear d0 d1 d2 d3 d4 d5;refine Ord.qaf.begin (fun W=>W.heap[g]?=some (.cells #[.string m0,.int .i64 m1,.int .i64 m2,.int .i64 m3,.int .i64 m4,.slice m5 m6 m7] 46 (0,0))) 60 (by kernel_rfl) ?_;generalize w4.drew=wd at *;have kd:=Xf.size;have Bd:=Xt.out.trans (Xf.mono k4);have Hd:=hid (H4.out.on Xf);have Xy:=hid (Xh.out.on Xf);have hS:(fun W=>W.heap[g]?=some (.cells #[.string m0,.int .i64 m1,.int .i64 m2,.int .i64 m3,.int .i64 m4,.slice m5 m6 m7] 46 (0,0))) wd:=(Xf.block g Yh).trans Xa.out;have Yg:g<wd.heap.size:=by omega
  have HR:=hid (qjp K A n c xs i wd Hd.out.rd Hd.out.hK hn Hd.out.nc Yp);clear Xf H4 Xh Xt Xa;refine zjV 0 28 hS ?_;refine zjV 1 29 hS ?_;refine zjV 3 31 hS ?_ (x:=.agg #[.string m0,.int .i64 m1,.int .i64 m2,.int .i64 m3,.int .i64 m4,.slice m5 m6 m7]) (hy:=by intro v hv;have z0:=zlc _ g 0 _ _ _ hv;have z1:=zlc _ g 1 _ _ _ hv;have z2:=zlc _ g 2 _ _ _ hv;have z3:=zlc _ g 3 _ _ _ hv;have z4:=zlc _ g 4 _ _ _ hv;have z5:=zlc _ g 5 _ _ _ hv;clear HR Hd Xy HH HE Xm Yc;go_simp;first|done|rfl);refine zjV 4 32 hS ?_;refine Ord.qaf.step 2 (by kernel_rfl) rfl (fun C hC=>?_);go_simp;go_at_call 164;refine (HR.out).mono ?_;rintro e w5 hJ;obtain⟨A5,c5,rfl,r5,l5,b5⟩:=hJ.rd ((Dat.of Hd.out.rd Hd.out.hK).del i);have hS:(fun W=>W.heap[g]?=some (.cells #[.string m0,.int .i64 m1,.int .i64 m2,.int .i64 m3,.int .i64 m4,.slice m5 m6 m7] 46 (0,0))) w5:=(b5.block g Yg).trans hS;have Ym:g<w5.heap.size:=by have:=b5.size;omega
  have B5:=Bd.trans (b5.mono Bd.size);have Xk:=hid (Xy.out.on b5);have Yd:=hid r5;have Yf:(qc1 xs i).length<=300:=by have:=qg0 (xs:=xs) (at_:=i);have:=Hd.out.rd.1;omega
  have Yn:i<=(qc1 xs i).length:=by unfold qc1;rw[zlb,zlu,zlm];have:=Hd.out.rd.1;omega
  have HI:=hid (qh7 _ A5 _ c5 (qc1 xs i) i ⟨m0,m1,m2,m3,m4,m5,m6,m7,m8⟩ w5 r5 zjn Yf l5 Yn Xm.out (Xk.out.rd.more Xk.out.hK));simp only[Mem.val] at HI;have Yb:=hid (qzv (Qfc Hd.out.ok i) i ⟨m0,m1,m2,m3,m4,m5,m6,m7,m8⟩ Xm.out);have HL:Hid ((qfw (qc1 xs i) i ⟨m0,m1,m2,m3,m4,m5,m6,m7,m8⟩).length<=301):=hid (by rw[qc3];omega);clear hJ HR r5 b5 Bd Hd Xy;go_wp2_with fail
  refine hC.out _ _ (fun _=>hS) ?_;clear hC C;try simp only[zjA]
  refine Ord.qaf.step 5 (by kernel_rfl) rfl (fun C hC=>?_);go_simp;go_at_call 163;refine (HI.out).mono ?_;rintro e w6 hJ;obtain⟨A6,c6,rfl,r6,l6,b6⟩:=hJ.rd ((Dat.of Yd.out zjn).ins i ⟨m0,m1,m2,m3,m4,m5,m6,m7,m8⟩ (Xk.out.rd.more Xk.out.hK) (by show m6<=_;omega));have hS:(fun W=>W.heap[g]?=some (.cells #[.string m0,.int .i64 m1,.int .i64 m2,.int .i64 m3,.int .i64 m4,.slice m5 m6 m7] 46 (0,0))) w6:=(b6.block g Ym).trans hS;have Yr:g<w6.heap.size:=by have:=b6.size;omega
  have B6:=B5.trans (b6.mono B5.size);have HC:=hid (qd4 _ A6 _ c6 _ w6 r6 zjn Yb.out (by have:=HL.out;omega));clear hJ HI r6 b6 B5 Xk Yd Yb HL;go_wp2_with fail
  refine hC.out _ _ (fun _=>hS) ?_;clear hC C;try simp only[zjA]
  refine Ord.qaf.step 6 (by kernel_rfl) rfl (fun C hC=>?_);go_simp;go_at_call 161;refine (HC.out).mono ?_;rintro e w7 ⟨A3,n3,c3,ys,rfl,o3,Xw,Xu,Xz,b7⟩;have hS:(fun W=>W.heap[g]?=some (.cells #[.string m0,.int .i64 m1,.int .i64 m2,.int .i64 m3,.int .i64 m4,.slice m5 m6 m7] 46 (0,0))) w7:=(b7.block g Yr).trans hS;have B7:=B6.trans (b7.mono B6.size);have k6:=B6.size;clear HC;go_wp2_with fail
  refine hC.out _ _ (fun _=>hS) ?_;clear hC C;try simp only[zjA]
  refine Ord.qaf.step 7 (by kernel_rfl) rfl (fun C hC=>?_);go_simp;refine hC.out _ _ (fun _=>hS) ?_;clear hC C;try simp only[zjA]
  refine Ord.qaf.step 8 (by kernel_rfl) rfl (fun C hC=>?_);go_simp;refine hC.out _ _ (fun _=>hS) ?_;clear hC C;try simp only[zjA]
  refine Ord.qaf.done (by kernel_rfl) ?_ _;go_wp2_with fail
  exact zlf (v:=.tuple #[.slice A3 n3 c3,.int .i64 0]) (by simp[results,results115,asAddr]) rfl ⟨A3,n3,c3,ys,by rw[HE.out],o3.more k6,fun y hy=>(Xw y hy).more k6,by rw[HE.out];exact Xu,Xz,B7⟩
theorem Qfd (z:Int)(a:ByteArray)(h0:¬(z<0∨2<z)):∃(b:Bool)(F:FuncId),∀W:World,Calls prog 165 #[.agg #[.int .i64 z,.string a]] W fun e w'=>e=.returned (.tuple #[.agg #[.bool b,.func (.func F) #[] #[]],.bool true])/\Below W.heap.size W w':=by
 rcases (show z=0∨z=1∨z=2 by omega) with hz|hz|hz
 ·exact⟨_,_,fun W=>qc8 z a W md0 true (.inr (.inr (.inl ⟨hz,rfl,rfl⟩)))⟩
 ·exact⟨_,_,fun W=>qc8 z a W md1 true (.inr (.inr (.inr (.inl ⟨hz,rfl,rfl⟩))))⟩
 ·exact⟨_,_,fun W=>qc8 z a W md2 true (.inr (.inr (.inr (.inr ⟨hz,rfl,rfl⟩))))⟩
theorem Qfe (z:Int)(a:ByteArray)(h0:z<0∨2<z)(W:World):Calls prog 165 #[.agg #[.int .i64 z,.string a]] W fun e w'=>e=.returned (.tuple #[.agg #[.bool false,.nilFunc],.bool false])/\Below W.heap.size W w':=by
 rcases h0 with hz|hz
 ·exact qc8 z a W mdz false (.inl ⟨hz,rfl,rfl⟩)
 ·exact qc8 z a W mdz false (.inr (.inl ⟨hz,rfl,rfl⟩))
theorem pmove_no (K:Nat)(A:Option Addr)(n c:Nat)(xs:List Mem)(s:ByteArray)(z:Int)(a:ByteArray)(w:World)(h:qpw w K A n c xs)(h0:z<0∨2<z):
 Calls prog 118 #[.slice A n c,.string s,qi6 z a] w (qav (qfh xs s z a).1 (qfh xs s z a).2 w):=by
 have hn:=h.n100;have hK:=h.hK;have Xe:=hid (Qfe z a h0);have HE:=hid (qh3 (xs:=xs) (s:=s) (a:=a) h0);have hA:=zld w (.cells #[.int .i64 z,.string a] 54);have bA:=zjB w (.cells #[.int .i64 z,.string a] 54);have sA:=zlr w (.cells #[.int .i64 z,.string a] 54);have HH:=hid h;unfold qi6;clear h h0;go_enter func118,ntmps118;go_upto_region 1 with fail
 generalize w.alloc (.cells #[.int .i64 z,.string a] 54)=w1 at *;have H1:=hid (HH.out.on bA);have Xb:=hid bA;obtain⟨g,hg⟩:∃g,w.heap.size=g:=⟨_,rfl⟩;rw[hg] at hA sA hK |-;have HG:=hid hg;have HA:=hid hA;have Xf:=fun k=>zjc g k hA;have s1:g<w1.heap.size:=by omega
 clear hA sA bA hg;go_wp2_with fail
 refine (Xe.out _).mono ?_;rintro e w2 ⟨rfl,b2⟩;have s2:=b2.size;have Xc:=hid ((b2.block g s1).trans HA.out);have Xa:=hid (Xb.out.trans (b2.mono Xb.out.size));have H2:=hid (H1.out.on b2);have bM:=zjB w2 (.cells #[.bool false,.nilFunc] 255);clear Xe b2 Xf HA H1 Xb;go_upto_region 2 with fail
 generalize w2.alloc (.cells #[.bool false,.nilFunc] 255)=w3 at *;have Xd:=hid (Xa.out.trans (bM.mono Xa.out.size));have H3:=hid (H2.out.on bM);have Xk:=hid ((bM.block g (by omega)).trans Xc.out);have k3:=Xd.out.size;have Xj:g<w3.heap.size:=by have:=bM.size;omega
 clear bM H2 Xc Xa;have HC:=hid (qd4 K A n c xs w3 H3.out.rd H3.out.hK H3.out.ok (by omega));go_wp2_with fail
 refine HC.out.mono ?_;rintro e wq ⟨A2,n2,c2,ys,rfl,o2,Xg,Xh,Xi,hb⟩;go_wp2_with fail
 exact zlf (v:=.tuple #[.slice A2 n2 c2,.int .i64 13]) (by simp[results,results118,asAddr]) rfl ⟨A2,n2,c2,ys,by rw[HE.out],o2.more k3,fun y hy=>(Xg y hy).more k3,by rw[HE.out];exact Xh,Xi,Xd.out.trans (hb.mono k3)⟩
theorem pmove_ok (K:Nat)(A:Option Addr)(n c:Nat)(xs:List Mem)(s:ByteArray)(z:Int)(a:ByteArray)(w:World)(h:qpw w K A n c xs)(h0:¬(z<0∨2<z)):
 Calls prog 118 #[.slice A n c,.string s,qi6 z a] w (qav (qfh xs s z a).1 (qfh xs s z a).2 w):=by
 have hn:=h.n100;have hK:=h.hK;obtain⟨b,F,Xx⟩:=Qfd z a h0;have Ye:=hid Xx;have Xc:=hid fun (f:qar xs s=none)=>qh4 (a:=a) h0 f;have Xb:=hid fun (i:Nat) (f:qar xs s=some i) (q:(plN (qc1 xs i) z a).2≠0)=>qg9 h0 f q;have Xa:=hid fun (i:Nat) (f:qar xs s=some i) (q:(plN (qc1 xs i) z a).2=0) (hi:i<xs.length)=>qh5 h0 f q hi;clear Xx;have hA:=zld w (.cells #[.int .i64 z,.string a] 54);have bA:=zjB w (.cells #[.int .i64 z,.string a] 54);have sA:=zlr w (.cells #[.int .i64 z,.string a] 54);have HH:=hid h;unfold qi6;clear h h0;go_enter func118,ntmps118;go_upto_region 1 with fail
 generalize w.alloc (.cells #[.int .i64 z,.string a] 54)=w1 at *;have H1:=hid (HH.out.on bA);have Xq:=hid bA;obtain⟨g,hg⟩:∃g,w.heap.size=g:=⟨_,rfl⟩;rw[hg] at hA sA hK |-;have HG:=hid hg;have HA:=hid hA;have Xj:=fun k=>zjc g k hA;have s1:g<w1.heap.size:=by omega
 clear hA sA bA hg;go_wp2_with fail
 refine (Ye.out _).mono ?_;rintro e w2 ⟨rfl,b2⟩;have s2:=b2.size;have Xy:=hid ((b2.block g s1).trans HA.out);have Xp:=hid (Xq.out.trans (b2.mono Xq.out.size));have H2:=hid (H1.out.on b2);have bM:=zjB w2 (.cells #[.bool b,.func (.func F) #[] #[]] 255);clear Ye b2 Xj HA H1 Xq;go_upto_region 2 with fail
 generalize w2.alloc (.cells #[.bool b,.func (.func F) #[] #[]] 255)=w3 at *;have Xm:=hid (Xp.out.trans (bM.mono Xp.out.size));have H3:=hid (H2.out.on bM);have Xz:=hid ((bM.block g (by omega)).trans Xy.out);have k3:=Xm.out.size;have Yi:g<w3.heap.size:=by have:=bM.size;omega
 clear bM H2 Xy Xp;have HF:=hid (qfi K A n c xs s w3 H3.out.rd H3.out.hK (by omega));go_wp2_with fail
 refine HF.out.mono ?_;rintro e w4 ⟨rfl,b4⟩;have Xi:=hid (Xm.out.trans (b4.mono k3));have H4:=hid (H3.out.on b4);have Ya:=hid ((b4.block g Yi).trans Xz.out);have k4:=Xi.out.size;have Yh:g<w4.heap.size:=by have:=b4.size;omega
 clear HF b4 H3 Xz Xm
 cases hf:qar xs s with
 |none=>
  have Xd:qaz xs s= -1:=by unfold qaz;rw[hf]
  have HE:=hid (Xc.out hf);rw[Xd];clear hf Xd Xc Xb Xa;have HC:=hid (qd4 K A n c xs w4 H4.out.rd H4.out.hK H4.out.ok (by omega));go_wp2_with fail
  refine HC.out.mono ?_;rintro e wq ⟨A2,n2,c2,ys,rfl,o2,Xf,Xg,Xh,hb⟩;go_wp2_with fail
  exact zlf (v:=.tuple #[.slice A2 n2 c2,.int .i64 10]) (by simp[results,results118,asAddr]) rfl ⟨A2,n2,c2,ys,by rw[HE.out],o2.more k4,fun y hy=>(Xf y hy).more k4,by rw[HE.out];exact Xg,Xh,Xi.out.trans (hb.mono k4)⟩
 |some i=>
  have Xd:qaz xs s=(i:Int):=by unfold qaz;rw[hf]
  have Xt:=(qb6 hf).1;have Xs:=hid (Xb.out i hf);have Xr:=hid fun q=>Xa.out i hf q Xt;rw[Xd];have hl:=H4.out.rd.1;have Yg:i<n:=by omega
  have Ym:¬(i:Int)<0:=by omega
  have Yp:(i:Int)<(n:Int):=by omega
  have HR:=hid (qjp K A n c xs i w4 H4.out.rd H4.out.hK hn H4.out.nc Yg);have Yf:(qc1 xs i).length<=300:=by have:=qg0 (xs:=xs) (at_:=i);omega
  clear hf Xd Xc Xb Xa hl;go_wp2_with fail
  refine HR.out.mono ?_;rintro e w5 hJ;obtain⟨A5,c5,rfl,r5,l5,b5⟩:=hJ.rd ((Dat.of H4.out.rd H4.out.hK).del i);have Xw:=hid (Xi.out.trans (b5.mono k4));have H5:=hid (H4.out.on b5);have Yb:=hid r5;have Yc:=(b5.block g Yh).trans Ya.out;have k5:=Xw.out.size;have Yq:g<w5.heap.size:=by have:=b5.size;omega
  have Xj:=fun k=>zjc g k Yc;have HP:=hid (qrt _ A5 _ c5 (qc1 xs i) z a w5 r5 zjn (by omega));unfold qi6 at HP;clear HR hJ r5 b5 H4 Ya Xi Yc;go_wp2_with fail
  refine HP.out.mono ?_;rintro e w6 ⟨rfl,b6⟩;have Xv:=hid (Xw.out.trans (b6.mono k5));have H6:=hid (H5.out.on b6);have k6:=Xv.out.size;have Xk:=hid ((Yb.out.below b6).more b6.size);have Xu:=qzk (xs:=qc1 xs i) (mode:=z) (a:=a);clear HP b6 H5 Xw Yb Xj;generalize (plN (qc1 xs i) z a).1=pk at *;generalize (plN (qc1 xs i) z a).2=pz at *;by_cases hz:¬pz=0
  ·have Yj:(pz !=0)=true:=by simpa using hz
   have HE:=hid (Xs.out hz);clear hz Xs Xr;have HC:=hid (qd4 K A n c xs w6 H6.out.rd H6.out.hK H6.out.ok (by omega));go_wp2_with fail
   refine HC.out.mono ?_;rintro e wq ⟨A2,n2,c2,ys,rfl,o2,Xf,Xg,Xh,hb⟩;go_wp2_with fail
   exact zlf (v:=.tuple #[.slice A2 n2 c2,.int .i64 pz]) (by simp[results,results118,asAddr]) rfl ⟨A2,n2,c2,ys,by rw[HE.out],o2.more k6,fun y hy=>(Xf y hy).more k6,by rw[HE.out];exact Xg,Xh,Xv.out.trans (hb.mono k6)⟩
  have Xn:=Decidable.not_not.1 hz;have Yj:(pz !=0)=false:=by rw[Xn];rfl
  have HE:=hid (Xr.out Xn);clear hz Xn Xs Xr;obtain⟨⟨b1,o1,rfl,Yn,Xe⟩,hxd,hxl⟩:=H6.out.rd.2 i Xt;have HX:=hid (H6.out.ok xs[i] (zlq Xt));generalize xs[i]=x at *;have HI:=hid (qh7 _ A5 _ c5 (qc1 xs i) pk x w6 Xk.out zjn Yf l5 Xu HX.out (hxd.more H6.out.hK));have HD:=hid ((Dat.of Xk.out zjn).ins pk x (hxd.more H6.out.hK) hxl);have Yk:=hid (qzv (Qfc H6.out.ok i) pk x HX.out);obtain⟨x0,x1,x2,x3,x4,x5,x6,x7,x8⟩:=x;obtain⟨p0,p1,p2,p3,p4,p5⟩:=Xe;simp only[Mem.val] at *;clear hxd HX Xk;go_wp2_with fail
  refine HI.out.mono ?_;rintro e w7 hJ;obtain⟨A7,c7,rfl,r7,l7,b7⟩:=hJ.rd HD.out;have HC:=hid (qd4 _ A7 _ c7 _ w7 r7 zjn Yk.out (by rw[qc3];omega));have Yd:=hid (Xv.out.trans (b7.mono k6));have k7:=Yd.out.size;clear HI HD hJ r7 b7 p0 p1 p2 p3 p4 p5;go_wp2_with fail
  refine HC.out.mono ?_;rintro e wq ⟨A2,n2,c2,ys,rfl,o2,Xf,Xg,Xh,hb⟩;go_wp2_with fail
  exact zlf (v:=.tuple #[.slice A2 n2 c2,.int .i64 0]) (by simp[results,results118,asAddr]) rfl ⟨A2,n2,c2,ys,by rw[HE.out],o2.more k7,fun y hy=>(Xf y hy).more k7,by rw[HE.out];exact Xg,Xh,Yd.out.trans (hb.mono k7)⟩
theorem qvz (K:Nat)(A:Option Addr)(n c:Nat)(xs:List Mem)(s:ByteArray)(z:Int)(a:ByteArray)(w:World)(h:qpw w K A n c xs):
 Calls prog 118 #[.slice A n c,.string s,qi6 z a] w (qav (qfh xs s z a).1 (qfh xs s z a).2 w):=by
 by_cases h0:z<0∨2<z
 ·exact pmove_no K A n c xs s z a w h h0
 ·exact pmove_ok K A n c xs s z a w h h0
end JE
end Go.Proofs.YtlmolmohhpdhdaaGreatDoor
