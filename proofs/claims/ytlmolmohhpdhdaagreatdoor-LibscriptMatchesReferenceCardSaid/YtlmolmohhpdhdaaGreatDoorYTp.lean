/-
  libscript: the program's outputs, and its
-/
import Derived.Test.YtlmolmohhpdhdaaGreatDoorYTn
set_option maxRecDepth 100000
set_option maxHeartbeats 16000000
set_option linter.all false
namespace Go.Proofs.YtlmolmohhpdhdaaGreatDoor
open Go.RowKit Go.Proofs Tryz
namespace Lsc
open JB
open JN (bts str qac qaw qa2 Gnd qev)
open JR (Mem ar)
open JL
open JD (tx)
open JE (qc7)
def OutP (l:List ByteArray)(w:World)(e:Ending)(w':World):Prop:=
 ∃(B:Option Addr)(k d:Nat),e=.returned (.slice B k d)/\JS.Rd w' w'.heap.size B k l/\Below w.heap.size w w'
theorem qtm {w0 w:World}{x:ByteArray}(hb:Below w0.heap.size w0 w):OutP [x] w0 (.returned (.slice (some ⟨w.heap.size,0,none⟩) 1 1)) (w.alloc (.cells #[.string x] 9)):=
 ⟨_,1,1,rfl,(JS.Rd.lit w [x] #[.string x] rfl 1 rfl).more (by simp),hb.trans (((Below.refl w.heap.size w).alloc zjn _).mono hb.size)⟩
theorem qmv (k:Nat)(hk:k<=17)(w:World)(hG:qev w):Calls prog 24 #[.int .i64 (k:Int)] w (OutP (errL (k:Int)) w):=by
 have HI:=hid (JN.qtt k w hG (by omega));have Xa:(tx 10 k).length<=63:=by rw[JD.qb0 (by omega)];exact JD.qex (by omega) (by omega)
 have HE:=hid (Qa8 k);clear hk hG;go_enter func24,ntmps24;go_wp2_with fail
 refine HI.out.mono ?_;rintro e w1 ⟨rfl,b1⟩;have HP:=hid (qtm (x:=⟨#[101,114,114,111,114,32]⟩++⟨(tx 10 k).toArray⟩) b1);unfold str;clear HI b1;go_wp2_with fail
 go_ret
 rw[HE.out];exact HP.out
theorem pok_any (A:Option Addr)(n c:Nat)(B:Option Addr)(k d:Nat)(D:Option Addr)(j f:Nat)(w:World):Calls prog 48 #[.agg #[.slice A n c,.slice B k d,.slice D j f]] w (OutP [okN] w):=by
 have ba:=zjB w (.cells #[.slice A n c,.slice B k d,.slice D j f] 64);go_enter func48,ntmps48;go_upto_region 1 with fail
 generalize w.alloc (.cells #[.slice A n c,.slice B k d,.slice D j f] 64)=w1 at *;have HP:=hid (qtm (x:=okN) ba);unfold okN at HP;clear ba;go_wp2_with fail
 go_ret
 exact HP.out
theorem Qg1 (A:Option Addr)(n c:Nat)(B:Option Addr)(k d:Nat)(D:Option Addr)(j f:Nat)(w:World)(hG:qev w)(hj:j<9223372036854775808):Calls prog 49 #[.agg #[.slice A n c,.slice B k d,.slice D j f]] w (OutP [str (tx 10 j)] w):=by
 have ba:=zjB w (.cells #[.slice A n c,.slice B k d,.slice D j f] 64);have ha:=zld w (.cells #[.slice A n c,.slice B k d,.slice D j f] 64);have HI:=hid fun (W:World) (h:qev W)=>JN.qtt j W h hj;clear hj;go_enter func49,ntmps49;go_upto_region 1 with fail
 generalize w.alloc (.cells #[.slice A n c,.slice B k d,.slice D j f] 64)=w1 at *;have d2:=zjc w.heap.size 2 ha;have Xa:=hid (HI.out w1 (hG.on ba));have HB:=hid ba;clear ha HI hG ba;go_wp2_with fail
 refine Xa.out.mono ?_;rintro e w2 ⟨rfl,b2⟩;have HP:=hid (qtm (x:=str (tx 10 j)) (HB.out.trans (b2.mono HB.out.size)));clear Xa HB b2;go_wp2_with fail
 go_ret
 exact HP.out
theorem Qc4 (ns:List ByteArray)(A:Option Addr)(n c:Nat)(B:Option Addr)(k d:Nat)(D:Option Addr)(j f:Nat)(w:World)(h:JS.Rd w w.heap.size B k ns):Calls prog 50 #[.agg #[.slice A n c,.slice B k d,.slice D j f]] w (OutP ns w):=by
 have ba:=zjB w (.cells #[.slice A n c,.slice B k d,.slice D j f] 64);have ha:=zld w (.cells #[.slice A n c,.slice B k d,.slice D j f] 64);have HB:=hid (And.intro ((h.below ba).more ba.size) ba);clear h ba;go_enter func50,ntmps50;go_upto_region 1 with fail
 generalize w.alloc (.cells #[.slice A n c,.slice B k d,.slice D j f] 64)=w1 at *;have d1:=zjc w.heap.size 1 ha;clear ha;go_wp2_with fail
 go_ret
 exact⟨_,_,_,rfl,HB.out.1,HB.out.2⟩
theorem qya (op:UInt8)(ns:List ByteArray)(x:List UInt8)(A:Option Addr)(n c:Nat)(B:Option Addr)(k d:Nat)(D:Option Addr)(j f:Nat)(w:World)(hG:qev w)(h:JS.Rd w w.heap.size B k ns)(hx:x.length=j)(hj:j<9223372036854775808):Calls prog (qmc op) #[.agg #[.slice A n c,.slice B k d,.slice D j f]] w (OutP (outL op ns x) w):=by
 unfold qmc outL;by_cases h1:op=116
 ·rw[if_pos h1,if_pos h1];exact Qc4 ns A n c B k d D j f w h
 ·rw[if_neg h1,if_neg h1];by_cases h2:op=120
  ·rw[if_pos h2,if_pos h2,hx];exact Qg1 A n c B k d D j f w hG hj
  ·rw[if_neg h2,if_neg h2];exact pok_any A n c B k d D j f w
theorem Qc5 (op:UInt8)(args:Array Value)(w:World):(callFunc (qmc op) args).run prog w=.ok (.enter (qmc op) args) w:=by
 unfold qmc;split
 ·exact qdq func50 (by kernel_rfl) rfl args w
 ·split
  ·exact qdq func49 (by kernel_rfl) rfl args w
  ·exact qdq func48 (by kernel_rfl) rfl args w
theorem prun12:RunC:=prun_any fun A n c l q w hG hr hnc hcm hB hq=>by
 obtain⟨ch,kn,v,h⟩:=Qfn q;exact Qfp A n c l q ch kn v w hG hr hnc hcm hB hq h
theorem qq7 (A:Option Addr)(n c:Nat)(l:List UInt8)(F:Option Addr)(fn fc:Nat)(fs:List Mem)(s:ByteArray)(w:World)(hG:qev w)(hr:JB.Rd w w.heap.size A n l)(hnc:n<=c)(hcm:c<=maxLen)(hB:BOk l)(hf:RdF w w.heap.size F fn fs)(hfo:FOk fs)(hfn:fn<=1000)(hs:s.size<=1000):
 Calls prog 16 #[.slice A n c,.slice F fn fc,.string s] w (LineP (qcs l fs s) w):=by
 have hn:n<=99000:=by rw[<-hr.1];exact hB.len
 have Yf:=hid hB;have Yi:=hid (And.intro hnc hcm);have Ys:=hid (Qg0 F fn fc fs s w hG.gnd hf hs hfn);have HL:Hid (qcs l fs s=qr4 l (ask fs (qfj 32 s)).1 (ask fs (qfj 32 s)).2):=hid rfl;have HE:=hid (ask_e fs (qfj 32 s));have Xi:=hid fun (h0:(ask fs (qfj 32 s)).2=0)=>(Qfv h0 hf zjn hfo (qtk hs)).1;have FB:=hid fun (W:World) (h:Below w.heap.size w W)=>h;have FA:=hid fun (W:World) (h:Below w.heap.size w W)=>(hr.below h).more h.size;have FG:=hid fun (W:World) (h:Below w.heap.size w W)=>hG.on h;generalize qcs l fs s=LS at *;generalize ask fs (qfj 32 s)=AS at *;clear hG hr hnc hcm hB hf hfo hs;go_enter func16,ntmps16;go_wp2_with fail
 refine Ys.out.mono ?_;rintro e w1 ⟨ov,kv,p,fv,q,rfl,hq,Yk,b1⟩;have HQ:=hid hq;have Xm:fv.oneCell'=true:=by rcases Yk with rfl|⟨G,rfl⟩<;>rfl
 have Yz:=fun (W:World) (a:Addr) (m:Mode)=>run_store prog W a fv m Xm;obtain⟨Xa,⟨m0,m1,m2,m3,m4,m5,m6,m7,m8⟩,qn,qz,qa⟩:=q;simp only[Cmd.val,Cmd.cells];obtain⟨w3,e3,Yt,Yb,Yc,Yv⟩:=qda w1 (.cells #[.int .u8 ov,.int .i64 kv,.bool p,fv] 52) (.cells #[.int .u8 (Xa.toNat:Int),.string m0,.int .i64 m1,.int .i64 m2,.int .i64 m3,.int .i64 m4,.slice m5 m6 m7,.string qn,.int .i64 qz,.string qa] 56);have b3:=b1.trans (Yt.mono b1.size);replace FB:=zjF FB b3;replace FA:=zjF FA b3;replace FG:=zjF FG b3;replace Xi:=hid fun (h0:AS.2=0)=>(((Xi.out h0).on b3).more b3.size zjn);have Kb:=zeroF w1;go_upto_region 2 with fail
 rw[<-e3];obtain⟨g,hg⟩:∃g,w1.heap.size=g:=⟨_,rfl⟩;rw[hg] at Yb Yc Yv |-;have FF:=hid fun (W:World) (h:Below w3.heap.size w3 W)=>(h.block g (by omega)).trans Yb;have FC:=hid fun (W:World) (h:Below w3.heap.size w3 W)=>(h.block (g+1) (by omega)).trans Yc;obtain⟨az,Xz⟩:∃az,AS.2=az:=⟨_,rfl⟩;have Xv:=hid Xz;rw[Xz] at HE HL |-;clear Ys hq b1 Yt Yb Yc Yv e3 b3 hg Kb Yk Xm Yz Xz;by_cases hz:az=0
 case neg=>
  have Ka:(az !=0)=true:=by simpa using hz
  have HX:=hid (HL.out.trans (qi9 hz));obtain⟨k,rfl⟩:∃k:Nat,az=(k:Int):=⟨az.toNat,by have:=HE.out.1;omega⟩;have HK:=hid (qc7 w3.heap.size A n c l w3 (FA.out w3 zjb) (by omega));have Xh:=hid fun (W:World) (h:qev W)=>qmv k (by have:=HE.out.2;omega) W h;clear HQ Xi FF FC HL Xv HE Yf hz FA;go_wp2_with fail
  refine HK.out.mono ?_;rintro e w4 ⟨D,dc,rfl,o4,b4⟩;have Yj:=hid (Xh.out w4 (FG.out w4 b4));have Xe:=hid (o4.more (FB.out w3 zjb).size);have Yd:=hid (FB.out w4 b4);clear HK Xh o4 b4 FG FB;go_wp2_with fail
  refine Yj.out.mono ?_;rintro e w5 ⟨B,kk,dd,rfl,Xd,b5⟩;have Xu:=hid (Xe.out.below b5);have Xc:=hid (Yd.out.trans (b5.mono Yd.out.size));have Yw:=hid Xd;clear Yj Xe Yd b5 Xd;go_wp2_with fail
  exact zlf (v:=.tuple #[.slice D n dc,.slice B kk dd,.int .i64 (k:Int)]) (by simp[results,results16,asAddr]) rfl ⟨D,n,dc,B,kk,dd,by rw[HX.out],by rw[HX.out];exact Xu.out,by rw[HX.out];exact Yw.out,Xc.out⟩
 subst hz;obtain⟨Xt,rfl⟩:=HQ.out Xv.out;have HR:=hid (prun12 A n c l ⟨Xa,⟨m0,m1,m2,m3,m4,m5,m6,m7,m8⟩,qn,qz,qa⟩ w3 (FG.out w3 zjb) (FA.out w3 zjb) Yi.out.1 Yi.out.2 Yf.out (by rw[Xt];exact Xi.out Xv.out));have Xf:Hid (qbs l ⟨Xa,⟨m0,m1,m2,m3,m4,m5,m6,m7,m8⟩,qn,qz,qa⟩=qbs l AS.1):=hid (by rw[Xt]);have Xr:Hid (Xa=AS.1.op):=hid (congrArg Cmd.op Xt);have Xg:=hid (runS_e l ⟨Xa,⟨m0,m1,m2,m3,m4,m5,m6,m7,m8⟩,qn,qz,qa⟩);have Xq:=hid (fun (h:(qbs l ⟨Xa,⟨m0,m1,m2,m3,m4,m5,m6,m7,m8⟩,qn,qz,qa⟩).2.2.2≠0)=>runS_err h);obtain⟨rs,Yu⟩:∃rs,qbs l ⟨Xa,⟨m0,m1,m2,m3,m4,m5,m6,m7,m8⟩,qn,qz,qa⟩=rs:=⟨_,rfl⟩;unfold RunQ at HR;simp only[Cmd.val,Cmd.cells] at HR;rw[Yu] at HR Xf Xg Xq;have Yy:=fun k=>zjc (g+1) k (FC.out w3 (Below.refl _ _));have Yx:=qrz (FC.out w3 zjb) rfl;clear Xt Yu HQ Xi Yf HE Xv;go_wp2_with fail
 have Yh:=hid (FB.out w3 zjb).size;refine HR.out.mono ?_;rintro e w4 ⟨A4,n4,c4,B4,k4,d4,D4,j4,f4,rfl,o1,o2,o3,_,b4⟩;have Yq:=hid (o1.more Yh.out);have Yp:=hid o2.reads;have Ym:=hid o3.reads;have ba:=zjB w4 (.cells #[.slice A4 n4 c4,.slice B4 k4 d4,.slice D4 j4 f4] 61);have ha:=zld w4 (.cells #[.slice A4 n4 c4,.slice B4 k4 d4,.slice D4 j4 f4] 61);have sa:=zlr w4 (.cells #[.slice A4 n4 c4,.slice B4 k4 d4,.slice D4 j4 f4] 61);have b5:=b4.trans (ba.mono b4.size);clear o1 o2 o3 HR Yx Yy b4;go_upto_region 5 with fail
 generalize w4.alloc (.cells #[.slice A4 n4 c4,.slice B4 k4 d4,.slice D4 j4 f4] 61)=w5 at *;have Xe:=hid (Yq.out.below ba)
 have Yg:Hid (JS.Rd w5 w5.heap.size B4 k4 rs.2.1):=hid (by
  obtain⟨_,_,e1,h1,_⟩:=Yp.out;injection e1 with e2 _ e3;subst e2 e3;exact (h1.below ba).more ba.size)
 have Xw:Hid (rs.2.2.1.length=j4/\j4<9223372036854775808):=hid (by
  obtain⟨_,_,e1,h1,h2,h3⟩:=Ym.out;injection e1 with e2 _ e3;subst e2 e3;exact⟨h1.1,by unfold maxLen at h3;omega⟩)
 obtain⟨u,hu⟩:∃u,w4.heap.size=u:=⟨_,rfl⟩;rw[hu] at ha sa |-;have Kc:u<w5.heap.size:=by omega
 have HU:=hid ha;have Xp:=hid (FF.out w5 b5);have Xc:=hid (FB.out w5 b5);have Xs:=hid (FG.out w5 b5);clear ba ha sa hu b5 Yq Yp Ym Yh FF FB FG FA FC;obtain⟨rz,Xy⟩:∃rz,rs.2.2.2=rz:=⟨_,rfl⟩;have Xk:=hid Xy;rw[Xy] at Xg Xq |-;clear Xy;by_cases hz2:rz=0
 case neg=>
  have Ka:(rz !=0)=true:=by simpa using hz2
  have HX:Hid (LS=(l,errL rz,rz)):=hid (by rw[HL.out,qia (by rw[<-Xf.out,Xk.out];exact hz2),<-Xf.out,Xk.out]);have Xu:Hid (JB.Own w5 w.heap.size (.slice A4 n4 c4) n4 l):=hid (by have:=Xe.out;rw[Xq.out hz2] at this;exact this);obtain⟨k,rfl⟩:∃k:Nat,rz=(k:Int):=⟨rz.toNat,by have:=Xg.out.1;omega⟩;have Xh:=hid fun (W:World) (h:qev W)=>qmv k (by have:=Xg.out.2;omega) W h;clear HL Xf Xr Xg Xq Xk Xe Yg Xw Xp hz2;go_upto_region 6 with fail
  have Xn:Below w5.heap.size w5 w5.drew:=(Below.refl _ _).drew;have hS:(fun W=>W.heap[u]?=some (.cells #[.slice A4 n4 c4,.slice B4 k4 d4,.slice D4 j4 f4] 61 (0,0))) w5.drew:=HU.out;have Xb:=hid Xn;refine Ord.qaf.begin (fun W=>W.heap[u]?=some (.cells #[.slice A4 n4 c4,.slice B4 k4 d4,.slice D4 j4 f4] 61 (0,0))) 7 (by kernel_rfl) ?_;generalize w5.drew=wd at *;clear Xn;refine zjV 0 35 hS ?_;refine zjV 1 36 hS ?_ (hy:=by intro v hv;have d0:=zlc _ u 0 _ _ _ hv;go_simp;first|done|rfl);refine zjV 2 37 hS ?_;refine zjV 4 39 hS ?_;refine Ord.qaf.step 3 (by kernel_rfl) rfl (fun C hC=>?_);go_simp;go_at_call 24;refine (Xh.out wd (Xs.out.on Xb.out)).mono ?_;rintro e w6 ⟨B,kk,dd,rfl,Xd,b6⟩;have Xj:u<wd.heap.size:=(zla.1 hS).1;replace hS:(fun W=>W.heap[u]?=some (.cells #[.slice A4 n4 c4,.slice B4 k4 d4,.slice D4 j4 f4] 61 (0,0))) w6:=(b6.block u Xj).trans hS;have Xx:=hid Xd;have Ya:=hid ((Xu.out.below Xb.out).below b6);have Ye:=hid ((Xc.out.trans (Xb.out.mono Xc.out.size)).trans (b6.mono (Nat.le_trans Xc.out.size Xb.out.size)));clear b6 Xd Xj Xh Xu Xc Xb Xs HU;go_wp2_with fail
  refine hC.out _ _ (fun _=>hS) ?_;clear hC C;try simp only[zjA]
  refine Ord.qaf.step 5 (by kernel_rfl) rfl (fun C hC=>?_);go_simp;refine hC.out _ _ (fun _=>hS) ?_;clear hC C;try simp only[zjA]
  refine Ord.qaf.step 6 (by kernel_rfl) rfl (fun C hC=>?_);go_simp;refine hC.out _ _ (fun _=>hS) ?_;clear hC C;try simp only[zjA]
  refine Ord.qaf.step 7 (by kernel_rfl) rfl (fun C hC=>?_);go_simp;refine hC.out _ _ (fun _=>hS) ?_;clear hC C;try simp only[zjA]
  refine Ord.qaf.done (by kernel_rfl) ?_ _;go_wp2_with fail
  exact zlf (v:=.tuple #[.slice A4 n4 c4,.slice B kk dd,.int .i64 (k:Int)]) (by simp[results,results16,asAddr]) rfl ⟨A4,n4,c4,B,kk,dd,by rw[HX.out],by rw[HX.out];exact Ya.out,by rw[HX.out];exact Xx.out,Ye.out⟩
 subst hz2;have HX:Hid (LS=(rs.1,outL Xa rs.2.1 rs.2.2.1,0)):=hid (by rw[HL.out,qiw (by rw[<-Xf.out];exact Xk.out),<-Xf.out,<-Xr.out]);rw[<-Xr.out] at Xp;have Yr:=hid fun (W:World) (h:Below w5.heap.size w5 W)=>qya Xa rs.2.1 rs.2.2.1 A4 n4 c4 B4 k4 d4 D4 j4 f4 W (Xs.out.on h) ((Yg.out.below h).more h.size) Xw.out.1 Xw.out.2;have Kd:=Qc5 Xa;unfold fnV at Xp;clear HL Xf Xr Xg Xq Xk Yg Xw Xs;go_upto_region 7 with fail
 have Xn:Below w5.heap.size w5 w5.drew:=(Below.refl _ _).drew;have hS:(fun W=>W.heap[u]?=some (.cells #[.slice A4 n4 c4,.slice B4 k4 d4,.slice D4 j4 f4] 61 (0,0))/\W.heap[g]?=some (.cells #[.int .u8 ov,.int .i64 kv,.bool p,.func (.func (qmc Xa)) #[] #[]] 52 (0,0))) w5.drew:=⟨HU.out,Xp.out⟩;have Xb:=hid Xn;refine Ord.qaf.begin (fun W=>W.heap[u]?=some (.cells #[.slice A4 n4 c4,.slice B4 k4 d4,.slice D4 j4 f4] 61 (0,0))/\W.heap[g]?=some (.cells #[.int .u8 ov,.int .i64 kv,.bool p,.func (.func (qmc Xa)) #[] #[]] 52 (0,0))) 8 (by kernel_rfl) ?_;generalize w5.drew=wd at *;clear Xn;refine zjV 0 40 hS ?_;refine zjV 1 41 hS ?_ (hy:=by intro v hv;have d0:=zlc _ u 0 _ _ _ hv.1;have d1:=zlc _ u 1 _ _ _ hv.1;have d2:=zlc _ u 2 _ _ _ hv.1;have q3:=zlc _ g 3 _ _ _ hv.2;have hl:=run_loadVar_row (P:=prog) _ _ 61 61 _ (0,0) _ hv.1 underlying61 rfl (by kernel_rfl);go_simp;first|done|rfl);refine zjV 2 42 hS ?_;refine zjV 3 43 hS ?_ (hy:=by intro v hv;have d0:=zlc _ u 0 _ _ _ hv.1;have d1:=zlc _ u 1 _ _ _ hv.1;have d2:=zlc _ u 2 _ _ _ hv.1;have q3:=zlc _ g 3 _ _ _ hv.2;have hl:=run_loadVar_row (P:=prog) _ _ 61 61 _ (0,0) _ hv.1 underlying61 rfl (by kernel_rfl);go_simp;first|done|rfl);refine zjV 4 44 hS ?_ (x:=(.agg #[.slice A4 n4 c4,.slice B4 k4 d4,.slice D4 j4 f4])) (hy:=by intro v hv;have d0:=zlc _ u 0 _ _ _ hv.1;have d1:=zlc _ u 1 _ _ _ hv.1;have d2:=zlc _ u 2 _ _ _ hv.1;have q3:=zlc _ g 3 _ _ _ hv.2;have hl:=run_loadVar_row (P:=prog) _ _ 61 61 _ (0,0) _ hv.1 underlying61 rfl (by kernel_rfl);go_simp;first|done|rfl);refine Ord.qaf.step 5 (by kernel_rfl) rfl (fun C hC=>?_);go_simp;refine (Yr.out wd Xb.out).mono ?_;rintro e w6 ⟨B,kk,dd,rfl,Xd,b6⟩;have Xj:u<wd.heap.size:=(zla.1 hS.1).1;have Yn:g<wd.heap.size:=(zla.1 hS.2).1;replace hS:(fun W=>W.heap[u]?=some (.cells #[.slice A4 n4 c4,.slice B4 k4 d4,.slice D4 j4 f4] 61 (0,0))/\W.heap[g]?=some (.cells #[.int .u8 ov,.int .i64 kv,.bool p,.func (.func (qmc Xa)) #[] #[]] 52 (0,0))) w6:=⟨(b6.block u Xj).trans hS.1,(b6.block g Yn).trans hS.2⟩;have Xx:=hid Xd;have Ya:=hid ((Xe.out.below Xb.out).below b6);have Ye:=hid ((Xc.out.trans (Xb.out.mono Xc.out.size)).trans (b6.mono (Nat.le_trans Xc.out.size Xb.out.size)));clear b6 Xd Xj Yn Yr Xe Xc Xb HU Xp;go_wp2_with fail
 refine hC.out _ _ (fun _=>hS) ?_;clear hC C;try simp only[zjA]
 refine Ord.qaf.step 6 (by kernel_rfl) rfl (fun C hC=>?_);go_simp;refine hC.out _ _ (fun _=>hS) ?_;clear hC C;try simp only[zjA]
 refine Ord.qaf.step 7 (by kernel_rfl) rfl (fun C hC=>?_);go_simp;refine hC.out _ _ (fun _=>hS) ?_;clear hC C;try simp only[zjA]
 refine Ord.qaf.step 8 (by kernel_rfl) rfl (fun C hC=>?_);go_simp;refine hC.out _ _ (fun _=>hS) ?_;clear hC C;try simp only[zjA]
 refine Ord.qaf.done (by kernel_rfl) ?_ _;go_wp2_with fail
 exact zlf (v:=.tuple #[.slice A4 n4 c4,.slice B kk dd,.int .i64 0]) (by simp[results,results16,asAddr]) rfl ⟨A4,n4,c4,B,kk,dd,by rw[HX.out],by rw[HX.out];exact Ya.out,by rw[HX.out];exact Xx.out,Ye.out⟩
end Lsc
namespace Lsc
open JB
open JN (bts str qac qaw qa2 Gnd qev)
open JR (Mem ar)
open JL
open JS (Oth)
open JW (qai)
open JE (qc7)
theorem qq8 (A:Option Addr)(n c:Nat)(l:List UInt8)(F:Option Addr)(fn fc:Nat)(fs:List Mem)(s:ByteArray)(N S:Nat)(w:World)(hG:qev w)(hr:JB.Rd w w.heap.size A n l)(hn:n<=99000)(hS:qn4 l fs (qbm s) N S)(hf:RdF w w.heap.size F fn fs)(hfn:fn<=1000)(hs:s.size<=100000):
 Calls prog 10 #[.slice A n c,.slice F fn fc,.string s] w (ScrP (qj4 l fs (qbm s)) w):=by
 have HS:=hid hS;have HF:=hid fun (W:World) (h:Below w.heap.size w W)=>(hf.below h).more h.size;have FG:=hid fun (W:World) (h:Below w.heap.size w W)=>hG.on h;have Xn:=hid fun (W:World) (h:Gnd W)=>qmb s W h hs;have Yd:(qbm s).length<=200:=by have:=hS.n;omega
 have HK:=hid (qc7 w.heap.size A n c l w hr (by omega));generalize qbm s=ls at *;clear hS hf hr hG;go_enter func10,ntmps10;go_wp2_with fail
 refine HK.out.mono ?_;rintro e w0 ⟨D,dc,rfl,o0,b0⟩;have Xr:=hid (Xn.out w0 (FG.out w0 b0).gnd);have Xf:=hid o0;have Xi:=hid b0;clear HK Xn o0 b0;go_wp2_with fail
 refine Xr.out.mono ?_;rintro e w1 ⟨L,m,d,rfl,hL,Yg,Yf,b1⟩;have HL:=hid fun (W:World) (h:Below w1.heap.size w1 W)=>(hL.below h).more h.size;have Hm:=hid hL.1;have Yi:m<=200:=by rw[<-hL.1];exact Yd
 have Xh:=hid (Xi.out.trans (b1.mono Xi.out.size));have Xp:Hid (w.heap.size<=w1.heap.size):=hid Xh.out.size;have Xu:=hid (Xf.out.below b1)
 have Xy:Hid (n<=dc):=hid (by
  obtain⟨_,_,e1,_,h1,_⟩:=Xf.out.reads;injection e1 with _ _ e3;subst e3;exact h1)
 have Ye:Hid (dc<=maxLen):=hid (by
  obtain⟨_,_,e1,_,_,h1⟩:=Xf.out.reads;injection e1 with _ _ e3;subst e3;exact h1)
 clear Xr hL b1 Xf Xi;go_wp2_with fail
 go_loopw [8,9,18] (fun b v i W=>∃(k:Nat)(A1:Option Addr)(n1 c1:Nat)(la:List UInt8)(B1:Option Addr)(m1 d1:Nat)(out:List ByteArray),b=.slice A1 n1 c1/\v=.slice B1 m1 d1/\i=.int .i64 (k:Int)/\k<=m/\Hid (n1<=c1/\c1<=maxLen)/\m1<=200 * k/\JB.Own W w.heap.size (.slice A1 n1 c1) n1 la/\JS.Own W w1.heap.size (.slice B1 m1 d1) m1 out/\Hid (qj4 l fs (ls.take k)=(la,out))/\Below w1.heap.size w1 W) (fun _ _ i _=>m-(intOf i).toNat)
 case atStart=>exact⟨0,D,n,dc,l,none,0,0,[],rfl,rfl,rfl,by omega,hid ⟨Xy.out,Ye.out⟩,by omega,Xu.out,JS.Own.nil _ _,hid rfl,Below.refl _ _⟩
 case round=>
  obtain⟨k,A1,n1,c1,la,B1,m1,d1,out,rfl,rfl,rfl,hk,Xa,Yh,hA,hO,hR,hb⟩:=hrel;have Xv:=hb.size;by_cases hlt:k<m
  ·have Xb:k<ls.length:=by have:=Hm.out;omega
   have Xz:(k:Int)<(m:Int):=by omega
   obtain⟨b,o,rfl,Yj,c0⟩:=(HL.out wr hb).2 k Xb;have hB:=HS.out.bok Xb;have Xe:=HS.out.out Xb;have Xt:=HS.out.l ls[k] (zlq Xb);have HN:=hid (qw6 (l:=l) (fs:=fs) Xb);rw[hR.out] at hB Xe;have Xg:=Xh.out.trans (hb.mono Xp.out)
   have Xk:JB.Rd wr wr.heap.size A1 n1 la:=by
    obtain⟨_,_,e1,h1,_⟩:=hA.reads;injection e1 with e2 _ e3;subst e2 e3;exact h1
   have HX:=hid (qq7 A1 n1 c1 la F fn fc fs ls[k] wr (FG.out wr Xg) Xk Xa.out.1 Xa.out.2 hB (HF.out wr Xg) HS.out.f hfn Xt);rw[hR.out] at HN;clear hB Xt Xk;generalize ls[k]=t at *;obtain⟨X,hX⟩:∃X,qcs la fs t=X:=⟨_,rfl⟩;simp only[hX] at HX HN Xe;clear hX hA Xa;go_wp2_with fail
   refine HX.out.mono ?_;rintro e w2 ⟨A2,n2,c2,B2,k2,d2,rfl,oA,Xm,b2⟩;have Ya:=oA.more Xg.size;have Yb:=hO.below b2;have Xs:=hb.trans (b2.mono Xv);have Yk:k2<=200:=by rw[<-Xm.1];exact Xe
   obtain⟨_,_,ee,_,Xc,Xd⟩:=oA.reads;injection ee with ee2 _ ee3;subst ee2 ee3;have Xw:=hid (And.intro Xc Xd);have Xj:=hid Xs.size;clear HX oA b2 Xe c0 hO Xg Xc Xd;go_wp2_with (at_builtin;go_must (refine JS.qah w2 w1.heap.size (.slice B1 m1 d1) m1 out Yb Xj.out B2 k2 d2 w2.heap.size X.2.1 Xm (by omega) rfl (.tmp 30) (.tmp 31) rfl rfl rfl ?_);intro v3 w3 Xq Xx Yc _;obtain⟨A3,d3,rfl,_⟩:=Xq.reads)
   go_roundw
   case rel=>exact⟨k+1,A2,n2,c2,X.1,A3,m1+k2,d3,out++X.2.1,rfl,rfl,by go_num,by omega,Xw,by omega,qai Ya Yc (by decide),Xq,HN,Xs.trans Xx⟩
   case measure=>simp[intOf];omega
  ·obtain rfl:k=m:=by omega
   have Xz:¬(k:Int)<(k:Int):=by omega
   have HE:Hid (qj4 l fs ls=(la,out)):=hid (by have:=hR.out;rwa [zlj (by have:=Hm.out;omega)] at this);obtain⟨_,_,ee,hQ,_⟩:=hO.reads;injection ee with ee2 _ ee3;subst ee2 ee3;have HA:=hid hA;have HQ:=hid hQ;have HB:=hid hb;clear hA hQ hb hO hR;go_wp2_with fail
   exact zlf (v:=.tuple #[.slice A1 n1 c1,.slice B1 m1 d1]) (by simp[results,results10,asAddr]) rfl ⟨A1,n1,c1,B1,m1,d1,rfl,by rw[HE.out];exact HA.out,by rw[HE.out];exact HQ.out,Xh.out.trans (HB.out.mono Xp.out)⟩
end Lsc
end Go.Proofs.YtlmolmohhpdhdaaGreatDoor
