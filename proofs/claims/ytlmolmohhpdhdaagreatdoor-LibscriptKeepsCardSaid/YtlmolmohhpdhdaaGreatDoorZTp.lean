/-
  libscript: the program's outputs, and its
-/
import Derived.Test.YtlmolmohhpdhdaaGreatDoorZTn
import Derived.Test.YtlmolmohhpdhdaaGreatDoorZTh
import Derived.Test.YtlmolmohhpdhdaaGreatDoorZLyc
import Derived.BigQuiet
set_option maxRecDepth 100000
set_option maxHeartbeats 16000000
set_option linter.unusedSimpArgs false
set_option linter.unusedVariables false
namespace Go.Proofs.YtlmolmohhpdhdaaGreatDoor
open Go.RowKit Go.Proofs
namespace Lsc
open JB
open JN (bts str qa8 qak qa0 Gnd qcj)
open JR (Mem ar)
open JL
open JD (tx)
open JE (qbu)
def OutP (l:List ByteArray)(w:World)(e:Ending)(w':World):Prop:=
 ∃(B:Option Addr)(k d:Nat),e=.returned (.slice B k d)∧JS.Rd w' w'.heap.size B k l∧Below w.heap.size w w'
theorem qqh {w0 w:World}{x:ByteArray}(hb:Below w0.heap.size w0 w):OutP [x] w0 (.returned (.slice (some ⟨w.heap.size,0,none⟩) 1 1)) (w.alloc (.cells #[.string x] 9)):=
 ⟨_,1,1,rfl,(JS.Rd.lit w [x] #[.string x] rfl 1 rfl).more (by simp),hb.trans (((Below.refl w.heap.size w).alloc zjn _).mono hb.size)⟩
theorem qjy (k:Nat)(hk:k≤17)(w:World)(hG:qcj w):Calls Tryz.prog 24 #[.int .i64 (k:Int)] w (OutP (errL (k:Int)) w):=by
 have HI:=hid (JN.qqp k w hG (by omega))
 have hlen:(tx 10 k).length≤63:=by rw[JD.qbd (by omega)];exact JD.qhs (by omega) (by omega)
 have HE:=hid (qwb k)
 clear hk hG
 go_enter Tryz.func24,Tryz.ntmps24
 go_wp2_with fail
 refine HI.out.mono ?_
 rintro e w1 ⟨rfl,b1⟩
 have HP:=hid (qqh (x:=⟨#[101,114,114,111,114,32]⟩++⟨(tx 10 k).toArray⟩) b1)
 unfold str
 clear HI b1
 go_wp2_with fail
 go_ret
 rw[HE.out]
 exact HP.out
theorem pok_any (A:Option Addr)(n c:Nat)(B:Option Addr)(k d:Nat)(D:Option Addr)(j f:Nat)(w:World):Calls Tryz.prog 48 #[.agg #[.slice A n c,.slice B k d,.slice D j f]] w (OutP [okN] w):=by
 have ba:=zjB w (.cells #[.slice A n c,.slice B k d,.slice D j f] 64)
 go_enter Tryz.func48,Tryz.ntmps48
 go_upto_region 1 with fail
 generalize w.alloc (.cells #[.slice A n c,.slice B k d,.slice D j f] 64)=w1 at *
 have HP:=hid (qqh (x:=okN) ba)
 unfold okN at HP
 clear ba
 go_wp2_with fail
 go_ret
 exact HP.out
theorem Qbd (A:Option Addr)(n c:Nat)(B:Option Addr)(k d:Nat)(D:Option Addr)(j f:Nat)(w:World)(hG:qcj w)(hj:j<9223372036854775808):Calls Tryz.prog 49 #[.agg #[.slice A n c,.slice B k d,.slice D j f]] w (OutP [str (tx 10 j)] w):=by
 have ba:=zjB w (.cells #[.slice A n c,.slice B k d,.slice D j f] 64)
 have ha:=heap_alloc_new w (.cells #[.slice A n c,.slice B k d,.slice D j f] 64)
 have HI:=hid fun (W:World) (h:qcj W)=>JN.qqp j W h hj
 clear hj
 go_enter Tryz.func49,Tryz.ntmps49
 go_upto_region 1 with fail
 generalize w.alloc (.cells #[.slice A n c,.slice B k d,.slice D j f] 64)=w1 at *
 have d2:=zjc w.heap.size 2 ha
 have HI1:=hid (HI.out w1 (hG.on ba))
 have HB:=hid ba
 clear ha HI hG ba
 go_wp2_with fail
 refine HI1.out.mono ?_
 rintro e w2 ⟨rfl,b2⟩
 have HP:=hid (qqh (x:=str (tx 10 j)) (HB.out.trans (b2.mono HB.out.size)))
 clear HI1 HB b2
 go_wp2_with fail
 go_ret
 exact HP.out
theorem qxx (ns:List ByteArray)(A:Option Addr)(n c:Nat)(B:Option Addr)(k d:Nat)(D:Option Addr)(j f:Nat)(w:World)(h:JS.Rd w w.heap.size B k ns):Calls Tryz.prog 50 #[.agg #[.slice A n c,.slice B k d,.slice D j f]] w (OutP ns w):=by
 have ba:=zjB w (.cells #[.slice A n c,.slice B k d,.slice D j f] 64)
 have ha:=heap_alloc_new w (.cells #[.slice A n c,.slice B k d,.slice D j f] 64)
 have HB:=hid (And.intro ((h.below ba).more ba.size) ba)
 clear h ba
 go_enter Tryz.func50,Tryz.ntmps50
 go_upto_region 1 with fail
 generalize w.alloc (.cells #[.slice A n c,.slice B k d,.slice D j f] 64)=w1 at *
 have d1:=zjc w.heap.size 1 ha
 clear ha
 go_wp2_with fail
 go_ret
 exact⟨_,_,_,rfl,HB.out.1,HB.out.2⟩
theorem qud (op:UInt8)(ns:List ByteArray)(x:List UInt8)(A:Option Addr)(n c:Nat)(B:Option Addr)(k d:Nat)(D:Option Addr)(j f:Nat)(w:World)(hG:qcj w)(h:JS.Rd w w.heap.size B k ns)(hx:x.length=j)(hj:j<9223372036854775808):Calls Tryz.prog (qjg op) #[.agg #[.slice A n c,.slice B k d,.slice D j f]] w (OutP (outL op ns x) w):=by
 unfold qjg outL
 by_cases h1:op=116
 ·rw[if_pos h1,if_pos h1];exact qxx ns A n c B k d D j f w h
 ·rw[if_neg h1,if_neg h1]
  by_cases h2:op=120
  ·rw[if_pos h2,if_pos h2,hx];exact Qbd A n c B k d D j f w hG hj
  ·rw[if_neg h2,if_neg h2];exact pok_any A n c B k d D j f w
theorem qxy (op:UInt8)(args:Array Value)(w:World):(callFunc (qjg op) args).run Tryz.prog w=.ok (.enter (qjg op) args) w:=by
 unfold qjg
 split
 ·exact qct Tryz.func50 (by kernel_rfl) rfl args w
 ·split
  ·exact qct Tryz.func49 (by kernel_rfl) rfl args w
  ·exact qct Tryz.func48 (by kernel_rfl) rfl args w
theorem prun12:RunC:=prun_any fun A n c l q w hG hr hnc hcm hB hq=>by
 obtain⟨ch,kn,v,h⟩:=Qb1 q
 exact Qb2 A n c l q ch kn v w hG hr hnc hcm hB hq h
theorem qiv (A:Option Addr)(n c:Nat)(l:List UInt8)(F:Option Addr)(fn fc:Nat)(fs:List Mem)(s:ByteArray)(w:World)(hG:qcj w)(hr:JB.Rd w w.heap.size A n l)(hnc:n≤c)(hcm:c≤maxLen)(hB:BOk l)(hf:RdF w w.heap.size F fn fs)(hfo:FOk fs)(hfn:fn≤1000)(hs:s.size≤1000):
 Calls Tryz.prog 16 #[.slice A n c,.slice F fn fc,.string s] w (LineP (qbf l fs s) w):=by
 have hn:n≤99000:=by rw[←hr.1];exact hB.len
 have HBk:=hid hB
 have Hnc:=hid (And.intro hnc hcm)
 have HRd:=hid (Qbc F fn fc fs s w hG.gnd hf hs hfn)
 have HL:Hid (qbf l fs s=qn4 l (ask fs (qd9 32 s)).1 (ask fs (qd9 32 s)).2):=hid rfl
 have HE:=hid (ask_e fs (qd9 32 s))
 have HCM:=hid fun (h0:(ask fs (qd9 32 s)).2=0)=>(ask_cmd h0 hf zjn hfo (qw5 hs)).1
 have FB:=hid fun (W:World) (h:Below w.heap.size w W)=>h
 have FA:=hid fun (W:World) (h:Below w.heap.size w W)=>(hr.below h).more h.size
 have FG:=hid fun (W:World) (h:Below w.heap.size w W)=>hG.on h
 generalize qbf l fs s=LS at *
 generalize ask fs (qd9 32 s)=AS at *
 clear hG hr hnc hcm hB hf hfo hs
 go_enter Tryz.func16,Tryz.ntmps16
 go_wp2_with fail
 refine HRd.out.mono ?_
 rintro e w1 ⟨ov,kv,p,fv,q,rfl,hq,hfv,b1⟩
 have HQ:=hid hq
 have hone:fv.oneCell'=true:=by rcases hfv with rfl|⟨G,rfl⟩<;>rfl
 have hst:=fun (W:World) (a:Addr) (m:Mode)=>run_store Tryz.prog W a fv m hone
 obtain⟨qop,⟨m0,m1,m2,m3,m4,m5,m6,m7,m8⟩,qn,qz,qa⟩:=q
 simp only[Cmd.val,Cmd.cells]
 obtain⟨w3,e3,hb3,hF3,hC3,hs3⟩:=qcr w1 (.cells #[.int .u8 ov,.int .i64 kv,.bool p,fv] 52) (.cells #[.int .u8 (qop.toNat:Int),.string m0,.int .i64 m1,.int .i64 m2,.int .i64 m3,.int .i64 m4,.slice m5 m6 m7,.string qn,.int .i64 qz,.string qa] 56)
 have b3:=b1.trans (hb3.mono b1.size)
 replace FB:=zjF FB b3
 replace FA:=zjF FA b3
 replace FG:=zjF FG b3
 replace HCM:=hid fun (h0:AS.2=0)=>(((HCM.out h0).on b3).more b3.size zjn)
 have hz1:=zeroF w1
 go_upto_region 2 with fail
 rw[←e3]
 obtain⟨g,hg⟩:∃g,w1.heap.size=g:=⟨_,rfl⟩
 rw[hg] at hF3 hC3 hs3 ⊢
 have FF:=hid fun (W:World) (h:Below w3.heap.size w3 W)=>(h.block g (by omega)).trans hF3
 have FC:=hid fun (W:World) (h:Below w3.heap.size w3 W)=>(h.block (g+1) (by omega)).trans hC3
 obtain⟨az,haz⟩:∃az,AS.2=az:=⟨_,rfl⟩
 have HAZ:=hid haz
 rw[haz] at HE HL ⊢
 clear HRd hq b1 hb3 hF3 hC3 hs3 e3 b3 hg hz1 hfv hone hst haz
 by_cases hz:az=0
 case neg=>
  have hzb:(az !=0)=true:=by simpa using hz
  have HX:=hid (HL.out.trans (qh1 hz))
  obtain⟨k,rfl⟩:∃k:Nat,az=(k:Int):=⟨az.toNat,by have:=HE.out.1;omega⟩
  have HK:=hid (qbu w3.heap.size A n c l w3 (FA.out w3 zjb) (by omega))
  have HFL:=hid fun (W:World) (h:qcj W)=>qjy k (by have:=HE.out.2;omega) W h
  clear HQ HCM FF FC HL HAZ HE HBk hz FA
  go_wp2_with fail
  refine HK.out.mono ?_
  rintro e w4 ⟨D,dc,rfl,o4,b4⟩
  have HFW:=hid (HFL.out w4 (FG.out w4 b4))
  have HO4:=hid (o4.more (FB.out w3 zjb).size)
  have HB4:=hid (FB.out w4 b4)
  clear HK HFL o4 b4 FG FB
  go_wp2_with fail
  refine HFW.out.mono ?_
  rintro e w5 ⟨B,kk,dd,rfl,hrd,b5⟩
  have HO5:=hid (HO4.out.below b5)
  have HB5:=hid (HB4.out.trans (b5.mono HB4.out.size))
  have HR5:=hid hrd
  clear HFW HO4 HB4 b5 hrd
  go_wp2_with fail
  exact bodyPost_ret (v:=.tuple #[.slice D n dc,.slice B kk dd,.int .i64 (k:Int)]) (by simp[results,Tryz.results16,asAddr]) rfl ⟨D,n,dc,B,kk,dd,by rw[HX.out],by rw[HX.out];exact HO5.out,by rw[HX.out];exact HR5.out,HB5.out⟩
 subst hz
 obtain⟨hqe,rfl⟩:=HQ.out HAZ.out
 have HR:=hid (prun12 A n c l ⟨qop,⟨m0,m1,m2,m3,m4,m5,m6,m7,m8⟩,qn,qz,qa⟩ w3 (FG.out w3 zjb) (FA.out w3 zjb) Hnc.out.1 Hnc.out.2 HBk.out (by rw[hqe];exact HCM.out HAZ.out))
 have HRS:Hid (qbp l ⟨qop,⟨m0,m1,m2,m3,m4,m5,m6,m7,m8⟩,qn,qz,qa⟩=qbp l AS.1):=hid (by rw[hqe])
 have HOQ:Hid (qop=AS.1.op):=hid (congrArg Cmd.op hqe)
 have HER:=hid (runS_e l ⟨qop,⟨m0,m1,m2,m3,m4,m5,m6,m7,m8⟩,qn,qz,qa⟩)
 have HLE:=hid (fun (h:(qbp l ⟨qop,⟨m0,m1,m2,m3,m4,m5,m6,m7,m8⟩,qn,qz,qa⟩).2.2.2≠0)=>runS_err h)
 obtain⟨rs,hrs⟩:∃rs,qbp l ⟨qop,⟨m0,m1,m2,m3,m4,m5,m6,m7,m8⟩,qn,qz,qa⟩=rs:=⟨_,rfl⟩
 unfold RunQ at HR
 simp only[Cmd.val,Cmd.cells] at HR
 rw[hrs] at HR HRS HER HLE
 have zzy:=fun k=>zjc (g+1) k (FC.out w3 (Below.refl _ _))
 have hlc:=qpa (FC.out w3 zjb) rfl
 clear hqe hrs HQ HCM HBk HE HAZ
 go_wp2_with fail
 have Hle:=hid (FB.out w3 zjb).size
 refine HR.out.mono ?_
 rintro e w4 ⟨A4,n4,c4,B4,k4,d4,D4,j4,f4,rfl,o1,o2,o3,_,b4⟩
 have HO1:=hid (o1.more Hle.out)
 have HO2:=hid o2.reads
 have HO3:=hid o3.reads
 have ba:=zjB w4 (.cells #[.slice A4 n4 c4,.slice B4 k4 d4,.slice D4 j4 f4] 61)
 have ha:=heap_alloc_new w4 (.cells #[.slice A4 n4 c4,.slice B4 k4 d4,.slice D4 j4 f4] 61)
 have sa:=World.size_alloc w4 (.cells #[.slice A4 n4 c4,.slice B4 k4 d4,.slice D4 j4 f4] 61)
 have b5:=b4.trans (ba.mono b4.size)
 clear o1 o2 o3 HR hlc zzy b4
 go_upto_region 5 with fail
 generalize w4.alloc (.cells #[.slice A4 n4 c4,.slice B4 k4 d4,.slice D4 j4 f4] 61)=w5 at *
 have HO4:=hid (HO1.out.below ba)
 have HN4:Hid (JS.Rd w5 w5.heap.size B4 k4 rs.2.1):=hid (by
  obtain⟨_,_,e1,h1,_⟩:=HO2.out
  injection e1 with e2 _ e3
  subst e2 e3
  exact (h1.below ba).more ba.size)
 have HD4:Hid (rs.2.2.1.length=j4∧j4<9223372036854775808):=hid (by
  obtain⟨_,_,e1,h1,h2,h3⟩:=HO3.out
  injection e1 with e2 _ e3
  subst e2 e3
  exact⟨h1.1,by unfold maxLen at h3;omega⟩)
 obtain⟨u,hu⟩:∃u,w4.heap.size=u:=⟨_,rfl⟩
 rw[hu] at ha sa ⊢
 have hul:u<w5.heap.size:=by omega
 have HU:=hid ha
 have HF5:=hid (FF.out w5 b5)
 have HB5:=hid (FB.out w5 b5)
 have HG5:=hid (FG.out w5 b5)
 clear ba ha sa hu b5 HO1 HO2 HO3 Hle FF FB FG FA FC
 obtain⟨rz,hrz⟩:∃rz,rs.2.2.2=rz:=⟨_,rfl⟩
 have Hrz:=hid hrz
 rw[hrz] at HER HLE ⊢
 clear hrz
 by_cases hz2:rz=0
 case neg=>
  have hzb:(rz !=0)=true:=by simpa using hz2
  have HX:Hid (LS=(l,errL rz,rz)):=hid (by rw[HL.out,qf7 (by rw[←HRS.out,Hrz.out];exact hz2),←HRS.out,Hrz.out])
  have HO5:Hid (JB.Own w5 w.heap.size (.slice A4 n4 c4) n4 l):=hid (by have:=HO4.out;rw[HLE.out hz2] at this;exact this)
  obtain⟨k,rfl⟩:∃k:Nat,rz=(k:Int):=⟨rz.toNat,by have:=HER.out.1;omega⟩
  have HFL:=hid fun (W:World) (h:qcj W)=>qjy k (by have:=HER.out.2;omega) W h
  clear HL HRS HOQ HER HLE Hrz HO4 HN4 HD4 HF5 hz2
  go_upto_region 6 with fail
  have hbd:Below w5.heap.size w5 w5.drew:=(Below.refl _ _).drew
  have hS:(fun W=>W.heap[u]?=some (.cells #[.slice A4 n4 c4,.slice B4 k4 d4,.slice D4 j4 f4] 61 (0,0))) w5.drew:=HU.out
  have HBd:=hid hbd
  refine Ord.qaf.begin (fun W=>W.heap[u]?=some (.cells #[.slice A4 n4 c4,.slice B4 k4 d4,.slice D4 j4 f4] 61 (0,0))) 7 (by kernel_rfl) ?_
  generalize w5.drew=wd at *
  clear hbd
  refine zjT 0 35 rfl rfl (by kernel_rfl) (x:=?_) (fun _ _ _ h=>h) ?_ hS ?_
  rotate_left 1
  ·intro v hv;go_simp;first|done|rfl
  try simp only[zjA]
  refine zjT 1 36 rfl rfl (by kernel_rfl) (x:=?_) (fun _ _ _ h=>h) ?_ hS ?_
  rotate_left 1
  ·intro v hv;have d0:=cell_of_row _ u 0 _ _ _ hv;go_simp;first|done|rfl
  try simp only[zjA]
  refine zjT 2 37 rfl rfl (by kernel_rfl) (x:=?_) (fun _ _ _ h=>h) ?_ hS ?_
  rotate_left 1
  ·intro v hv;go_simp;first|done|rfl
  try simp only[zjA]
  refine zjT 4 39 rfl rfl (by kernel_rfl) (x:=?_) (fun _ _ _ h=>h) ?_ hS ?_
  rotate_left 1
  ·intro v hv;go_simp;first|done|rfl
  try simp only[zjA]
  refine Ord.qaf.step 3 (by kernel_rfl) rfl (fun C hC=>?_)
  go_simp
  go_at_call 24
  refine (HFL.out wd (HG5.out.on HBd.out)).mono ?_
  rintro e w6 ⟨B,kk,dd,rfl,hrd,b6⟩
  have hud:u<wd.heap.size:=(Array.getElem?_eq_some_iff.1 hS).1
  replace hS:(fun W=>W.heap[u]?=some (.cells #[.slice A4 n4 c4,.slice B4 k4 d4,.slice D4 j4 f4] 61 (0,0))) w6:=(b6.block u hud).trans hS
  have HR6:=hid hrd
  have HO6:=hid ((HO5.out.below HBd.out).below b6)
  have HB6:=hid ((HB5.out.trans (HBd.out.mono HB5.out.size)).trans (b6.mono (Nat.le_trans HB5.out.size HBd.out.size)))
  clear b6 hrd hud HFL HO5 HB5 HBd HG5 HU
  go_wp2_with fail
  refine hC.out _ _ (fun _=>hS) ?_
  clear hC C
  try simp only[zjA]
  refine Ord.qaf.step 5 (by kernel_rfl) rfl (fun C hC=>?_)
  go_simp
  refine hC.out _ _ (fun _=>hS) ?_
  clear hC C
  try simp only[zjA]
  refine Ord.qaf.step 6 (by kernel_rfl) rfl (fun C hC=>?_)
  go_simp
  refine hC.out _ _ (fun _=>hS) ?_
  clear hC C
  try simp only[zjA]
  refine Ord.qaf.step 7 (by kernel_rfl) rfl (fun C hC=>?_)
  go_simp
  refine hC.out _ _ (fun _=>hS) ?_
  clear hC C
  try simp only[zjA]
  refine Ord.qaf.done (by kernel_rfl) ?_ _
  go_wp2_with fail
  exact bodyPost_ret (v:=.tuple #[.slice A4 n4 c4,.slice B kk dd,.int .i64 (k:Int)]) (by simp[results,Tryz.results16,asAddr]) rfl ⟨A4,n4,c4,B,kk,dd,by rw[HX.out],by rw[HX.out];exact HO6.out,by rw[HX.out];exact HR6.out,HB6.out⟩
 subst hz2
 have HX:Hid (LS=(rs.1,outL qop rs.2.1 rs.2.2.1,0)):=hid (by rw[HL.out,qfw (by rw[←HRS.out];exact Hrz.out),←HRS.out,←HOQ.out])
 rw[←HOQ.out] at HF5
 have HAN:=hid fun (W:World) (h:Below w5.heap.size w5 W)=>qud qop rs.2.1 rs.2.2.1 A4 n4 c4 B4 k4 d4 D4 j4 f4 W (HG5.out.on h) ((HN4.out.below h).more h.size) HD4.out.1 HD4.out.2
 have hen:=qxy qop
 unfold fnV at HF5
 clear HL HRS HOQ HER HLE Hrz HN4 HD4 HG5
 go_upto_region 7 with fail
 have hbd:Below w5.heap.size w5 w5.drew:=(Below.refl _ _).drew
 have hS:(fun W=>W.heap[u]?=some (.cells #[.slice A4 n4 c4,.slice B4 k4 d4,.slice D4 j4 f4] 61 (0,0))∧W.heap[g]?=some (.cells #[.int .u8 ov,.int .i64 kv,.bool p,.func (.func (qjg qop)) #[] #[]] 52 (0,0))) w5.drew:=⟨HU.out,HF5.out⟩
 have HBd:=hid hbd
 refine Ord.qaf.begin (fun W=>W.heap[u]?=some (.cells #[.slice A4 n4 c4,.slice B4 k4 d4,.slice D4 j4 f4] 61 (0,0))∧W.heap[g]?=some (.cells #[.int .u8 ov,.int .i64 kv,.bool p,.func (.func (qjg qop)) #[] #[]] 52 (0,0))) 8 (by kernel_rfl) ?_
 generalize w5.drew=wd at *
 clear hbd
 refine zjT 0 40 rfl rfl (by kernel_rfl) (x:=?_) (fun _ _ _ h=>h) ?_ hS ?_
 rotate_left 1
 ·intro v hv;go_simp;first|done|rfl
 try simp only[zjA]
 refine zjT 1 41 rfl rfl (by kernel_rfl) (x:=?_) (fun _ _ _ h=>h) ?_ hS ?_
 rotate_left 1
 ·intro v hv;have d0:=cell_of_row _ u 0 _ _ _ hv.1;have d1:=cell_of_row _ u 1 _ _ _ hv.1;have d2:=cell_of_row _ u 2 _ _ _ hv.1;have q3:=cell_of_row _ g 3 _ _ _ hv.2;have hl:=run_loadVar_row (P:=Tryz.prog) _ _ 61 61 _ (0,0) _ hv.1 Tryz.underlying61 rfl (by kernel_rfl);go_simp;first|done|rfl
 try simp only[zjA]
 refine zjT 2 42 rfl rfl (by kernel_rfl) (x:=?_) (fun _ _ _ h=>h) ?_ hS ?_
 rotate_left 1
 ·intro v hv;go_simp;first|done|rfl
 try simp only[zjA]
 refine zjT 3 43 rfl rfl (by kernel_rfl) (x:=?_) (fun _ _ _ h=>h) ?_ hS ?_
 rotate_left 1
 ·intro v hv;have d0:=cell_of_row _ u 0 _ _ _ hv.1;have d1:=cell_of_row _ u 1 _ _ _ hv.1;have d2:=cell_of_row _ u 2 _ _ _ hv.1;have q3:=cell_of_row _ g 3 _ _ _ hv.2;have hl:=run_loadVar_row (P:=Tryz.prog) _ _ 61 61 _ (0,0) _ hv.1 Tryz.underlying61 rfl (by kernel_rfl);go_simp;first|done|rfl
 try simp only[zjA]
 refine zjT 4 44 rfl rfl (by kernel_rfl) (x:=(.agg #[.slice A4 n4 c4,.slice B4 k4 d4,.slice D4 j4 f4])) (fun _ _ _ h=>h) ?_ hS ?_
 ·intro v hv;have d0:=cell_of_row _ u 0 _ _ _ hv.1;have d1:=cell_of_row _ u 1 _ _ _ hv.1;have d2:=cell_of_row _ u 2 _ _ _ hv.1;have q3:=cell_of_row _ g 3 _ _ _ hv.2;have hl:=run_loadVar_row (P:=Tryz.prog) _ _ 61 61 _ (0,0) _ hv.1 Tryz.underlying61 rfl (by kernel_rfl);go_simp;first|done|rfl
 try simp only[zjA]
 refine Ord.qaf.step 5 (by kernel_rfl) rfl (fun C hC=>?_)
 go_simp
 refine (HAN.out wd HBd.out).mono ?_
 rintro e w6 ⟨B,kk,dd,rfl,hrd,b6⟩
 have hud:u<wd.heap.size:=(Array.getElem?_eq_some_iff.1 hS.1).1
 have hgd:g<wd.heap.size:=(Array.getElem?_eq_some_iff.1 hS.2).1
 replace hS:(fun W=>W.heap[u]?=some (.cells #[.slice A4 n4 c4,.slice B4 k4 d4,.slice D4 j4 f4] 61 (0,0))∧W.heap[g]?=some (.cells #[.int .u8 ov,.int .i64 kv,.bool p,.func (.func (qjg qop)) #[] #[]] 52 (0,0))) w6:=⟨(b6.block u hud).trans hS.1,(b6.block g hgd).trans hS.2⟩
 have HR6:=hid hrd
 have HO6:=hid ((HO4.out.below HBd.out).below b6)
 have HB6:=hid ((HB5.out.trans (HBd.out.mono HB5.out.size)).trans (b6.mono (Nat.le_trans HB5.out.size HBd.out.size)))
 clear b6 hrd hud hgd HAN HO4 HB5 HBd HU HF5
 go_wp2_with fail
 refine hC.out _ _ (fun _=>hS) ?_
 clear hC C
 try simp only[zjA]
 refine Ord.qaf.step 6 (by kernel_rfl) rfl (fun C hC=>?_)
 go_simp
 refine hC.out _ _ (fun _=>hS) ?_
 clear hC C
 try simp only[zjA]
 refine Ord.qaf.step 7 (by kernel_rfl) rfl (fun C hC=>?_)
 go_simp
 refine hC.out _ _ (fun _=>hS) ?_
 clear hC C
 try simp only[zjA]
 refine Ord.qaf.step 8 (by kernel_rfl) rfl (fun C hC=>?_)
 go_simp
 refine hC.out _ _ (fun _=>hS) ?_
 clear hC C
 try simp only[zjA]
 refine Ord.qaf.done (by kernel_rfl) ?_ _
 go_wp2_with fail
 exact bodyPost_ret (v:=.tuple #[.slice A4 n4 c4,.slice B kk dd,.int .i64 0]) (by simp[results,Tryz.results16,asAddr]) rfl ⟨A4,n4,c4,B,kk,dd,by rw[HX.out],by rw[HX.out];exact HO6.out,by rw[HX.out];exact HR6.out,HB6.out⟩
end Lsc
namespace Lsc
open JB
open JN (bts str qa8 qak qa0 Gnd qcj)
open JR (Mem ar)
open JL
open JS (Oth)
open JW (qab)
open JE (qbu)
theorem qd2 (A:Option Addr)(n c:Nat)(l:List UInt8)(F:Option Addr)(fn fc:Nat)(fs:List Mem)(s:ByteArray)(N S:Nat)(w:World)(hG:qcj w)(hr:JB.Rd w w.heap.size A n l)(hn:n≤99000)(hS:qge l fs (qag s) N S)(hf:RdF w w.heap.size F fn fs)(hfn:fn≤1000)(hs:s.size≤100000):
 Calls Tryz.prog 10 #[.slice A n c,.slice F fn fc,.string s] w (ScrP (qh0 l fs (qag s)) w):=by
 have HS:=hid hS
 have HF:=hid fun (W:World) (h:Below w.heap.size w W)=>(hf.below h).more h.size
 have FG:=hid fun (W:World) (h:Below w.heap.size w W)=>hG.on h
 have HLn:=hid fun (W:World) (h:Gnd W)=>qpd s W h hs
 have hn9:(qag s).length≤200:=by have:=hS.n;omega
 have HK:=hid (qbu w.heap.size A n c l w hr (by omega))
 generalize qag s=ls at *
 clear hS hf hr hG
 go_enter Tryz.func10,Tryz.ntmps10
 go_wp2_with fail
 refine HK.out.mono ?_
 rintro e w0 ⟨D,dc,rfl,o0,b0⟩
 have HL0:=hid (HLn.out w0 (FG.out w0 b0).gnd)
 have HO0:=hid o0
 have HB0:=hid b0
 clear HK HLn o0 b0
 go_wp2_with fail
 refine HL0.out.mono ?_
 rintro e w1 ⟨L,m,d,rfl,hL,hmd,hdm,b1⟩
 have HL:=hid fun (W:World) (h:Below w1.heap.size w1 W)=>(hL.below h).more h.size
 have Hm:=hid hL.1
 have hm9:m≤200:=by rw[←hL.1];exact hn9
 have Hb1:=hid (HB0.out.trans (b1.mono HB0.out.size))
 have hwl:Hid (w.heap.size≤w1.heap.size):=hid Hb1.out.size
 have HO1:=hid (HO0.out.below b1)
 have HN0:Hid (n≤dc):=hid (by
  obtain⟨_,_,e1,_,h1,_⟩:=HO0.out.reads
  injection e1 with _ _ e3
  subst e3
  exact h1)
 have HN1:Hid (dc≤maxLen):=hid (by
  obtain⟨_,_,e1,_,_,h1⟩:=HO0.out.reads
  injection e1 with _ _ e3
  subst e3
  exact h1)
 clear HL0 hL b1 HO0 HB0
 go_wp2_with fail
 go_loopw [8,9,18] (fun b v i W=>∃(k:Nat)(A1:Option Addr)(n1 c1:Nat)(la:List UInt8)(B1:Option Addr)(m1 d1:Nat)(out:List ByteArray),b=.slice A1 n1 c1∧v=.slice B1 m1 d1∧i=.int .i64 (k:Int)∧k≤m∧Hid (n1≤c1∧c1≤maxLen)∧m1≤200 * k∧JB.Own W w.heap.size (.slice A1 n1 c1) n1 la∧JS.Own W w1.heap.size (.slice B1 m1 d1) m1 out∧Hid (qh0 l fs (ls.take k)=(la,out))∧Below w1.heap.size w1 W) (fun _ _ i _=>m-(intOf i).toNat)
 case atStart=>exact⟨0,D,n,dc,l,none,0,0,[],rfl,rfl,rfl,by omega,hid ⟨HN0.out,HN1.out⟩,by omega,HO1.out,JS.Own.nil _ _,hid rfl,Below.refl _ _⟩
 case round=>
  obtain⟨k,A1,n1,c1,la,B1,m1,d1,out,rfl,rfl,rfl,hk,hnc1,hm1,hA,hO,hR,hb⟩:=hrel
  have hbs:=hb.size
  by_cases hlt:k<m
  ·have hkl:k<ls.length:=by have:=Hm.out;omega
   have hki:(k:Int)<(m:Int):=by omega
   obtain⟨b,o,rfl,hbK,c0⟩:=(HL.out wr hb).2 k hkl
   have hB:=HS.out.bok hkl
   have hOu:=HS.out.out hkl
   have hsz:=HS.out.l ls[k] (List.getElem_mem hkl)
   have HN:=hid (Qb6 (l:=l) (fs:=fs) hkl)
   rw[hR.out] at hB hOu
   have hbw:=Hb1.out.trans (hb.mono hwl.out)
   have hrA:JB.Rd wr wr.heap.size A1 n1 la:=by
    obtain⟨_,_,e1,h1,_⟩:=hA.reads
    injection e1 with e2 _ e3
    subst e2 e3
    exact h1
   have HX:=hid (qiv A1 n1 c1 la F fn fc fs ls[k] wr (FG.out wr hbw) hrA hnc1.out.1 hnc1.out.2 hB (HF.out wr hbw) HS.out.f hfn hsz)
   rw[hR.out] at HN
   clear hB hsz hrA
   generalize ls[k]=t at *
   obtain⟨X,hX⟩:∃X,qbf la fs t=X:=⟨_,rfl⟩
   simp only[hX] at HX HN hOu
   clear hX hA hnc1
   go_wp2_with fail
   refine HX.out.mono ?_
   rintro e w2 ⟨A2,n2,c2,B2,k2,d2,rfl,oA,hB2,b2⟩
   have oA':=oA.more hbw.size
   have hO':=hO.below b2
   have hb2:=hb.trans (b2.mono hbs)
   have hk2:k2≤200:=by rw[←hB2.1];exact hOu
   obtain⟨_,_,ee,_,hnc2,hcm2⟩:=oA.reads
   injection ee with ee2 _ ee3
   subst ee2 ee3
   have HN2:=hid (And.intro hnc2 hcm2)
   have Hb2s:=hid hb2.size
   clear HX oA b2 hOu c0 hO hbw hnc2 hcm2
   go_wp2_with (at_builtin;go_must (refine JS.qar w2 w1.heap.size (.slice B1 m1 d1) m1 out hO' Hb2s.out B2 k2 d2 w2.heap.size X.2.1 hB2 (by omega) rfl (.tmp 30) (.tmp 31) rfl rfl rfl ?_);intro v3 w3 hO3 hb3 ho3 _;obtain⟨A3,d3,rfl,_⟩:=hO3.reads)
   go_roundw
   case rel=>exact⟨k+1,A2,n2,c2,X.1,A3,m1+k2,d3,out++X.2.1,rfl,rfl,by go_num,by omega,HN2,by omega,qab oA' ho3 (by decide),hO3,HN,hb2.trans hb3⟩
   case measure=>simp[intOf];omega
  ·obtain rfl:k=m:=by omega
   have hki:¬(k:Int)<(k:Int):=by omega
   have HE:Hid (qh0 l fs ls=(la,out)):=hid (by have:=hR.out;rwa [List.take_of_length_le (by have:=Hm.out;omega)] at this)
   obtain⟨_,_,ee,hQ,_⟩:=hO.reads
   injection ee with ee2 _ ee3
   subst ee2 ee3
   have HA:=hid hA
   have HQ:=hid hQ
   have HB:=hid hb
   clear hA hQ hb hO hR
   go_wp2_with fail
   exact bodyPost_ret (v:=.tuple #[.slice A1 n1 c1,.slice B1 m1 d1]) (by simp[results,Tryz.results10,asAddr]) rfl ⟨A1,n1,c1,B1,m1,d1,rfl,by rw[HE.out];exact HA.out,by rw[HE.out];exact HQ.out,Hb1.out.trans (HB.out.mono hwl.out)⟩
end Lsc
end Go.Proofs.YtlmolmohhpdhdaaGreatDoor
