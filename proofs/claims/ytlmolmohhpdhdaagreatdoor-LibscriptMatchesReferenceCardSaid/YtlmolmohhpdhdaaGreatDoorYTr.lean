/-
  libscript: files as they come in; what the fixed script of
-/
import Derived.Test.YtlmolmohhpdhdaaGreatDoorYTp
set_option maxRecDepth 100000
set_option maxHeartbeats 16000000
set_option linter.all false
namespace Go.Proofs.YtlmolmohhpdhdaaGreatDoor
open Go.RowKit Go.Proofs Tryz
namespace Lsc
open JB
open JN (bts str qac qaw qa2)
open JR (Mem ar)
open JW (core MOk lens qbe)
open Go.Proofs.YtlmolmohhpdhdaaGreatDoor.Six (Few qfv)
open JE (qar qc1 plN)
open JL
open JD (tx)
def qs5 (w:World)(A:Option Addr)(n:Nat)(fs:List Mem):Prop:=RdF w w.heap.size A n fs/\∀x∈fs,x.len<=x.cap/\x.cap<=maxLen
theorem qjr {fs:List Mem}{s:ByteArray}(h:fewF fs s=true):(∀x∈fs,x.len<=400/\x.name.size<=100)/\fs.length<=10/\s.size<=1000/\(qbm s).length<=12:=by
 unfold fewF at h;simp only[zlx,decide_eq_true_eq] at h;obtain⟨h1,h2,h3,h4⟩:=h;refine⟨fun x hx=>?_,h2,h3,h4⟩;rw[zlj (by omega),List.all_eq_true] at h1;have:=h1 x hx;unfold Qcn at this;simpa using this
theorem files_ok {w:World}{A:Option Addr}{n:Nat}{fs:List Mem}{s:ByteArray}(h:qs5 w A n fs)(hf:fewF fs s=true):FOk fs/\n<=10:=
 ⟨⟨fun x hx=>((qjr hf).1 x hx).1,fun x hx=>by
  obtain⟨k,hk,rfl⟩:=List.mem_iff_getElem.1 hx;exact (h.1.2 k hk).2.1,h.2⟩,by rw[<-h.1.1];exact (qjr hf).2.1⟩
theorem Qg4 {s:ByteArray}:∀x∈qbm s,x.size<=s.size:=fun x hx=>by
 unfold qbm at hx;split at hx
 ·cases hx
 ·split at hx
  ·exact qy7 x ((List.dropLast_sublist _).subset hx)
  ·exact qy7 x hx
theorem sml5k {l:List UInt8}(h:l.length<=5000):Sml l 83 5000:=(sml_of (by omega)).wide (by omega) h
theorem scr_ok {l:List UInt8}{fs:List Mem}{s:ByteArray}(hl:l.length<=5000)(hf:FOk fs)(h:fewF fs s=true):qn4 l fs (qbm s) 83 5000:=
 ⟨sml5k hl,by have:=(qjr h).2.2.2;omega,by have:=(qjr h).2.2.2;omega,hf,fun t ht=>Nat.le_trans (Qg4 t ht) (qjr h).2.2.1⟩
def fX (p:Option Addr)(c:Nat):Mem:=⟨⟨#[102]⟩,0,0,0,0,p,3,c,[120,121,122]⟩
def aX (p:Option Addr)(c:Nat):Mem:=⟨aN,0,0,0,0,p,3,c,[120,121,122]⟩
def scrN:ByteArray:=⟨#[113,32,97,46,111,32,102,10,116,10,120,32,97,46,111,10,100,32,98,46,111,10,113,32,98,46,111,32,103,10,116,32,120,10]⟩
def movN:ByteArray:=⟨#[109,32,97,46,111,32,98,101,102,111,114,101,32,97,46,111]⟩
theorem aX_ok (p:Option Addr)(c:Nat):MOk (aX p c):=⟨by show (3:Nat)<=1000;decide,by show (3:Nat)<=20000;decide,by show (0:Int)<_;decide,by show (0:Int)<_;decide,by show (0:Int)<_;decide,by show (0:Int)<_;decide⟩
theorem aX_few (p:Option Addr)(c:Nat):Few [aX p c]:=by
 refine⟨by show (1:Nat)<=200;decide,fun x hx=>?_,fun x hx=>?_,by show (3:Nat)<=15000;decide⟩
 ·rw[zlw.1 hx];exact aX_ok p c
 ·rw[zlw.1 hx];rfl
theorem Qg5 (p:Option Addr)(c:Nat):(qbe 0 [aX p c]).2=0:=by
 have h:(qbe 0 [aX none 0]).2=0:=by decide+kernel
 have e:[aX p c].map core=[aX none 0].map core:=rfl;rw[<-JW.qed 0,e,JW.qed,h]
def xL:List UInt8:=qfv [aX none 0]
theorem xL_eq (p:Option Addr)(c:Nat):qfv [aX p c]=xL:=by
 have e:[aX p c].map core=[aX none 0].map core:=rfl;rw[<-Six.qkf,e,Six.qkf];rfl
theorem qfk:qae xL=([core (aX none 0)],0):=qru (aX_few none 0) (Qg5 none 0)
theorem xL_sml:Sml xL 1 3:=Qa2 (aX_few none 0) (Qg5 none 0)
theorem qtp:qbm scrN=[⟨#[113,32,97,46,111,32,102]⟩,⟨#[116]⟩,⟨#[120,32,97,46,111]⟩,⟨#[100,32,98,46,111]⟩,⟨#[113,32,98,46,111,32,103]⟩,⟨#[116,32,120]⟩]:=by decide+kernel
theorem x_abb:qbm ⟨#[97,10,10,98,10]⟩=[⟨#[97]⟩,⟨#[]⟩,⟨#[98]⟩]:=by decide+kernel
section
variable (p : Option Addr) (c : Nat)
theorem x_q:qcs [] [fX p c] ⟨#[113,32,97,46,111,32,102]⟩=(xL,[okN],0):=by
 have e:qfj 32 ⟨#[113,32,97,46,111,32,102]⟩=[⟨#[113]⟩,aN,⟨#[102]⟩]:=by decide+kernel
 have e2:ask [fX p c] [⟨#[113]⟩,aN,⟨#[102]⟩]=(⟨113,aX p c,aN,0,eN⟩,0):=rfl;have e3:edC (qae []).1 ⟨113,aX p c,aN,0,eN⟩=([aX p c],0):=rfl
 have h:qbs [] ⟨113,aX p c,aN,0,eN⟩=(xL,[],[],0):=by
  rw[qth rfl (.inr (.inl rfl)) (by rw[e3]) (by rw[e3];exact Qg5 p c),e3,xL_eq]
 unfold qcs;rw[e,e2,qiw (by rw[h]),h];rfl
theorem x_t:qcs xL [fX p c] ⟨#[116]⟩=(xL,[aN],0):=by
 have e:qfj 32 ⟨#[116]⟩=[⟨#[116]⟩]:=by decide+kernel
 have e2:ask [fX p c] [⟨#[116]⟩]=(⟨116,zM,eN,0,eN⟩,0):=rfl
 have h:qbs xL ⟨116,zM,eN,0,eN⟩=(xL,[aN],[],0):=by
  rw[qzw (by rw[qfk]) rfl,qfk];rfl
 unfold qcs;rw[e,e2,qiw (by rw[h]),h];rfl
theorem x_x:qcs xL [fX p c] ⟨#[120,32,97,46,111]⟩=(xL,[⟨#[51]⟩],0):=by
 have e:qfj 32 ⟨#[120,32,97,46,111]⟩=[⟨#[120]⟩,aN]:=by decide+kernel
 have e2:ask [fX p c] [⟨#[120]⟩,aN]=(⟨120,⟨eN,0,0,0,0,none,0,0,[]⟩,aN,0,eN⟩,0):=rfl
 have h:qbs xL ⟨120,⟨eN,0,0,0,0,none,0,0,[]⟩,aN,0,eN⟩=(xL,[],[120,121,122],0):=by
  rw[qw1 (by rw[qfk]) rfl,qfk];rfl
 unfold qcs;rw[e,e2,qiw (by rw[h]),h];decide+kernel
theorem x_d:qcs xL [fX p c] ⟨#[100,32,98,46,111]⟩=(xL,[⟨#[101,114,114,111,114,32,49,48]⟩],10):=by
 have e:qfj 32 ⟨#[100,32,98,46,111]⟩=[⟨#[100]⟩,bN]:=by decide+kernel
 have e2:ask [fX p c] [⟨#[100]⟩,bN]=(⟨100,⟨eN,0,0,0,0,none,0,0,[]⟩,bN,0,eN⟩,0):=rfl
 have e3:edC [core (aX none 0)] ⟨100,⟨eN,0,0,0,0,none,0,0,[]⟩,bN,0,eN⟩=([core (aX none 0)],10):=by
  rw[edC_d rfl];unfold JE.qet;rw[show qar [core (aX none 0)] bN=none from by decide+kernel]
 have h:qbs xL ⟨100,⟨eN,0,0,0,0,none,0,0,[]⟩,bN,0,eN⟩=(xL,[],[],10):=by
  rw[qpz (by rw[qfk]) (.inr (.inr (.inl rfl))) (by rw[qfk,e3];decide),qfk,e3]
 unfold qcs;rw[e,e2,qia (by rw[h];decide),h];decide+kernel
theorem x_g:qcs xL [fX p c] ⟨#[113,32,98,46,111,32,103]⟩=(xL,[⟨#[101,114,114,111,114,32,49,53]⟩],15):=by
 have e:qfj 32 ⟨#[113,32,98,46,111,32,103]⟩=[⟨#[113]⟩,bN,⟨#[103]⟩]:=by decide+kernel
 have e2:(ask [fX p c] [⟨#[113]⟩,bN,⟨#[103]⟩]).2=15:=rfl;unfold qcs;rw[e,e2,qi9 (by decide)];decide+kernel
theorem x_b:qcs xL [fX p c] ⟨#[116,32,120]⟩=(xL,[⟨#[101,114,114,111,114,32,49,55]⟩],17):=by
 have e:qfj 32 ⟨#[116,32,120]⟩=[⟨#[116]⟩,⟨#[120]⟩]:=by decide+kernel
 have e2:(ask [fX p c] [⟨#[116]⟩,⟨#[120]⟩]).2=17:=rfl;unfold qcs;rw[e,e2,qi9 (by decide)];decide+kernel
theorem x_m:qcs xL [fX p c] movN=(xL,[⟨#[101,114,114,111,114,32,49,49]⟩],11):=by
 have e:qfj 32 movN=[⟨#[109]⟩,aN,befN,aN]:=by decide+kernel
 have e2:ask [fX p c] [⟨#[109]⟩,aN,befN,aN]=(⟨109,⟨eN,0,0,0,0,none,0,0,[]⟩,aN,1,aN⟩,0):=rfl
 have e3:edC [core (aX none 0)] ⟨109,⟨eN,0,0,0,0,none,0,0,[]⟩,aN,1,aN⟩=([core (aX none 0)],11):=by
  rw[edC_m (by decide) (by decide) (by decide)];rw[JE.qg9 (i:=0) (by decide) (by decide+kernel) (by decide+kernel)];rfl
 have h:qbs xL ⟨109,⟨eN,0,0,0,0,none,0,0,[]⟩,aN,1,aN⟩=(xL,[],[],11):=by
  rw[qpz (by rw[qfk]) (.inr (.inr (.inr rfl))) (by rw[qfk,e3];decide),qfk,e3]
 unfold qcs;rw[e,e2,qia (by rw[h];decide),h];decide+kernel
def outX:List ByteArray:=[okN,aN,⟨#[51]⟩,⟨#[101,114,114,111,114,32,49,48]⟩,⟨#[101,114,114,111,114,32,49,53]⟩,⟨#[101,114,114,111,114,32,49,55]⟩]
theorem x_run:qj4 [] [fX p c] (qbm scrN)=(xL,outX):=by
 rw[qtp];simp only[qj4,x_q,x_t,x_x,x_d,x_g,x_b];rfl
theorem x_fok (hc:3<=c/\c<=maxLen):FOk [fX p c]:=by
 refine⟨fun x hx=>?_,fun x hx=>?_,fun x hx=>?_⟩<;>rw[zlw.1 hx]
 ·show (3:Nat)<=400;decide
 ·rfl
 ·exact hc
theorem x_scr (hc:3<=c/\c<=maxLen):qn4 [] [fX p c] (qbm scrN) 83 5000:=
 ⟨sml5k (by decide),by rw[qtp];decide,by rw[qtp];decide,x_fok p c hc,by rw[qtp];intro t ht;simp only[List.mem_cons,List.not_mem_nil,or_false] at ht;rcases ht with rfl|rfl|rfl|rfl|rfl|rfl<;>decide⟩
end
end Lsc
namespace Lsc
open JB
open JN (bts str qac qaw qa2 Gnd qev)
open JR (Mem ar)
open JW (core MOk)
open JL
theorem qjs (w:World)(hg:qev w):Calls prog 8 #[] w fun e w'=>e=.returned (.bool true)/\Below w.heap.size w w':=by
 have Hg:=hid hg;have bX:=zjB w (.cells #[.int .u8 120,.int .u8 121,.int .u8 122] 5 (3,4));have rX:=Rd.lit w [120,121,122] #[.int .u8 120,.int .u8 121,.int .u8 122] rfl 3 rfl (3,4);have sX:=zlr w (.cells #[.int .u8 120,.int .u8 121,.int .u8 122] 5 (3,4));have kc:=Lib.run_convert_bytes_const (P:=prog) w 22 5 #[.int .u8 120,.int .u8 121,.int .u8 122] 3 3 underlying22 underlying5;have hM:=zld (w.alloc (.cells #[.int .u8 120,.int .u8 121,.int .u8 122] 5 (3,4))) (.cells #[.string ⟨#[102]⟩,.slice (some ⟨w.heap.size,0,none⟩) 3 3] 41);have bM:=(Below.refl (w.alloc (.cells #[.int .u8 120,.int .u8 121,.int .u8 122] 5 (3,4))).heap.size (w.alloc (.cells #[.int .u8 120,.int .u8 121,.int .u8 122] 5 (3,4)))).alloc zjn (.cells #[.string ⟨#[102]⟩,.slice (some ⟨w.heap.size,0,none⟩) 3 3] 41);have sM:=zlr (w.alloc (.cells #[.int .u8 120,.int .u8 121,.int .u8 122] 5 (3,4))) (.cells #[.string ⟨#[102]⟩,.slice (some ⟨w.heap.size,0,none⟩) 3 3] 41);clear hg;go_enter func8,ntmps8;go_upto_region 2 with fail
 clear kc;generalize w.alloc (.cells #[.int .u8 120,.int .u8 121,.int .u8 122] 5 (3,4))=wx at *;generalize wx.alloc (.cells #[.string ⟨#[102]⟩,.slice (some ⟨w.heap.size,0,none⟩) 3 3] 41)=w1 at *;rw[sX] at hM sM bM;have FB:=hid fun (W:World) (h:Below w1.heap.size w1 W)=>(bX.trans (bM.mono (by omega))).trans (h.mono (by omega));have FG:=hid fun (W:World) (h:Below w1.heap.size w1 W)=>Hg.out.on (FB.out W h);obtain⟨gx,Xi⟩:∃gx,w.heap.size=gx:=⟨_,rfl⟩;rw[Xi] at hM rX sM bM |-;have lM:gx+1<w1.heap.size:=by omega
 have FX:=hid fun (W:World) (h:Below w1.heap.size w1 W)=>((rX.below bM).below (h.mono (by omega))).more (show gx+1<=W.heap.size by have:=h.size;omega)
 have FF:=hid fun (W:World) (h:Below w1.heap.size w1 W)=>(show RdF W W.heap.size (some ⟨gx+1,0,none⟩) 1 [fX (some ⟨gx,0,none⟩) 3] from ⟨rfl,fun k hk=>by
  obtain rfl:k=0:=by simp at hk;omega
  have Xc:=(h.block (gx+1) lM).trans hM;exact⟨⟨gx+1,0,rfl,by have:=h.size;omega,zlc _ (gx+1) 0 _ _ _ Xc,zlc _ (gx+1) 1 _ _ _ Xc⟩,FX.out W h⟩⟩)
 have Xf:3<=3/\3<=maxLen:=⟨Nat.le_refl _,by unfold maxLen;omega⟩;have HR:=hid (qq8 none 0 0 [] (some ⟨gx+1,0,none⟩) 1 1 [fX (some ⟨gx,0,none⟩) 3] scrN 83 5000 w1 (FG.out w1 zjb) (Rd.nil _ _ _) (by omega) (x_scr _ _ Xf) (FF.out w1 zjb) (by omega) (by decide));rw[x_run] at HR;have Xm:=hid Xf;clear bX rX sX hM bM sM Xi FX Xf;unfold scrN at HR;go_wp2_with fail
 refine HR.out.mono ?_;rintro e v1 ⟨A1,n1,c1,B1,k1,d1,rfl,o1,s1,b1⟩;replace FB:=zjF FB b1;replace FG:=zjF FG b1;replace FF:=zjF FF b1;obtain⟨_,_,ee,r1,Xh,Xj⟩:=o1.reads;injection ee with ee2 _ ee3;subst ee2 ee3;have FA:=hid fun (W:World) (h:Below v1.heap.size v1 W)=>(r1.below h).more h.size;have FS:=hid fun (W:World) (h:Below v1.heap.size v1 W)=>(s1.below h).more h.size;have Xd:=hid (And.intro Xh Xj);have Xn:Hid (n1<=99000):=hid (by have:=r1.1;have h2:=xL_sml.len;rw[this] at h2;exact h2);clear HR b1 o1 r1 s1 Xh Xj;have Xg:=hid (qmu A1 n1 c1 xL v1 (FG.out v1 zjb) (FA.out v1 zjb) Xd.out.1 Xd.out.2 (by have:=Xn.out;omega));rw[qfk] at Xg;go_wp2_with fail
 refine Xg.out.mono ?_;rintro e v2 ⟨A2,n2,c2,ys,rfl,oM,_,Xk,_,b2⟩
 obtain rfl:n2=1:=by
  have h1:=oM.1;rw[JR.qaq] at h1;have h2:=congrArg List.length Xk;simp at h2;omega
 replace FB:=zjF FB b2;replace FG:=zjF FG b2;replace FF:=zjF FF b2;replace FA:=zjF FA b2;replace FS:=zjF FS b2;clear Xg b2 oM Xk;have Xe:=hid (qq7 A1 n1 c1 xL (some ⟨gx+1,0,none⟩) 1 1 [fX (some ⟨gx,0,none⟩) 3] movN v2 (FG.out v2 zjb) (FA.out v2 zjb) Xd.out.1 Xd.out.2 (xL_sml.bok (by decide) (by decide)) (FF.out v2 zjb) (x_fok _ _ Xm.out) (by omega) (by decide));rw[x_m] at Xe;unfold movN at Xe;go_wp2_with fail
 refine Xe.out.mono ?_;rintro e v3 ⟨A3,n3,c3,B3,k3,d3,rfl,o3,s3,b3⟩;replace FB:=zjF FB b3;replace FG:=zjF FG b3;replace FS:=zjF FS b3;have FT:=hid fun (W:World) (h:Below v3.heap.size v3 W)=>(s3.below h).more h.size;clear Xe b3 o3 s3 FA FF;have ba:=(Below.refl v3.heap.size v3).alloc zjn (.cells #[.string ⟨#[111,107]⟩,.string ⟨#[97,46,111]⟩,.string ⟨#[51]⟩,.string ⟨#[101,114,114,111,114,32,49,48]⟩,.string ⟨#[101,114,114,111,114,32,49,53]⟩,.string ⟨#[101,114,114,111,114,32,49,55]⟩] 9);have Xb:=JS.Rd.lit v3 [⟨#[111,107]⟩,⟨#[97,46,111]⟩,⟨#[51]⟩,⟨#[101,114,114,111,114,32,49,48]⟩,⟨#[101,114,114,111,114,32,49,53]⟩,⟨#[101,114,114,111,114,32,49,55]⟩] #[.string ⟨#[111,107]⟩,.string ⟨#[97,46,111]⟩,.string ⟨#[51]⟩,.string ⟨#[101,114,114,111,114,32,49,48]⟩,.string ⟨#[101,114,114,111,114,32,49,53]⟩,.string ⟨#[101,114,114,111,114,32,49,55]⟩] rfl 6 rfl;have HT:=hid (JN.qgk _ _ B1 (some ⟨v3.heap.size,0,none⟩) k1 d1 6 6 outX [⟨#[111,107]⟩,⟨#[97,46,111]⟩,⟨#[51]⟩,⟨#[101,114,114,111,114,32,49,48]⟩,⟨#[101,114,114,111,114,32,49,53]⟩,⟨#[101,114,114,111,114,32,49,55]⟩] (v3.alloc (.cells #[.string ⟨#[111,107]⟩,.string ⟨#[97,46,111]⟩,.string ⟨#[51]⟩,.string ⟨#[101,114,114,111,114,32,49,48]⟩,.string ⟨#[101,114,114,111,114,32,49,53]⟩,.string ⟨#[101,114,114,111,114,32,49,55]⟩] 9)) (FS.out _ ba) Xb (by have h1:=(FS.out _ ba).1;have h2:outX.length=6:=rfl;omega));rw[show JN.eqs outX [⟨#[111,107]⟩,⟨#[97,46,111]⟩,⟨#[51]⟩,⟨#[101,114,114,111,114,32,49,48]⟩,⟨#[101,114,114,111,114,32,49,53]⟩,⟨#[101,114,114,111,114,32,49,55]⟩]=true from JN.qib.2 rfl] at HT;have Xa:=hid ba;clear ba Xb;go_wp2_with fail
 refine HT.out.mono ?_;rintro e v5 ⟨rfl,mm,hm⟩;have bb:=Xa.out.trans (JD.qa0 (K:=v3.heap.size) (v3.alloc (.cells #[.string ⟨#[111,107]⟩,.string ⟨#[97,46,111]⟩,.string ⟨#[51]⟩,.string ⟨#[101,114,114,111,114,32,49,48]⟩,.string ⟨#[101,114,114,111,114,32,49,53]⟩,.string ⟨#[101,114,114,111,114,32,49,55]⟩] 9)) mm);rw[<-hm] at bb;replace FB:=zjF FB bb;replace FG:=zjF FG bb;replace FT:=zjF FT bb;clear HT Xa bb hm;have ba:=(Below.refl v5.heap.size v5).alloc zjn (.cells #[.string ⟨#[101,114,114,111,114,32,49,49]⟩] 9);have Xb:=JS.Rd.lit v5 [⟨#[101,114,114,111,114,32,49,49]⟩] #[.string ⟨#[101,114,114,111,114,32,49,49]⟩] rfl 1 rfl;have HT:=hid (JN.qgk _ _ B3 (some ⟨v5.heap.size,0,none⟩) k3 d3 1 1 [⟨#[101,114,114,111,114,32,49,49]⟩] [⟨#[101,114,114,111,114,32,49,49]⟩] (v5.alloc (.cells #[.string ⟨#[101,114,114,111,114,32,49,49]⟩] 9)) (FT.out _ ba) Xb (by have h1:=(FT.out _ ba).1;simp at h1;omega));rw[show JN.eqs [⟨#[101,114,114,111,114,32,49,49]⟩] [⟨#[101,114,114,111,114,32,49,49]⟩]=true from JN.qib.2 rfl] at HT;have Xa:=hid ba;clear ba Xb;go_wp2_with fail
 refine HT.out.mono ?_;rintro e v6 ⟨rfl,mm,hm⟩;have bb:=Xa.out.trans (JD.qa0 (K:=v5.heap.size) (v5.alloc (.cells #[.string ⟨#[101,114,114,111,114,32,49,49]⟩] 9)) mm);rw[<-hm] at bb;replace FB:=zjF FB bb;replace FG:=zjF FG bb;clear HT Xa bb hm;have HN:=hid (qmb ⟨#[97,10,10,98,10]⟩ v6 (FG.out v6 zjb).gnd (by decide));rw[x_abb] at HN;go_wp2_with fail
 refine HN.out.mono ?_;rintro e v7 ⟨A7,n7,c7,rfl,h7,_,_,b7⟩;replace FB:=zjF FB b7;have FN:=hid fun (W:World) (h:Below v7.heap.size v7 W)=>(h7.below h).more h.size;clear HN b7 h7;have ba:=(Below.refl v7.heap.size v7).alloc zjn (.cells #[.string ⟨#[97]⟩,.string ⟨#[]⟩,.string ⟨#[98]⟩] 9);have Xb:=JS.Rd.lit v7 [⟨#[97]⟩,⟨#[]⟩,⟨#[98]⟩] #[.string ⟨#[97]⟩,.string ⟨#[]⟩,.string ⟨#[98]⟩] rfl 3 rfl;have HT:=hid (JN.qgk _ _ A7 (some ⟨v7.heap.size,0,none⟩) n7 c7 3 3 [⟨#[97]⟩,⟨#[]⟩,⟨#[98]⟩] [⟨#[97]⟩,⟨#[]⟩,⟨#[98]⟩] (v7.alloc (.cells #[.string ⟨#[97]⟩,.string ⟨#[]⟩,.string ⟨#[98]⟩] 9)) (FN.out _ ba) Xb (by have h1:=(FN.out _ ba).1;simp at h1;omega));rw[show JN.eqs [⟨#[97]⟩,⟨#[]⟩,⟨#[98]⟩] [⟨#[97]⟩,⟨#[]⟩,⟨#[98]⟩]=true from JN.qib.2 rfl] at HT;have Xa:=hid ba;clear ba Xb;go_wp2_with fail
 refine HT.out.mono ?_;rintro e v8 ⟨rfl,mm,hm⟩;have bb:=Xa.out.trans (JD.qa0 (K:=v7.heap.size) (v7.alloc (.cells #[.string ⟨#[97]⟩,.string ⟨#[]⟩,.string ⟨#[98]⟩] 9)) mm);rw[<-hm] at bb;replace FB:=zjF FB bb;clear HT Xa bb hm;go_wp2_with fail
 go_ret
 exact⟨rfl,FB.out v8 zjb⟩
end Lsc
namespace Frame
open Go.ChangeShapes Go.WideShapes Go.ChangeAt Go.RowKit Go.Proofs Go.Deep
open Go.Proofs.YtlmolmohhpdhdaaGreatDoor.Lsc (qs5 RdF)
set_option maxRecDepth 100000
theorem file_at {H:Type}{enc:TypeId×Value->H}{W:World}{fuel:Nat}{cs:List Value}(hsz:cs.length=2){x:DataW H×List MemPlace}(hf:DataW.trod enc prog W 0 (fun _=>true) true fuel 41 cs=some x):
 ∃y:JR.Mem,cs=[.string y.name,.slice y.ptr y.len y.cap]/\JB.Rd W W.heap.size y.ptr y.len y.data/\y.len<=y.cap/\y.cap<=maxLen:=by
 match cs,hsz with
 |[c0,c1],_=>
  obtain⟨xs,n,_,_,_,Xb,hg⟩:=DataW.trod_struct underlying41 hf;have Xa:oneCellFields prog _=true:=(by kernel_rfl:oneCellFields prog (match prog.underlying 41 with|some (.struct fs)=>fs|_=>#[])=true);obtain⟨y0,g0⟩:=qww Xa Xb hg 0 _ rfl c0 rfl;obtain⟨y1,g1⟩:=qww Xa Xb hg 1 _ rfl c1 rfl;obtain⟨s,e0,_,hs⟩:=DataW.trod_string underlying9 g0;obtain⟨P,d,e,l,rfl,h5,Xc,Xd⟩:=qt4 g1;injection e0 with e0;subst e0;exact⟨⟨s,0,0,0,0,P,d,e,l⟩,rfl,h5,Xc,Xd⟩
theorem qtq {H:Type}{enc:TypeId×Value->H}{W:World}{fuel:Nat}{v:Value}{x:DataW H×List MemPlace}(hf:DataW.trod enc prog W 0 (fun _=>true) true fuel 23 [v]=some x):
 ∃A n c fs,v=.slice A n c/\qs5 W A n fs/\n<=c/\c<=maxLen:=by
 rcases Go.Deep.open_slice underlying23 hf with ⟨hcs,_⟩|⟨a,len,cap,m,n',D,Pl,hcs,_,hl,hm,hmm,_,hi⟩
 ·injection hcs with hcs;exact⟨none,0,0,[],hcs,⟨⟨rfl,fun k hk=>absurd hk (by simp)⟩,by simp⟩,Nat.le_refl _,by unfold maxLen;omega⟩
 ·injection hcs with hcs;have Xi:m=cap:=by simpa using hmm
  have Xe:prog.cellsOf 41=2:=by kernel_rfl
  by_cases h0:len=0
  ·subst h0;exact⟨some a,0,cap,[],hcs,⟨⟨rfl,fun k hk=>absurd hk (by simp)⟩,by simp⟩,hl,hm⟩
  ·obtain⟨b,o,Xd⟩:=a
   have Xa:Xd=none:=by
    obtain⟨Xh,hc,_⟩:=hi 0 (by omega);rw[Xe] at hc;obtain⟨_,Xb,Xc⟩:=World.cells?_some hc;have h1:=Xc 0 (by omega);rw[zlh (by omega)] at h1;have:=World.cell?_spot h1;simpa [Addr.add] using this
   subst Xa
   have ha:∀i j,((⟨b,o,none⟩:Addr).add i).add j=⟨b,o+i+j,none⟩:=fun i j=>by
    unfold Addr.add;split<;>split<;>simp_all
   have Xf:∀i,i<len->∃y:JR.Mem,(b<W.heap.size/\W.cell? ⟨b,o+i * 2,none⟩=some (.string y.name)/\W.cell? ⟨b,o+i * 2+1,none⟩=some (.slice y.ptr y.len y.cap))/\JB.Rd W W.heap.size y.ptr y.len y.data/\y.len<=y.cap/\y.cap<=maxLen:=fun i hil=>by
    obtain⟨Xh,hc,ht⟩:=hi i (by omega);rw[Xe] at hc;obtain⟨_,Xb,Xc⟩:=World.cells?_some hc;obtain⟨y,hq,hb⟩:=file_at Xb ht;subst hq;have h0:=Xc 0 (by omega);have h1:=Xc 1 (by omega);rw[ha] at h0 h1;exact⟨y,⟨World.block_lt_of_cell? _ _ h0,h0,h1⟩,hb⟩
   obtain⟨fs,Xg,hx⟩:=listed len Xf;refine⟨_,len,cap,fs,hcs,⟨⟨Xg,fun k hk=>?_⟩,fun y hy=>?_⟩,hl,hm⟩
   ·obtain⟨⟨hb,h1,h2⟩,h3,_⟩:=hx k hk;exact⟨⟨b,o,rfl,hb,h1,h2⟩,h3⟩
   ·obtain⟨k,hk,rfl⟩:=List.mem_iff_getElem.1 hy;exact (hx k hk).2.2
theorem Qc6 {H:Type}{enc:TypeId×Value->H}{W:World}{qez:Nat}{v:Value}{d:DataW H}{p:List MemPlace}(hok:Value.okWide prog W .any qez 23 v)
 (ht:DataW.Trod enc prog W 0 (fun _=>true) true 23 v d p):∃A n c fs,v=.slice A n c/\qs5 W A n fs/\n<=c/\c<=maxLen:=by
 obtain⟨A,n,c,rfl⟩:=okWide_slice underlying23 hok;obtain⟨Xa,hf⟩:=ht;exact qtq hf
end Frame
end Go.Proofs.YtlmolmohhpdhdaaGreatDoor
