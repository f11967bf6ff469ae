/-
  edit: the program's removing and
-/
import Derived.Test.YtlmolmohhpdhdaaGreatDoorYEyd
set_option maxRecDepth 100000
set_option maxHeartbeats 16000000
set_option linter.all false
namespace Go.Proofs.YtlmolmohhpdhdaaGreatDoor
open Go.RowKit Go.Proofs Tryz
namespace JE
open JB
open JR (Mem RdM qft qa8)
open JW (core MOk)
theorem qit {P:Program}{a:Operand->Value}{o:Oper}{t:TypeId}{x:Operand}{lo hi:Option Operand}{r:Value}{w:World}(ho:o.op=.slice t x lo hi none)(h:(Instr.sliceAt t (a x) (lo.map a) (hi.map a) none).run P w=.ok r w):(execOp a o).run P w=.ok (.value r) w:=by
 unfold execOp;simp only[ho,Option.map_none,h,Sem.run_bind,Sem.run_pure,Result.andThen_ok]
theorem qjp (K:Nat)(A:Option Addr)(n c:Nat)(xs:List Mem)(at_:Nat)(w:World)(h:RdM w K A n xs)(hK:K<=w.heap.size)(hn:n<=300)(hnc:n<=c)(hat:at_<n):
 Calls prog 164 #[.slice A n c,.int .i64 (at_:Int)] w (Qf2 (qc1 xs at_) w):=by
 have HD:Hid (qm6 [⟨A,at_,c,xs.take at_⟩,⟨frA A c (at_+1),n-(at_+1),c-(at_+1),xs.drop (at_+1)⟩]=qc1 xs at_):=hid (by simp[qm6,qc1]);have hU:=qvu A n c at_ (by omega) hnc;have hF:=qvv A n c (at_+1) (by omega) hnc;have hw:IntKind.i64.wrap ((at_:Int)+1)=((at_+1:Nat):Int):=by rw[IntKind.wrap_i64];omega
 have HU:=hid hU;have HF:=hid hF;have bd:=(Below.refl w.heap.size w).drew;have HH:=hid h;clear h hU hF;go_enter func164,ntmps164;go_upto_region 1 with fail
 have hS:(fun _=>True) w.drew:=trivial;refine Ord.qaf.begin (fun _=>True) 9 (by kernel_rfl) ?_;generalize w.drew=wd at *;have sd:=bd.size;have bA:=zjB wd (.cells #[.slice A at_ c,.slice (frA A c (at_+1)) (n-(at_+1)) (c-(at_+1))] 42);have hA:=zld wd (.cells #[.slice A at_ c,.slice (frA A c (at_+1)) (n-(at_+1)) (c-(at_+1))] 42);refine zjV 0 5 hS ?_ (hy:=by intro v hv;obtain⟨⟩:=hv;go_simp;first|done|rfl);refine zjV 1 6 hS ?_ (hy:=by intro v hv;obtain⟨⟩:=hv;go_simp;first|done|rfl);refine zjV 2 7 hS ?_ (x:=.slice A at_ c) (hy:=by intro v hv;obtain⟨⟩:=hv;exact qit rfl (HU.out v));refine zjV 3 8 hS ?_ (hy:=by intro v hv;obtain⟨⟩:=hv;go_simp;first|done|rfl);refine zjV 4 9 hS ?_ (hy:=by intro v hv;obtain⟨⟩:=hv;go_simp;first|done|rfl);refine zjV 5 10 hS ?_ (x:=.int .i64 ((at_+1:Nat):Int)) (hy:=by intro v hv;obtain⟨⟩:=hv;go_simp;first|done|exact hw|omega);refine zjV 6 11 hS ?_ (x:=.slice (frA A c (at_+1)) (n-(at_+1)) (c-(at_+1))) (hy:=by intro v hv;obtain⟨⟩:=hv;exact qit rfl (HF.out v));clear hw;refine Ord.qaf.step 7 (by kernel_rfl) rfl (fun C hC=>?_);go_simp;refine hC.out _ _ (fun _=>hS) ?_;clear hC C;try simp only[zjA]
 generalize wd.alloc (.cells #[.slice A at_ c,.slice (frA A c (at_+1)) (n-(at_+1)) (c-(at_+1))] 42)=w1 at *;have hgl:wd.heap.size<w1.heap.size:=(zla.1 hA).1;have b1:=bd.trans (bA.mono sd)
 have HC:=hid (qis K wd.heap.size 2 [⟨A,at_,c,xs.take at_⟩,⟨frA A c (at_+1),n-(at_+1),c-(at_+1),xs.drop (at_+1)⟩] w1 rfl (by omega)
  (fun W hW j hj=>by
   have hB:=(hW.block wd.heap.size hgl).trans hA;rcases (show j=0∨j=1 by simp at hj;omega) with rfl|rfl
   ·exact zlc _ wd.heap.size 0 _ _ _ hB
   ·exact zlc _ wd.heap.size 1 _ _ _ hB)
  (fun s hs=>by
   have hM:=HH.out.below (b1.mono hK);rcases List.mem_cons.1 hs with rfl|hs
   ·exact⟨Qez (m:=at_) hM (by omega),by show at_<=301;omega⟩
   ·rw[zlw] at hs;subst hs;exact⟨qzt hM (by omega) hnc,by show n-(at_+1)<=301;omega⟩) (by omega))
 rw[HD.out] at HC;have hS:(fun _=>True) w1:=trivial;clear hA HU HF bA bd;refine Ord.qaf.step 8 (by kernel_rfl) rfl (fun C hC=>?_);go_simp;go_at_call 203;refine HC.out.mono ?_;rintro e w2 ⟨A2,c2,rfl,o2,b2⟩;go_wp2_with fail
 refine hC.out _ _ (fun _=>hS) ?_;clear hC C;try simp only[zjA]
 refine Ord.qaf.step 9 (by kernel_rfl) rfl (fun C hC=>?_);go_simp;refine hC.out _ _ (fun _=>hS) ?_;clear hC C;try simp only[zjA]
 refine Ord.qaf.done (by kernel_rfl) ?_ _;go_wp2_with fail
 go_ret
 exact⟨A2,c2,rfl,o2.more (by omega),b1.trans (b2.mono (by omega))⟩
theorem Qfb (xs:List Mem)(at_:Nat)(m:Mem)(A B C:Option Addr)(n1 n2 n3 c1 c2 c3:Nat):qm6 [⟨A,n1,c1,xs.take at_⟩,⟨B,n2,c2,[m]⟩,⟨C,n3,c3,xs.drop at_⟩]=qfw xs at_ m:=by simp[qm6,qfw]
theorem qh7 (K:Nat)(A:Option Addr)(n c:Nat)(xs:List Mem)(at_:Nat)(m:Mem)(w:World)(h:RdM w K A n xs)(hK:K<=w.heap.size)(hn:n<=300)(hnc:n<=c)(hat:at_<=n)(hm:MOk m)(hmr:JB.Rd w K m.ptr m.len m.data):
 Calls prog 163 #[.slice A n c,m.val,.int .i64 (at_:Int)] w (Qf2 (qfw xs at_ m) w):=by
 have hU:=qvu A n c at_ (by omega) hnc;have hF:=qvv A n c at_ (by omega) hnc;have HU:=hid hU;have HF:=hid hF;have HH:=hid h;have HMR:=hid hmr;have hml:=hm.len;obtain⟨m0,m1,m2,m3,m4,m5,m6,m7,m8⟩:=m;simp only[Mem.val] at hml |-;have hrow:=zld w (.cells #[.string m0,.int .i64 m1,.int .i64 m2,.int .i64 m3,.int .i64 m4,.slice m5 m6 m7] 46);have hb1:=zjB w (.cells #[.string m0,.int .i64 m1,.int .i64 m2,.int .i64 m3,.int .i64 m4,.slice m5 m6 m7] 46);clear h hU hF hm hmr;go_enter func163,ntmps163;go_upto_region 1 with fail
 generalize w.alloc (.cells #[.string m0,.int .i64 m1,.int .i64 m2,.int .i64 m3,.int .i64 m4,.slice m5 m6 m7] 46)=w0 at *;have bd:=hb1.drew;have hrowd:w0.drew.heap[w.heap.size]?=some (.cells #[.string m0,.int .i64 m1,.int .i64 m2,.int .i64 m3,.int .i64 m4,.slice m5 m6 m7] 46 (0,0)):=hrow;obtain⟨g,hg⟩:∃g,w.heap.size=g:=⟨_,rfl⟩;rw[hg] at hrow hb1 hrowd bd hK |-;have HG:=hid hg;have hgd:g<w0.drew.heap.size:=(zla.1 hrowd).1;clear hrow hb1 hg;refine Ord.qaf.begin (fun W=>W.heap[g]?=some (.cells #[.string m0,.int .i64 m1,.int .i64 m2,.int .i64 m3,.int .i64 m4,.slice m5 m6 m7] 46 (0,0))) 10 (by kernel_rfl) ?_;generalize w0.drew=wd at *;have hS:(fun W=>W.heap[g]?=some (.cells #[.string m0,.int .i64 m1,.int .i64 m2,.int .i64 m3,.int .i64 m4,.slice m5 m6 m7] 46 (0,0))) wd:=hrowd;clear hrowd;refine zjV 0 7 hS ?_;refine zjV 1 8 hS ?_;refine zjV 2 9 hS ?_ (x:=.slice A at_ c) (hy:=by intro v hv;exact qit rfl (HU.out v));refine zjV 3 10 hS ?_ (x:=.agg #[.string m0,.int .i64 m1,.int .i64 m2,.int .i64 m3,.int .i64 m4,.slice m5 m6 m7]) (hy:=by intro v hv;have z0:=zlc _ g 0 _ _ _ hv;have z1:=zlc _ g 1 _ _ _ hv;have z2:=zlc _ g 2 _ _ _ hv;have z3:=zlc _ g 3 _ _ _ hv;have z4:=zlc _ g 4 _ _ _ hv;have z5:=zlc _ g 5 _ _ _ hv;clear HU HF HH HMR;go_simp;first|done|rfl);refine zjV 5 12 hS ?_;refine zjV 6 13 hS ?_;refine zjV 7 14 hS ?_ (x:=.slice (frA A c at_) (n-at_) (c-at_)) (hy:=by intro v hv;exact qit rfl (HF.out v));have b1:=zjB wd (.cells #[.string m0,.int .i64 m1,.int .i64 m2,.int .i64 m3,.int .i64 m4,.slice m5 m6 m7] 46);have h1:=zld wd (.cells #[.string m0,.int .i64 m1,.int .i64 m2,.int .i64 m3,.int .i64 m4,.slice m5 m6 m7] 46);have s1:=zlr wd (.cells #[.string m0,.int .i64 m1,.int .i64 m2,.int .i64 m3,.int .i64 m4,.slice m5 m6 m7] 46);have b2:=(Below.refl (wd.alloc (.cells #[.string m0,.int .i64 m1,.int .i64 m2,.int .i64 m3,.int .i64 m4,.slice m5 m6 m7] 46)).heap.size (wd.alloc (.cells #[.string m0,.int .i64 m1,.int .i64 m2,.int .i64 m3,.int .i64 m4,.slice m5 m6 m7] 46))).alloc zjn (.cells #[.slice A at_ c,.slice (some ⟨wd.heap.size,0,none⟩) 1 1,.slice (frA A c at_) (n-at_) (c-at_)] 42);have h2:=zld (wd.alloc (.cells #[.string m0,.int .i64 m1,.int .i64 m2,.int .i64 m3,.int .i64 m4,.slice m5 m6 m7] 46)) (.cells #[.slice A at_ c,.slice (some ⟨wd.heap.size,0,none⟩) 1 1,.slice (frA A c at_) (n-at_) (c-at_)] 42);refine Ord.qaf.step 4 (by kernel_rfl) rfl (fun C hC=>?_);go_simp;generalize wd.alloc (.cells #[.string m0,.int .i64 m1,.int .i64 m2,.int .i64 m3,.int .i64 m4,.slice m5 m6 m7] 46)=w1 at *;have hS1:(fun W=>W.heap[g]?=some (.cells #[.string m0,.int .i64 m1,.int .i64 m2,.int .i64 m3,.int .i64 m4,.slice m5 m6 m7] 46 (0,0))) w1:=(b1.block g hgd).trans hS;refine hC.out _ _ (fun _=>hS1) ?_;clear hC C hS;try simp only[zjA]
 refine Ord.qaf.step 8 (by kernel_rfl) rfl (fun C hC=>?_);go_simp;generalize w1.alloc (.cells #[.slice A at_ c,.slice (some ⟨wd.heap.size,0,none⟩) 1 1,.slice (frA A c at_) (n-at_) (c-at_)] 42)=w2 at *;have hS2:(fun W=>W.heap[g]?=some (.cells #[.string m0,.int .i64 m1,.int .i64 m2,.int .i64 m3,.int .i64 m4,.slice m5 m6 m7] 46 (0,0))) w2:=(b2.block g (by omega)).trans hS1;refine hC.out _ _ (fun _=>hS2) ?_;clear hC C hS1;try simp only[zjA]
 have hg1:w1.heap.size<w2.heap.size:=(zla.1 h2).1;have h12:=(b2.block wd.heap.size (by omega)).trans h1;have bd2:Below g wd w2:=(b1.trans (b2.mono (by omega))).mono (by omega);have bw2:=bd.trans bd2
 have HC:=hid (qis (wd.heap.size+1) w1.heap.size 3 [⟨A,at_,c,xs.take at_⟩,⟨some ⟨wd.heap.size,0,none⟩,1,1,[⟨m0,m1,m2,m3,m4,m5,m6,m7,m8⟩]⟩,⟨frA A c at_,n-at_,c-at_,xs.drop at_⟩] w2 rfl (by omega)
  (fun W hW j hj=>by
   have hB:=(hW.block w1.heap.size hg1).trans h2;rcases (show j=0∨j=1∨j=2 by simp at hj;omega) with rfl|rfl|rfl
   ·exact zlc _ w1.heap.size 0 _ _ _ hB
   ·exact zlc _ w1.heap.size 1 _ _ _ hB
   ·exact zlc _ w1.heap.size 2 _ _ _ hB)
  (fun s hs=>by
   have hM:=(HH.out.below (bw2.mono hK)).more (show K<=wd.heap.size+1 by omega);rcases List.mem_cons.1 hs with rfl|hs
   ·exact⟨Qez (m:=at_) hM (by omega),by show at_<=301;omega⟩
   ·rcases List.mem_cons.1 hs with rfl|hs
    ·refine⟨⟨rfl,fun k hk=>?_⟩,by show 1<=301;omega⟩;have hk0:k=0:=by simp at hk;omega
     subst hk0;exact⟨⟨wd.heap.size,0,rfl,by omega,zlc _ wd.heap.size 0 _ _ _ h12,zlc _ wd.heap.size 1 _ _ _ h12,zlc _ wd.heap.size 2 _ _ _ h12,zlc _ wd.heap.size 3 _ _ _ h12,zlc _ wd.heap.size 4 _ _ _ h12,zlc _ wd.heap.size 5 _ _ _ h12⟩,(HMR.out.below (bw2.mono hK)).more (by omega),by show m6<=_;omega⟩
    ·rw[zlw] at hs;subst hs;exact⟨qzt hM (by omega) hnc,by show n-at_<=301;omega⟩) (by omega))
 rw[Qfb,s1] at HC;have hS:=hS2;have hg2:g<w2.heap.size:=by omega
 clear s1;clear h1 h2 h12 HU HF HH HMR b1 b2 bd bd2 hS2;refine Ord.qaf.step 9 (by kernel_rfl) rfl (fun C hC=>?_);go_simp;go_at_call 203;refine HC.out.mono ?_;rintro e w5 ⟨A2,c2,rfl,o2,b5⟩;have hS5:(fun W=>W.heap[g]?=some (.cells #[.string m0,.int .i64 m1,.int .i64 m2,.int .i64 m3,.int .i64 m4,.slice m5 m6 m7] 46 (0,0))) w5:=(b5.block g (by omega)).trans hS;go_wp2_with fail
 refine hC.out _ _ (fun _=>hS5) ?_;clear hC C;try simp only[zjA]
 refine Ord.qaf.step 10 (by kernel_rfl) rfl (fun C hC=>?_);go_simp;refine hC.out _ _ (fun h=>absurd rfl h) ?_;clear hC C;try simp only[zjA]
 refine Ord.qaf.done (by kernel_rfl) ?_ _;go_wp2_with fail
 go_ret
 exact⟨A2,c2,rfl,by rw[HG.out];exact o2.more (by omega),by rw[HG.out];exact bw2.trans (b5.mono (by omega))⟩
end JE
namespace JE
open JB
open JR (Mem RdM qft qa8 qdn)
open JW (core MOk)
def Dat (w:World)(xs:List Mem):Prop:=∀x∈xs,JB.Rd w w.heap.size x.ptr x.len x.data/\x.len<=140737488355328
theorem Dat.on {w w':World}{xs:List Mem}(h:Dat w xs)(hb:Below w.heap.size w w'):Dat w' xs:=fun x hx=>⟨((h x hx).1.below hb).more hb.size,(h x hx).2⟩
theorem Dat.of {w:World}{K n:Nat}{A:Option Addr}{xs:List Mem}(h:RdM w K A n xs)(hK:K<=w.heap.size):Dat w xs:=fun x hx=>by
 obtain⟨q,hq,rfl⟩:=List.mem_iff_getElem.1 hx;exact⟨(h.2 q hq).2.1.more hK,(h.2 q hq).2.2⟩
theorem Dat.del {w:World}{xs:List Mem}(h:Dat w xs)(i:Nat):Dat w (qc1 xs i):=fun x hx=>h x (qcq hx)
theorem Dat.ins {w:World}{xs:List Mem}(h:Dat w xs)(i:Nat)(m:Mem)(hm:JB.Rd w w.heap.size m.ptr m.len m.data)(hl:m.len<=140737488355328):Dat w (qfw xs i m):=fun x hx=>by
 rcases qcr hx with rfl|hx
 ·exact⟨hm,hl⟩
 ·exact h x hx
theorem Qfc {xs:List Mem}(h:∀x∈xs,MOk x)(i:Nat):∀x∈qc1 xs i,MOk x:=fun x hx=>h x (qcq hx)
theorem qzv {xs:List Mem}(h:∀x∈xs,MOk x)(i:Nat)(m:Mem)(hm:MOk m):∀x∈qfw xs i m,MOk x:=fun x hx=>by
 rcases qcr hx with rfl|hx
 ·exact hm
 ·exact h x hx
theorem Qf2.rd {xs:List Mem}{w w':World}{e:Ending}(h:Qf2 xs w e w')(hd:Dat w xs):
 ∃A c,e=.returned (.slice A xs.length c)/\RdM w' w'.heap.size A xs.length xs/\xs.length<=c/\Below w.heap.size w w':=by
 obtain⟨A,c,rfl,hO,hb⟩:=h;obtain⟨A',c',e1,hr,h1,_⟩:=hO.reads;injection e1 with e11 _ e13;subst e11 e13;exact⟨A,c,rfl,qdn hr (hd.on hb),h1,hb⟩
theorem qpx (K:Nat)(A:Option Addr)(n c:Nat)(xs:List Mem)(m:Mem)(w:World)(h:qpw w K A n c xs)(he:Qck w K m):
 Calls prog 116 #[.slice A n c,m.val] w (qd1 (qfw xs n m) w):=by
 have hb1:=zjB w (.cells #[.string m.name,.int .i64 m.time,.int .i64 m.uid,.int .i64 m.gid,.int .i64 m.mode,.slice m.ptr m.len m.cap] 46);have hrow:=zld w (.cells #[.string m.name,.int .i64 m.time,.int .i64 m.uid,.int .i64 m.gid,.int .i64 m.mode,.slice m.ptr m.len m.cap] 46);have h1:=h.on hb1;have he1:=he.on hb1;have HI:=hid (qh7 K A n c xs n m _ h1.rd h1.hK h.n100 h.nc zjn he.ok he1.rd);have HD:=hid (((Dat.of h1.rd h1.hK).ins n m (he1.rd.more he1.hK) (by have:=he.ok.len;omega)));have HO:=hid (qzv h.ok n m he.ok);have HL:Hid ((qfw xs n m).length=n+1):=hid (by rw[qc3,h.rd.1]);have hn:=h.n100;have k1:=hb1.size;obtain⟨m0,m1,m2,m3,m4,m5,m6,m7,m8⟩:=m;simp only[Mem.val] at HI |-;simp only at hb1 hrow HI k1 HD;clear h he h1 he1;go_enter func116,ntmps116;go_upto_region 1 with fail
 generalize w.alloc (.cells #[.string m0,.int .i64 m1,.int .i64 m2,.int .i64 m3,.int .i64 m4,.slice m5 m6 m7] 46)=w1 at *;have zzd:=fun k=>zjc w.heap.size k hrow;have HB:=hid hb1;clear hrow hb1;go_wp2_with fail
 refine HI.out.mono ?_;rintro e w2 hJ;obtain⟨A2,c2,rfl,r2,l2,b2⟩:=hJ.rd HD.out;have HC:=hid (qd4 _ A2 _ c2 _ w2 r2 zjn HO.out (by rw[HL.out];omega));have B2:=HB.out.trans (b2.mono k1);have k2:=B2.size;clear HI HD HO HL hJ r2 b2 zzd;go_wp2_with fail
 refine HC.out.mono ?_;rintro e w3 ⟨A3,n3,c3,ys,rfl,o3,dd3,hc3,hs3,hb3⟩;go_wp2_with fail
 go_ret
 exact⟨A3,n3,c3,ys,rfl,o3.more k2,fun y hy=>(dd3 y hy).more k2,hc3,hs3,B2.trans (hb3.mono k2)⟩
theorem qpy (K:Nat)(A:Option Addr)(n c:Nat)(xs:List Mem)(s:ByteArray)(w:World)(h:qpw w K A n c xs):
 Calls prog 117 #[.slice A n c,.string s] w (qav (qet xs s).1 (qet xs s).2 w):=by
 have hn:=h.n100;have HF:=hid (qfi K A n c xs s w h.rd h.hK (by omega));have H:=hid h;clear h;go_enter func117,ntmps117;go_wp2_with fail
 refine HF.out.mono ?_;rintro e w1 ⟨rfl,hb1⟩;have H1:=hid (H.out.on hb1);have k1:=hb1.size;have HB:=hid hb1
 cases hf:qar xs s with
 |none=>
  have hfi:qaz xs s= -1:=by unfold qaz;rw[hf]
  have HE:Hid (qet xs s=(xs,10)):=hid (by unfold qet;rw[hf]);rw[hfi];have HC:=hid (qd4 K A n c xs w1 H1.out.rd H1.out.hK H1.out.ok (by omega));clear hf hfi HF hb1;go_wp2_with fail
  refine HC.out.mono ?_;rintro e w2 ⟨A2,n2,c2,ys,rfl,o2,d2,hc2,hs2,hb2⟩;go_wp2_with fail
  exact zlf (v:=.tuple #[.slice A2 n2 c2,.int .i64 10]) (by simp[results,results117,asAddr]) rfl ⟨A2,n2,c2,ys,by rw[HE.out],o2.more k1,fun y hy=>(d2 y hy).more k1,by rw[HE.out];exact hc2,hs2,HB.out.trans (hb2.mono k1)⟩
 |some i=>
  have hfi:qaz xs s=(i:Int):=by unfold qaz;rw[hf]
  have HE:Hid (qet xs s=(qc1 xs i,0)):=hid (by unfold qet;rw[hf]);rw[hfi];have hi0:¬(i:Int)<0:=by omega
  have hil:i<n:=by have:=(qb6 hf).1;have:=H.out.rd.1;omega
  have HR:=hid (qjp K A n c xs i w1 H1.out.rd H1.out.hK hn H1.out.nc hil);clear hf hfi HF hb1;go_wp2_with fail
  refine HR.out.mono ?_;rintro e w2 hJ;obtain⟨A2,c2,rfl,r2,l2,b2⟩:=hJ.rd ((Dat.of H1.out.rd H1.out.hK).del i);have HC:=hid (qd4 _ A2 _ c2 _ w2 r2 zjn (Qfc H1.out.ok i) (by have:=qg0 (xs:=xs) (at_:=i);have:=H.out.rd.1;omega));have B2:=HB.out.trans (b2.mono k1);have k2:=B2.size;clear HR hJ r2 b2;go_wp2_with fail
  refine HC.out.mono ?_;rintro e w3 ⟨A3,n3,c3,ys,rfl,o3,d3,hc3,hs3,hb3⟩;go_wp2_with fail
  exact zlf (v:=.tuple #[.slice A3 n3 c3,.int .i64 0]) (by simp[results,results117,asAddr]) rfl ⟨A3,n3,c3,ys,by rw[HE.out],o3.more k2,fun y hy=>(d3 y hy).more k2,by rw[HE.out];exact hc3,hs3,B2.trans (hb3.mono k2)⟩
def ExtP (xs:List Mem)(s:ByteArray)(w:World)(e:Ending)(w':World):Prop:=
 ∃D k d,e=.returned (.tuple #[.slice D k d,.int .i64 (qh6 xs s)])/\JB.Own w' w.heap.size (.slice D k d) k (qmr xs s)/\Below w.heap.size w w'
theorem qms (K:Nat)(A:Option Addr)(n c:Nat)(xs:List Mem)(s:ByteArray)(w:World)(h:qpw w K A n c xs):
 Calls prog 119 #[.slice A n c,.string s] w (ExtP xs s w):=by
 have hn:=h.n100;have HF:=hid (qfi K A n c xs s w h.rd h.hK (by omega));have H:=hid h;clear h;go_enter func119,ntmps119;go_wp2_with fail
 refine HF.out.mono ?_;rintro e w1 ⟨rfl,hb1⟩;have H1:=hid (H.out.on hb1);have k1:=hb1.size;have HB:=hid hb1
 cases hf:qar xs s with
 |none=>
  have hfi:qaz xs s= -1:=by unfold qaz;rw[hf]
  have HE:Hid (qmr xs s=[]/\qh6 xs s=10):=hid (by unfold qmr qh6;rw[hf];exact⟨rfl,rfl⟩);rw[hfi];clear hf hfi HF hb1;go_wp2_with fail
  exact zlf (v:=.tuple #[.slice none 0 0,.int .i64 10]) (by simp[results,results119,asAddr]) rfl ⟨none,0,0,by rw[HE.out.2],by rw[HE.out.1];exact JB.Own.nil _ _,HB.out⟩
 |some i=>
  have hfi:qaz xs s=(i:Int):=by unfold qaz;rw[hf]
  rw[hfi];have hi0:¬(i:Int)<0:=by omega
  have hil:i<n:=by have:=(qb6 hf).1;have:=H.out.rd.1;omega
  have hix:i<xs.length:=by have:=H.out.rd.1;omega
  have hii:(i:Int)<(n:Int):=by omega
  have HE:Hid (qmr xs s=xs[i].data/\qh6 xs s=0):=hid (by unfold qmr qh6;rw[hf];refine⟨?_,rfl⟩;show (Option.map _ xs[i]?).getD []=_;rw[zlh hix];rfl);obtain⟨⟨b,o,rfl,hbK,hcell⟩,hxd,hxl⟩:=H1.out.rd.2 i hix;have hkk:=H1.out.hK;generalize xs[i]=x at *;obtain⟨x0,x1,x2,x3,x4,x5,x6,x7,x8⟩:=x;obtain⟨p0,p1,p2,p3,p4,p5⟩:=hcell;simp only at *;have HC:=hid (qc7 K x5 x6 x7 x8 w1 hxd hxl);clear hf hfi HF hb1 hxd p0 p1 p2 p3 p4;go_wp2_with fail
  refine HC.out.mono ?_;rintro e w2 ⟨D2,c2,rfl,o2,b2⟩;go_wp2_with fail
  exact zlf (v:=.tuple #[.slice D2 x6 c2,.int .i64 0]) (by simp[results,results119,asAddr]) rfl ⟨D2,x6,c2,by rw[HE.out.2],by rw[HE.out.1];exact o2.more k1,HB.out.trans (b2.mono k1)⟩
end JE
end Go.Proofs.YtlmolmohhpdhdaaGreatDoor
