/-
  A map from bytes or strings to values of whatever type:
-/
import Derived.Test.YtlmolmohhpdhdaaGreatDoorYLg
import Derived.Test.YtlmolmohhpdhdaaGreatDoorYEyh
set_option maxRecDepth 100000
set_option maxHeartbeats 16000000
set_option linter.all false
namespace Go.Proofs.YtlmolmohhpdhdaaGreatDoor
open Go.RowKit Go.Proofs Tryz
namespace JL
open JB
theorem Qc0 (q:IntKind)(z:Int):MapKept.IsKey (.int q) (.int q z):=rfl
theorem qem {t k e:TypeId}{q:TypeDesc}{z:Value}{w:World}{b c:Nat}{es:Array MapEntry}(ht:prog.underlying t=some (.map k e))(hk:prog.underlying k=some q)(h:w.heap[b]?=some (.map es c))(ik:MapKept.IsKey q z)(v:Value)
 (hn:Instr.findNow q z es.toList 0=some none):
 ∃w',(Instr.mapUpdate t (.map (some b)) z v).run prog w=.ok () w'/\w'.heap[b]?=some (.map (es.push ⟨z,v,c⟩) (c+1))/\∀K,K<=b->Below K w w':=by
 have hh:=MapKept.heap_set (o':=.map (es.push ⟨z,v,c⟩) (c+1)) h;have Xa:b<w.heap.size:=(zla.1 h).1;have hc:(Instr.checkKey false 10000 k z).run prog w=.ok () w:=MapKept.run_checkKey hk ik false 9999;refine⟨{w with heap:=w.heap.setIfInBounds b (.map (es.push ⟨z,v,c⟩) (c+1))},?_,hh.1,fun K hK=>?_⟩
 ·simp[Instr.mapUpdate,run_underlying ht,MapKept.run_getObj_map h,hc,MapKept.run_findKey hk hn,MapKept.run_setObj_map _ h,Result.andThen]
 ·exact⟨rfl,rfl,rfl,by simp,fun j hj=>hh.2 j (by omega)⟩
theorem qhi {t k e:TypeId}{q:TypeDesc}{z:Value}{w:World}{b c:Nat}{es:Array MapEntry}(ht:prog.underlying t=some (.map k e))(hk:prog.underlying k=some q)(h:w.heap[b]?=some (.map es c))(ik:MapKept.IsKey q z){v:Value}{i:Nat}
 (hn:Instr.findNow q z es.toList 0=some (some (i,v))):
 (Instr.lookup t (.map (some b)) z true).run prog w=.ok (.tuple #[v,.bool true]) w:=by
 have hc:∀em,(Instr.checkKey em 10000 k z).run prog w=.ok () w:=fun em=>MapKept.run_checkKey hk ik em 9999;simp[Instr.lookup,run_underlying ht,MapKept.run_getObj_map h,hc,MapKept.run_findKey hk hn,Result.andThen]
theorem Qa3 {t k e:TypeId}{q:TypeDesc}{z:Value}{w:World}{b c:Nat}{es:Array MapEntry}(ht:prog.underlying t=some (.map k e))(hk:prog.underlying k=some q)(h:w.heap[b]?=some (.map es c))(ik:MapKept.IsKey q z){v:Value}
 (hz:(zeroValue e).run prog w=.ok v w)(hn:Instr.findNow q z es.toList 0=some none):
 (Instr.lookup t (.map (some b)) z true).run prog w=.ok (.tuple #[v,.bool false]) w:=by
 have hc:∀em,(Instr.checkKey em 10000 k z).run prog w=.ok () w:=fun em=>MapKept.run_checkKey hk ik em 9999;simp[Instr.lookup,run_underlying ht,MapKept.run_getObj_map h,hc,MapKept.run_findKey hk hn,hz,Result.andThen]
theorem qda (w:World)(a b:Obj):∃w1,w1=(w.alloc a).alloc b/\Below w.heap.size w w1/\w1.heap[w.heap.size]?=some a/\w1.heap[w.heap.size+1]?=some b/\w1.heap.size=w.heap.size+2:=by
 have h1:=zlr w a;have h2:=zlr (w.alloc a) b;have h3:=zld (w.alloc a) b;have b1:=(Below.refl w.heap.size w).alloc zjn a;have b2:=(Below.refl (w.alloc a).heap.size (w.alloc a)).alloc zjn b;rw[h1] at h2 h3 b2;exact⟨_,rfl,b1.trans (b2.mono (Nat.le_succ _)),(b2.block _ (Nat.lt_succ_self _)).trans (zld w a),h3,h2⟩
def fnV (f:FuncId):Value:=.func (.func f) #[] #[]
def Qcm:Array MapEntry:=#[⟨.int .u8 114,.agg #[.bool true,fnV 77],0⟩,⟨.int .u8 113,.agg #[.bool true,fnV 78],1⟩,⟨.int .u8 100,.agg #[.bool true,fnV 79],2⟩,⟨.int .u8 109,.agg #[.bool true,fnV 80],3⟩,⟨.int .u8 120,.agg #[.bool false,fnV 81],4⟩,⟨.int .u8 116,.agg #[.bool false,fnV 82],5⟩]
theorem qi8 (w:World):Calls prog 54 #[] w fun e w'=>∃b,e=.returned (.map (some b))/\w'.heap[b]?=some (.map Qcm 6)/\Below w.heap.size w w':=by
 have Xb:=@run_makeMap prog;have ht:prog.underlying 118=some (.map 5 116):=by kernel_rfl
 have Xa:=zjB w (.map #[] 0);have r0:=zld w (.map #[] 0);obtain⟨w1,h1,r1,b1⟩:=qem (z:=.int .u8 114) ht underlying5 r0 (Qc0 _ _) (.agg #[.bool true,fnV 77]) rfl;obtain⟨w2,h2,r2,b2⟩:=qem (z:=.int .u8 113) ht underlying5 r1 (Qc0 _ _) (.agg #[.bool true,fnV 78]) rfl;obtain⟨w3,h3,r3,b3⟩:=qem (z:=.int .u8 100) ht underlying5 r2 (Qc0 _ _) (.agg #[.bool true,fnV 79]) rfl;obtain⟨w4,h4,r4,b4⟩:=qem (z:=.int .u8 109) ht underlying5 r3 (Qc0 _ _) (.agg #[.bool true,fnV 80]) rfl;obtain⟨w5,h5,r5,b5⟩:=qem (z:=.int .u8 120) ht underlying5 r4 (Qc0 _ _) (.agg #[.bool false,fnV 81]) rfl;obtain⟨w6,h6,r6,b6⟩:=qem (z:=.int .u8 116) ht underlying5 r5 (Qc0 _ _) (.agg #[.bool false,fnV 82]) rfl;have hb:Below w.heap.size w w6:=((((((Xa.trans (b1 _ zjn)).trans (b2 _ zjn)).trans (b3 _ zjn)).trans (b4 _ zjn)).trans (b5 _ zjn)).trans (b6 _ zjn));have HR:Hid (w6.heap[w.heap.size]?=some (.map Qcm 6)):=hid r6;clear r0 r1 r2 r3 r4 r5 r6 b1 b2 b3 b4 b5 b6 Xa ht;unfold fnV at h1 h2 h3 h4 h5 h6;go_enter func54,ntmps54;go_wp2_with fail
 go_ret
 exact⟨_,rfl,HR.out,hb⟩
open JS (Oth)
open JR (Mem RdM qft qa8)
open JW (core MOk qai qbb)
open JE (qav qd1 qi6 qfx qfw qc1 qet qfh qbr qmr qh6 qpw Qck qmt qpx qpy qvz qms qvt)
def qjm (W:World)(B:Nat)(v0 v1 v2 v3:Value):World:=(((W.setCell ⟨B,0,none⟩ v0).setCell ⟨B,1,none⟩ v1).setCell ⟨B,2,none⟩ v2).setCell ⟨B,3,none⟩ v3
theorem qkg {W:World}{B:Nat}{a b c d:Value}{t:TypeId}(h:W.heap[B]?=some (.cells #[a,b,c,d] t (0,0)))(v0 v1 v2 v3:Value):(qjm W B v0 v1 v2 v3).heap[B]?=some (.cells #[v0,v1,v2,v3] t (0,0)):=
 zle _ B 3 _ _ v3 (zle _ B 2 _ _ v2 (zle _ B 1 _ _ v1 (zle W B 0 _ _ v0 h)))
theorem qi2 {W:World}{B:Nat}(v0 v1 v2 v3:Value)(g:Nat)(hg:g≠B):(qjm W B v0 v1 v2 v3).heap[g]?=W.heap[g]?:=by
 unfold qjm;rw[zly _ ⟨B,3,none⟩ _ g hg,zly _ ⟨B,2,none⟩ _ g hg,zly _ ⟨B,1,none⟩ _ g hg,zly _ ⟨B,0,none⟩ _ g hg]
theorem qc5 {w W:World}{K B:Nat}(h:Below K w W)(hB:K<=B)(v0 v1 v2 v3:Value):Below K w (qjm W B v0 v1 v2 v3):=
 (((h.setCell (p:=⟨B,0,none⟩) hB v0).setCell (p:=⟨B,1,none⟩) hB v1).setCell (p:=⟨B,2,none⟩) hB v2).setCell (p:=⟨B,3,none⟩) hB v3
theorem qyp {W:World}{B:Nat}{a b c d:Value}(h:W.heap[B]?=some (.cells #[a,b,c,d] 121 (0,0))):(loadVar 121 ⟨B,0,none⟩).run prog W=.ok (.agg #[a,b,c,d]) W:=
 run_loadVar_row _ B 121 121 #[a,b,c,d] (0,0) _ h underlying121 rfl (by kernel_rfl)
theorem qui {W:World}{B:Nat}{a b c d:Value}(h:W.heap[B]?=some (.cells #[a,b,c,d] 121 (0,0)))(v0 v1 v2 v3:Value):
 (loadVar 121 ⟨B,0,none⟩).run prog ((((W.setCell ⟨B,0,none⟩ v0).setCell ⟨B,1,none⟩ v1).setCell ⟨B,2,none⟩ v2).setCell ⟨B,3,none⟩ v3)=.ok (.agg #[v0,v1,v2,v3]) ((((W.setCell ⟨B,0,none⟩ v0).setCell ⟨B,1,none⟩ v1).setCell ⟨B,2,none⟩ v2).setCell ⟨B,3,none⟩ v3):=
 qyp (qkg h v0 v1 v2 v3)
def qkj (xs:List Mem)(ns:List ByteArray)(l:List UInt8)(z:Int)(w:World)(e:Ending)(w':World):Prop:=
 ∃(A:Option Addr)(n c:Nat)(B:Option Addr)(k d:Nat)(D:Option Addr)(j f:Nat),e=.returned (.agg #[.slice A n c,.slice B k d,.slice D j f,.int .i64 z])/\qav xs z w (.returned (.tuple #[.slice A n c,.int .i64 z])) w'/\JS.Own w' w.heap.size (.slice B k d) k ns/\JB.Own w' w.heap.size (.slice D j f) j l/\Below w.heap.size w w'
theorem qrv {w w':World}{z:Int}(hb:Below w.heap.size w w'):qav [] z w (.returned (.tuple #[.slice none 0 0,.int .i64 z])) w':=
 ⟨none,0,0,[],rfl,JC.Own.nil _ _ _ _,fun _ hx=>by simp at hx,rfl,fun _ hx=>by simp at hx,hb⟩
theorem peff_r (K:Nat)(A:Option Addr)(n c:Nat)(xs:List Mem)(q:Cmd)(w:World)(h:qpw w K A n c xs)(hq:qef w K q):
 Calls prog 77 #[.slice A n c,q.val] w (qkj (qfx xs q.m q.z q.a).1 [] [] (qfx xs q.m q.z q.a).2 w):=by
 have hK:=h.hK;obtain⟨op,⟨m0,m1,m2,m3,m4,m5,m6,m7,m8⟩,nm,z,a⟩:=q;obtain⟨w1,e1,Xc,hC,hS,Xk⟩:=qda w (.cells #[.int .u8 (op.toNat:Int),.string m0,.int .i64 m1,.int .i64 m2,.int .i64 m3,.int .i64 m4,.slice m5 m6 m7,.string nm,.int .i64 z,.string a] 56) (.cells #[.slice none 0 0,.slice none 0 0,.slice none 0 0,.int .i64 0] 121);simp only[Cmd.val,Cmd.cells];go_enter func77,ntmps77;go_upto_region 1 with fail
 rw[<-e1];clear e1;have hM:=hid (h.on Xc);have hE:Hid (Qck w1 K ⟨m0,m1,m2,m3,m4,m5,m6,m7,m8⟩):=hid ⟨hq.ok,hq.rd.below (Xc.mono hK),Nat.le_trans hK Xc.size,hq.cap⟩;clear h hq;have Xi:=fun k=>zjc w.heap.size k hC;go_wp2_with fail
 refine (qmt K A n c xs ⟨m0,m1,m2,m3,m4,m5,m6,m7,m8⟩ z a w1 hM.out hE.out).mono ?_;rintro e w2 ⟨A2,n2,c2,ys,rfl,o2,D2,c0,s2,Xe⟩;have Xd:=(Xe.block (w.heap.size+1) (by omega)).trans hS;have Xa:=zle w2 (w.heap.size+1) 0 _ _ (.slice A2 n2 c2) Xd;have Xh:=zle _ (w.heap.size+1) 3 _ _ (.int .i64 (qfx xs ⟨m0,m1,m2,m3,m4,m5,m6,m7,m8⟩ z a).2) Xa;have Xf:Oth 121 w2 (qjm ((w2.setCell ⟨w.heap.size+1,0,none⟩ (.slice A2 n2 c2)).setCell ⟨w.heap.size+1,3,none⟩ (.int .i64 (qfx xs ⟨m0,m1,m2,m3,m4,m5,m6,m7,m8⟩ z a).2)) (w.heap.size+1) (.slice A2 n2 c2) (.slice none 0 0) (.slice none 0 0) (.int .i64 (qfx xs ⟨m0,m1,m2,m3,m4,m5,m6,m7,m8⟩ z a).2)):=Oth.put Xd fun g hg=>(qi2 _ _ _ _ g hg).trans ((zly _ ⟨w.heap.size+1,3,none⟩ _ g hg).trans (zly _ ⟨w.heap.size+1,0,none⟩ _ g hg));have Xg:=qc5 ((((Xc.trans (Xe.mono (by omega))).setCell (p:=⟨w.heap.size+1,0,none⟩) (Nat.le_succ _) (.slice A2 n2 c2))).setCell (p:=⟨w.heap.size+1,3,none⟩) (Nat.le_succ _) (.int .i64 (qfx xs ⟨m0,m1,m2,m3,m4,m5,m6,m7,m8⟩ z a).2)) (show w.heap.size<=w.heap.size+1 by omega) (.slice A2 n2 c2) (.slice none 0 0) (.slice none 0 0) (.int .i64 (qfx xs ⟨m0,m1,m2,m3,m4,m5,m6,m7,m8⟩ z a).2);have f2:∀o,w2.frozen? ⟨w.heap.size+1,o,none⟩=false:=fun o=>by simp[World.frozen?,Xd]
 have Xj:∀o,(w2.setCell ⟨w.heap.size+1,0,none⟩ (.slice A2 n2 c2)).frozen? ⟨w.heap.size+1,o,none⟩=false:=fun o=>zlp _ _ o _ _ Xa;have e0:=zjc (w.heap.size+1) 0 Xd;have e3:=zjc (w.heap.size+1) 3 Xa;have HO:=hid Xf;have HB:=hid Xg;have Xb:=hid Xh;clear Xh Xf Xg;go_upto_region 2 with fail
 generalize (w2.setCell ⟨w.heap.size+1,0,none⟩ (.slice A2 n2 c2)).setCell ⟨w.heap.size+1,3,none⟩ (.int .i64 (qfx xs ⟨m0,m1,m2,m3,m4,m5,m6,m7,m8⟩ z a).2)=w3 at *;clear e0 e3 f2 Xj Xa;have Xm:=qyp Xb.out;have f3:∀o,w3.frozen? ⟨w.heap.size+1,o,none⟩=false:=fun o=>zlp _ _ o _ _ Xb.out;have hl:=qui Xb.out (.slice A2 n2 c2) (.slice none 0 0) (.slice none 0 0) (.int .i64 (qfx xs ⟨m0,m1,m2,m3,m4,m5,m6,m7,m8⟩ z a).2);have e0:=zjc (w.heap.size+1) 0 Xb.out;have e1:=zjc (w.heap.size+1) 1 Xb.out;have e2:=zjc (w.heap.size+1) 2 Xb.out;have e3:=zjc (w.heap.size+1) 3 Xb.out;have HP:=hid (show qkj (qfx xs ⟨m0,m1,m2,m3,m4,m5,m6,m7,m8⟩ z a).1 [] [] (qfx xs ⟨m0,m1,m2,m3,m4,m5,m6,m7,m8⟩ z a).2 w (.returned (.agg #[.slice A2 n2 c2,.slice none 0 0,.slice none 0 0,.int .i64 (qfx xs ⟨m0,m1,m2,m3,m4,m5,m6,m7,m8⟩ z a).2])) _ from ⟨A2,n2,c2,none,0,0,none,0,0,rfl,⟨A2,n2,c2,ys,rfl,(o2.oth HO.out (by decide)).more (by omega),fun y hy=>(qai (D2 y hy) HO.out (by decide)).more (by omega),c0,s2,HB.out⟩,JS.Own.nil _ _,JB.Own.nil _ _,HB.out⟩);clear HO HB hC hS Xd hM hE Xk Xc Xe o2 D2 c0 s2 Xb;clear Xi;go_wp2_with fail
 exact zlf (v:=.agg #[.slice A2 n2 c2,.slice none 0 0,.slice none 0 0,.int .i64 (qfx xs ⟨m0,m1,m2,m3,m4,m5,m6,m7,m8⟩ z a).2]) (by simp[results,results77,asAddr,hl]) rfl HP.out
theorem peff_q (K:Nat)(A:Option Addr)(n c:Nat)(xs:List Mem)(q:Cmd)(w:World)(h:qpw w K A n c xs)(hq:qef w K q):
 Calls prog 78 #[.slice A n c,q.val] w (qkj (qfw xs n q.m) [] [] 0 w):=by
 have hK:=h.hK;obtain⟨op,⟨m0,m1,m2,m3,m4,m5,m6,m7,m8⟩,nm,z,a⟩:=q;obtain⟨w1,e1,Xb,hC,hS,Xe⟩:=qda w (.cells #[.int .u8 (op.toNat:Int),.string m0,.int .i64 m1,.int .i64 m2,.int .i64 m3,.int .i64 m4,.slice m5 m6 m7,.string nm,.int .i64 z,.string a] 56) (.cells #[.slice none 0 0,.slice none 0 0,.slice none 0 0,.int .i64 0] 121);simp only[Cmd.val,Cmd.cells];go_enter func78,ntmps78;go_upto_region 1 with fail
 rw[<-e1];clear e1;have hM:=hid (h.on Xb);have hE:Hid (Qck w1 K ⟨m0,m1,m2,m3,m4,m5,m6,m7,m8⟩):=hid ⟨hq.ok,hq.rd.below (Xb.mono hK),Nat.le_trans hK Xb.size,hq.cap⟩;clear h hq;have Xd:=fun k=>zjc w.heap.size k hC;go_wp2_with fail
 refine (qpx K A n c xs ⟨m0,m1,m2,m3,m4,m5,m6,m7,m8⟩ w1 hM.out hE.out).mono ?_;rintro e w2 ⟨A2,n2,c2,ys,rfl,o2,D2,c0,s2,Xc⟩;have Xa:=(Xc.block (w.heap.size+1) (by omega)).trans hS;have HO:=hid (show Oth 121 w2 (qjm w2 (w.heap.size+1) (.slice A2 n2 c2) (.slice none 0 0) (.slice none 0 0) (.int .i64 0)) from Oth.put Xa fun g hg=>qi2 _ _ _ _ g hg);have HB:=hid (qc5 (Xb.trans (Xc.mono (by omega))) (show w.heap.size<=w.heap.size+1 by omega) (.slice A2 n2 c2) (.slice none 0 0) (.slice none 0 0) (.int .i64 0));have f2:∀o,w2.frozen? ⟨w.heap.size+1,o,none⟩=false:=fun o=>by simp[World.frozen?,Xa]
 have hl:=qui Xa (.slice A2 n2 c2) (.slice none 0 0) (.slice none 0 0) (.int .i64 0);have e0:=zjc (w.heap.size+1) 0 Xa;have e1:=zjc (w.heap.size+1) 1 Xa;have e2:=zjc (w.heap.size+1) 2 Xa;have e3:=zjc (w.heap.size+1) 3 Xa;have HP:=hid (show qkj (qfw xs n ⟨m0,m1,m2,m3,m4,m5,m6,m7,m8⟩) [] [] 0 w (.returned (.agg #[.slice A2 n2 c2,.slice none 0 0,.slice none 0 0,.int .i64 0])) _ from ⟨A2,n2,c2,none,0,0,none,0,0,rfl,⟨A2,n2,c2,ys,rfl,(o2.oth HO.out (by decide)).more (by omega),fun y hy=>(qai (D2 y hy) HO.out (by decide)).more (by omega),c0,s2,HB.out⟩,JS.Own.nil _ _,JB.Own.nil _ _,HB.out⟩);clear HO HB hC hS Xa hM hE Xe Xb Xc o2 D2 c0 s2;clear Xd;go_wp2_with fail
 exact zlf (v:=.agg #[.slice A2 n2 c2,.slice none 0 0,.slice none 0 0,.int .i64 0]) (by simp[results,results78,asAddr,hl]) rfl HP.out
theorem peff_d (K:Nat)(A:Option Addr)(n c:Nat)(xs:List Mem)(q:Cmd)(w:World)(h:qpw w K A n c xs)(hq:qef w K q):
 Calls prog 79 #[.slice A n c,q.val] w (qkj (qet xs q.nm).1 [] [] (qet xs q.nm).2 w):=by
 have hK:=h.hK;obtain⟨op,⟨m0,m1,m2,m3,m4,m5,m6,m7,m8⟩,nm,z,a⟩:=q;obtain⟨w1,e1,Xc,hC,hS,Xj⟩:=qda w (.cells #[.int .u8 (op.toNat:Int),.string m0,.int .i64 m1,.int .i64 m2,.int .i64 m3,.int .i64 m4,.slice m5 m6 m7,.string nm,.int .i64 z,.string a] 56) (.cells #[.slice none 0 0,.slice none 0 0,.slice none 0 0,.int .i64 0] 121);simp only[Cmd.val,Cmd.cells];go_enter func79,ntmps79;go_upto_region 1 with fail
 rw[<-e1];clear e1;have hM:=hid (h.on Xc);have hE:Hid (Qck w1 K ⟨m0,m1,m2,m3,m4,m5,m6,m7,m8⟩):=hid ⟨hq.ok,hq.rd.below (Xc.mono hK),Nat.le_trans hK Xc.size,hq.cap⟩;clear h hq;have d7:=zjc w.heap.size 7 hC;go_wp2_with fail
 refine (qpy K A n c xs nm w1 hM.out).mono ?_;rintro e w2 ⟨A2,n2,c2,ys,rfl,o2,D2,c0,s2,Xe⟩;have Xd:=(Xe.block (w.heap.size+1) (by omega)).trans hS;have Xa:=zle w2 (w.heap.size+1) 0 _ _ (.slice A2 n2 c2) Xd;have Xh:=zle _ (w.heap.size+1) 3 _ _ (.int .i64 (qet xs nm).2) Xa;have Xf:Oth 121 w2 (qjm ((w2.setCell ⟨w.heap.size+1,0,none⟩ (.slice A2 n2 c2)).setCell ⟨w.heap.size+1,3,none⟩ (.int .i64 (qet xs nm).2)) (w.heap.size+1) (.slice A2 n2 c2) (.slice none 0 0) (.slice none 0 0) (.int .i64 (qet xs nm).2)):=Oth.put Xd fun g hg=>(qi2 _ _ _ _ g hg).trans ((zly _ ⟨w.heap.size+1,3,none⟩ _ g hg).trans (zly _ ⟨w.heap.size+1,0,none⟩ _ g hg));have Xg:=qc5 ((((Xc.trans (Xe.mono (by omega))).setCell (p:=⟨w.heap.size+1,0,none⟩) (Nat.le_succ _) (.slice A2 n2 c2))).setCell (p:=⟨w.heap.size+1,3,none⟩) (Nat.le_succ _) (.int .i64 (qet xs nm).2)) (show w.heap.size<=w.heap.size+1 by omega) (.slice A2 n2 c2) (.slice none 0 0) (.slice none 0 0) (.int .i64 (qet xs nm).2);have f2:∀o,w2.frozen? ⟨w.heap.size+1,o,none⟩=false:=fun o=>by simp[World.frozen?,Xd]
 have Xi:∀o,(w2.setCell ⟨w.heap.size+1,0,none⟩ (.slice A2 n2 c2)).frozen? ⟨w.heap.size+1,o,none⟩=false:=fun o=>zlp _ _ o _ _ Xa;have e0:=zjc (w.heap.size+1) 0 Xd;have e3:=zjc (w.heap.size+1) 3 Xa;have HO:=hid Xf;have HB:=hid Xg;have Xb:=hid Xh;clear Xh Xf Xg;go_upto_region 2 with fail
 generalize (w2.setCell ⟨w.heap.size+1,0,none⟩ (.slice A2 n2 c2)).setCell ⟨w.heap.size+1,3,none⟩ (.int .i64 (qet xs nm).2)=w3 at *;clear e0 e3 f2 Xi Xa;have Xk:=qyp Xb.out;have f3:∀o,w3.frozen? ⟨w.heap.size+1,o,none⟩=false:=fun o=>zlp _ _ o _ _ Xb.out;have hl:=qui Xb.out (.slice A2 n2 c2) (.slice none 0 0) (.slice none 0 0) (.int .i64 (qet xs nm).2);have e0:=zjc (w.heap.size+1) 0 Xb.out;have e1:=zjc (w.heap.size+1) 1 Xb.out;have e2:=zjc (w.heap.size+1) 2 Xb.out;have e3:=zjc (w.heap.size+1) 3 Xb.out;have HP:=hid (show qkj (qet xs nm).1 [] [] (qet xs nm).2 w (.returned (.agg #[.slice A2 n2 c2,.slice none 0 0,.slice none 0 0,.int .i64 (qet xs nm).2])) _ from ⟨A2,n2,c2,none,0,0,none,0,0,rfl,⟨A2,n2,c2,ys,rfl,(o2.oth HO.out (by decide)).more (by omega),fun y hy=>(qai (D2 y hy) HO.out (by decide)).more (by omega),c0,s2,HB.out⟩,JS.Own.nil _ _,JB.Own.nil _ _,HB.out⟩);clear HO HB hC hS Xd hM hE Xj Xc Xe o2 D2 c0 s2 Xb;clear d7;go_wp2_with fail
 exact zlf (v:=.agg #[.slice A2 n2 c2,.slice none 0 0,.slice none 0 0,.int .i64 (qet xs nm).2]) (by simp[results,results79,asAddr,hl]) rfl HP.out
theorem peff_m (K:Nat)(A:Option Addr)(n c:Nat)(xs:List Mem)(q:Cmd)(w:World)(h:qpw w K A n c xs)(hq:qef w K q):
 Calls prog 80 #[.slice A n c,q.val] w (qkj (qfh xs q.nm q.z q.a).1 [] [] (qfh xs q.nm q.z q.a).2 w):=by
 have hK:=h.hK;obtain⟨op,⟨m0,m1,m2,m3,m4,m5,m6,m7,m8⟩,nm,z,a⟩:=q;obtain⟨w1,e1,Xc,hC,hS,Xk⟩:=qda w (.cells #[.int .u8 (op.toNat:Int),.string m0,.int .i64 m1,.int .i64 m2,.int .i64 m3,.int .i64 m4,.slice m5 m6 m7,.string nm,.int .i64 z,.string a] 56) (.cells #[.slice none 0 0,.slice none 0 0,.slice none 0 0,.int .i64 0] 121);simp only[Cmd.val,Cmd.cells];go_enter func80,ntmps80;go_upto_region 1 with fail
 rw[<-e1];clear e1;have hM:=hid (h.on Xc);have hE:Hid (Qck w1 K ⟨m0,m1,m2,m3,m4,m5,m6,m7,m8⟩):=hid ⟨hq.ok,hq.rd.below (Xc.mono hK),Nat.le_trans hK Xc.size,hq.cap⟩;clear h hq;have Xi:=fun k=>zjc w.heap.size k hC;go_wp2_with fail
 refine (qvz K A n c xs nm z a w1 hM.out).mono ?_;rintro e w2 ⟨A2,n2,c2,ys,rfl,o2,D2,c0,s2,Xe⟩;have Xd:=(Xe.block (w.heap.size+1) (by omega)).trans hS;have Xa:=zle w2 (w.heap.size+1) 0 _ _ (.slice A2 n2 c2) Xd;have Xh:=zle _ (w.heap.size+1) 3 _ _ (.int .i64 (qfh xs nm z a).2) Xa;have Xf:Oth 121 w2 (qjm ((w2.setCell ⟨w.heap.size+1,0,none⟩ (.slice A2 n2 c2)).setCell ⟨w.heap.size+1,3,none⟩ (.int .i64 (qfh xs nm z a).2)) (w.heap.size+1) (.slice A2 n2 c2) (.slice none 0 0) (.slice none 0 0) (.int .i64 (qfh xs nm z a).2)):=Oth.put Xd fun g hg=>(qi2 _ _ _ _ g hg).trans ((zly _ ⟨w.heap.size+1,3,none⟩ _ g hg).trans (zly _ ⟨w.heap.size+1,0,none⟩ _ g hg));have Xg:=qc5 ((((Xc.trans (Xe.mono (by omega))).setCell (p:=⟨w.heap.size+1,0,none⟩) (Nat.le_succ _) (.slice A2 n2 c2))).setCell (p:=⟨w.heap.size+1,3,none⟩) (Nat.le_succ _) (.int .i64 (qfh xs nm z a).2)) (show w.heap.size<=w.heap.size+1 by omega) (.slice A2 n2 c2) (.slice none 0 0) (.slice none 0 0) (.int .i64 (qfh xs nm z a).2);have f2:∀o,w2.frozen? ⟨w.heap.size+1,o,none⟩=false:=fun o=>by simp[World.frozen?,Xd]
 have Xj:∀o,(w2.setCell ⟨w.heap.size+1,0,none⟩ (.slice A2 n2 c2)).frozen? ⟨w.heap.size+1,o,none⟩=false:=fun o=>zlp _ _ o _ _ Xa;have e0:=zjc (w.heap.size+1) 0 Xd;have e3:=zjc (w.heap.size+1) 3 Xa;have HO:=hid Xf;have HB:=hid Xg;have Xb:=hid Xh;clear Xh Xf Xg;go_upto_region 2 with fail
 generalize (w2.setCell ⟨w.heap.size+1,0,none⟩ (.slice A2 n2 c2)).setCell ⟨w.heap.size+1,3,none⟩ (.int .i64 (qfh xs nm z a).2)=w3 at *;clear e0 e3 f2 Xj Xa;have Xm:=qyp Xb.out;have f3:∀o,w3.frozen? ⟨w.heap.size+1,o,none⟩=false:=fun o=>zlp _ _ o _ _ Xb.out;have hl:=qui Xb.out (.slice A2 n2 c2) (.slice none 0 0) (.slice none 0 0) (.int .i64 (qfh xs nm z a).2);have e0:=zjc (w.heap.size+1) 0 Xb.out;have e1:=zjc (w.heap.size+1) 1 Xb.out;have e2:=zjc (w.heap.size+1) 2 Xb.out;have e3:=zjc (w.heap.size+1) 3 Xb.out;have HP:=hid (show qkj (qfh xs nm z a).1 [] [] (qfh xs nm z a).2 w (.returned (.agg #[.slice A2 n2 c2,.slice none 0 0,.slice none 0 0,.int .i64 (qfh xs nm z a).2])) _ from ⟨A2,n2,c2,none,0,0,none,0,0,rfl,⟨A2,n2,c2,ys,rfl,(o2.oth HO.out (by decide)).more (by omega),fun y hy=>(qai (D2 y hy) HO.out (by decide)).more (by omega),c0,s2,HB.out⟩,JS.Own.nil _ _,JB.Own.nil _ _,HB.out⟩);clear HO HB hC hS Xd hM hE Xk Xc Xe o2 D2 c0 s2 Xb;clear Xi;go_wp2_with fail
 exact zlf (v:=.agg #[.slice A2 n2 c2,.slice none 0 0,.slice none 0 0,.int .i64 (qfh xs nm z a).2]) (by simp[results,results80,asAddr,hl]) rfl HP.out
theorem peff_x (K:Nat)(A:Option Addr)(n c:Nat)(xs:List Mem)(q:Cmd)(w:World)(h:qpw w K A n c xs)(hq:qef w K q):
 Calls prog 81 #[.slice A n c,q.val] w (qkj [] [] (qmr xs q.nm) (qh6 xs q.nm) w):=by
 have hK:=h.hK;obtain⟨op,⟨m0,m1,m2,m3,m4,m5,m6,m7,m8⟩,nm,z,a⟩:=q;obtain⟨w1,e1,Xc,hC,hS,Xj⟩:=qda w (.cells #[.int .u8 (op.toNat:Int),.string m0,.int .i64 m1,.int .i64 m2,.int .i64 m3,.int .i64 m4,.slice m5 m6 m7,.string nm,.int .i64 z,.string a] 56) (.cells #[.slice none 0 0,.slice none 0 0,.slice none 0 0,.int .i64 0] 121);simp only[Cmd.val,Cmd.cells];go_enter func81,ntmps81;go_upto_region 1 with fail
 rw[<-e1];clear e1;have hM:=hid (h.on Xc);have hE:Hid (Qck w1 K ⟨m0,m1,m2,m3,m4,m5,m6,m7,m8⟩):=hid ⟨hq.ok,hq.rd.below (Xc.mono hK),Nat.le_trans hK Xc.size,hq.cap⟩;clear h hq;have d7:=zjc w.heap.size 7 hC;go_wp2_with fail
 refine (qms K A n c xs nm w1 hM.out).mono ?_;rintro e w2 ⟨A2,n2,c2,rfl,o2,Xe⟩;have Xd:=(Xe.block (w.heap.size+1) (by omega)).trans hS;have Xa:=zle w2 (w.heap.size+1) 2 _ _ (.slice A2 n2 c2) Xd;have Xh:=zle _ (w.heap.size+1) 3 _ _ (.int .i64 (qh6 xs nm)) Xa;have Xf:Oth 121 w2 (qjm ((w2.setCell ⟨w.heap.size+1,2,none⟩ (.slice A2 n2 c2)).setCell ⟨w.heap.size+1,3,none⟩ (.int .i64 (qh6 xs nm))) (w.heap.size+1) (.slice none 0 0) (.slice none 0 0) (.slice A2 n2 c2) (.int .i64 (qh6 xs nm))):=Oth.put Xd fun g hg=>(qi2 _ _ _ _ g hg).trans ((zly _ ⟨w.heap.size+1,3,none⟩ _ g hg).trans (zly _ ⟨w.heap.size+1,2,none⟩ _ g hg));have Xg:=qc5 ((((Xc.trans (Xe.mono (by omega))).setCell (p:=⟨w.heap.size+1,2,none⟩) (Nat.le_succ _) (.slice A2 n2 c2))).setCell (p:=⟨w.heap.size+1,3,none⟩) (Nat.le_succ _) (.int .i64 (qh6 xs nm))) (show w.heap.size<=w.heap.size+1 by omega) (.slice none 0 0) (.slice none 0 0) (.slice A2 n2 c2) (.int .i64 (qh6 xs nm));have f2:∀o,w2.frozen? ⟨w.heap.size+1,o,none⟩=false:=fun o=>by simp[World.frozen?,Xd]
 have Xi:∀o,(w2.setCell ⟨w.heap.size+1,2,none⟩ (.slice A2 n2 c2)).frozen? ⟨w.heap.size+1,o,none⟩=false:=fun o=>zlp _ _ o _ _ Xa;have e2:=zjc (w.heap.size+1) 2 Xd;have e3:=zjc (w.heap.size+1) 3 Xa;have HO:=hid Xf;have HB:=hid Xg;have Xb:=hid Xh;clear Xh Xf Xg;go_upto_region 2 with fail
 generalize (w2.setCell ⟨w.heap.size+1,2,none⟩ (.slice A2 n2 c2)).setCell ⟨w.heap.size+1,3,none⟩ (.int .i64 (qh6 xs nm))=w3 at *;clear e2 e3 f2 Xi Xa;have Xk:=qyp Xb.out;have f3:∀o,w3.frozen? ⟨w.heap.size+1,o,none⟩=false:=fun o=>zlp _ _ o _ _ Xb.out;have hl:=qui Xb.out (.slice none 0 0) (.slice none 0 0) (.slice A2 n2 c2) (.int .i64 (qh6 xs nm));have e0:=zjc (w.heap.size+1) 0 Xb.out;have e1:=zjc (w.heap.size+1) 1 Xb.out;have e2:=zjc (w.heap.size+1) 2 Xb.out;have e3:=zjc (w.heap.size+1) 3 Xb.out;have HP:=hid (show qkj [] [] (qmr xs nm) (qh6 xs nm) w (.returned (.agg #[.slice none 0 0,.slice none 0 0,.slice A2 n2 c2,.int .i64 (qh6 xs nm)])) _ from ⟨none,0,0,none,0,0,A2,n2,c2,rfl,qrv HB.out,JS.Own.nil _ _,(qai o2 HO.out (by decide)).more (by omega),HB.out⟩);clear HO HB hC hS Xd hM hE Xj Xc Xe o2 Xb;clear d7;go_wp2_with fail
 exact zlf (v:=.agg #[.slice none 0 0,.slice none 0 0,.slice A2 n2 c2,.int .i64 (qh6 xs nm)]) (by simp[results,results81,asAddr,hl]) rfl HP.out
theorem peff_t (K:Nat)(A:Option Addr)(n c:Nat)(xs:List Mem)(q:Cmd)(w:World)(h:qpw w K A n c xs)(hq:qef w K q):
 Calls prog 82 #[.slice A n c,q.val] w (qkj [] (qbr xs) [] 0 w):=by
 have hK:=h.hK;obtain⟨op,⟨m0,m1,m2,m3,m4,m5,m6,m7,m8⟩,nm,z,a⟩:=q;obtain⟨w1,e1,Xb,hC,hS,Xd⟩:=qda w (.cells #[.int .u8 (op.toNat:Int),.string m0,.int .i64 m1,.int .i64 m2,.int .i64 m3,.int .i64 m4,.slice m5 m6 m7,.string nm,.int .i64 z,.string a] 56) (.cells #[.slice none 0 0,.slice none 0 0,.slice none 0 0,.int .i64 0] 121);simp only[Cmd.val,Cmd.cells];go_enter func82,ntmps82;go_upto_region 1 with fail
 rw[<-e1];clear e1;have hM:=hid (h.on Xb);have hE:Hid (Qck w1 K ⟨m0,m1,m2,m3,m4,m5,m6,m7,m8⟩):=hid ⟨hq.ok,hq.rd.below (Xb.mono hK),Nat.le_trans hK Xb.size,hq.cap⟩;clear h hq;go_wp2_with fail
 refine (qvt K A n c xs w1 hM.out.rd hM.out.hK (by have:=hM.out.n100;omega)).mono ?_;rintro e w2 ⟨A2,n2,c2,rfl,o2,Xc⟩;have Xa:=(Xc.block (w.heap.size+1) (by omega)).trans hS;have HO:=hid (show Oth 121 w2 (qjm w2 (w.heap.size+1) (.slice none 0 0) (.slice A2 n2 c2) (.slice none 0 0) (.int .i64 0)) from Oth.put Xa fun g hg=>qi2 _ _ _ _ g hg);have HB:=hid (qc5 (Xb.trans (Xc.mono (by omega))) (show w.heap.size<=w.heap.size+1 by omega) (.slice none 0 0) (.slice A2 n2 c2) (.slice none 0 0) (.int .i64 0));have f2:∀o,w2.frozen? ⟨w.heap.size+1,o,none⟩=false:=fun o=>by simp[World.frozen?,Xa]
 have hl:=qui Xa (.slice none 0 0) (.slice A2 n2 c2) (.slice none 0 0) (.int .i64 0);have e0:=zjc (w.heap.size+1) 0 Xa;have e1:=zjc (w.heap.size+1) 1 Xa;have e2:=zjc (w.heap.size+1) 2 Xa;have e3:=zjc (w.heap.size+1) 3 Xa;have HP:=hid (show qkj [] (qbr xs) [] 0 w (.returned (.agg #[.slice none 0 0,.slice A2 n2 c2,.slice none 0 0,.int .i64 0])) _ from ⟨none,0,0,A2,n2,c2,none,0,0,rfl,qrv HB.out,(qbb o2 HO.out (by decide)).more (by omega),JB.Own.nil _ _,HB.out⟩);clear HO HB hC hS Xa hM hE Xd Xb Xc o2;go_wp2_with fail
 exact zlf (v:=.agg #[.slice none 0 0,.slice A2 n2 c2,.slice none 0 0,.int .i64 0]) (by simp[results,results82,asAddr,hl]) rfl HP.out
end JL
namespace JL
open JB
open JN (qev)
open JR (Mem Pm St ar Arc qhv qft qa8)
open JW (core MOk)
open JE (qav)
theorem qmu (A:Option Addr)(n c:Nat)(l:List UInt8)(w:World)(hG:qev w)(hr:JB.Rd w w.heap.size A n l)(hnc:n<=c)(_hcm:c<=maxLen)(hn:n<100000):
 Calls prog 19 #[.slice A n c] w (qav (qae l).1 (qae l).2 w):=by
 have Hl:=hid hr.1;have HP:=hid (JR.qfe A n c l w hG.gnd hr hnc hn);clear hr hG;go_enter func19,ntmps19;by_cases h0:n=0
 ·have hl:l=[]:=zli (by rw[Hl.out];exact h0);subst h0;have e:qae l=([],0):=by rw[hl];rfl
  have hC:qav (qae l).1 (qae l).2 w (.returned (.tuple #[.slice none 0 0,.int .i64 0])) w:=by
   rw[e];exact⟨none,0,0,[],rfl,JC.Own.nil _ _ _ _,fun x hx=>by simp at hx,rfl,fun x hx=>by simp at hx,Below.refl _ _⟩
  clear HP e hl;go_wp2_with fail
  go_ret2
  exact hC
 ·have hl:l≠[]:=fun e=>h0 (by rw[<-Hl.out,e];rfl);have Xd:((n:Int)==0)=false:=by simpa using h0
  clear h0;go_wp2_with fail
  refine HP.out.mono ?_;rintro e w1 ⟨x,rfl,hx,ho,hb⟩;have Xa:=zjB w1 (.cells #[.bool x.hasMap,.slice x.mp x.mn x.mc,.slice x.ap x.an x.ac,.slice x.op x.on x.oc] 75)
  have hC:=qw2 hl hx (ho.below Xa) (fun y hy=>by
   have h1:=(ho.reads.2.1.2);obtain⟨k,hk,rfl⟩:=List.getElem_of_mem hy;exact (h1 k hk).2.2) (hb.trans (Xa.mono hb.size))
  have HC:=hid hC;have HB:=hid (hb.trans (Xa.mono hb.size));obtain⟨xh,mp,mn,mc,xm,ap,an,ac,Xc,op,on,oc,Xb⟩:=x;simp only[JR.Arc.val];simp only at HC HB;clear hx ho hb hC Xa;clear HB;go_wp2_with fail
  go_ret2
  exact HC.out
end JL
namespace JL
open JB
open JS (Oth qe0)
open JN (qev)
open JR (Mem RdM qft qa8)
open JW (core MOk qbe lens qai qbb)
open Go.Proofs.YtlmolmohhpdhdaaGreatDoor.Six (Few qfv)
open JE (ClP qc7 qav qfx qfw qet qfh qbr qmr qh6 qpw)
section
variable {P : Program} {ops : Array Oper} {Q : Exit -> Act -> World -> Prop} {md : Region.Mode} {S S' : World -> Prop} {z : Nat}
theorem qaf.weak (h:∀v,S' v->S v):∀(k:Nat)(li:Array Bool)(a:Act)(w:World),Ord.qaf P md ops Q S' z k li a w->Ord.qaf P md ops Q S z k li a w
 |0,_,_,_,q=>q
 |k+1,_,_,_,q=>⟨q.1,fun j hj=>wpOp_mono (fun b v r=>⟨fun e=>h _ (r.1 e),qaf.weak h k _ b v r.2⟩) (q.2 j hj)⟩
theorem qaf.step2 (i j:Nat){oi oj:Oper}{k:Nat}{li:Array Bool}{a:Act}{w:World}(hr:Region.ready md ops li=[i,j])(hi:ops[i]?=some oi)(hj:ops[j]?=some oj)
 (h:∀C:Act->World->Prop,Shut (∀b v,(i≠z->S v)->Ord.qaf P md ops Q S z k (li.setIfInBounds i true) b v->C b v)->if Region.wanted oi (yielded ops a.tmps)=true then Oper.wp P oi a w C Q else C (a.put oi.dst undef) w)
 (h':∀C:Act->World->Prop,Shut (∀b v,(j≠z->S v)->Ord.qaf P md ops Q S z k (li.setIfInBounds j true) b v->C b v)->if Region.wanted oj (yielded ops a.tmps)=true then Oper.wp P oj a w C Q else C (a.put oj.dst undef) w):
 Ord.qaf P md ops Q S z (k+1) li a w:=by
 refine⟨fun h0=>(by rw[hr] at h0;cases h0),fun m hm=>?_⟩;rw[hr] at hm;rcases List.mem_cons.1 hm with rfl|hm
 ·exact wpOp_step hi (fun C hC=>h C (fun b v h1 h2=>hC b v ⟨h1,h2⟩))
 ·rw[zlw] at hm;subst hm;exact wpOp_step hj (fun C hC=>h' C (fun b v h1 h2=>hC b v ⟨h1,h2⟩))
end
theorem qq1:prog.underlying 118=some (.map 5 116):=by kernel_rfl
theorem zeroO (w:World):(zeroValue 116).run prog w=.ok (.agg #[.bool false,.nilFunc]) w:=by kernel_rfl
theorem qq2 {W:World}{B:Nat}{a b c:Value}(h:W.heap[B]?=some (.cells #[a,b,c] 61 (0,0)))(v0 v1 v2:Value):
 (loadVar 61 ⟨B,0,none⟩).run prog (((W.setCell ⟨B,0,none⟩ v0).setCell ⟨B,1,none⟩ v1).setCell ⟨B,2,none⟩ v2)=.ok (.agg #[v0,v1,v2]) (((W.setCell ⟨B,0,none⟩ v0).setCell ⟨B,1,none⟩ v1).setCell ⟨B,2,none⟩ v2):=
 run_loadVar_row _ B 61 61 #[v0,v1,v2] (0,0) _ (Qa0 h v0 v1 v2) underlying61 rfl (by kernel_rfl)
def IfZ (z:Int)(p:Prop):Prop:=z=0->p
def ExeP (l:List UInt8)(q:Cmd)(w:World)(e:Ending)(w':World):Prop:=
 ∃(A:Option Addr)(n c:Nat)(B:Option Addr)(k d:Nat)(D:Option Addr)(j f:Nat),e=.returned (.tuple #[.agg #[.slice A n c,.slice B k d,.slice D j f],.int .i64 (qbs l q).2.2.2])/\
  IfZ (qbs l q).2.2.2 (JB.Own w' w.heap.size (.slice A n c) n (qbs l q).1/\JS.Own w' w.heap.size (.slice B k d) k (qbs l q).2.1/\JB.Own w' w.heap.size (.slice D j f) j (qbs l q).2.2.1/\qe0 (.slice D j f) (.slice A n c))/\Below w.heap.size w w'
theorem ExeP.set {l:List UInt8}{q:Cmd}{w W:World}{B:Nat}{x y u:Value}{A:Option Addr}{n c:Nat}{E:Option Addr}{k d:Nat}{D:Option Addr}{j f:Nat}{l1:List UInt8}{l2:List ByteArray}{l3:List UInt8}{z:Int}
 (e:qbs l q=(l1,l2,l3,z))(hB:W.heap[B]?=some (.cells #[x,y,u] 61 (0,0)))(hle:w.heap.size<=B)(hb:Below w.heap.size w W)
 (h:IfZ z (JB.Own W w.heap.size (.slice A n c) n l1/\JS.Own W w.heap.size (.slice E k d) k l2/\JB.Own W w.heap.size (.slice D j f) j l3/\qe0 (.slice D j f) (.slice A n c))):
 ExeP l q w (.returned (.tuple #[.agg #[.slice A n c,.slice E k d,.slice D j f],.int .i64 z])) (((W.setCell ⟨B,0,none⟩ (.slice A n c)).setCell ⟨B,1,none⟩ (.slice E k d)).setCell ⟨B,2,none⟩ (.slice D j f)):=by
 have ho:Oth 61 W (Qfi W B (.slice A n c) (.slice E k d) (.slice D j f)):=Oth.put hB fun g hg=>qi7 _ _ _ g hg;exact⟨A,n,c,E,k,d,D,j,f,by rw[e],by rw[e];exact fun h0=>⟨qai (h h0).1 ho (by decide),qbb (h h0).2.1 ho (by decide),qai (h h0).2.2.1 ho (by decide),(h h0).2.2.2⟩,qm7 hb hle _ _ _⟩
def stX (ch:Bool)(xs:List Mem)(q:Cmd):List Mem:=if ch then (edC xs q).1 else []
def stN (xs:List Mem)(q:Cmd):List ByteArray:=if q.op=116 then qbr xs else []
def stD (xs:List Mem)(q:Cmd):List UInt8:=if q.op=120 then qmr xs q.nm else []
def stZ (ch:Bool)(xs:List Mem)(q:Cmd):Int:=if ch then (edC xs q).2 else if q.op=120 then qh6 xs q.nm else 0
theorem Qa4 {xs:List Mem}{s:ByteArray}(h:qh6 xs s≠0):qmr xs s=[]:=by
 unfold qh6 at h;unfold qmr
 cases e:JE.qar xs s with
 |none=>rfl
 |some i=>rw[e] at h;exact absurd rfl h
theorem st_cong {xs ys:List Mem}(h:xs.map core=ys.map core)(ch:Bool)(q:Cmd):(stX ch xs q).map core=(stX ch ys q).map core/\stN xs q=stN ys q/\stD xs q=stD ys q/\stZ ch xs q=stZ ch ys q:=by
 obtain⟨a1,a2⟩:=Qa1 h q;obtain⟨b1,b2,b3⟩:=qti h q.nm;refine⟨?_,by unfold stN;rw[b3],by unfold stD;rw[b1],by unfold stZ;rw[a2,b2]⟩;unfold stX;cases ch
 ·rfl
 ·exact a1
theorem runS_stE {l:List UInt8}{q:Cmd}{ch:Bool}(hm:(qae l).2=0)(hc:ch=true->qtf q.op)(hn:ch=false->q.op=116∨q.op=120)(h:stZ ch (qae l).1 q≠0):qbs l q=(l,[],[],stZ ch (qae l).1 q):=by
 cases ch
 ·rcases hn rfl with e|e
  ·exact absurd (by simp[stZ,e]) h
  ·have e1:stZ false (qae l).1 q=qh6 (qae l).1 q.nm:=by simp[stZ,e]
   rw[e1] at h |-;rw[qw1 hm e,Qa4 h]
 ·exact qpz hm (hc rfl) h
theorem runS_stL {l:List UInt8}{q:Cmd}(hm:(qae l).2=0)(hn:q.op=116∨q.op=120)(h:stZ false (qae l).1 q=0):qbs l q=(l,stN (qae l).1 q,stD (qae l).1 q,0):=by
 rcases hn with e|e
 ·rw[qzw hm e];simp[stN,stD,e]
 ·have e1:qh6 (qae l).1 q.nm=0:=by simpa [stZ,e] using h
  rw[qw1 hm e,e1];simp[stN,stD,e]
theorem runS_stC {l:List UInt8}{q:Cmd}(hm:(qae l).2=0)(hc:qtf q.op)(h:stZ true (qae l).1 q=0):qbs l q=(if (qbe 0 (edC (qae l).1 q).1).2=0 then qfv (edC (qae l).1 q).1 else l,[],[],(qbe 0 (edC (qae l).1 q).1).2):=by
 by_cases hf:(qbe 0 (edC (qae l).1 q).1).2=0
 ·rw[if_pos hf,hf];exact qth hm hc h hf
 ·rw[if_neg hf];exact qtg hm hc h hf
theorem apart_of {w w':World}{K n n':Nat}{v u:Value}{l l':List UInt8}(h:JB.Own w K v n l)(h':JB.Own w' w.heap.size u n' l'):qe0 v u:=fun k hk hv=>by
 rcases h.2 with ⟨rfl,rfl⟩|⟨g,cap,cur,m,rfl,hg,hh,r⟩
 ·cases hk
 ·rcases h'.2 with ⟨rfl,rfl⟩|⟨g',cap',cur',m',rfl,hg',r'⟩
  ·cases hv
  ·have h1:g=k:=by simpa [JS.blk] using hk
   have h2:g'=k:=by simpa [JS.blk] using hv
   have h3:=(zla.1 hh).1;omega
theorem Qc1 {xs:List Mem}{z:Int}{w w':World}{A:Option Addr}{n c:Nat}(h:qav xs z w (.returned (.tuple #[.slice A n c,.int .i64 z])) w')(hok:∀x∈xs,MOk x)(hn:xs.length<=300):∃ys,qpw w' w'.heap.size A n c ys/\ys.map core=xs.map core:=by
 obtain⟨_,_,_,ys,e,h1,h2,_⟩:=h.arg hok hn;simp at e;obtain⟨rfl,rfl,rfl⟩:=e;exact⟨ys,h1,h2⟩
theorem qdq {f : FuncId} {fn : Func} {c : Code} (hf : prog.funcs[f]? = some fn) (hname : (fn.name == "runtime.NumGoroutine") = false) (hb : fn.body = some c) (args : Array Value) (w : World) : (callFunc f args).run prog w = .ok (.enter f args) w := by
 have h1 : fn.name ≠ "runtime.NumGoroutine" := by simpa using hname
 simp[callFunc,hf,h1,hb]
def EffOk (q:Cmd)(ch:Bool)(F:FuncId):Prop:=∀(K:Nat)(A:Option Addr)(n c:Nat)(xs:List Mem)(w:World),qpw w K A n c xs->qef w K q->Calls prog F #[.slice A n c,q.val] w (qkj (stX ch xs q) (stN xs q) (stD xs q) (stZ ch xs q) w)
structure OpRow (q:Cmd) (ch kn:Bool) (v:Value):Prop where
 look:∀(b:Nat)(W:World),W.heap[b]?=some (.map Qcm 6)->(Instr.lookup 118 (.map (some b)) (.int .u8 (q.op.toNat:Int)) true).run prog W=.ok (.tuple #[.agg #[.bool ch,v],.bool kn]) W
 one:v.oneCell'=true
 no:kn=false->¬qju q.op
 yes:kn=true->qju q.op/\(ch=true->qtf q.op)/\(ch=false->q.op=116∨q.op=120)/\∃F,v=fnV F/\(∀(args:Array Value)(w:World),(callFunc F args).run prog w=.ok (.enter F args) w)/\EffOk q ch F
theorem Qfn (q:Cmd):∃ch kn v,OpRow q ch kn v:=by
 by_cases h:qju q.op
 ·obtain⟨op,m,nm,z,a⟩:=q;rcases h with h|h|h|h|h|h<;>simp only at h<;>subst h
  ·exact⟨true,true,fnV 77,fun b W hb=>qhi qq1 underlying5 hb (Qc0 _ _) rfl,rfl,fun e=>(by cases e),fun _=>⟨by change qju 114;decide,fun e=>(by first|(change qtf 114;decide)|cases e),fun e=>(by first|(change (114:UInt8)=116∨(114:UInt8)=120;decide)|cases e),_,rfl,qdq func77 (by kernel_rfl) rfl,fun K A n c xs w h hq=>peff_r K A n c xs _ w h hq⟩⟩
  ·exact⟨true,true,fnV 78,fun b W hb=>qhi qq1 underlying5 hb (Qc0 _ _) rfl,rfl,fun e=>(by cases e),fun _=>⟨by change qju 113;decide,fun e=>(by first|(change qtf 113;decide)|cases e),fun e=>(by first|(change (113:UInt8)=116∨(113:UInt8)=120;decide)|cases e),_,rfl,qdq func78 (by kernel_rfl) rfl,fun K A n c xs w h hq=>by obtain rfl:=h.rd.1;exact peff_q K A _ c xs _ w h hq⟩⟩
  ·exact⟨true,true,fnV 79,fun b W hb=>qhi qq1 underlying5 hb (Qc0 _ _) rfl,rfl,fun e=>(by cases e),fun _=>⟨by change qju 100;decide,fun e=>(by first|(change qtf 100;decide)|cases e),fun e=>(by first|(change (100:UInt8)=116∨(100:UInt8)=120;decide)|cases e),_,rfl,qdq func79 (by kernel_rfl) rfl,fun K A n c xs w h hq=>peff_d K A n c xs _ w h hq⟩⟩
  ·exact⟨true,true,fnV 80,fun b W hb=>qhi qq1 underlying5 hb (Qc0 _ _) rfl,rfl,fun e=>(by cases e),fun _=>⟨by change qju 109;decide,fun e=>(by first|(change qtf 109;decide)|cases e),fun e=>(by first|(change (109:UInt8)=116∨(109:UInt8)=120;decide)|cases e),_,rfl,qdq func80 (by kernel_rfl) rfl,fun K A n c xs w h hq=>peff_m K A n c xs _ w h hq⟩⟩
  ·exact⟨false,true,fnV 81,fun b W hb=>qhi qq1 underlying5 hb (Qc0 _ _) rfl,rfl,fun e=>(by cases e),fun _=>⟨by change qju 120;decide,fun e=>(by first|(change qtf 120;decide)|cases e),fun e=>(by first|(change (120:UInt8)=116∨(120:UInt8)=120;decide)|cases e),_,rfl,qdq func81 (by kernel_rfl) rfl,fun K A n c xs w h hq=>peff_x K A n c xs _ w h hq⟩⟩
  ·exact⟨false,true,fnV 82,fun b W hb=>qhi qq1 underlying5 hb (Qc0 _ _) rfl,rfl,fun e=>(by cases e),fun _=>⟨by change qju 116;decide,fun e=>(by first|(change qtf 116;decide)|cases e),fun e=>(by first|(change (116:UInt8)=116∨(116:UInt8)=120;decide)|cases e),_,rfl,qdq func82 (by kernel_rfl) rfl,fun K A n c xs w h hq=>peff_t K A n c xs _ w h hq⟩⟩
 ·refine⟨false,false,.nilFunc,fun b W hb=>Qa3 qq1 underlying5 hb (Qc0 _ _) (zeroO W) ?_,rfl,fun _=>h,fun e=>(by cases e)⟩;simp only[qju,not_or] at h;have Xa:((q.op.toNat:Int)==114)=false:=(qcg (op:=q.op) (k:=114) (by omega)).trans (decide_eq_false h.1);have Xd:((q.op.toNat:Int)==113)=false:=(qcg (op:=q.op) (k:=113) (by omega)).trans (decide_eq_false h.2.1);have Xe:((q.op.toNat:Int)==100)=false:=(qcg (op:=q.op) (k:=100) (by omega)).trans (decide_eq_false h.2.2.1);have Xf:((q.op.toNat:Int)==109)=false:=(qcg (op:=q.op) (k:=109) (by omega)).trans (decide_eq_false h.2.2.2.1);have Xb:((q.op.toNat:Int)==120)=false:=(qcg (op:=q.op) (k:=120) (by omega)).trans (decide_eq_false h.2.2.2.2.1);have Xc:((q.op.toNat:Int)==116)=false:=(qcg (op:=q.op) (k:=116) (by omega)).trans (decide_eq_false h.2.2.2.2.2);simp[Qcm,Instr.findNow,Instr.sameNow,Xa,Xd,Xe,Xf,Xb,Xc]
theorem Qfp (A:Option Addr)(n c:Nat)(l:List UInt8)(q:Cmd)(ch kn:Bool)(fv:Value)(w:World)(hG:qev w)(hr:JB.Rd w w.heap.size A n l)(hnc:n<=c)(hcm:c<=maxLen)(hB:BOk l)(hq:qef w w.heap.size q)(ho:OpRow q ch kn fv):
 Calls prog 34 #[.slice A n c,q.val] w (ExeP l q w):=by
 have hn:n<=99000:=by rw[<-hr.1];exact hB.len
 have Xf:=hid hB;have HQ:=hid hq;have Nm:=hid hnc;have Nt:=hid hcm;have Yx:=hid hG;have HO:=hid ho;clear hq hnc hcm hG ho;obtain⟨op,⟨m0,m1,m2,m3,m4,m5,m6,m7,m8⟩,nm,z,a⟩:=q;obtain⟨w1,e1,Kb,Ys,Yz,Na⟩:=qda w (.cells #[.int .u8 (op.toNat:Int),.string m0,.int .i64 m1,.int .i64 m2,.int .i64 m3,.int .i64 m4,.slice m5 m6 m7,.string nm,.int .i64 z,.string a] 56) (.cells #[.slice none 0 0,.slice none 0 0,.slice none 0 0] 61);simp only[Cmd.val,Cmd.cells];go_enter func34,ntmps34;go_upto_region 1 with fail
 rw[<-e1];clear e1;obtain⟨g,hg⟩:∃g,w.heap.size=g:=⟨_,rfl⟩;have HG:=hid hg;have Hr:=hid hr;clear hr hB;rw[hg] at Kb Ys Yz Na |-;have Kk:=hid Kb;have Ye:=hid Ys;have Kt:=hid Yz;have Nu:g+1<w1.heap.size:=by omega
 clear Kb Ys Yz Na hg;have HL:=hid fun (b:Nat) (W:World) (h:W.heap[b]?=some (.map Qcm 6))=>HO.out.look b W h;dsimp only at HL
 go_cut [6,7] from 12 (fun s6 s7 W=>∃u,s6=.pointer (some ⟨u,0,none⟩)/\s7=.bool kn/\W.heap[u]?=some (.cells #[.bool ch,fv] 116 (0,0))/\w1.heap.size<=u/\Below w1.heap.size w1 W)
 case first=>
  have Xa:Below w1.heap.size w1 w1.drew:=(Below.refl _ _).drew;have hS:(fun W=>W.cell? ⟨g,0,none⟩=some (.int .u8 (op.toNat:Int))) w1.drew:=(Xa.cell (p:=⟨g,0,none⟩) (show g<w1.heap.size by omega)).trans (zlc _ g 0 _ _ _ Ye.out);have Xd:=hid Xa;refine Ord.qaf.begin (fun W=>W.cell? ⟨g,0,none⟩=some (.int .u8 (op.toNat:Int))) 9 (by kernel_rfl) ?_;generalize w1.drew=wd at *;clear Xa;refine zjV 1 14 hS ?_;refine zjV 2 15 hS ?_ (x:=.int .u8 (op.toNat:Int));refine qaf.step2 0 7 (by kernel_rfl) rfl rfl (fun C hC=>?_) (fun C hC=>?_)
  ·go_simp;go_at_call 54;refine (qi8 wd).mono ?_;rintro e w4 ⟨b,rfl,hM,b4⟩;have hd:=Xd.out.size;have Xs:=Xd.out.trans (b4.mono hd);have hS:(fun W=>W.cell? ⟨g,0,none⟩=some (.int .u8 (op.toNat:Int))) w4:=(Xs.cell (p:=⟨g,0,none⟩) (show g<w1.heap.size by omega)).trans (zlc _ g 0 _ _ _ Ye.out);go_wp2_with fail
   refine hC.out _ _ (fun _=>hS) ?_;clear hC C;try simp only[zjA]
   refine qaf.weak (S':=fun W=>W.cell? ⟨g,0,none⟩=some (.int .u8 (op.toNat:Int))/\W.heap[b]?=some (.map Qcm 6)) (fun _ h=>h.1) _ _ _ _ ?_;have hS:(fun W=>W.cell? ⟨g,0,none⟩=some (.int .u8 (op.toNat:Int))/\W.heap[b]?=some (.map Qcm 6)) w4:=⟨hS,hM⟩;refine zjV 3 16 hS ?_ (x:=.tuple #[.agg #[.bool ch,fv],.bool kn]) (hy:=by intro v hv;have hl:=HL.out b v hv.2;go_simp;first|done|rfl);refine zjV 4 12 hS ?_;refine zjV 5 17 hS ?_;refine zjV 6 18 hS ?_;have Nq:=(zla.1 hM).1;have h4:=Xs.size;have ba:=zjB w4 (.cells #[.bool false,.nilFunc] 116);have ha:=zld w4 (.cells #[.bool false,.nilFunc] 116);have hz:=zeroO w4;have Xq:(fun W=>W.cell? ⟨g,0,none⟩=some (.int .u8 (op.toNat:Int))/\W.heap[b]?=some (.map Qcm 6)) (w4.alloc (.cells #[.bool false,.nilFunc] 116)):=⟨(ba.cell (p:=⟨g,0,none⟩) (show g<w4.heap.size by omega)).trans hS.1,(ba.block b Nq).trans hM⟩;refine Ord.qaf.step 7 (by kernel_rfl) rfl (fun C hC=>?_);go_simp;refine hC.out _ _ (fun _=>Xq) ?_;clear hC C;try simp only[zjA]
   have hS:=Xq;have Yu:=zlr w4 (.cells #[.bool false,.nilFunc] 116);generalize w4.alloc (.cells #[.bool false,.nilFunc] 116)=w5 at *;obtain⟨u,hu⟩:∃u,w4.heap.size=u:=⟨_,rfl⟩;rw[hu] at ha Yu ba |-;have Kc:g<u:=by omega
   have Xx:b≠u:=by omega
   have Xg:w1.heap.size<=u:=by omega
   have Yv:=Xs.trans (ba.mono Xg);have e0:=zjc u 0 ha;have e1:=zjc u 1 ha;have fw:∀o,w5.frozen? ⟨u,o,none⟩=false:=fun o=>zlp _ _ o _ _ ha;have Xc:=zle _ u 1 _ _ fv (zle w5 u 0 _ _ (.bool ch) ha);have Xh:Below u w5 ((w5.setCell ⟨u,0,none⟩ (.bool ch)).setCell ⟨u,1,none⟩ fv):=((Below.refl u w5).setCell (p:=⟨u,0,none⟩) zjn _).setCell (p:=⟨u,1,none⟩) zjn _;have Yc:(fun W=>W.cell? ⟨g,0,none⟩=some (.int .u8 (op.toNat:Int))/\W.heap[b]?=some (.map Qcm 6)) ((w5.setCell ⟨u,0,none⟩ (.bool ch)).setCell ⟨u,1,none⟩ fv):=⟨(Xh.cell (p:=⟨g,0,none⟩) Kc).trans hS.1,((zly _ ⟨u,1,none⟩ _ b Xx).trans (zly _ ⟨u,0,none⟩ _ b Xx)).trans hS.2⟩;have Xb:=zle w5 u 0 _ _ (.bool ch) ha;have Nf:∀o,(w5.setCell ⟨u,0,none⟩ (.bool ch)).frozen? ⟨u,o,none⟩=false:=fun o=>zlp _ _ o _ _ Xb;have e2:=zjc u 1 Xb;have Np:=fun (W:World) (a:Addr) (m:Mode)=>run_store prog W a fv m HO.out.one;have Xr:=hid (Yv.trans (Xh.mono Xg));have Xj:=hid Xc;clear Xh Xc;refine Ord.qaf.step 8 (by kernel_rfl) rfl (fun C hC=>?_);go_simp;refine hC.out _ _ (fun _=>Yc) ?_;clear hC C;try simp only[zjA]
   refine Ord.qaf.step 9 (by kernel_rfl) rfl (fun C hC=>?_);go_simp;refine hC.out _ _ (fun _=>Yc) ?_;clear hC C;try simp only[zjA]
   refine Ord.qaf.done (by kernel_rfl) ?_ _;go_wp2_with fail
   go_meet
   exact⟨u,rfl,rfl,Xj.out,Xg,Xr.out⟩
  ·have Nr:=Xd.out.size;have ba:=zjB wd (.cells #[.bool false,.nilFunc] 116);have ha:=zld wd (.cells #[.bool false,.nilFunc] 116);have hz:=zeroO wd;have Xq:(fun W=>W.cell? ⟨g,0,none⟩=some (.int .u8 (op.toNat:Int))) (wd.alloc (.cells #[.bool false,.nilFunc] 116)):=(ba.cell (p:=⟨g,0,none⟩) (show g<wd.heap.size by omega)).trans hS;go_simp;refine hC.out _ _ (fun _=>Xq) ?_;clear hC C;try simp only[zjA]
   have hS:=Xq;have Yu:=zlr wd (.cells #[.bool false,.nilFunc] 116);generalize wd.alloc (.cells #[.bool false,.nilFunc] 116)=w5 at *;obtain⟨u,hu⟩:∃u,wd.heap.size=u:=⟨_,rfl⟩;rw[hu] at ha Yu ba |-;have Kc:g<u:=by omega
   have Xg:w1.heap.size<=u:=by omega
   have Xz:=Xd.out.trans (ba.mono Xg);clear ba hz hu Nr Xq;refine Ord.qaf.step 0 (by kernel_rfl) rfl (fun C hC=>?_);go_simp;go_at_call 54;refine (qi8 w5).mono ?_;rintro e w6 ⟨b,rfl,hM,b4⟩;have hd:=Xz.size;have Xs:=Xz.trans (b4.mono hd);have hS:(fun W=>W.cell? ⟨g,0,none⟩=some (.int .u8 (op.toNat:Int))) w6:=(Xs.cell (p:=⟨g,0,none⟩) (show g<w1.heap.size by omega)).trans (zlc _ g 0 _ _ _ Ye.out);go_wp2_with fail
   refine hC.out _ _ (fun _=>hS) ?_;clear hC C;try simp only[zjA]
   refine qaf.weak (S':=fun W=>W.cell? ⟨g,0,none⟩=some (.int .u8 (op.toNat:Int))/\W.heap[b]?=some (.map Qcm 6)) (fun _ h=>h.1) _ _ _ _ ?_;have hS:(fun W=>W.cell? ⟨g,0,none⟩=some (.int .u8 (op.toNat:Int))/\W.heap[b]?=some (.map Qcm 6)) w6:=⟨hS,hM⟩;replace ha:=(b4.block u (by omega)).trans ha;have Xx:b≠u:=by rintro rfl;rw[ha] at hM;cases hM
   have Yv:=Xs;refine zjV 3 16 hS ?_ (x:=.tuple #[.agg #[.bool ch,fv],.bool kn]) (hy:=by intro v hv;have hl:=HL.out b v hv.2;go_simp;first|done|rfl);refine zjV 4 12 hS ?_;refine zjV 5 17 hS ?_;refine zjV 6 18 hS ?_;have e0:=zjc u 0 ha;have e1:=zjc u 1 ha;have fw:∀o,w6.frozen? ⟨u,o,none⟩=false:=fun o=>zlp _ _ o _ _ ha;have Xc:=zle _ u 1 _ _ fv (zle w6 u 0 _ _ (.bool ch) ha);have Xh:Below u w6 ((w6.setCell ⟨u,0,none⟩ (.bool ch)).setCell ⟨u,1,none⟩ fv):=((Below.refl u w6).setCell (p:=⟨u,0,none⟩) zjn _).setCell (p:=⟨u,1,none⟩) zjn _;have Yc:(fun W=>W.cell? ⟨g,0,none⟩=some (.int .u8 (op.toNat:Int))/\W.heap[b]?=some (.map Qcm 6)) ((w6.setCell ⟨u,0,none⟩ (.bool ch)).setCell ⟨u,1,none⟩ fv):=⟨(Xh.cell (p:=⟨g,0,none⟩) Kc).trans hS.1,((zly _ ⟨u,1,none⟩ _ b Xx).trans (zly _ ⟨u,0,none⟩ _ b Xx)).trans hS.2⟩;have Xb:=zle w6 u 0 _ _ (.bool ch) ha;have Nf:∀o,(w6.setCell ⟨u,0,none⟩ (.bool ch)).frozen? ⟨u,o,none⟩=false:=fun o=>zlp _ _ o _ _ Xb;have e2:=zjc u 1 Xb;have Np:=fun (W:World) (a:Addr) (m:Mode)=>run_store prog W a fv m HO.out.one;have Xr:=hid (Yv.trans (Xh.mono Xg));have Xj:=hid Xc;clear Xh Xc;refine Ord.qaf.step 8 (by kernel_rfl) rfl (fun C hC=>?_);go_simp;refine hC.out _ _ (fun _=>Yc) ?_;clear hC C;try simp only[zjA]
   refine Ord.qaf.step 9 (by kernel_rfl) rfl (fun C hC=>?_);go_simp;refine hC.out _ _ (fun _=>Yc) ?_;clear hC C;try simp only[zjA]
   refine Ord.qaf.done (by kernel_rfl) ?_ _;go_wp2_with fail
   go_meet
   exact⟨u,rfl,rfl,Xj.out,Xg,Xr.out⟩
 case rest=>
  obtain⟨u,rfl,rfl,hu,Xg,hb⟩:=hcut;have Nv:=hb.size;have Nw:=(zla.1 hu).1;have Yr:=hid hu;have Xn:=hid ((hb.block (g+1) Nu).trans Kt.out);have Kf:=hid ((hb.block g (by omega)).trans Ye.out);have Xy:=hid (Kk.out.trans (hb.mono (show g<=w1.heap.size by omega)));clear hu hb Ye Kt Kk HL;cases kn
  ·have HE:=hid (qy3 (q:=⟨op,⟨m0,m1,m2,m3,m4,m5,m6,m7,m8⟩,nm,z,a⟩) (l:=l) (HO.out.no rfl));clear HO Kf Yr Xf HQ Yx Hr;have Yf:=fun k=>zjc (g+1) k Xn.out;have fr:∀o,wc.frozen? ⟨g+1,o,none⟩=false:=fun o=>zlp _ _ o _ _ Xn.out;have hl:=qq2 Xn.out (.slice none 0 0) (.slice none 0 0) (.slice none 0 0);have hP:=hid (ExeP.set (q:=⟨op,⟨m0,m1,m2,m3,m4,m5,m6,m7,m8⟩,nm,z,a⟩) (w:=w) (A:=none) (n:=0) (c:=0) (E:=none) (k:=0) (d:=0) (D:=none) (j:=0) (f:=0) HE.out Xn.out (by rw[HG.out];omega) (by rw[HG.out];exact Xy.out) (fun h=>absurd h (by decide)));go_wp2_with fail
   exact zlf (v:=.tuple #[.agg #[.slice none 0 0,.slice none 0 0,.slice none 0 0],.int .i64 17]) (by simp[results,results34,asAddr,hl]) rfl hP.out
  ·obtain⟨Kv,Ky,Yb,F,rfl,Nx,Kj⟩:=HO.out.yes rfl;have Kn:=hid Kv;have Kr:=hid Ky;have Nb:=hid Yb;have Ka:=hid Kj;clear Kv Ky Yb Kj HO;unfold fnV at Yr;have HM:=hid (qmu A n c l wc (Yx.out.on (by rw[HG.out];exact Xy.out)) ((Hr.out.below (by rw[HG.out];exact Xy.out)).more (by rw[HG.out];omega)) Nm.out Nt.out (by omega));go_wp2_with fail
   refine HM.out.mono ?_;rintro e w5 hc;obtain⟨Am,km,cm,ms,rfl,hA,hcm,Nk,b5⟩:=hc.arg Xf.out.ok (by have:=Xf.out.n;omega);clear hc HM;have HA:=hid hA;have Hc:=hid hcm;have h5:=b5.size;have Xt:=hid ((b5.block (g+1) (by omega)).trans Xn.out);have Yj:=hid ((b5.block g (by omega)).trans Kf.out);have Yd:=hid ((b5.block u (by omega)).trans Yr.out);have Yi:=hid (Xy.out.trans (b5.mono (by omega)));clear Xn Kf Yr Xy;clear hA hcm Nk b5;obtain⟨mz,Yt⟩:∃mz,(qae l).2=mz:=⟨_,rfl⟩;have Xu:=hid Yt;rw[Yt];clear Yt;by_cases hz:mz=0;rotate_left 1
   ·have HE:Hid (qbs l ⟨op,⟨m0,m1,m2,m3,m4,m5,m6,m7,m8⟩,nm,z,a⟩=(l,[],[],mz)):=hid (by rw[qte (q:=⟨op,⟨m0,m1,m2,m3,m4,m5,m6,m7,m8⟩,nm,z,a⟩) Kn.out (by rw[Xu.out];exact hz),Xu.out]);have Ns:(mz !=0)=true:=by simpa using hz
    have Hz:=hid hz;clear hz Yj Yd HA Hc Ka;have Yf:=fun k=>zjc (g+1) k Xt.out;have fr:∀o,w5.frozen? ⟨g+1,o,none⟩=false:=fun o=>zlp _ _ o _ _ Xt.out;have hl:=qq2 Xt.out (.slice none 0 0) (.slice none 0 0) (.slice none 0 0);have hP:=hid (ExeP.set (q:=⟨op,⟨m0,m1,m2,m3,m4,m5,m6,m7,m8⟩,nm,z,a⟩) (w:=w) (A:=none) (n:=0) (c:=0) (E:=none) (k:=0) (d:=0) (D:=none) (j:=0) (f:=0) HE.out Xt.out (by rw[HG.out];omega) (by rw[HG.out];exact Yi.out) (fun h=>absurd h Hz.out));go_wp2_with fail
    exact zlf (v:=.tuple #[.agg #[.slice none 0 0,.slice none 0 0,.slice none 0 0],.int .i64 mz]) (by simp[results,results34,asAddr,hl]) rfl hP.out
   subst hz;have Kx:=hid ((HQ.out.on (by rw[HG.out];exact Yi.out)).more (show w.heap.size<=w5.heap.size by rw[HG.out];omega) zjn);have HX:Hid (Calls prog F #[.slice Am km cm,.agg #[.int .u8 (op.toNat:Int),.string m0,.int .i64 m1,.int .i64 m2,.int .i64 m3,.int .i64 m4,.slice m5 m6 m7,.string nm,.int .i64 z,.string a]] w5 (qkj (stX ch ms ⟨op,⟨m0,m1,m2,m3,m4,m5,m6,m7,m8⟩,nm,z,a⟩) (stN ms ⟨op,⟨m0,m1,m2,m3,m4,m5,m6,m7,m8⟩,nm,z,a⟩) (stD ms ⟨op,⟨m0,m1,m2,m3,m4,m5,m6,m7,m8⟩,nm,z,a⟩) (stZ ch ms ⟨op,⟨m0,m1,m2,m3,m4,m5,m6,m7,m8⟩,nm,z,a⟩) w5)):=hid (Ka.out w5.heap.size Am km cm ms w5 HA.out Kx.out);have HS:=hid (st_cong Hc.out ch ⟨op,⟨m0,m1,m2,m3,m4,m5,m6,m7,m8⟩,nm,z,a⟩);clear Ka Kx HA Hc Kn;have Ni:=fun k=>zjc g k Yj.out;have u0:=zjc u 0 Yd.out;have u1:=zjc u 1 Yd.out;go_wp2_with fail
   refine HX.out.mono ?_;rintro e w6 ⟨A6,n6,c6,B6,k6,q6,D6,j6,f6,rfl,oM,oN,oD,b6⟩;clear HX u0 u1 Ni;have h6:=b6.size;have Ku:=hid ((b6.block (g+1) (by omega)).trans Xt.out);have Kz:=hid ((b6.block g (by omega)).trans Yj.out);have Nd:=hid ((b6.block u (by omega)).trans Yd.out);have Xr:=hid (Yi.out.trans (b6.mono (by omega)));clear Xt Yj Yd Yi;rw[HS.out.2.1] at oN;rw[HS.out.2.2.1] at oD;rw[HS.out.2.2.2] at oM |-;obtain⟨z5,Kh⟩:∃z5,stZ ch (qae l).1 ⟨op,⟨m0,m1,m2,m3,m4,m5,m6,m7,m8⟩,nm,z,a⟩=z5:=⟨_,rfl⟩;rw[Kh] at oM |-;have Yg:=hid Kh;clear Kh;have bT:=zjB w6 (.cells #[.slice A6 n6 c6,.slice B6 k6 q6,.slice D6 j6 f6,.int .i64 z5] 121);have hT:=zld w6 (.cells #[.slice A6 n6 c6,.slice B6 k6 q6,.slice D6 j6 f6,.int .i64 z5] 121);have sT:=zlr w6 (.cells #[.slice A6 n6 c6,.slice B6 k6 q6,.slice D6 j6 f6,.int .i64 z5] 121);go_upto_region 8 with fail
   generalize w6.alloc (.cells #[.slice A6 n6 c6,.slice B6 k6 q6,.slice D6 j6 f6,.int .i64 z5] 121)=w7 at *;have Yk:=hid ((bT.block (g+1) (by omega)).trans Ku.out);have Kg:=hid ((bT.block g (by omega)).trans Kz.out);have Ya:=hid ((bT.block u (by omega)).trans Nd.out);have Xw:=hid (Xr.out.trans (bT.mono (by omega)));clear Ku Kz Nd Xr;have Yp:=hid oM;have Yw:=hid ((oN.below bT).more (show g<=w5.heap.size by omega));have Yh:=hid ((oD.below bT).more (show g<=w5.heap.size by omega));have Ym:=hid bT;have HT:=hid hT;obtain⟨s,hs⟩:∃s,w6.heap.size=s:=⟨_,rfl⟩;have Hs:=hid hs;rw[hs] at HT sT h6 |-;clear oM oN oD b6 bT hT hs;by_cases hz:z5=0;rotate_left 1
   ·have HE:Hid (qbs l ⟨op,⟨m0,m1,m2,m3,m4,m5,m6,m7,m8⟩,nm,z,a⟩=(l,[],[],z5)):=hid (by have:=runS_stE (q:=⟨op,⟨m0,m1,m2,m3,m4,m5,m6,m7,m8⟩,nm,z,a⟩) Xu.out Kr.out Nb.out (by rw[Yg.out];exact hz);rw[Yg.out] at this;exact this);have Ns:(z5 !=0)=true:=by simpa using hz
    have Hz:=hid hz;clear hz Kg Ya Yp Yw Yh Ym;have t3:=zjc s 3 HT.out;go_upto_region 9 with fail
    clear t3;have Xa:Below w7.heap.size w7 w7.drew:=(Below.refl _ _).drew;have hS:(fun W=>W.heap[s]?=some (.cells #[.slice A6 n6 c6,.slice B6 k6 q6,.slice D6 j6 f6,.int .i64 z5] 121 (0,0))) w7.drew:=(Xa.block s (by omega)).trans HT.out;have Xp:=hid ((Xa.block (g+1) (by omega)).trans Yk.out);have Xd:=hid (Xw.out.trans (Xa.mono (by omega)));have Yy:=hid Xa;refine Ord.qaf.begin (fun W=>W.heap[s]?=some (.cells #[.slice A6 n6 c6,.slice B6 k6 q6,.slice D6 j6 f6,.int .i64 z5] 121 (0,0))) 4 (by kernel_rfl) ?_;generalize w7.drew=wd at *;have hd:=Xa.size;clear Xa HT;refine zjV 0 39 hS ?_ (x:=.agg #[.slice none 0 0,.slice none 0 0,.slice none 0 0]);refine zjV 1 40 hS ?_;refine zjV 2 41 hS ?_ (x:=.int .i64 z5) (hy:=by intro v hv;have y3:=zlc _ s 3 _ _ _ hv;go_simp;first|done|rfl);have Yf:=fun k=>zjc (g+1) k Xp.out;have fr:∀o,wd.frozen? ⟨g+1,o,none⟩=false:=fun o=>zlp _ _ o _ _ Xp.out;have hl:=qq2 Xp.out (.slice none 0 0) (.slice none 0 0) (.slice none 0 0);have hP:=hid (ExeP.set (q:=⟨op,⟨m0,m1,m2,m3,m4,m5,m6,m7,m8⟩,nm,z,a⟩) (w:=w) (A:=none) (n:=0) (c:=0) (E:=none) (k:=0) (d:=0) (D:=none) (j:=0) (f:=0) HE.out Xp.out (by rw[HG.out];omega) (by rw[HG.out];exact Xd.out) (fun h=>absurd h Hz.out));have Xi:(fun W=>W.heap[s]?=some (.cells #[.slice A6 n6 c6,.slice B6 k6 q6,.slice D6 j6 f6,.int .i64 z5] 121 (0,0))) (Qfi wd (g+1) (.slice none 0 0) (.slice none 0 0) (.slice none 0 0)):=(qi7 _ _ _ s (by omega)).trans hS;unfold Qfi at Xi;refine Ord.qaf.step 3 (by kernel_rfl) rfl (fun C hC=>?_);go_simp;refine hC.out _ _ (fun _=>Xi) ?_;clear hC C;try simp only[zjA]
    have hS:=Xi;refine Ord.qaf.step 4 (by kernel_rfl) rfl (fun C hC=>?_);go_simp;refine hC.out _ _ (fun _=>hS) ?_;clear hC C;try simp only[zjA]
    refine Ord.qaf.done (by kernel_rfl) ?_ _;go_wp2_with fail
    exact zlf (v:=.tuple #[.agg #[.slice none 0 0,.slice none 0 0,.slice none 0 0],.int .i64 z5]) (by simp[results,results34,asAddr,hl]) rfl hP.out
   subst hz;cases ch
   ·have HE:=hid (runS_stL (q:=⟨op,⟨m0,m1,m2,m3,m4,m5,m6,m7,m8⟩,nm,z,a⟩) Xu.out (Nb.out rfl) Yg.out);clear Kg Yp Ym;have t3:=zjc s 3 HT.out;have u0:=zjc u 0 Ya.out;go_upto_region 11 with fail
    clear t3 u0 Ya;have HK:=hid fun (W:World) (hW:Below g w W)=>qc7 g A n c l W (by have:=Hr.out;rw[HG.out] at this;exact this.below hW) (by omega);have Xa:Below w7.heap.size w7 w7.drew:=(Below.refl _ _).drew;have hS:(fun W=>W.heap[s]?=some (.cells #[.slice A6 n6 c6,.slice B6 k6 q6,.slice D6 j6 f6,.int .i64 0] 121 (0,0))) w7.drew:=(Xa.block s (by omega)).trans HT.out;have Xp:=hid ((Xa.block (g+1) (by omega)).trans Yk.out);have Xd:=hid (Xw.out.trans (Xa.mono (by omega)));have Yy:=hid Xa;refine Ord.qaf.begin (fun W=>W.heap[s]?=some (.cells #[.slice A6 n6 c6,.slice B6 k6 q6,.slice D6 j6 f6,.int .i64 0] 121 (0,0))) 8 (by kernel_rfl) ?_;generalize w7.drew=wd at *;have hd:=Xa.size;clear Xa HT;refine zjV 0 45 hS ?_;refine zjV 2 47 hS ?_;refine zjV 3 48 hS ?_ (x:=.slice B6 k6 q6) (hy:=by intro v hv;have y1:=zlc _ s 1 _ _ _ hv;go_simp;first|done|rfl);refine zjV 4 49 hS ?_;refine zjV 5 50 hS ?_ (x:=.slice D6 j6 f6) (hy:=by intro v hv;have y2:=zlc _ s 2 _ _ _ hv;go_simp;first|done|rfl);refine Ord.qaf.step 1 (by kernel_rfl) rfl (fun C hC=>?_);go_simp;go_at_call 20;refine (HK.out wd Xd.out).mono ?_;rintro e w9 ⟨A9,c9,rfl,o9,b9⟩;have hS:(fun W=>W.heap[s]?=some (.cells #[.slice A6 n6 c6,.slice B6 k6 q6,.slice D6 j6 f6,.int .i64 0] 121 (0,0))) w9:=(b9.block s (by omega)).trans hS;have h9:=b9.size;have Xe:=hid ((b9.block (g+1) (by omega)).trans Xp.out);have Kd:=hid (Xd.out.trans (b9.mono (by omega)));have Xm:=Yy.out.trans (b9.mono hd);have Nn:=hid (Yw.out.below Xm);have Ng:=hid (Yh.out.below Xm);have Nh:=hid (apart_of (Yh.out.below Yy.out) o9);have Ke:=hid (o9.more (show g<=wd.heap.size by omega));clear HK b9 o9 Xm;go_wp2_with fail
    refine hC.out _ _ (fun _=>hS) ?_;clear hC C;try simp only[zjA]
    refine zjV 6 51 hS ?_ (x:=.agg #[.slice A9 n c9,.slice B6 k6 q6,.slice D6 j6 f6]);have Yf:=fun k=>zjc (g+1) k Xe.out;have fr:∀o,w9.frozen? ⟨g+1,o,none⟩=false:=fun o=>zlp _ _ o _ _ Xe.out;have hl:=qq2 Xe.out (.slice A9 n c9) (.slice B6 k6 q6) (.slice D6 j6 f6);have hP:=hid (ExeP.set (q:=⟨op,⟨m0,m1,m2,m3,m4,m5,m6,m7,m8⟩,nm,z,a⟩) (w:=w) (A:=A9) (n:=n) (c:=c9) (E:=B6) (k:=k6) (d:=q6) (D:=D6) (j:=j6) (f:=f6) HE.out Xe.out (by rw[HG.out];omega) (by rw[HG.out];exact Kd.out) (fun _=>by rw[HG.out];exact⟨Ke.out,Nn.out,Ng.out,Nh.out⟩));have Xi:(fun W=>W.heap[s]?=some (.cells #[.slice A6 n6 c6,.slice B6 k6 q6,.slice D6 j6 f6,.int .i64 0] 121 (0,0))) (Qfi w9 (g+1) (.slice A9 n c9) (.slice B6 k6 q6) (.slice D6 j6 f6)):=(qi7 _ _ _ s (by omega)).trans hS;unfold Qfi at Xi;refine Ord.qaf.step 7 (by kernel_rfl) rfl (fun C hC=>?_);go_simp;refine hC.out _ _ (fun _=>Xi) ?_;clear hC C;try simp only[zjA]
    have hS:=Xi;refine Ord.qaf.step 8 (by kernel_rfl) rfl (fun C hC=>?_);go_simp;refine hC.out _ _ (fun _=>hS) ?_;clear hC C;try simp only[zjA]
    refine Ord.qaf.done (by kernel_rfl) ?_ _;go_wp2_with fail
    exact zlf (v:=.tuple #[.agg #[.slice A9 n c9,.slice B6 k6 q6,.slice D6 j6 f6],.int .i64 0]) (by simp[results,results34,asAddr,hl]) rfl hP.out
   ·have HE:=hid (runS_stC (q:=⟨op,⟨m0,m1,m2,m3,m4,m5,m6,m7,m8⟩,nm,z,a⟩) Xu.out (Kr.out rfl) Yg.out);have Xv:Few (edC (qae l).1 ⟨op,⟨m0,m1,m2,m3,m4,m5,m6,m7,m8⟩,nm,z,a⟩).1:=Qfj Xf.out.n Xf.out.all Xf.out.ok Xf.out.dl HQ.out.ok HQ.out.dl HQ.out.l5;have Nj:=hid Xv;have Yn:(stX true ms ⟨op,⟨m0,m1,m2,m3,m4,m5,m6,m7,m8⟩,nm,z,a⟩).map core=(edC (qae l).1 ⟨op,⟨m0,m1,m2,m3,m4,m5,m6,m7,m8⟩,nm,z,a⟩).1.map core:=HS.out.1;obtain⟨ys,Kw,Ki⟩:=Qc1 Yp.out (qy5 Yn Xv.ok) (by have h1:=congrArg List.length Yn;rw[zlB,zlB] at h1;have:=Xv.n;omega);have Yq:=Kw.on Ym.out;have Xk:=Ki.trans Yn;have Ks:=hid (Six.qzi Xk);have H8:=hid (Six.qtb w6.heap.size A6 n6 c6 ys w7 ⟨Yx.out.on (by rw[HG.out];exact Xw.out),Yq.rd,Yq.hK,Xv.core Xk,Yq.cap⟩);clear Xv Nj Yn Kw Ki Yq Xk Yp Yw Yh Kg Xf HQ HS Hr Ym Hs;have t0:=zjc s 0 HT.out;have t3:=zjc s 3 HT.out;have u0:=zjc u 0 Ya.out;go_wp2_with fail
    refine H8.out.mono ?_;rintro e w9 ⟨v9,rfl,o9,b9⟩;obtain⟨A9,c9,rfl,_⟩:=o9.reads;rw[Ks.out.1] at o9 |-;rw[Ks.out.2.2.2];clear t0 t3 u0 HT H8 Ya;obtain⟨n9,Nc⟩:∃n9,(qfv (edC (qae l).1 ⟨op,⟨m0,m1,m2,m3,m4,m5,m6,m7,m8⟩,nm,z,a⟩).1).length=n9:=⟨_,rfl⟩;rw[Nc] at o9 |-;clear Nc;obtain⟨z9,Kq⟩:∃z9,(qbe 0 (edC (qae l).1 ⟨op,⟨m0,m1,m2,m3,m4,m5,m6,m7,m8⟩,nm,z,a⟩).1).2=z9:=⟨_,rfl⟩;rw[Kq] at HE |-;clear Kq;have Xe:=hid ((b9.block (g+1) (by omega)).trans Yk.out);have Kd:=hid (Xw.out.trans (b9.mono (by omega)));have Ke:=hid (o9.more (show g<=w7.heap.size by omega));clear o9 b9 Yk Xw;have Yf:=fun k=>zjc (g+1) k Xe.out;have fr:∀o,w9.frozen? ⟨g+1,o,none⟩=false:=fun o=>zlp _ _ o _ _ Xe.out;have hl:=qq2 Xe.out (.slice A9 n9 c9) (.slice none 0 0) (.slice none 0 0);have hP:=hid (ExeP.set (q:=⟨op,⟨m0,m1,m2,m3,m4,m5,m6,m7,m8⟩,nm,z,a⟩) (w:=w) (A:=A9) (n:=n9) (c:=c9) (E:=none) (k:=0) (d:=0) (D:=none) (j:=0) (f:=0) HE.out Xe.out (by rw[HG.out];omega) (by rw[HG.out];exact Kd.out) (fun h=>by rw[HG.out,if_pos h];exact⟨Ke.out,JS.Own.nil _ _,JB.Own.nil _ _,qe0.nil _ _ _⟩));go_wp2_with fail
    exact zlf (v:=.tuple #[.agg #[.slice A9 n9 c9,.slice none 0 0,.slice none 0 0],.int .i64 z9]) (by simp[results,results34,asAddr,hl]) rfl hP.out
end JL
namespace JL
open JB
open JS (Oth qe0)
open JN (qev)
open JR (Mem RdM qft qa8)
open JW (core MOk qai qbb)
open JE (ClP qc7 qmr qh6)
theorem RunQ.set {l:List UInt8}{q:Cmd}{w W:World}{B:Nat}{x y u:Value}{A:Option Addr}{n c:Nat}{E:Option Addr}{k d:Nat}{D:Option Addr}{j f:Nat}{l1:List UInt8}{l2:List ByteArray}{l3:List UInt8}{z:Int}
 (e:qbs l q=(l1,l2,l3,z))(hB:W.heap[B]?=some (.cells #[x,y,u] 61 (0,0)))(hle:w.heap.size<=B)(hb:Below w.heap.size w W)
 (h1:JB.Own W w.heap.size (.slice A n c) n l1)(h2:JS.Own W w.heap.size (.slice E k d) k l2)(h3:JB.Own W w.heap.size (.slice D j f) j l3)(ha:qe0 (.slice D j f) (.slice A n c)):
 RunQ l q w (.returned (.tuple #[.agg #[.slice A n c,.slice E k d,.slice D j f],.int .i64 z])) (((W.setCell ⟨B,0,none⟩ (.slice A n c)).setCell ⟨B,1,none⟩ (.slice E k d)).setCell ⟨B,2,none⟩ (.slice D j f)):=by
 have ho:Oth 61 W (Qfi W B (.slice A n c) (.slice E k d) (.slice D j f)):=Oth.put hB fun g hg=>qi7 _ _ _ g hg;exact⟨A,n,c,E,k,d,D,j,f,by rw[e],by rw[e];exact qai h1 ho (by decide),by rw[e];exact qbb h2 ho (by decide),by rw[e];exact qai h3 ho (by decide),ha,qm7 hb hle _ _ _⟩
theorem runS_bad {l:List UInt8}{q:Cmd}(h:(qbs l q).2.2.2≠0):qbs l q=(l,[],[],(qbs l q).2.2.2):=by
 unfold qbs at h |-;split
 ·rfl
 ·split
  ·rfl
  ·split
   ·rename_i a b c
    rw[if_neg a,if_neg b,if_pos c] at h;exact absurd rfl h
   ·split
    ·rename_i a b c d
     rw[if_neg a,if_neg b,if_neg c,if_pos d] at h;rw[Qa4 h]
    ·split
     ·rfl
     ·split
      ·rfl
      ·rename_i a b c d e f
       rw[if_neg a,if_neg b,if_neg c,if_neg d,if_neg e,if_neg f] at h;exact absurd rfl h
theorem prun_any (Hex:∀(A:Option Addr)(n c:Nat)(l:List UInt8)(q:Cmd)(w:World),qev w->JB.Rd w w.heap.size A n l->n<=c->c<=maxLen->BOk l->qef w w.heap.size q->Calls prog 34 #[.slice A n c,q.val] w (ExeP l q w)):RunC:=by
 intro A n c l q w hG hr Xs Xr hB hq;have hn:n<=99000:=by rw[<-hr.1];exact hB.len
 have HX:=hid fun (W:World) (hW:Below w.heap.size w W)=>Hex A n c l q W (hG.on hW) ((hr.below hW).more hW.size) Xs Xr hB ((hq.on hW).more hW.size zjn);have Xk:=hid (fun (h:(qbs l q).2.2.2≠0)=>runS_bad h);clear hG Xs Xr hB hq Hex;obtain⟨op,⟨m0,m1,m2,m3,m4,m5,m6,m7,m8⟩,nm,z,a⟩:=q;obtain⟨w1,e1,Xj,Xf,Xi,Xu⟩:=qda w (.cells #[.int .u8 (op.toNat:Int),.string m0,.int .i64 m1,.int .i64 m2,.int .i64 m3,.int .i64 m4,.slice m5 m6 m7,.string nm,.int .i64 z,.string a] 56) (.cells #[.slice none 0 0,.slice none 0 0,.slice none 0 0] 61);simp only[Cmd.val,Cmd.cells] at HX |-;go_enter func25,ntmps25;go_upto_region 1 with fail
 rw[<-e1];clear e1;obtain⟨g,hg⟩:∃g,w.heap.size=g:=⟨_,rfl⟩;have HG:=hid hg;have Hr:=hid hr;clear hr;rw[hg] at Xj Xf Xi Xu HX |-;have Xp:=hid Xj;have Xv:=hid Xf;have Xm:=hid Xi;have Xy:g+1<w1.heap.size:=by omega
 clear Xj Xf Xi Xu hg;have Xq:=hid (HX.out w1 Xp.out);clear HX;have Xw:=fun k=>zjc g k Xv.out;go_wp2_with fail
 refine Xq.out.mono ?_;rintro e w2 ⟨A2,n2,c2,B2,k2,q2,D2,j2,f2,rfl,hz,b2⟩;clear Xq Xw;have HZ:=hid hz;have h2:=b2.size;have Xt:=hid ((b2.block (g+1) Xy).trans Xm.out);have Xn:=hid (Xp.out.trans (b2.mono (show g<=w1.heap.size by omega)));clear hz b2 Xv Xm;have bT:=zjB w2 (.cells #[.slice A2 n2 c2,.slice B2 k2 q2,.slice D2 j2 f2] 61);have hT:=zld w2 (.cells #[.slice A2 n2 c2,.slice B2 k2 q2,.slice D2 j2 f2] 61);have sT:=zlr w2 (.cells #[.slice A2 n2 c2,.slice B2 k2 q2,.slice D2 j2 f2] 61);obtain⟨rz,Xh⟩:∃rz,(qbs l ⟨op,⟨m0,m1,m2,m3,m4,m5,m6,m7,m8⟩,nm,z,a⟩).2.2.2=rz:=⟨_,rfl⟩;have Xa:=hid Xh;rw[Xh];clear Xh;go_upto_region 2 with fail
 generalize w2.alloc (.cells #[.slice A2 n2 c2,.slice B2 k2 q2,.slice D2 j2 f2] 61)=w3 at *;have HT:=hid hT;have Xd:=hid ((bT.block (g+1) (by omega)).trans Xt.out);have Xg:=hid (Xn.out.trans (bT.mono (by omega)));have Xb:=hid bT;obtain⟨u,hu⟩:∃u,w2.heap.size=u:=⟨_,rfl⟩;have Hu:=hid hu;rw[hu] at HT sT h2 |-;clear bT hT hu Xt Xn;by_cases hz:rz=0
 ·subst hz;obtain⟨o1,o2,o3,ha⟩:=HZ.out Xa.out;have Xe:w.heap.size<=w1.heap.size:=by rw[HG.out];omega
  have hP:=hid (RunQ.set (q:=⟨op,⟨m0,m1,m2,m3,m4,m5,m6,m7,m8⟩,nm,z,a⟩) (w:=w) (l1:=(qbs l ⟨op,⟨m0,m1,m2,m3,m4,m5,m6,m7,m8⟩,nm,z,a⟩).1) (l2:=(qbs l ⟨op,⟨m0,m1,m2,m3,m4,m5,m6,m7,m8⟩,nm,z,a⟩).2.1) (l3:=(qbs l ⟨op,⟨m0,m1,m2,m3,m4,m5,m6,m7,m8⟩,nm,z,a⟩).2.2.1) (z:=0) (by rw[<-Xa.out]) Xd.out (by rw[HG.out];omega) (by rw[HG.out];exact Xg.out) ((o1.below Xb.out).more Xe) ((o2.below Xb.out).more Xe) ((o3.below Xb.out).more Xe) ha);clear o1 o2 o3 ha HZ Xa Xk Xb HG Hu Xe;have e0:=zjc u 0 HT.out;have e1:=zjc u 1 HT.out;have e2:=zjc u 2 HT.out;have Xx:=fun k=>zjc (g+1) k Xd.out;have Ya:=run_loadVar_row (P:=prog) _ _ 61 61 _ (0,0) _ HT.out underlying61 rfl (by kernel_rfl);have fw:∀o,w3.frozen? ⟨g+1,o,none⟩=false:=fun o=>zlp _ _ o _ _ Xd.out;have hl:=qq2 Xd.out (.slice A2 n2 c2) (.slice B2 k2 q2) (.slice D2 j2 f2);go_wp2_with fail
  exact zlf (v:=.tuple #[.agg #[.slice A2 n2 c2,.slice B2 k2 q2,.slice D2 j2 f2],.int .i64 0]) (by simp[results,results25,asAddr,hl]) rfl hP.out
 ·have Xz:(rz !=0)=true:=by simpa using hz
  have HE:=hid ((Xk.out (by rw[Xa.out];exact hz)).trans (by rw[Xa.out]));have HK:=hid (qc7 g A n c l w3 (by have:=Hr.out;rw[HG.out] at this;exact this.below Xg.out) (by omega));clear hz HZ Xa Xk Xb Hu HT Hr;go_wp2_with fail
  refine HK.out.mono ?_;rintro e w4 ⟨A4,c4,rfl,o4,b4⟩;have Xc:=(b4.block (g+1) (by omega)).trans Xd.out;have hP:=hid (RunQ.set (q:=⟨op,⟨m0,m1,m2,m3,m4,m5,m6,m7,m8⟩,nm,z,a⟩) (w:=w) HE.out Xc (by rw[HG.out];omega) (by rw[HG.out];exact Xg.out.trans (b4.mono (by omega))) (o4.more (by rw[HG.out];omega)) (JS.Own.nil _ _) (JB.Own.nil _ _) (qe0.nil _ _ _));have Xx:=fun k=>zjc (g+1) k Xc;have fw:∀o,w4.frozen? ⟨g+1,o,none⟩=false:=fun o=>zlp _ _ o _ _ Xc;have hl:=qq2 Xc (.slice A4 n c4) (.slice none 0 0) (.slice none 0 0);clear Xc o4 b4 HK HE HG;go_wp2_with fail
  exact zlf (v:=.tuple #[.agg #[.slice A4 n c4,.slice none 0 0,.slice none 0 0],.int .i64 rz]) (by simp[results,results25,asAddr,hl]) rfl hP.out
end JL
end Go.Proofs.YtlmolmohhpdhdaaGreatDoor
