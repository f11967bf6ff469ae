/-
  A map from bytes or strings to values of whatever type:
-/
import Derived.Test.YtlmolmohhpdhdaaGreatDoorZLg
import Derived.MapKept
import Derived.Maps.OwnOps
import Derived.Test.YtlmolmohhpdhdaaGreatDoorZLa
import Derived.Test.YtlmolmohhpdhdaaGreatDoorZEyh
import Derived.Test.YtlmolmohhpdhdaaGreatDoorZMl
import Derived.Test.YtlmolmohhpdhdaaGreatDoorZSe
import Derived.BigQuiet
set_option maxRecDepth 100000
set_option maxHeartbeats 16000000
set_option linter.unusedSimpArgs false
set_option linter.unusedVariables false
namespace Go.Proofs.YtlmolmohhpdhdaaGreatDoor
open Go.RowKit Go.Proofs
namespace JL
open JB
theorem qxs (q:IntKind)(z:Int):MapKept.IsKey (.int q) (.int q z):=rfl
theorem qde {t k e:TypeId}{q:TypeDesc}{z:Value}{w:World}{b c:Nat}{es:Array MapEntry}(ht:Tryz.prog.underlying t=some (.map k e))(hk:Tryz.prog.underlying k=some q)(h:w.heap[b]?=some (.map es c))(ik:MapKept.IsKey q z)(v:Value)
 (hn:Instr.findNow q z es.toList 0=some none):
 ∃w',(Instr.mapUpdate t (.map (some b)) z v).run Tryz.prog w=.ok () w'∧w'.heap[b]?=some (.map (es.push ⟨z,v,c⟩) (c+1))∧∀K,K≤b→Below K w w':=by
 have hh:=MapKept.heap_set (o':=.map (es.push ⟨z,v,c⟩) (c+1)) h
 have hlt:b<w.heap.size:=(Array.getElem?_eq_some_iff.1 h).1
 have hc:(Instr.checkKey false 10000 k z).run Tryz.prog w=.ok () w:=MapKept.run_checkKey hk ik false 9999
 refine⟨{w with heap:=w.heap.setIfInBounds b (.map (es.push ⟨z,v,c⟩) (c+1))},?_,hh.1,fun K hK=>?_⟩
 ·simp[Instr.mapUpdate,run_underlying ht,MapKept.run_getObj_map h,hc,MapKept.run_findKey hk hn,MapKept.run_setObj_map _ h,Result.andThen]
 ·exact⟨rfl,rfl,rfl,by simp,fun j hj=>hh.2 j (by omega)⟩
theorem qg8 {t k e:TypeId}{q:TypeDesc}{z:Value}{w:World}{b c:Nat}{es:Array MapEntry}(ht:Tryz.prog.underlying t=some (.map k e))(hk:Tryz.prog.underlying k=some q)(h:w.heap[b]?=some (.map es c))(ik:MapKept.IsKey q z){v:Value}{i:Nat}
 (hn:Instr.findNow q z es.toList 0=some (some (i,v))):
 (Instr.lookup t (.map (some b)) z true).run Tryz.prog w=.ok (.tuple #[v,.bool true]) w:=by
 have hc:∀em,(Instr.checkKey em 10000 k z).run Tryz.prog w=.ok () w:=fun em=>MapKept.run_checkKey hk ik em 9999
 simp[Instr.lookup,run_underlying ht,MapKept.run_getObj_map h,hc,MapKept.run_findKey hk hn,Result.andThen]
theorem qw1 {t k e:TypeId}{q:TypeDesc}{z:Value}{w:World}{b c:Nat}{es:Array MapEntry}(ht:Tryz.prog.underlying t=some (.map k e))(hk:Tryz.prog.underlying k=some q)(h:w.heap[b]?=some (.map es c))(ik:MapKept.IsKey q z){v:Value}
 (hz:(zeroValue e).run Tryz.prog w=.ok v w)(hn:Instr.findNow q z es.toList 0=some none):
 (Instr.lookup t (.map (some b)) z true).run Tryz.prog w=.ok (.tuple #[v,.bool false]) w:=by
 have hc:∀em,(Instr.checkKey em 10000 k z).run Tryz.prog w=.ok () w:=fun em=>MapKept.run_checkKey hk ik em 9999
 simp[Instr.lookup,run_underlying ht,MapKept.run_getObj_map h,hc,MapKept.run_findKey hk hn,hz,Result.andThen]
end JL
namespace JL
open JB
theorem qcr (w:World)(a b:Obj):∃w1,w1=(w.alloc a).alloc b∧Below w.heap.size w w1∧w1.heap[w.heap.size]?=some a∧w1.heap[w.heap.size+1]?=some b∧w1.heap.size=w.heap.size+2:=by
 have h1:=World.size_alloc w a
 have h2:=World.size_alloc (w.alloc a) b
 have h3:=heap_alloc_new (w.alloc a) b
 have b1:=(Below.refl w.heap.size w).alloc zjn a
 have b2:=(Below.refl (w.alloc a).heap.size (w.alloc a)).alloc zjn b
 rw[h1] at h2 h3 b2
 exact⟨_,rfl,b1.trans (b2.mono (Nat.le_succ _)),(b2.block _ (Nat.lt_succ_self _)).trans (heap_alloc_new w a),h3,h2⟩
def fnV (f:FuncId):Value:=.func (.func f) #[] #[]
def qyb:Array MapEntry:=#[⟨.int .u8 114,.agg #[.bool true,fnV 77],0⟩,⟨.int .u8 113,.agg #[.bool true,fnV 78],1⟩,⟨.int .u8 100,.agg #[.bool true,fnV 79],2⟩,⟨.int .u8 109,.agg #[.bool true,fnV 80],3⟩,⟨.int .u8 120,.agg #[.bool false,fnV 81],4⟩,⟨.int .u8 116,.agg #[.bool false,fnV 82],5⟩]
theorem qgy (w:World):Calls Tryz.prog 54 #[] w fun e w'=>∃b,e=.returned (.map (some b))∧w'.heap[b]?=some (.map qyb 6)∧Below w.heap.size w w':=by
 have hmm:=@run_makeMap Tryz.prog
 have ht:Tryz.prog.underlying 118=some (.map 5 116):=by kernel_rfl
 have hb0:=zjB w (.map #[] 0)
 have r0:=heap_alloc_new w (.map #[] 0)
 obtain⟨w1,h1,r1,b1⟩:=qde (z:=.int .u8 114) ht Tryz.underlying5 r0 (qxs _ _) (.agg #[.bool true,fnV 77]) rfl
 obtain⟨w2,h2,r2,b2⟩:=qde (z:=.int .u8 113) ht Tryz.underlying5 r1 (qxs _ _) (.agg #[.bool true,fnV 78]) rfl
 obtain⟨w3,h3,r3,b3⟩:=qde (z:=.int .u8 100) ht Tryz.underlying5 r2 (qxs _ _) (.agg #[.bool true,fnV 79]) rfl
 obtain⟨w4,h4,r4,b4⟩:=qde (z:=.int .u8 109) ht Tryz.underlying5 r3 (qxs _ _) (.agg #[.bool true,fnV 80]) rfl
 obtain⟨w5,h5,r5,b5⟩:=qde (z:=.int .u8 120) ht Tryz.underlying5 r4 (qxs _ _) (.agg #[.bool false,fnV 81]) rfl
 obtain⟨w6,h6,r6,b6⟩:=qde (z:=.int .u8 116) ht Tryz.underlying5 r5 (qxs _ _) (.agg #[.bool false,fnV 82]) rfl
 have hb:Below w.heap.size w w6:=((((((hb0.trans (b1 _ zjn)).trans (b2 _ zjn)).trans (b3 _ zjn)).trans (b4 _ zjn)).trans (b5 _ zjn)).trans (b6 _ zjn))
 have HR:Hid (w6.heap[w.heap.size]?=some (.map qyb 6)):=hid r6
 clear r0 r1 r2 r3 r4 r5 r6 b1 b2 b3 b4 b5 b6 hb0 ht
 unfold fnV at h1 h2 h3 h4 h5 h6
 go_enter Tryz.func54,Tryz.ntmps54
 go_wp2_with fail
 go_ret
 exact⟨_,rfl,HR.out,hb⟩
end JL
namespace JL
open JB
open JS (Oth)
open JR (Mem RdM qdc qa7)
open JW (core MOk qab qbj)
open JE (qb7 qdd qjv qf5 qhk qcw qex qep qbg qkm qgd qmv qya qjx qmw qmx qsk qjw qse)
def qr0 (W:World)(B:Nat)(v0 v1 v2 v3:Value):World:=(((W.setCell ⟨B,0,none⟩ v0).setCell ⟨B,1,none⟩ v1).setCell ⟨B,2,none⟩ v2).setCell ⟨B,3,none⟩ v3
theorem qqd {W:World}{B:Nat}{a b c d:Value}{t:TypeId}(h:W.heap[B]?=some (.cells #[a,b,c,d] t (0,0)))(v0 v1 v2 v3:Value):(qr0 W B v0 v1 v2 v3).heap[B]?=some (.cells #[v0,v1,v2,v3] t (0,0)):=
 heap_setCell_same _ B 3 _ _ v3 (heap_setCell_same _ B 2 _ _ v2 (heap_setCell_same _ B 1 _ _ v1 (heap_setCell_same W B 0 _ _ v0 h)))
theorem qi5 {W:World}{B:Nat}(v0 v1 v2 v3:Value)(g:Nat)(hg:g≠B):(qr0 W B v0 v1 v2 v3).heap[g]?=W.heap[g]?:=by
 unfold qr0
 rw[Below.heap_setCell _ ⟨B,3,none⟩ _ g hg,Below.heap_setCell _ ⟨B,2,none⟩ _ g hg,Below.heap_setCell _ ⟨B,1,none⟩ _ g hg,Below.heap_setCell _ ⟨B,0,none⟩ _ g hg]
theorem qci {w W:World}{K B:Nat}(h:Below K w W)(hB:K≤B)(v0 v1 v2 v3:Value):Below K w (qr0 W B v0 v1 v2 v3):=
 (((h.setCell (p:=⟨B,0,none⟩) hB v0).setCell (p:=⟨B,1,none⟩) hB v1).setCell (p:=⟨B,2,none⟩) hB v2).setCell (p:=⟨B,3,none⟩) hB v3
theorem qur {W:World}{B:Nat}{a b c d:Value}(h:W.heap[B]?=some (.cells #[a,b,c,d] 121 (0,0))):(loadVar 121 ⟨B,0,none⟩).run Tryz.prog W=.ok (.agg #[a,b,c,d]) W:=
 run_loadVar_row _ B 121 121 #[a,b,c,d] (0,0) _ h Tryz.underlying121 rfl (by kernel_rfl)
theorem qre {W:World}{B:Nat}{a b c d:Value}(h:W.heap[B]?=some (.cells #[a,b,c,d] 121 (0,0)))(v0 v1 v2 v3:Value):
 (loadVar 121 ⟨B,0,none⟩).run Tryz.prog ((((W.setCell ⟨B,0,none⟩ v0).setCell ⟨B,1,none⟩ v1).setCell ⟨B,2,none⟩ v2).setCell ⟨B,3,none⟩ v3)=.ok (.agg #[v0,v1,v2,v3]) ((((W.setCell ⟨B,0,none⟩ v0).setCell ⟨B,1,none⟩ v1).setCell ⟨B,2,none⟩ v2).setCell ⟨B,3,none⟩ v3):=
 qur (qqd h v0 v1 v2 v3)
def qit (xs:List Mem)(ns:List ByteArray)(l:List UInt8)(z:Int)(w:World)(e:Ending)(w':World):Prop:=
 ∃(A:Option Addr)(n c:Nat)(B:Option Addr)(k d:Nat)(D:Option Addr)(j f:Nat),e=.returned (.agg #[.slice A n c,.slice B k d,.slice D j f,.int .i64 z])∧qb7 xs z w (.returned (.tuple #[.slice A n c,.int .i64 z])) w'∧JS.Own w' w.heap.size (.slice B k d) k ns∧JB.Own w' w.heap.size (.slice D j f) j l∧Below w.heap.size w w'
theorem qp7 {w w':World}{z:Int}(hb:Below w.heap.size w w'):qb7 [] z w (.returned (.tuple #[.slice none 0 0,.int .i64 z])) w':=
 ⟨none,0,0,[],rfl,JC.Own.nil _ _ _ _,fun _ hx=>by simp at hx,rfl,fun _ hx=>by simp at hx,hb⟩
theorem peff_r (K:Nat)(A:Option Addr)(n c:Nat)(xs:List Mem)(q:Cmd)(w:World)(h:qmv w K A n c xs)(hq:qfu w K q):
 Calls Tryz.prog 77 #[.slice A n c,q.val] w (qit (qf5 xs q.m q.z q.a).1 [] [] (qf5 xs q.m q.z q.a).2 w):=by
 have hK:=h.hK
 obtain⟨op,⟨m0,m1,m2,m3,m4,m5,m6,m7,m8⟩,nm,z,a⟩:=q
 obtain⟨w1,e1,hb1,hC,hS,hs1⟩:=qcr w (.cells #[.int .u8 (op.toNat:Int),.string m0,.int .i64 m1,.int .i64 m2,.int .i64 m3,.int .i64 m4,.slice m5 m6 m7,.string nm,.int .i64 z,.string a] 56) (.cells #[.slice none 0 0,.slice none 0 0,.slice none 0 0,.int .i64 0] 121)
 simp only[Cmd.val,Cmd.cells]
 go_enter Tryz.func77,Tryz.ntmps77
 go_upto_region 1 with fail
 rw[←e1]
 clear e1
 have hM:=hid (h.on hb1)
 have hE:Hid (qya w1 K ⟨m0,m1,m2,m3,m4,m5,m6,m7,m8⟩):=hid ⟨hq.ok,hq.rd.below (hb1.mono hK),Nat.le_trans hK hb1.size,hq.cap⟩
 clear h hq
 have zzd:=fun k=>zjc w.heap.size k hC
 go_wp2_with fail
 refine (qjx K A n c xs ⟨m0,m1,m2,m3,m4,m5,m6,m7,m8⟩ z a w1 hM.out hE.out).mono ?_
 rintro e w2 ⟨A2,n2,c2,ys,rfl,o2,D2,c0,s2,hb2⟩
 have hS2:=(hb2.block (w.heap.size+1) (by omega)).trans hS
 have hS2a:=heap_setCell_same w2 (w.heap.size+1) 0 _ _ (.slice A2 n2 c2) hS2
 have hS3:=heap_setCell_same _ (w.heap.size+1) 3 _ _ (.int .i64 (qf5 xs ⟨m0,m1,m2,m3,m4,m5,m6,m7,m8⟩ z a).2) hS2a
 have hO3:Oth 121 w2 (qr0 ((w2.setCell ⟨w.heap.size+1,0,none⟩ (.slice A2 n2 c2)).setCell ⟨w.heap.size+1,3,none⟩ (.int .i64 (qf5 xs ⟨m0,m1,m2,m3,m4,m5,m6,m7,m8⟩ z a).2)) (w.heap.size+1) (.slice A2 n2 c2) (.slice none 0 0) (.slice none 0 0) (.int .i64 (qf5 xs ⟨m0,m1,m2,m3,m4,m5,m6,m7,m8⟩ z a).2)):=Oth.put hS2 fun g hg=>(qi5 _ _ _ _ g hg).trans ((Below.heap_setCell _ ⟨w.heap.size+1,3,none⟩ _ g hg).trans (Below.heap_setCell _ ⟨w.heap.size+1,0,none⟩ _ g hg))
 have hB3:=qci ((((hb1.trans (hb2.mono (by omega))).setCell (p:=⟨w.heap.size+1,0,none⟩) (Nat.le_succ _) (.slice A2 n2 c2))).setCell (p:=⟨w.heap.size+1,3,none⟩) (Nat.le_succ _) (.int .i64 (qf5 xs ⟨m0,m1,m2,m3,m4,m5,m6,m7,m8⟩ z a).2)) (show w.heap.size≤w.heap.size+1 by omega) (.slice A2 n2 c2) (.slice none 0 0) (.slice none 0 0) (.int .i64 (qf5 xs ⟨m0,m1,m2,m3,m4,m5,m6,m7,m8⟩ z a).2)
 have f2:∀o,w2.frozen? ⟨w.heap.size+1,o,none⟩=false:=fun o=>by simp[World.frozen?,hS2]
 have f2a:∀o,(w2.setCell ⟨w.heap.size+1,0,none⟩ (.slice A2 n2 c2)).frozen? ⟨w.heap.size+1,o,none⟩=false:=fun o=>frozen_of_row _ _ o _ _ hS2a
 have e0:=zjc (w.heap.size+1) 0 hS2
 have e3:=zjc (w.heap.size+1) 3 hS2a
 have HO:=hid hO3
 have HB:=hid hB3
 have HS3:=hid hS3
 clear hS3 hO3 hB3
 go_upto_region 2 with fail
 generalize (w2.setCell ⟨w.heap.size+1,0,none⟩ (.slice A2 n2 c2)).setCell ⟨w.heap.size+1,3,none⟩ (.int .i64 (qf5 xs ⟨m0,m1,m2,m3,m4,m5,m6,m7,m8⟩ z a).2)=w3 at *
 clear e0 e3 f2 f2a hS2a
 have hl0:=qur HS3.out
 have f3:∀o,w3.frozen? ⟨w.heap.size+1,o,none⟩=false:=fun o=>frozen_of_row _ _ o _ _ HS3.out
 have hl:=qre HS3.out (.slice A2 n2 c2) (.slice none 0 0) (.slice none 0 0) (.int .i64 (qf5 xs ⟨m0,m1,m2,m3,m4,m5,m6,m7,m8⟩ z a).2)
 have e0:=zjc (w.heap.size+1) 0 HS3.out
 have e1:=zjc (w.heap.size+1) 1 HS3.out
 have e2:=zjc (w.heap.size+1) 2 HS3.out
 have e3:=zjc (w.heap.size+1) 3 HS3.out
 have HP:=hid (show qit (qf5 xs ⟨m0,m1,m2,m3,m4,m5,m6,m7,m8⟩ z a).1 [] [] (qf5 xs ⟨m0,m1,m2,m3,m4,m5,m6,m7,m8⟩ z a).2 w (.returned (.agg #[.slice A2 n2 c2,.slice none 0 0,.slice none 0 0,.int .i64 (qf5 xs ⟨m0,m1,m2,m3,m4,m5,m6,m7,m8⟩ z a).2])) _ from ⟨A2,n2,c2,none,0,0,none,0,0,rfl,⟨A2,n2,c2,ys,rfl,(o2.oth HO.out (by decide)).more (by omega),fun y hy=>(qab (D2 y hy) HO.out (by decide)).more (by omega),c0,s2,HB.out⟩,JS.Own.nil _ _,JB.Own.nil _ _,HB.out⟩)
 clear HO HB hC hS hS2 hM hE hs1 hb1 hb2 o2 D2 c0 s2 HS3
 clear zzd
 go_wp2_with fail
 exact bodyPost_ret (v:=.agg #[.slice A2 n2 c2,.slice none 0 0,.slice none 0 0,.int .i64 (qf5 xs ⟨m0,m1,m2,m3,m4,m5,m6,m7,m8⟩ z a).2]) (by simp[results,Tryz.results77,asAddr,hl]) rfl HP.out
theorem peff_q (K:Nat)(A:Option Addr)(n c:Nat)(xs:List Mem)(q:Cmd)(w:World)(h:qmv w K A n c xs)(hq:qfu w K q):
 Calls Tryz.prog 78 #[.slice A n c,q.val] w (qit (qhk xs n q.m) [] [] 0 w):=by
 have hK:=h.hK
 obtain⟨op,⟨m0,m1,m2,m3,m4,m5,m6,m7,m8⟩,nm,z,a⟩:=q
 obtain⟨w1,e1,hb1,hC,hS,hs1⟩:=qcr w (.cells #[.int .u8 (op.toNat:Int),.string m0,.int .i64 m1,.int .i64 m2,.int .i64 m3,.int .i64 m4,.slice m5 m6 m7,.string nm,.int .i64 z,.string a] 56) (.cells #[.slice none 0 0,.slice none 0 0,.slice none 0 0,.int .i64 0] 121)
 simp only[Cmd.val,Cmd.cells]
 go_enter Tryz.func78,Tryz.ntmps78
 go_upto_region 1 with fail
 rw[←e1]
 clear e1
 have hM:=hid (h.on hb1)
 have hE:Hid (qya w1 K ⟨m0,m1,m2,m3,m4,m5,m6,m7,m8⟩):=hid ⟨hq.ok,hq.rd.below (hb1.mono hK),Nat.le_trans hK hb1.size,hq.cap⟩
 clear h hq
 have zzd:=fun k=>zjc w.heap.size k hC
 go_wp2_with fail
 refine (qmw K A n c xs ⟨m0,m1,m2,m3,m4,m5,m6,m7,m8⟩ w1 hM.out hE.out).mono ?_
 rintro e w2 ⟨A2,n2,c2,ys,rfl,o2,D2,c0,s2,hb2⟩
 have hS2:=(hb2.block (w.heap.size+1) (by omega)).trans hS
 have HO:=hid (show Oth 121 w2 (qr0 w2 (w.heap.size+1) (.slice A2 n2 c2) (.slice none 0 0) (.slice none 0 0) (.int .i64 0)) from Oth.put hS2 fun g hg=>qi5 _ _ _ _ g hg)
 have HB:=hid (qci (hb1.trans (hb2.mono (by omega))) (show w.heap.size≤w.heap.size+1 by omega) (.slice A2 n2 c2) (.slice none 0 0) (.slice none 0 0) (.int .i64 0))
 have f2:∀o,w2.frozen? ⟨w.heap.size+1,o,none⟩=false:=fun o=>by simp[World.frozen?,hS2]
 have hl:=qre hS2 (.slice A2 n2 c2) (.slice none 0 0) (.slice none 0 0) (.int .i64 0)
 have e0:=zjc (w.heap.size+1) 0 hS2
 have e1:=zjc (w.heap.size+1) 1 hS2
 have e2:=zjc (w.heap.size+1) 2 hS2
 have e3:=zjc (w.heap.size+1) 3 hS2
 have HP:=hid (show qit (qhk xs n ⟨m0,m1,m2,m3,m4,m5,m6,m7,m8⟩) [] [] 0 w (.returned (.agg #[.slice A2 n2 c2,.slice none 0 0,.slice none 0 0,.int .i64 0])) _ from ⟨A2,n2,c2,none,0,0,none,0,0,rfl,⟨A2,n2,c2,ys,rfl,(o2.oth HO.out (by decide)).more (by omega),fun y hy=>(qab (D2 y hy) HO.out (by decide)).more (by omega),c0,s2,HB.out⟩,JS.Own.nil _ _,JB.Own.nil _ _,HB.out⟩)
 clear HO HB hC hS hS2 hM hE hs1 hb1 hb2 o2 D2 c0 s2
 clear zzd
 go_wp2_with fail
 exact bodyPost_ret (v:=.agg #[.slice A2 n2 c2,.slice none 0 0,.slice none 0 0,.int .i64 0]) (by simp[results,Tryz.results78,asAddr,hl]) rfl HP.out
theorem peff_d (K:Nat)(A:Option Addr)(n c:Nat)(xs:List Mem)(q:Cmd)(w:World)(h:qmv w K A n c xs)(hq:qfu w K q):
 Calls Tryz.prog 79 #[.slice A n c,q.val] w (qit (qex xs q.nm).1 [] [] (qex xs q.nm).2 w):=by
 have hK:=h.hK
 obtain⟨op,⟨m0,m1,m2,m3,m4,m5,m6,m7,m8⟩,nm,z,a⟩:=q
 obtain⟨w1,e1,hb1,hC,hS,hs1⟩:=qcr w (.cells #[.int .u8 (op.toNat:Int),.string m0,.int .i64 m1,.int .i64 m2,.int .i64 m3,.int .i64 m4,.slice m5 m6 m7,.string nm,.int .i64 z,.string a] 56) (.cells #[.slice none 0 0,.slice none 0 0,.slice none 0 0,.int .i64 0] 121)
 simp only[Cmd.val,Cmd.cells]
 go_enter Tryz.func79,Tryz.ntmps79
 go_upto_region 1 with fail
 rw[←e1]
 clear e1
 have hM:=hid (h.on hb1)
 have hE:Hid (qya w1 K ⟨m0,m1,m2,m3,m4,m5,m6,m7,m8⟩):=hid ⟨hq.ok,hq.rd.below (hb1.mono hK),Nat.le_trans hK hb1.size,hq.cap⟩
 clear h hq
 have d7:=zjc w.heap.size 7 hC
 go_wp2_with fail
 refine (qmx K A n c xs nm w1 hM.out).mono ?_
 rintro e w2 ⟨A2,n2,c2,ys,rfl,o2,D2,c0,s2,hb2⟩
 have hS2:=(hb2.block (w.heap.size+1) (by omega)).trans hS
 have hS2a:=heap_setCell_same w2 (w.heap.size+1) 0 _ _ (.slice A2 n2 c2) hS2
 have hS3:=heap_setCell_same _ (w.heap.size+1) 3 _ _ (.int .i64 (qex xs nm).2) hS2a
 have hO3:Oth 121 w2 (qr0 ((w2.setCell ⟨w.heap.size+1,0,none⟩ (.slice A2 n2 c2)).setCell ⟨w.heap.size+1,3,none⟩ (.int .i64 (qex xs nm).2)) (w.heap.size+1) (.slice A2 n2 c2) (.slice none 0 0) (.slice none 0 0) (.int .i64 (qex xs nm).2)):=Oth.put hS2 fun g hg=>(qi5 _ _ _ _ g hg).trans ((Below.heap_setCell _ ⟨w.heap.size+1,3,none⟩ _ g hg).trans (Below.heap_setCell _ ⟨w.heap.size+1,0,none⟩ _ g hg))
 have hB3:=qci ((((hb1.trans (hb2.mono (by omega))).setCell (p:=⟨w.heap.size+1,0,none⟩) (Nat.le_succ _) (.slice A2 n2 c2))).setCell (p:=⟨w.heap.size+1,3,none⟩) (Nat.le_succ _) (.int .i64 (qex xs nm).2)) (show w.heap.size≤w.heap.size+1 by omega) (.slice A2 n2 c2) (.slice none 0 0) (.slice none 0 0) (.int .i64 (qex xs nm).2)
 have f2:∀o,w2.frozen? ⟨w.heap.size+1,o,none⟩=false:=fun o=>by simp[World.frozen?,hS2]
 have f2a:∀o,(w2.setCell ⟨w.heap.size+1,0,none⟩ (.slice A2 n2 c2)).frozen? ⟨w.heap.size+1,o,none⟩=false:=fun o=>frozen_of_row _ _ o _ _ hS2a
 have e0:=zjc (w.heap.size+1) 0 hS2
 have e3:=zjc (w.heap.size+1) 3 hS2a
 have HO:=hid hO3
 have HB:=hid hB3
 have HS3:=hid hS3
 clear hS3 hO3 hB3
 go_upto_region 2 with fail
 generalize (w2.setCell ⟨w.heap.size+1,0,none⟩ (.slice A2 n2 c2)).setCell ⟨w.heap.size+1,3,none⟩ (.int .i64 (qex xs nm).2)=w3 at *
 clear e0 e3 f2 f2a hS2a
 have hl0:=qur HS3.out
 have f3:∀o,w3.frozen? ⟨w.heap.size+1,o,none⟩=false:=fun o=>frozen_of_row _ _ o _ _ HS3.out
 have hl:=qre HS3.out (.slice A2 n2 c2) (.slice none 0 0) (.slice none 0 0) (.int .i64 (qex xs nm).2)
 have e0:=zjc (w.heap.size+1) 0 HS3.out
 have e1:=zjc (w.heap.size+1) 1 HS3.out
 have e2:=zjc (w.heap.size+1) 2 HS3.out
 have e3:=zjc (w.heap.size+1) 3 HS3.out
 have HP:=hid (show qit (qex xs nm).1 [] [] (qex xs nm).2 w (.returned (.agg #[.slice A2 n2 c2,.slice none 0 0,.slice none 0 0,.int .i64 (qex xs nm).2])) _ from ⟨A2,n2,c2,none,0,0,none,0,0,rfl,⟨A2,n2,c2,ys,rfl,(o2.oth HO.out (by decide)).more (by omega),fun y hy=>(qab (D2 y hy) HO.out (by decide)).more (by omega),c0,s2,HB.out⟩,JS.Own.nil _ _,JB.Own.nil _ _,HB.out⟩)
 clear HO HB hC hS hS2 hM hE hs1 hb1 hb2 o2 D2 c0 s2 HS3
 clear d7
 go_wp2_with fail
 exact bodyPost_ret (v:=.agg #[.slice A2 n2 c2,.slice none 0 0,.slice none 0 0,.int .i64 (qex xs nm).2]) (by simp[results,Tryz.results79,asAddr,hl]) rfl HP.out
theorem peff_m (K:Nat)(A:Option Addr)(n c:Nat)(xs:List Mem)(q:Cmd)(w:World)(h:qmv w K A n c xs)(hq:qfu w K q):
 Calls Tryz.prog 80 #[.slice A n c,q.val] w (qit (qep xs q.nm q.z q.a).1 [] [] (qep xs q.nm q.z q.a).2 w):=by
 have hK:=h.hK
 obtain⟨op,⟨m0,m1,m2,m3,m4,m5,m6,m7,m8⟩,nm,z,a⟩:=q
 obtain⟨w1,e1,hb1,hC,hS,hs1⟩:=qcr w (.cells #[.int .u8 (op.toNat:Int),.string m0,.int .i64 m1,.int .i64 m2,.int .i64 m3,.int .i64 m4,.slice m5 m6 m7,.string nm,.int .i64 z,.string a] 56) (.cells #[.slice none 0 0,.slice none 0 0,.slice none 0 0,.int .i64 0] 121)
 simp only[Cmd.val,Cmd.cells]
 go_enter Tryz.func80,Tryz.ntmps80
 go_upto_region 1 with fail
 rw[←e1]
 clear e1
 have hM:=hid (h.on hb1)
 have hE:Hid (qya w1 K ⟨m0,m1,m2,m3,m4,m5,m6,m7,m8⟩):=hid ⟨hq.ok,hq.rd.below (hb1.mono hK),Nat.le_trans hK hb1.size,hq.cap⟩
 clear h hq
 have zzd:=fun k=>zjc w.heap.size k hC
 go_wp2_with fail
 refine (qsk K A n c xs nm z a w1 hM.out).mono ?_
 rintro e w2 ⟨A2,n2,c2,ys,rfl,o2,D2,c0,s2,hb2⟩
 have hS2:=(hb2.block (w.heap.size+1) (by omega)).trans hS
 have hS2a:=heap_setCell_same w2 (w.heap.size+1) 0 _ _ (.slice A2 n2 c2) hS2
 have hS3:=heap_setCell_same _ (w.heap.size+1) 3 _ _ (.int .i64 (qep xs nm z a).2) hS2a
 have hO3:Oth 121 w2 (qr0 ((w2.setCell ⟨w.heap.size+1,0,none⟩ (.slice A2 n2 c2)).setCell ⟨w.heap.size+1,3,none⟩ (.int .i64 (qep xs nm z a).2)) (w.heap.size+1) (.slice A2 n2 c2) (.slice none 0 0) (.slice none 0 0) (.int .i64 (qep xs nm z a).2)):=Oth.put hS2 fun g hg=>(qi5 _ _ _ _ g hg).trans ((Below.heap_setCell _ ⟨w.heap.size+1,3,none⟩ _ g hg).trans (Below.heap_setCell _ ⟨w.heap.size+1,0,none⟩ _ g hg))
 have hB3:=qci ((((hb1.trans (hb2.mono (by omega))).setCell (p:=⟨w.heap.size+1,0,none⟩) (Nat.le_succ _) (.slice A2 n2 c2))).setCell (p:=⟨w.heap.size+1,3,none⟩) (Nat.le_succ _) (.int .i64 (qep xs nm z a).2)) (show w.heap.size≤w.heap.size+1 by omega) (.slice A2 n2 c2) (.slice none 0 0) (.slice none 0 0) (.int .i64 (qep xs nm z a).2)
 have f2:∀o,w2.frozen? ⟨w.heap.size+1,o,none⟩=false:=fun o=>by simp[World.frozen?,hS2]
 have f2a:∀o,(w2.setCell ⟨w.heap.size+1,0,none⟩ (.slice A2 n2 c2)).frozen? ⟨w.heap.size+1,o,none⟩=false:=fun o=>frozen_of_row _ _ o _ _ hS2a
 have e0:=zjc (w.heap.size+1) 0 hS2
 have e3:=zjc (w.heap.size+1) 3 hS2a
 have HO:=hid hO3
 have HB:=hid hB3
 have HS3:=hid hS3
 clear hS3 hO3 hB3
 go_upto_region 2 with fail
 generalize (w2.setCell ⟨w.heap.size+1,0,none⟩ (.slice A2 n2 c2)).setCell ⟨w.heap.size+1,3,none⟩ (.int .i64 (qep xs nm z a).2)=w3 at *
 clear e0 e3 f2 f2a hS2a
 have hl0:=qur HS3.out
 have f3:∀o,w3.frozen? ⟨w.heap.size+1,o,none⟩=false:=fun o=>frozen_of_row _ _ o _ _ HS3.out
 have hl:=qre HS3.out (.slice A2 n2 c2) (.slice none 0 0) (.slice none 0 0) (.int .i64 (qep xs nm z a).2)
 have e0:=zjc (w.heap.size+1) 0 HS3.out
 have e1:=zjc (w.heap.size+1) 1 HS3.out
 have e2:=zjc (w.heap.size+1) 2 HS3.out
 have e3:=zjc (w.heap.size+1) 3 HS3.out
 have HP:=hid (show qit (qep xs nm z a).1 [] [] (qep xs nm z a).2 w (.returned (.agg #[.slice A2 n2 c2,.slice none 0 0,.slice none 0 0,.int .i64 (qep xs nm z a).2])) _ from ⟨A2,n2,c2,none,0,0,none,0,0,rfl,⟨A2,n2,c2,ys,rfl,(o2.oth HO.out (by decide)).more (by omega),fun y hy=>(qab (D2 y hy) HO.out (by decide)).more (by omega),c0,s2,HB.out⟩,JS.Own.nil _ _,JB.Own.nil _ _,HB.out⟩)
 clear HO HB hC hS hS2 hM hE hs1 hb1 hb2 o2 D2 c0 s2 HS3
 clear zzd
 go_wp2_with fail
 exact bodyPost_ret (v:=.agg #[.slice A2 n2 c2,.slice none 0 0,.slice none 0 0,.int .i64 (qep xs nm z a).2]) (by simp[results,Tryz.results80,asAddr,hl]) rfl HP.out
theorem peff_x (K:Nat)(A:Option Addr)(n c:Nat)(xs:List Mem)(q:Cmd)(w:World)(h:qmv w K A n c xs)(hq:qfu w K q):
 Calls Tryz.prog 81 #[.slice A n c,q.val] w (qit [] [] (qkm xs q.nm) (qgd xs q.nm) w):=by
 have hK:=h.hK
 obtain⟨op,⟨m0,m1,m2,m3,m4,m5,m6,m7,m8⟩,nm,z,a⟩:=q
 obtain⟨w1,e1,hb1,hC,hS,hs1⟩:=qcr w (.cells #[.int .u8 (op.toNat:Int),.string m0,.int .i64 m1,.int .i64 m2,.int .i64 m3,.int .i64 m4,.slice m5 m6 m7,.string nm,.int .i64 z,.string a] 56) (.cells #[.slice none 0 0,.slice none 0 0,.slice none 0 0,.int .i64 0] 121)
 simp only[Cmd.val,Cmd.cells]
 go_enter Tryz.func81,Tryz.ntmps81
 go_upto_region 1 with fail
 rw[←e1]
 clear e1
 have hM:=hid (h.on hb1)
 have hE:Hid (qya w1 K ⟨m0,m1,m2,m3,m4,m5,m6,m7,m8⟩):=hid ⟨hq.ok,hq.rd.below (hb1.mono hK),Nat.le_trans hK hb1.size,hq.cap⟩
 clear h hq
 have d7:=zjc w.heap.size 7 hC
 go_wp2_with fail
 refine (qjw K A n c xs nm w1 hM.out).mono ?_
 rintro e w2 ⟨A2,n2,c2,rfl,o2,hb2⟩
 have hS2:=(hb2.block (w.heap.size+1) (by omega)).trans hS
 have hS2a:=heap_setCell_same w2 (w.heap.size+1) 2 _ _ (.slice A2 n2 c2) hS2
 have hS3:=heap_setCell_same _ (w.heap.size+1) 3 _ _ (.int .i64 (qgd xs nm)) hS2a
 have hO3:Oth 121 w2 (qr0 ((w2.setCell ⟨w.heap.size+1,2,none⟩ (.slice A2 n2 c2)).setCell ⟨w.heap.size+1,3,none⟩ (.int .i64 (qgd xs nm))) (w.heap.size+1) (.slice none 0 0) (.slice none 0 0) (.slice A2 n2 c2) (.int .i64 (qgd xs nm))):=Oth.put hS2 fun g hg=>(qi5 _ _ _ _ g hg).trans ((Below.heap_setCell _ ⟨w.heap.size+1,3,none⟩ _ g hg).trans (Below.heap_setCell _ ⟨w.heap.size+1,2,none⟩ _ g hg))
 have hB3:=qci ((((hb1.trans (hb2.mono (by omega))).setCell (p:=⟨w.heap.size+1,2,none⟩) (Nat.le_succ _) (.slice A2 n2 c2))).setCell (p:=⟨w.heap.size+1,3,none⟩) (Nat.le_succ _) (.int .i64 (qgd xs nm))) (show w.heap.size≤w.heap.size+1 by omega) (.slice none 0 0) (.slice none 0 0) (.slice A2 n2 c2) (.int .i64 (qgd xs nm))
 have f2:∀o,w2.frozen? ⟨w.heap.size+1,o,none⟩=false:=fun o=>by simp[World.frozen?,hS2]
 have f2a:∀o,(w2.setCell ⟨w.heap.size+1,2,none⟩ (.slice A2 n2 c2)).frozen? ⟨w.heap.size+1,o,none⟩=false:=fun o=>frozen_of_row _ _ o _ _ hS2a
 have e2:=zjc (w.heap.size+1) 2 hS2
 have e3:=zjc (w.heap.size+1) 3 hS2a
 have HO:=hid hO3
 have HB:=hid hB3
 have HS3:=hid hS3
 clear hS3 hO3 hB3
 go_upto_region 2 with fail
 generalize (w2.setCell ⟨w.heap.size+1,2,none⟩ (.slice A2 n2 c2)).setCell ⟨w.heap.size+1,3,none⟩ (.int .i64 (qgd xs nm))=w3 at *
 clear e2 e3 f2 f2a hS2a
 have hl0:=qur HS3.out
 have f3:∀o,w3.frozen? ⟨w.heap.size+1,o,none⟩=false:=fun o=>frozen_of_row _ _ o _ _ HS3.out
 have hl:=qre HS3.out (.slice none 0 0) (.slice none 0 0) (.slice A2 n2 c2) (.int .i64 (qgd xs nm))
 have e0:=zjc (w.heap.size+1) 0 HS3.out
 have e1:=zjc (w.heap.size+1) 1 HS3.out
 have e2:=zjc (w.heap.size+1) 2 HS3.out
 have e3:=zjc (w.heap.size+1) 3 HS3.out
 have HP:=hid (show qit [] [] (qkm xs nm) (qgd xs nm) w (.returned (.agg #[.slice none 0 0,.slice none 0 0,.slice A2 n2 c2,.int .i64 (qgd xs nm)])) _ from ⟨none,0,0,none,0,0,A2,n2,c2,rfl,qp7 HB.out,JS.Own.nil _ _,(qab o2 HO.out (by decide)).more (by omega),HB.out⟩)
 clear HO HB hC hS hS2 hM hE hs1 hb1 hb2 o2 HS3
 clear d7
 go_wp2_with fail
 exact bodyPost_ret (v:=.agg #[.slice none 0 0,.slice none 0 0,.slice A2 n2 c2,.int .i64 (qgd xs nm)]) (by simp[results,Tryz.results81,asAddr,hl]) rfl HP.out
theorem peff_t (K:Nat)(A:Option Addr)(n c:Nat)(xs:List Mem)(q:Cmd)(w:World)(h:qmv w K A n c xs)(hq:qfu w K q):
 Calls Tryz.prog 82 #[.slice A n c,q.val] w (qit [] (qbg xs) [] 0 w):=by
 have hK:=h.hK
 obtain⟨op,⟨m0,m1,m2,m3,m4,m5,m6,m7,m8⟩,nm,z,a⟩:=q
 obtain⟨w1,e1,hb1,hC,hS,hs1⟩:=qcr w (.cells #[.int .u8 (op.toNat:Int),.string m0,.int .i64 m1,.int .i64 m2,.int .i64 m3,.int .i64 m4,.slice m5 m6 m7,.string nm,.int .i64 z,.string a] 56) (.cells #[.slice none 0 0,.slice none 0 0,.slice none 0 0,.int .i64 0] 121)
 simp only[Cmd.val,Cmd.cells]
 go_enter Tryz.func82,Tryz.ntmps82
 go_upto_region 1 with fail
 rw[←e1]
 clear e1
 have hM:=hid (h.on hb1)
 have hE:Hid (qya w1 K ⟨m0,m1,m2,m3,m4,m5,m6,m7,m8⟩):=hid ⟨hq.ok,hq.rd.below (hb1.mono hK),Nat.le_trans hK hb1.size,hq.cap⟩
 clear h hq
 go_wp2_with fail
 refine (qse K A n c xs w1 hM.out.rd hM.out.hK (by have:=hM.out.n100;omega)).mono ?_
 rintro e w2 ⟨A2,n2,c2,rfl,o2,hb2⟩
 have hS2:=(hb2.block (w.heap.size+1) (by omega)).trans hS
 have HO:=hid (show Oth 121 w2 (qr0 w2 (w.heap.size+1) (.slice none 0 0) (.slice A2 n2 c2) (.slice none 0 0) (.int .i64 0)) from Oth.put hS2 fun g hg=>qi5 _ _ _ _ g hg)
 have HB:=hid (qci (hb1.trans (hb2.mono (by omega))) (show w.heap.size≤w.heap.size+1 by omega) (.slice none 0 0) (.slice A2 n2 c2) (.slice none 0 0) (.int .i64 0))
 have f2:∀o,w2.frozen? ⟨w.heap.size+1,o,none⟩=false:=fun o=>by simp[World.frozen?,hS2]
 have hl:=qre hS2 (.slice none 0 0) (.slice A2 n2 c2) (.slice none 0 0) (.int .i64 0)
 have e0:=zjc (w.heap.size+1) 0 hS2
 have e1:=zjc (w.heap.size+1) 1 hS2
 have e2:=zjc (w.heap.size+1) 2 hS2
 have e3:=zjc (w.heap.size+1) 3 hS2
 have HP:=hid (show qit [] (qbg xs) [] 0 w (.returned (.agg #[.slice none 0 0,.slice A2 n2 c2,.slice none 0 0,.int .i64 0])) _ from ⟨none,0,0,A2,n2,c2,none,0,0,rfl,qp7 HB.out,(qbj o2 HO.out (by decide)).more (by omega),JB.Own.nil _ _,HB.out⟩)
 clear HO HB hC hS hS2 hM hE hs1 hb1 hb2 o2
 go_wp2_with fail
 exact bodyPost_ret (v:=.agg #[.slice none 0 0,.slice A2 n2 c2,.slice none 0 0,.int .i64 0]) (by simp[results,Tryz.results82,asAddr,hl]) rfl HP.out
end JL
namespace JL
open JB
open JN (qcj)
open JR (Mem Pm St ar Arc qhb qdc qa7)
open JW (core MOk)
open JE (qb7)
theorem qgz (A:Option Addr)(n c:Nat)(l:List UInt8)(w:World)(hG:qcj w)(hr:JB.Rd w w.heap.size A n l)(hnc:n≤c)(_hcm:c≤maxLen)(hn:n<100000):
 Calls Tryz.prog 19 #[.slice A n c] w (qb7 (qaa l).1 (qaa l).2 w):=by
 have Hl:=hid hr.1
 have HP:=hid (JR.qe7 A n c l w hG.gnd hr hnc hn)
 clear hr hG
 go_enter Tryz.func19,Tryz.ntmps19
 by_cases h0:n=0
 ·have hl:l=[]:=List.eq_nil_of_length_eq_zero (by rw[Hl.out];exact h0)
  subst h0
  have e:qaa l=([],0):=by rw[hl];rfl
  have hC:qb7 (qaa l).1 (qaa l).2 w (.returned (.tuple #[.slice none 0 0,.int .i64 0])) w:=by
   rw[e]
   exact⟨none,0,0,[],rfl,JC.Own.nil _ _ _ _,fun x hx=>by simp at hx,rfl,fun x hx=>by simp at hx,Below.refl _ _⟩
  clear HP e hl
  go_wp2_with fail
  go_ret2
  exact hC
 ·have hl:l≠[]:=fun e=>h0 (by rw[←Hl.out,e];rfl)
  have hni:((n:Int)==0)=false:=by simpa using h0
  clear h0
  go_wp2_with fail
  refine HP.out.mono ?_
  rintro e w1 ⟨x,rfl,hx,ho,hb⟩
  have hb2:=zjB w1 (.cells #[.bool x.hasMap,.slice x.mp x.mn x.mc,.slice x.ap x.an x.ac,.slice x.op x.on x.oc] 75)
  have hC:=Qay hl hx (ho.below hb2) (fun y hy=>by
   have h1:=(ho.reads.2.1.2)
   obtain⟨k,hk,rfl⟩:=List.getElem_of_mem hy
   exact (h1 k hk).2.2) (hb.trans (hb2.mono hb.size))
  have HC:=hid hC
  have HB:=hid (hb.trans (hb2.mono hb.size))
  obtain⟨xh,mp,mn,mc,xm,ap,an,ac,xms,op,on,oc,xos⟩:=x
  simp only[JR.Arc.val]
  simp only at HC HB
  clear hx ho hb hC hb2
  clear HB
  go_wp2_with fail
  go_ret2
  exact HC.out
end JL
namespace JL
open JB
open JS (Oth qfe)
open JN (qcj)
open JR (Mem RdM qdc qa7)
open JW (core MOk qbq lens qab qbj)
open Go.Proofs.YtlmolmohhpdhdaaGreatDoor.Six (Few qg7)
open JE (ClP qbu qb7 qf5 qhk qex qep qbg qkm qgd qmv)
section
variable {P : Program} {ops : Array Oper} {Q : Exit → Act → World → Prop} {md : Region.Mode} {S S' : World → Prop} {z : Nat}
theorem qaf.weak (h:∀v,S' v→S v):∀(k:Nat)(li:Array Bool)(a:Act)(w:World),Ord.qaf P md ops Q S' z k li a w→Ord.qaf P md ops Q S z k li a w
 |0,_,_,_,q=>q
 |k+1,_,_,_,q=>⟨q.1,fun j hj=>wpOp_mono (fun b v r=>⟨fun e=>h _ (r.1 e),qaf.weak h k _ b v r.2⟩) (q.2 j hj)⟩
theorem qaf.step2 (i j:Nat){oi oj:Oper}{k:Nat}{li:Array Bool}{a:Act}{w:World}(hr:Region.ready md ops li=[i,j])(hi:ops[i]?=some oi)(hj:ops[j]?=some oj)
 (h:∀C:Act→World→Prop,Shut (∀b v,(i≠z→S v)→Ord.qaf P md ops Q S z k (li.setIfInBounds i true) b v→C b v)→if Region.wanted oi (yielded ops a.tmps)=true then Oper.wp P oi a w C Q else C (a.put oi.dst undef) w)
 (h':∀C:Act→World→Prop,Shut (∀b v,(j≠z→S v)→Ord.qaf P md ops Q S z k (li.setIfInBounds j true) b v→C b v)→if Region.wanted oj (yielded ops a.tmps)=true then Oper.wp P oj a w C Q else C (a.put oj.dst undef) w):
 Ord.qaf P md ops Q S z (k+1) li a w:=by
 refine⟨fun h0=>(by rw[hr] at h0;cases h0),fun m hm=>?_⟩
 rw[hr] at hm
 rcases List.mem_cons.1 hm with rfl|hm
 ·exact wpOp_step hi (fun C hC=>h C (fun b v h1 h2=>hC b v ⟨h1,h2⟩))
 ·rw[List.mem_singleton] at hm
  subst hm
  exact wpOp_step hj (fun C hC=>h' C (fun b v h1 h2=>hC b v ⟨h1,h2⟩))
end
theorem qn1:Tryz.prog.underlying 118=some (.map 5 116):=by kernel_rfl
theorem zeroO (w:World):(zeroValue 116).run Tryz.prog w=.ok (.agg #[.bool false,.nilFunc]) w:=by kernel_rfl
theorem qn2 {W:World}{B:Nat}{a b c:Value}(h:W.heap[B]?=some (.cells #[a,b,c] 61 (0,0)))(v0 v1 v2:Value):
 (loadVar 61 ⟨B,0,none⟩).run Tryz.prog (((W.setCell ⟨B,0,none⟩ v0).setCell ⟨B,1,none⟩ v1).setCell ⟨B,2,none⟩ v2)=.ok (.agg #[v0,v1,v2]) (((W.setCell ⟨B,0,none⟩ v0).setCell ⟨B,1,none⟩ v1).setCell ⟨B,2,none⟩ v2):=
 run_loadVar_row _ B 61 61 #[v0,v1,v2] (0,0) _ (set3_row h v0 v1 v2) Tryz.underlying61 rfl (by kernel_rfl)
def IfZ (z:Int)(p:Prop):Prop:=z=0→p
def ExeP (l:List UInt8)(q:Cmd)(w:World)(e:Ending)(w':World):Prop:=
 ∃(A:Option Addr)(n c:Nat)(B:Option Addr)(k d:Nat)(D:Option Addr)(j f:Nat),e=.returned (.tuple #[.agg #[.slice A n c,.slice B k d,.slice D j f],.int .i64 (qbp l q).2.2.2])∧
  IfZ (qbp l q).2.2.2 (JB.Own w' w.heap.size (.slice A n c) n (qbp l q).1∧JS.Own w' w.heap.size (.slice B k d) k (qbp l q).2.1∧JB.Own w' w.heap.size (.slice D j f) j (qbp l q).2.2.1∧qfe (.slice D j f) (.slice A n c))∧Below w.heap.size w w'
theorem ExeP.set {l:List UInt8}{q:Cmd}{w W:World}{B:Nat}{x y u:Value}{A:Option Addr}{n c:Nat}{E:Option Addr}{k d:Nat}{D:Option Addr}{j f:Nat}{l1:List UInt8}{l2:List ByteArray}{l3:List UInt8}{z:Int}
 (e:qbp l q=(l1,l2,l3,z))(hB:W.heap[B]?=some (.cells #[x,y,u] 61 (0,0)))(hle:w.heap.size≤B)(hb:Below w.heap.size w W)
 (h:IfZ z (JB.Own W w.heap.size (.slice A n c) n l1∧JS.Own W w.heap.size (.slice E k d) k l2∧JB.Own W w.heap.size (.slice D j f) j l3∧qfe (.slice D j f) (.slice A n c))):
 ExeP l q w (.returned (.tuple #[.agg #[.slice A n c,.slice E k d,.slice D j f],.int .i64 z])) (((W.setCell ⟨B,0,none⟩ (.slice A n c)).setCell ⟨B,1,none⟩ (.slice E k d)).setCell ⟨B,2,none⟩ (.slice D j f)):=by
 have ho:Oth 61 W (Qaz W B (.slice A n c) (.slice E k d) (.slice D j f)):=Oth.put hB fun g hg=>qmz _ _ _ g hg
 exact⟨A,n,c,E,k,d,D,j,f,by rw[e],by rw[e];exact fun h0=>⟨qab (h h0).1 ho (by decide),qbj (h h0).2.1 ho (by decide),qab (h h0).2.2.1 ho (by decide),(h h0).2.2.2⟩,qje hb hle _ _ _⟩
def stX (ch:Bool)(xs:List Mem)(q:Cmd):List Mem:=if ch then (edC xs q).1 else []
def stN (xs:List Mem)(q:Cmd):List ByteArray:=if q.op=116 then qbg xs else []
def stD (xs:List Mem)(q:Cmd):List UInt8:=if q.op=120 then qkm xs q.nm else []
def stZ (ch:Bool)(xs:List Mem)(q:Cmd):Int:=if ch then (edC xs q).2 else if q.op=120 then qgd xs q.nm else 0
theorem qw2 {xs:List Mem}{s:ByteArray}(h:qgd xs s≠0):qkm xs s=[]:=by
 unfold qgd at h
 unfold qkm
 cases e:JE.qas xs s with
 |none=>rfl
 |some i=>rw[e] at h;exact absurd rfl h
theorem st_cong {xs ys:List Mem}(h:xs.map core=ys.map core)(ch:Bool)(q:Cmd):(stX ch xs q).map core=(stX ch ys q).map core∧stN xs q=stN ys q∧stD xs q=stD ys q∧stZ ch xs q=stZ ch ys q:=by
 obtain⟨a1,a2⟩:=edC_cong h q
 obtain⟨b1,b2,b3⟩:=qvz h q.nm
 refine⟨?_,by unfold stN;rw[b3],by unfold stD;rw[b1],by unfold stZ;rw[a2,b2]⟩
 unfold stX
 cases ch
 ·rfl
 ·exact a1
theorem runS_stE {l:List UInt8}{q:Cmd}{ch:Bool}(hm:(qaa l).2=0)(hc:ch=true→qsq q.op)(hn:ch=false→q.op=116∨q.op=120)(h:stZ ch (qaa l).1 q≠0):qbp l q=(l,[],[],stZ ch (qaa l).1 q):=by
 cases ch
 ·rcases hn rfl with e|e
  ·exact absurd (by simp[stZ,e]) h
  ·have e1:stZ false (qaa l).1 q=qgd (qaa l).1 q.nm:=by simp[stZ,e]
   rw[e1] at h ⊢
   rw[qsp hm e,qw2 h]
 ·exact qqf hm (hc rfl) h
theorem runS_stL {l:List UInt8}{q:Cmd}(hm:(qaa l).2=0)(hn:q.op=116∨q.op=120)(h:stZ false (qaa l).1 q=0):qbp l q=(l,stN (qaa l).1 q,stD (qaa l).1 q,0):=by
 rcases hn with e|e
 ·rw[qsn hm e]
  simp[stN,stD,e]
 ·have e1:qgd (qaa l).1 q.nm=0:=by simpa [stZ,e] using h
  rw[qsp hm e,e1]
  simp[stN,stD,e]
theorem runS_stC {l:List UInt8}{q:Cmd}(hm:(qaa l).2=0)(hc:qsq q.op)(h:stZ true (qaa l).1 q=0):qbp l q=(if (qbq 0 (edC (qaa l).1 q).1).2=0 then qg7 (edC (qaa l).1 q).1 else l,[],[],(qbq 0 (edC (qaa l).1 q).1).2):=by
 by_cases hf:(qbq 0 (edC (qaa l).1 q).1).2=0
 ·rw[if_pos hf,hf]
  exact qu9 hm hc h hf
 ·rw[if_neg hf]
  exact qvv hm hc h hf
theorem apart_of {w w':World}{K n n':Nat}{v u:Value}{l l':List UInt8}(h:JB.Own w K v n l)(h':JB.Own w' w.heap.size u n' l'):qfe v u:=fun k hk hv=>by
 rcases h.2 with ⟨rfl,rfl⟩|⟨g,cap,cur,m,rfl,hg,hh,r⟩
 ·cases hk
 ·rcases h'.2 with ⟨rfl,rfl⟩|⟨g',cap',cur',m',rfl,hg',r'⟩
  ·cases hv
  ·have h1:g=k:=by simpa [JS.blk] using hk
   have h2:g'=k:=by simpa [JS.blk] using hv
   have h3:=(Array.getElem?_eq_some_iff.1 hh).1
   omega
theorem qxt {xs:List Mem}{z:Int}{w w':World}{A:Option Addr}{n c:Nat}(h:qb7 xs z w (.returned (.tuple #[.slice A n c,.int .i64 z])) w')(hok:∀x∈xs,MOk x)(hn:xs.length≤300):∃ys,qmv w' w'.heap.size A n c ys∧ys.map core=xs.map core:=by
 obtain⟨_,_,_,ys,e,h1,h2,_⟩:=h.arg hok hn
 simp at e
 obtain⟨rfl,rfl,rfl⟩:=e
 exact⟨ys,h1,h2⟩
theorem qct {f : FuncId} {fn : Func} {c : Code} (hf : Tryz.prog.funcs[f]? = some fn) (hname : (fn.name == "runtime.NumGoroutine") = false) (hb : fn.body = some c) (args : Array Value) (w : World) : (callFunc f args).run Tryz.prog w = .ok (.enter f args) w := by
 have h1 : fn.name ≠ "runtime.NumGoroutine" := by simpa using hname
 simp[callFunc,hf,h1,hb]
def EffOk (q:Cmd)(ch:Bool)(F:FuncId):Prop:=∀(K:Nat)(A:Option Addr)(n c:Nat)(xs:List Mem)(w:World),qmv w K A n c xs→qfu w K q→Calls Tryz.prog F #[.slice A n c,q.val] w (qit (stX ch xs q) (stN xs q) (stD xs q) (stZ ch xs q) w)
structure OpRow (q:Cmd) (ch kn:Bool) (v:Value):Prop where
 look:∀(b:Nat)(W:World),W.heap[b]?=some (.map qyb 6)→(Instr.lookup 118 (.map (some b)) (.int .u8 (q.op.toNat:Int)) true).run Tryz.prog W=.ok (.tuple #[.agg #[.bool ch,v],.bool kn]) W
 one:v.oneCell'=true
 no:kn=false→¬qmy q.op
 yes:kn=true→qmy q.op∧(ch=true→qsq q.op)∧(ch=false→q.op=116∨q.op=120)∧∃F,v=fnV F∧(∀(args:Array Value)(w:World),(callFunc F args).run Tryz.prog w=.ok (.enter F args) w)∧EffOk q ch F
theorem Qb1 (q:Cmd):∃ch kn v,OpRow q ch kn v:=by
 by_cases h:qmy q.op
 ·obtain⟨op,m,nm,z,a⟩:=q
  rcases h with h|h|h|h|h|h<;>simp only at h<;>subst h
  ·exact⟨true,true,fnV 77,fun b W hb=>qg8 qn1 Tryz.underlying5 hb (qxs _ _) rfl,rfl,fun e=>(by cases e),fun _=>⟨by change qmy 114;decide,fun e=>(by first|(change qsq 114;decide)|cases e),fun e=>(by first|(change (114:UInt8)=116∨(114:UInt8)=120;decide)|cases e),_,rfl,qct Tryz.func77 (by kernel_rfl) rfl,fun K A n c xs w h hq=>peff_r K A n c xs _ w h hq⟩⟩
  ·exact⟨true,true,fnV 78,fun b W hb=>qg8 qn1 Tryz.underlying5 hb (qxs _ _) rfl,rfl,fun e=>(by cases e),fun _=>⟨by change qmy 113;decide,fun e=>(by first|(change qsq 113;decide)|cases e),fun e=>(by first|(change (113:UInt8)=116∨(113:UInt8)=120;decide)|cases e),_,rfl,qct Tryz.func78 (by kernel_rfl) rfl,fun K A n c xs w h hq=>by obtain rfl:=h.rd.1;exact peff_q K A _ c xs _ w h hq⟩⟩
  ·exact⟨true,true,fnV 79,fun b W hb=>qg8 qn1 Tryz.underlying5 hb (qxs _ _) rfl,rfl,fun e=>(by cases e),fun _=>⟨by change qmy 100;decide,fun e=>(by first|(change qsq 100;decide)|cases e),fun e=>(by first|(change (100:UInt8)=116∨(100:UInt8)=120;decide)|cases e),_,rfl,qct Tryz.func79 (by kernel_rfl) rfl,fun K A n c xs w h hq=>peff_d K A n c xs _ w h hq⟩⟩
  ·exact⟨true,true,fnV 80,fun b W hb=>qg8 qn1 Tryz.underlying5 hb (qxs _ _) rfl,rfl,fun e=>(by cases e),fun _=>⟨by change qmy 109;decide,fun e=>(by first|(change qsq 109;decide)|cases e),fun e=>(by first|(change (109:UInt8)=116∨(109:UInt8)=120;decide)|cases e),_,rfl,qct Tryz.func80 (by kernel_rfl) rfl,fun K A n c xs w h hq=>peff_m K A n c xs _ w h hq⟩⟩
  ·exact⟨false,true,fnV 81,fun b W hb=>qg8 qn1 Tryz.underlying5 hb (qxs _ _) rfl,rfl,fun e=>(by cases e),fun _=>⟨by change qmy 120;decide,fun e=>(by first|(change qsq 120;decide)|cases e),fun e=>(by first|(change (120:UInt8)=116∨(120:UInt8)=120;decide)|cases e),_,rfl,qct Tryz.func81 (by kernel_rfl) rfl,fun K A n c xs w h hq=>peff_x K A n c xs _ w h hq⟩⟩
  ·exact⟨false,true,fnV 82,fun b W hb=>qg8 qn1 Tryz.underlying5 hb (qxs _ _) rfl,rfl,fun e=>(by cases e),fun _=>⟨by change qmy 116;decide,fun e=>(by first|(change qsq 116;decide)|cases e),fun e=>(by first|(change (116:UInt8)=116∨(116:UInt8)=120;decide)|cases e),_,rfl,qct Tryz.func82 (by kernel_rfl) rfl,fun K A n c xs w h hq=>peff_t K A n c xs _ w h hq⟩⟩
 ·refine⟨false,false,.nilFunc,fun b W hb=>qw1 qn1 Tryz.underlying5 hb (qxs _ _) (zeroO W) ?_,rfl,fun _=>h,fun e=>(by cases e)⟩
  simp only[qmy,not_or] at h
  have b114:((q.op.toNat:Int)==114)=false:=(qqg (op:=q.op) (k:=114) (by omega)).trans (decide_eq_false h.1)
  have b113:((q.op.toNat:Int)==113)=false:=(qqg (op:=q.op) (k:=113) (by omega)).trans (decide_eq_false h.2.1)
  have b100:((q.op.toNat:Int)==100)=false:=(qqg (op:=q.op) (k:=100) (by omega)).trans (decide_eq_false h.2.2.1)
  have b109:((q.op.toNat:Int)==109)=false:=(qqg (op:=q.op) (k:=109) (by omega)).trans (decide_eq_false h.2.2.2.1)
  have b120:((q.op.toNat:Int)==120)=false:=(qqg (op:=q.op) (k:=120) (by omega)).trans (decide_eq_false h.2.2.2.2.1)
  have b116:((q.op.toNat:Int)==116)=false:=(qqg (op:=q.op) (k:=116) (by omega)).trans (decide_eq_false h.2.2.2.2.2)
  simp[qyb,Instr.findNow,Instr.sameNow,b114,b113,b100,b109,b120,b116]
theorem Qb2 (A:Option Addr)(n c:Nat)(l:List UInt8)(q:Cmd)(ch kn:Bool)(fv:Value)(w:World)(hG:qcj w)(hr:JB.Rd w w.heap.size A n l)(hnc:n≤c)(hcm:c≤maxLen)(hB:BOk l)(hq:qfu w w.heap.size q)(ho:OpRow q ch kn fv):
 Calls Tryz.prog 34 #[.slice A n c,q.val] w (ExeP l q w):=by
 have hn:n≤99000:=by rw[←hr.1];exact hB.len
 have HBl:=hid hB
 have HQ:=hid hq
 have Hnc:=hid hnc
 have Hcm:=hid hcm
 have HGd:=hid hG
 have HO:=hid ho
 clear hq hnc hcm hG ho
 obtain⟨op,⟨m0,m1,m2,m3,m4,m5,m6,m7,m8⟩,nm,z,a⟩:=q
 obtain⟨w1,e1,hb1,hC1,hR1,hs1⟩:=qcr w (.cells #[.int .u8 (op.toNat:Int),.string m0,.int .i64 m1,.int .i64 m2,.int .i64 m3,.int .i64 m4,.slice m5 m6 m7,.string nm,.int .i64 z,.string a] 56) (.cells #[.slice none 0 0,.slice none 0 0,.slice none 0 0] 61)
 simp only[Cmd.val,Cmd.cells]
 go_enter Tryz.func34,Tryz.ntmps34
 go_upto_region 1 with fail
 rw[←e1]
 clear e1
 obtain⟨g,hg⟩:∃g,w.heap.size=g:=⟨_,rfl⟩
 have HG:=hid hg
 have Hr:=hid hr
 clear hr hB
 rw[hg] at hb1 hC1 hR1 hs1 ⊢
 have HB1:=hid hb1
 have HC1:=hid hC1
 have HR1:=hid hR1
 have hg1:g+1<w1.heap.size:=by omega
 clear hb1 hC1 hR1 hs1 hg
 have HL:=hid fun (b:Nat) (W:World) (h:W.heap[b]?=some (.map qyb 6))=>HO.out.look b W h
 dsimp only at HL
 go_cut [6,7] from 12 (fun s6 s7 W=>∃u,s6=.pointer (some ⟨u,0,none⟩)∧s7=.bool kn∧W.heap[u]?=some (.cells #[.bool ch,fv] 116 (0,0))∧w1.heap.size≤u∧Below w1.heap.size w1 W)
 case first=>
  have hbd:Below w1.heap.size w1 w1.drew:=(Below.refl _ _).drew
  have hS:(fun W=>W.cell? ⟨g,0,none⟩=some (.int .u8 (op.toNat:Int))) w1.drew:=(hbd.cell (p:=⟨g,0,none⟩) (show g<w1.heap.size by omega)).trans (cell_of_row _ g 0 _ _ _ HC1.out)
  have HBd:=hid hbd
  refine Ord.qaf.begin (fun W=>W.cell? ⟨g,0,none⟩=some (.int .u8 (op.toNat:Int))) 9 (by kernel_rfl) ?_
  generalize w1.drew=wd at *
  clear hbd
  refine zjT 1 14 rfl rfl (by kernel_rfl) (x:=?_) (fun _ _ _ h=>h) ?_ hS ?_
  rotate_left 1
  ·intro v hv;go_simp;first|done|rfl
  try simp only[zjA]
  refine zjT 2 15 rfl rfl (by kernel_rfl) (x:=.int .u8 (op.toNat:Int)) (fun _ _ _ h=>h) ?_ hS ?_
  ·intro v hv;go_simp;first|done|rfl
  try simp only[zjA]
  refine qaf.step2 0 7 (by kernel_rfl) rfl rfl (fun C hC=>?_) (fun C hC=>?_)
  ·go_simp
   go_at_call 54
   refine (qgy wd).mono ?_
   rintro e w4 ⟨b,rfl,hM,b4⟩
   have hd:=HBd.out.size
   have b34:=HBd.out.trans (b4.mono hd)
   have hS:(fun W=>W.cell? ⟨g,0,none⟩=some (.int .u8 (op.toNat:Int))) w4:=(b34.cell (p:=⟨g,0,none⟩) (show g<w1.heap.size by omega)).trans (cell_of_row _ g 0 _ _ _ HC1.out)
   go_wp2_with fail
   refine hC.out _ _ (fun _=>hS) ?_
   clear hC C
   try simp only[zjA]
   refine qaf.weak (S':=fun W=>W.cell? ⟨g,0,none⟩=some (.int .u8 (op.toNat:Int))∧W.heap[b]?=some (.map qyb 6)) (fun _ h=>h.1) _ _ _ _ ?_
   have hS:(fun W=>W.cell? ⟨g,0,none⟩=some (.int .u8 (op.toNat:Int))∧W.heap[b]?=some (.map qyb 6)) w4:=⟨hS,hM⟩
   refine zjT 3 16 rfl rfl (by kernel_rfl) (x:=.tuple #[.agg #[.bool ch,fv],.bool kn]) (fun _ _ _ h=>h) ?_ hS ?_
   ·intro v hv;have hl:=HL.out b v hv.2;go_simp;first|done|rfl
   try simp only[zjA]
   refine zjT 4 12 rfl rfl (by kernel_rfl) (x:=?_) (fun _ _ _ h=>h) ?_ hS ?_
   rotate_left 1
   ·intro v hv;go_simp;first|done|rfl
   try simp only[zjA]
   refine zjT 5 17 rfl rfl (by kernel_rfl) (x:=?_) (fun _ _ _ h=>h) ?_ hS ?_
   rotate_left 1
   ·intro v hv;go_simp;first|done|rfl
   try simp only[zjA]
   refine zjT 6 18 rfl rfl (by kernel_rfl) (x:=?_) (fun _ _ _ h=>h) ?_ hS ?_
   rotate_left 1
   ·intro v hv;go_simp;first|done|rfl
   try simp only[zjA]
   have hb4:=(Array.getElem?_eq_some_iff.1 hM).1
   have h4:=b34.size
   have ba:=zjB w4 (.cells #[.bool false,.nilFunc] 116)
   have ha:=heap_alloc_new w4 (.cells #[.bool false,.nilFunc] 116)
   have hz:=zeroO w4
   have hSa:(fun W=>W.cell? ⟨g,0,none⟩=some (.int .u8 (op.toNat:Int))∧W.heap[b]?=some (.map qyb 6)) (w4.alloc (.cells #[.bool false,.nilFunc] 116)):=⟨(ba.cell (p:=⟨g,0,none⟩) (show g<w4.heap.size by omega)).trans hS.1,(ba.block b hb4).trans hM⟩
   refine Ord.qaf.step 7 (by kernel_rfl) rfl (fun C hC=>?_)
   go_simp
   refine hC.out _ _ (fun _=>hSa) ?_
   clear hC C
   try simp only[zjA]
   have hS:=hSa
   have hsz:=World.size_alloc w4 (.cells #[.bool false,.nilFunc] 116)
   generalize w4.alloc (.cells #[.bool false,.nilFunc] 116)=w5 at *
   obtain⟨u,hu⟩:∃u,w4.heap.size=u:=⟨_,rfl⟩
   rw[hu] at ha hsz ba ⊢
   have hgu:g<u:=by omega
   have hbu:b≠u:=by omega
   have hle:w1.heap.size≤u:=by omega
   have hB5:=b34.trans (ba.mono hle)
   have e0:=zjc u 0 ha
   have e1:=zjc u 1 ha
   have fw:∀o,w5.frozen? ⟨u,o,none⟩=false:=fun o=>frozen_of_row _ _ o _ _ ha
   have hrow:=heap_setCell_same _ u 1 _ _ fv (heap_setCell_same w5 u 0 _ _ (.bool ch) ha)
   have hbs:Below u w5 ((w5.setCell ⟨u,0,none⟩ (.bool ch)).setCell ⟨u,1,none⟩ fv):=((Below.refl u w5).setCell (p:=⟨u,0,none⟩) zjn _).setCell (p:=⟨u,1,none⟩) zjn _
   have hSb:(fun W=>W.cell? ⟨g,0,none⟩=some (.int .u8 (op.toNat:Int))∧W.heap[b]?=some (.map qyb 6)) ((w5.setCell ⟨u,0,none⟩ (.bool ch)).setCell ⟨u,1,none⟩ fv):=⟨(hbs.cell (p:=⟨g,0,none⟩) hgu).trans hS.1,((Below.heap_setCell _ ⟨u,1,none⟩ _ b hbu).trans (Below.heap_setCell _ ⟨u,0,none⟩ _ b hbu)).trans hS.2⟩
   have hrow0:=heap_setCell_same w5 u 0 _ _ (.bool ch) ha
   have fw1:∀o,(w5.setCell ⟨u,0,none⟩ (.bool ch)).frozen? ⟨u,o,none⟩=false:=fun o=>frozen_of_row _ _ o _ _ hrow0
   have e2:=zjc u 1 hrow0
   have hst:=fun (W:World) (a:Addr) (m:Mode)=>run_store Tryz.prog W a fv m HO.out.one
   have HB6:=hid (hB5.trans (hbs.mono hle))
   have Hrow:=hid hrow
   clear hbs hrow
   refine Ord.qaf.step 8 (by kernel_rfl) rfl (fun C hC=>?_)
   go_simp
   refine hC.out _ _ (fun _=>hSb) ?_
   clear hC C
   try simp only[zjA]
   refine Ord.qaf.step 9 (by kernel_rfl) rfl (fun C hC=>?_)
   go_simp
   refine hC.out _ _ (fun _=>hSb) ?_
   clear hC C
   try simp only[zjA]
   refine Ord.qaf.done (by kernel_rfl) ?_ _
   go_wp2_with fail
   go_meet
   exact⟨u,rfl,rfl,Hrow.out,hle,HB6.out⟩
  ·have hd0:=HBd.out.size
   have ba:=zjB wd (.cells #[.bool false,.nilFunc] 116)
   have ha:=heap_alloc_new wd (.cells #[.bool false,.nilFunc] 116)
   have hz:=zeroO wd
   have hSa:(fun W=>W.cell? ⟨g,0,none⟩=some (.int .u8 (op.toNat:Int))) (wd.alloc (.cells #[.bool false,.nilFunc] 116)):=(ba.cell (p:=⟨g,0,none⟩) (show g<wd.heap.size by omega)).trans hS
   go_simp
   refine hC.out _ _ (fun _=>hSa) ?_
   clear hC C
   try simp only[zjA]
   have hS:=hSa
   have hsz:=World.size_alloc wd (.cells #[.bool false,.nilFunc] 116)
   generalize wd.alloc (.cells #[.bool false,.nilFunc] 116)=w5 at *
   obtain⟨u,hu⟩:∃u,wd.heap.size=u:=⟨_,rfl⟩
   rw[hu] at ha hsz ba ⊢
   have hgu:g<u:=by omega
   have hle:w1.heap.size≤u:=by omega
   have hb15:=HBd.out.trans (ba.mono hle)
   clear ba hz hu hd0 hSa
   refine Ord.qaf.step 0 (by kernel_rfl) rfl (fun C hC=>?_)
   go_simp
   go_at_call 54
   refine (qgy w5).mono ?_
   rintro e w6 ⟨b,rfl,hM,b4⟩
   have hd:=hb15.size
   have b34:=hb15.trans (b4.mono hd)
   have hS:(fun W=>W.cell? ⟨g,0,none⟩=some (.int .u8 (op.toNat:Int))) w6:=(b34.cell (p:=⟨g,0,none⟩) (show g<w1.heap.size by omega)).trans (cell_of_row _ g 0 _ _ _ HC1.out)
   go_wp2_with fail
   refine hC.out _ _ (fun _=>hS) ?_
   clear hC C
   try simp only[zjA]
   refine qaf.weak (S':=fun W=>W.cell? ⟨g,0,none⟩=some (.int .u8 (op.toNat:Int))∧W.heap[b]?=some (.map qyb 6)) (fun _ h=>h.1) _ _ _ _ ?_
   have hS:(fun W=>W.cell? ⟨g,0,none⟩=some (.int .u8 (op.toNat:Int))∧W.heap[b]?=some (.map qyb 6)) w6:=⟨hS,hM⟩
   replace ha:=(b4.block u (by omega)).trans ha
   have hbu:b≠u:=by rintro rfl;rw[ha] at hM;cases hM
   have hB5:=b34
   refine zjT 3 16 rfl rfl (by kernel_rfl) (x:=.tuple #[.agg #[.bool ch,fv],.bool kn]) (fun _ _ _ h=>h) ?_ hS ?_
   ·intro v hv;have hl:=HL.out b v hv.2;go_simp;first|done|rfl
   try simp only[zjA]
   refine zjT 4 12 rfl rfl (by kernel_rfl) (x:=?_) (fun _ _ _ h=>h) ?_ hS ?_
   rotate_left 1
   ·intro v hv;go_simp;first|done|rfl
   try simp only[zjA]
   refine zjT 5 17 rfl rfl (by kernel_rfl) (x:=?_) (fun _ _ _ h=>h) ?_ hS ?_
   rotate_left 1
   ·intro v hv;go_simp;first|done|rfl
   try simp only[zjA]
   refine zjT 6 18 rfl rfl (by kernel_rfl) (x:=?_) (fun _ _ _ h=>h) ?_ hS ?_
   rotate_left 1
   ·intro v hv;go_simp;first|done|rfl
   try simp only[zjA]
   have e0:=zjc u 0 ha
   have e1:=zjc u 1 ha
   have fw:∀o,w6.frozen? ⟨u,o,none⟩=false:=fun o=>frozen_of_row _ _ o _ _ ha
   have hrow:=heap_setCell_same _ u 1 _ _ fv (heap_setCell_same w6 u 0 _ _ (.bool ch) ha)
   have hbs:Below u w6 ((w6.setCell ⟨u,0,none⟩ (.bool ch)).setCell ⟨u,1,none⟩ fv):=((Below.refl u w6).setCell (p:=⟨u,0,none⟩) zjn _).setCell (p:=⟨u,1,none⟩) zjn _
   have hSb:(fun W=>W.cell? ⟨g,0,none⟩=some (.int .u8 (op.toNat:Int))∧W.heap[b]?=some (.map qyb 6)) ((w6.setCell ⟨u,0,none⟩ (.bool ch)).setCell ⟨u,1,none⟩ fv):=⟨(hbs.cell (p:=⟨g,0,none⟩) hgu).trans hS.1,((Below.heap_setCell _ ⟨u,1,none⟩ _ b hbu).trans (Below.heap_setCell _ ⟨u,0,none⟩ _ b hbu)).trans hS.2⟩
   have hrow0:=heap_setCell_same w6 u 0 _ _ (.bool ch) ha
   have fw1:∀o,(w6.setCell ⟨u,0,none⟩ (.bool ch)).frozen? ⟨u,o,none⟩=false:=fun o=>frozen_of_row _ _ o _ _ hrow0
   have e2:=zjc u 1 hrow0
   have hst:=fun (W:World) (a:Addr) (m:Mode)=>run_store Tryz.prog W a fv m HO.out.one
   have HB6:=hid (hB5.trans (hbs.mono hle))
   have Hrow:=hid hrow
   clear hbs hrow
   refine Ord.qaf.step 8 (by kernel_rfl) rfl (fun C hC=>?_)
   go_simp
   refine hC.out _ _ (fun _=>hSb) ?_
   clear hC C
   try simp only[zjA]
   refine Ord.qaf.step 9 (by kernel_rfl) rfl (fun C hC=>?_)
   go_simp
   refine hC.out _ _ (fun _=>hSb) ?_
   clear hC C
   try simp only[zjA]
   refine Ord.qaf.done (by kernel_rfl) ?_ _
   go_wp2_with fail
   go_meet
   exact⟨u,rfl,rfl,Hrow.out,hle,HB6.out⟩
 case rest=>
  obtain⟨u,rfl,rfl,hu,hle,hb⟩:=hcut
  have hcs:=hb.size
  have hul:=(Array.getElem?_eq_some_iff.1 hu).1
  have HUc:=hid hu
  have HRc:=hid ((hb.block (g+1) hg1).trans HR1.out)
  have HCc:=hid ((hb.block g (by omega)).trans HC1.out)
  have HBc:=hid (HB1.out.trans (hb.mono (show g≤w1.heap.size by omega)))
  clear hu hb HC1 HR1 HB1 HL
  cases kn
  ·have HE:=hid (Qav (q:=⟨op,⟨m0,m1,m2,m3,m4,m5,m6,m7,m8⟩,nm,z,a⟩) (l:=l) (HO.out.no rfl))
   clear HO HCc HUc HBl HQ HGd Hr
   have zzr:=fun k=>zjc (g+1) k HRc.out
   have fr:∀o,wc.frozen? ⟨g+1,o,none⟩=false:=fun o=>frozen_of_row _ _ o _ _ HRc.out
   have hl:=qn2 HRc.out (.slice none 0 0) (.slice none 0 0) (.slice none 0 0)
   have hP:=hid (ExeP.set (q:=⟨op,⟨m0,m1,m2,m3,m4,m5,m6,m7,m8⟩,nm,z,a⟩) (w:=w) (A:=none) (n:=0) (c:=0) (E:=none) (k:=0) (d:=0) (D:=none) (j:=0) (f:=0) HE.out HRc.out (by rw[HG.out];omega) (by rw[HG.out];exact HBc.out) (fun h=>absurd h (by decide)))
   go_wp2_with fail
   exact bodyPost_ret (v:=.tuple #[.agg #[.slice none 0 0,.slice none 0 0,.slice none 0 0],.int .i64 17]) (by simp[results,Tryz.results34,asAddr,hl]) rfl hP.out
  ·obtain⟨hok,hch,hnc2,F,rfl,hen,hef⟩:=HO.out.yes rfl
   have HOK:=hid hok
   have HCH:=hid hch
   have HNC:=hid hnc2
   have HEF:=hid hef
   clear hok hch hnc2 hef HO
   unfold fnV at HUc
   have HM:=hid (qgz A n c l wc (HGd.out.on (by rw[HG.out];exact HBc.out)) ((Hr.out.below (by rw[HG.out];exact HBc.out)).more (by rw[HG.out];omega)) Hnc.out Hcm.out (by omega))
   go_wp2_with fail
   refine HM.out.mono ?_
   rintro e w5 hc
   obtain⟨Am,km,cm,ms,rfl,hA,hcm,hkl,b5⟩:=hc.arg HBl.out.ok (by have:=HBl.out.n;omega)
   clear hc HM
   have HA:=hid hA
   have Hc:=hid hcm
   have h5:=b5.size
   have HR5:=hid ((b5.block (g+1) (by omega)).trans HRc.out)
   have HC5:=hid ((b5.block g (by omega)).trans HCc.out)
   have HU5:=hid ((b5.block u (by omega)).trans HUc.out)
   have HB5:=hid (HBc.out.trans (b5.mono (by omega)))
   clear HRc HCc HUc HBc
   clear hA hcm hkl b5
   obtain⟨mz,hmz⟩:∃mz,(qaa l).2=mz:=⟨_,rfl⟩
   have Hmz:=hid hmz
   rw[hmz]
   clear hmz
   by_cases hz:mz=0
   rotate_left 1
   ·have HE:Hid (qbp l ⟨op,⟨m0,m1,m2,m3,m4,m5,m6,m7,m8⟩,nm,z,a⟩=(l,[],[],mz)):=hid (by rw[qkn (q:=⟨op,⟨m0,m1,m2,m3,m4,m5,m6,m7,m8⟩,nm,z,a⟩) HOK.out (by rw[Hmz.out];exact hz),Hmz.out])
    have hzb:(mz !=0)=true:=by simpa using hz
    have Hz:=hid hz
    clear hz HC5 HU5 HA Hc HEF
    have zzr:=fun k=>zjc (g+1) k HR5.out
    have fr:∀o,w5.frozen? ⟨g+1,o,none⟩=false:=fun o=>frozen_of_row _ _ o _ _ HR5.out
    have hl:=qn2 HR5.out (.slice none 0 0) (.slice none 0 0) (.slice none 0 0)
    have hP:=hid (ExeP.set (q:=⟨op,⟨m0,m1,m2,m3,m4,m5,m6,m7,m8⟩,nm,z,a⟩) (w:=w) (A:=none) (n:=0) (c:=0) (E:=none) (k:=0) (d:=0) (D:=none) (j:=0) (f:=0) HE.out HR5.out (by rw[HG.out];omega) (by rw[HG.out];exact HB5.out) (fun h=>absurd h Hz.out))
    go_wp2_with fail
    exact bodyPost_ret (v:=.tuple #[.agg #[.slice none 0 0,.slice none 0 0,.slice none 0 0],.int .i64 mz]) (by simp[results,Tryz.results34,asAddr,hl]) rfl hP.out
   subst hz
   have HQ5:=hid ((HQ.out.on (by rw[HG.out];exact HB5.out)).more (show w.heap.size≤w5.heap.size by rw[HG.out];omega) zjn)
   have HX:Hid (Calls Tryz.prog F #[.slice Am km cm,.agg #[.int .u8 (op.toNat:Int),.string m0,.int .i64 m1,.int .i64 m2,.int .i64 m3,.int .i64 m4,.slice m5 m6 m7,.string nm,.int .i64 z,.string a]] w5 (qit (stX ch ms ⟨op,⟨m0,m1,m2,m3,m4,m5,m6,m7,m8⟩,nm,z,a⟩) (stN ms ⟨op,⟨m0,m1,m2,m3,m4,m5,m6,m7,m8⟩,nm,z,a⟩) (stD ms ⟨op,⟨m0,m1,m2,m3,m4,m5,m6,m7,m8⟩,nm,z,a⟩) (stZ ch ms ⟨op,⟨m0,m1,m2,m3,m4,m5,m6,m7,m8⟩,nm,z,a⟩) w5)):=hid (HEF.out w5.heap.size Am km cm ms w5 HA.out HQ5.out)
   have HS:=hid (st_cong Hc.out ch ⟨op,⟨m0,m1,m2,m3,m4,m5,m6,m7,m8⟩,nm,z,a⟩)
   clear HEF HQ5 HA Hc HOK
   have zzd:=fun k=>zjc g k HC5.out
   have u0:=zjc u 0 HU5.out
   have u1:=zjc u 1 HU5.out
   go_wp2_with fail
   refine HX.out.mono ?_
   rintro e w6 ⟨A6,n6,c6,B6,k6,q6,D6,j6,f6,rfl,oM,oN,oD,b6⟩
   clear HX u0 u1 zzd
   have h6:=b6.size
   have HR6:=hid ((b6.block (g+1) (by omega)).trans HR5.out)
   have HC6:=hid ((b6.block g (by omega)).trans HC5.out)
   have HU6:=hid ((b6.block u (by omega)).trans HU5.out)
   have HB6:=hid (HB5.out.trans (b6.mono (by omega)))
   clear HR5 HC5 HU5 HB5
   rw[HS.out.2.1] at oN
   rw[HS.out.2.2.1] at oD
   rw[HS.out.2.2.2] at oM ⊢
   obtain⟨z5,hz5⟩:∃z5,stZ ch (qaa l).1 ⟨op,⟨m0,m1,m2,m3,m4,m5,m6,m7,m8⟩,nm,z,a⟩=z5:=⟨_,rfl⟩
   rw[hz5] at oM ⊢
   have Hz5:=hid hz5
   clear hz5
   have bT:=zjB w6 (.cells #[.slice A6 n6 c6,.slice B6 k6 q6,.slice D6 j6 f6,.int .i64 z5] 121)
   have hT:=heap_alloc_new w6 (.cells #[.slice A6 n6 c6,.slice B6 k6 q6,.slice D6 j6 f6,.int .i64 z5] 121)
   have sT:=World.size_alloc w6 (.cells #[.slice A6 n6 c6,.slice B6 k6 q6,.slice D6 j6 f6,.int .i64 z5] 121)
   go_upto_region 8 with fail
   generalize w6.alloc (.cells #[.slice A6 n6 c6,.slice B6 k6 q6,.slice D6 j6 f6,.int .i64 z5] 121)=w7 at *
   have HR7:=hid ((bT.block (g+1) (by omega)).trans HR6.out)
   have HC7:=hid ((bT.block g (by omega)).trans HC6.out)
   have HU7:=hid ((bT.block u (by omega)).trans HU6.out)
   have HB7:=hid (HB6.out.trans (bT.mono (by omega)))
   clear HR6 HC6 HU6 HB6
   have HM6:=hid oM
   have HN7:=hid ((oN.below bT).more (show g≤w5.heap.size by omega))
   have HD7:=hid ((oD.below bT).more (show g≤w5.heap.size by omega))
   have HbT:=hid bT
   have HT:=hid hT
   obtain⟨s,hs⟩:∃s,w6.heap.size=s:=⟨_,rfl⟩
   have Hs:=hid hs
   rw[hs] at HT sT h6 ⊢
   clear oM oN oD b6 bT hT hs
   by_cases hz:z5=0
   rotate_left 1
   ·have HE:Hid (qbp l ⟨op,⟨m0,m1,m2,m3,m4,m5,m6,m7,m8⟩,nm,z,a⟩=(l,[],[],z5)):=hid (by have:=runS_stE (q:=⟨op,⟨m0,m1,m2,m3,m4,m5,m6,m7,m8⟩,nm,z,a⟩) Hmz.out HCH.out HNC.out (by rw[Hz5.out];exact hz);rw[Hz5.out] at this;exact this)
    have hzb:(z5 !=0)=true:=by simpa using hz
    have Hz:=hid hz
    clear hz HC7 HU7 HM6 HN7 HD7 HbT
    have t3:=zjc s 3 HT.out
    go_upto_region 9 with fail
    clear t3
    have hbd:Below w7.heap.size w7 w7.drew:=(Below.refl _ _).drew
    have hS:(fun W=>W.heap[s]?=some (.cells #[.slice A6 n6 c6,.slice B6 k6 q6,.slice D6 j6 f6,.int .i64 z5] 121 (0,0))) w7.drew:=(hbd.block s (by omega)).trans HT.out
    have HRd:=hid ((hbd.block (g+1) (by omega)).trans HR7.out)
    have HBd:=hid (HB7.out.trans (hbd.mono (by omega)))
    have Hbd:=hid hbd
    refine Ord.qaf.begin (fun W=>W.heap[s]?=some (.cells #[.slice A6 n6 c6,.slice B6 k6 q6,.slice D6 j6 f6,.int .i64 z5] 121 (0,0))) 4 (by kernel_rfl) ?_
    generalize w7.drew=wd at *
    have hd:=hbd.size
    clear hbd HT
    refine zjT 0 39 rfl rfl (by kernel_rfl) (x:=.agg #[.slice none 0 0,.slice none 0 0,.slice none 0 0]) (fun _ _ _ h=>h) ?_ hS ?_
    ·intro v hv;go_simp;first|done|rfl
    try simp only[zjA]
    refine zjT 1 40 rfl rfl (by kernel_rfl) (x:=?_) (fun _ _ _ h=>h) ?_ hS ?_
    rotate_left 1
    ·intro v hv;go_simp;first|done|rfl
    try simp only[zjA]
    refine zjT 2 41 rfl rfl (by kernel_rfl) (x:=.int .i64 z5) (fun _ _ _ h=>h) ?_ hS ?_
    ·intro v hv;have y3:=cell_of_row _ s 3 _ _ _ hv;go_simp;first|done|rfl
    try simp only[zjA]
    have zzr:=fun k=>zjc (g+1) k HRd.out
    have fr:∀o,wd.frozen? ⟨g+1,o,none⟩=false:=fun o=>frozen_of_row _ _ o _ _ HRd.out
    have hl:=qn2 HRd.out (.slice none 0 0) (.slice none 0 0) (.slice none 0 0)
    have hP:=hid (ExeP.set (q:=⟨op,⟨m0,m1,m2,m3,m4,m5,m6,m7,m8⟩,nm,z,a⟩) (w:=w) (A:=none) (n:=0) (c:=0) (E:=none) (k:=0) (d:=0) (D:=none) (j:=0) (f:=0) HE.out HRd.out (by rw[HG.out];omega) (by rw[HG.out];exact HBd.out) (fun h=>absurd h Hz.out))
    have hS3:(fun W=>W.heap[s]?=some (.cells #[.slice A6 n6 c6,.slice B6 k6 q6,.slice D6 j6 f6,.int .i64 z5] 121 (0,0))) (Qaz wd (g+1) (.slice none 0 0) (.slice none 0 0) (.slice none 0 0)):=(qmz _ _ _ s (by omega)).trans hS
    unfold Qaz at hS3
    refine Ord.qaf.step 3 (by kernel_rfl) rfl (fun C hC=>?_)
    go_simp
    refine hC.out _ _ (fun _=>hS3) ?_
    clear hC C
    try simp only[zjA]
    have hS:=hS3
    refine Ord.qaf.step 4 (by kernel_rfl) rfl (fun C hC=>?_)
    go_simp
    refine hC.out _ _ (fun _=>hS) ?_
    clear hC C
    try simp only[zjA]
    refine Ord.qaf.done (by kernel_rfl) ?_ _
    go_wp2_with fail
    exact bodyPost_ret (v:=.tuple #[.agg #[.slice none 0 0,.slice none 0 0,.slice none 0 0],.int .i64 z5]) (by simp[results,Tryz.results34,asAddr,hl]) rfl hP.out
   subst hz
   cases ch
   ·have HE:=hid (runS_stL (q:=⟨op,⟨m0,m1,m2,m3,m4,m5,m6,m7,m8⟩,nm,z,a⟩) Hmz.out (HNC.out rfl) Hz5.out)
    clear HC7 HM6 HbT
    have t3:=zjc s 3 HT.out
    have u0:=zjc u 0 HU7.out
    go_upto_region 11 with fail
    clear t3 u0 HU7
    have HK:=hid fun (W:World) (hW:Below g w W)=>qbu g A n c l W (by have:=Hr.out;rw[HG.out] at this;exact this.below hW) (by omega)
    have hbd:Below w7.heap.size w7 w7.drew:=(Below.refl _ _).drew
    have hS:(fun W=>W.heap[s]?=some (.cells #[.slice A6 n6 c6,.slice B6 k6 q6,.slice D6 j6 f6,.int .i64 0] 121 (0,0))) w7.drew:=(hbd.block s (by omega)).trans HT.out
    have HRd:=hid ((hbd.block (g+1) (by omega)).trans HR7.out)
    have HBd:=hid (HB7.out.trans (hbd.mono (by omega)))
    have Hbd:=hid hbd
    refine Ord.qaf.begin (fun W=>W.heap[s]?=some (.cells #[.slice A6 n6 c6,.slice B6 k6 q6,.slice D6 j6 f6,.int .i64 0] 121 (0,0))) 8 (by kernel_rfl) ?_
    generalize w7.drew=wd at *
    have hd:=hbd.size
    clear hbd HT
    refine zjT 0 45 rfl rfl (by kernel_rfl) (x:=?_) (fun _ _ _ h=>h) ?_ hS ?_
    rotate_left 1
    ·intro v hv;go_simp;first|done|rfl
    try simp only[zjA]
    refine zjT 2 47 rfl rfl (by kernel_rfl) (x:=?_) (fun _ _ _ h=>h) ?_ hS ?_
    rotate_left 1
    ·intro v hv;go_simp;first|done|rfl
    try simp only[zjA]
    refine zjT 3 48 rfl rfl (by kernel_rfl) (x:=.slice B6 k6 q6) (fun _ _ _ h=>h) ?_ hS ?_
    ·intro v hv;have y1:=cell_of_row _ s 1 _ _ _ hv;go_simp;first|done|rfl
    try simp only[zjA]
    refine zjT 4 49 rfl rfl (by kernel_rfl) (x:=?_) (fun _ _ _ h=>h) ?_ hS ?_
    rotate_left 1
    ·intro v hv;go_simp;first|done|rfl
    try simp only[zjA]
    refine zjT 5 50 rfl rfl (by kernel_rfl) (x:=.slice D6 j6 f6) (fun _ _ _ h=>h) ?_ hS ?_
    ·intro v hv;have y2:=cell_of_row _ s 2 _ _ _ hv;go_simp;first|done|rfl
    try simp only[zjA]
    refine Ord.qaf.step 1 (by kernel_rfl) rfl (fun C hC=>?_)
    go_simp
    go_at_call 20
    refine (HK.out wd HBd.out).mono ?_
    rintro e w9 ⟨A9,c9,rfl,o9,b9⟩
    have hS:(fun W=>W.heap[s]?=some (.cells #[.slice A6 n6 c6,.slice B6 k6 q6,.slice D6 j6 f6,.int .i64 0] 121 (0,0))) w9:=(b9.block s (by omega)).trans hS
    have h9:=b9.size
    have HR9:=hid ((b9.block (g+1) (by omega)).trans HRd.out)
    have HB9:=hid (HBd.out.trans (b9.mono (by omega)))
    have hb79:=Hbd.out.trans (b9.mono hd)
    have HN9:=hid (HN7.out.below hb79)
    have HD9:=hid (HD7.out.below hb79)
    have HAP:=hid (apart_of (HD7.out.below Hbd.out) o9)
    have HO9:=hid (o9.more (show g≤wd.heap.size by omega))
    clear HK b9 o9 hb79
    go_wp2_with fail
    refine hC.out _ _ (fun _=>hS) ?_
    clear hC C
    try simp only[zjA]
    refine zjT 6 51 rfl rfl (by kernel_rfl) (x:=.agg #[.slice A9 n c9,.slice B6 k6 q6,.slice D6 j6 f6]) (fun _ _ _ h=>h) ?_ hS ?_
    ·intro v hv;go_simp;first|done|rfl
    try simp only[zjA]
    have zzr:=fun k=>zjc (g+1) k HR9.out
    have fr:∀o,w9.frozen? ⟨g+1,o,none⟩=false:=fun o=>frozen_of_row _ _ o _ _ HR9.out
    have hl:=qn2 HR9.out (.slice A9 n c9) (.slice B6 k6 q6) (.slice D6 j6 f6)
    have hP:=hid (ExeP.set (q:=⟨op,⟨m0,m1,m2,m3,m4,m5,m6,m7,m8⟩,nm,z,a⟩) (w:=w) (A:=A9) (n:=n) (c:=c9) (E:=B6) (k:=k6) (d:=q6) (D:=D6) (j:=j6) (f:=f6) HE.out HR9.out (by rw[HG.out];omega) (by rw[HG.out];exact HB9.out) (fun _=>by rw[HG.out];exact⟨HO9.out,HN9.out,HD9.out,HAP.out⟩))
    have hS3:(fun W=>W.heap[s]?=some (.cells #[.slice A6 n6 c6,.slice B6 k6 q6,.slice D6 j6 f6,.int .i64 0] 121 (0,0))) (Qaz w9 (g+1) (.slice A9 n c9) (.slice B6 k6 q6) (.slice D6 j6 f6)):=(qmz _ _ _ s (by omega)).trans hS
    unfold Qaz at hS3
    refine Ord.qaf.step 7 (by kernel_rfl) rfl (fun C hC=>?_)
    go_simp
    refine hC.out _ _ (fun _=>hS3) ?_
    clear hC C
    try simp only[zjA]
    have hS:=hS3
    refine Ord.qaf.step 8 (by kernel_rfl) rfl (fun C hC=>?_)
    go_simp
    refine hC.out _ _ (fun _=>hS) ?_
    clear hC C
    try simp only[zjA]
    refine Ord.qaf.done (by kernel_rfl) ?_ _
    go_wp2_with fail
    exact bodyPost_ret (v:=.tuple #[.agg #[.slice A9 n c9,.slice B6 k6 q6,.slice D6 j6 f6],.int .i64 0]) (by simp[results,Tryz.results34,asAddr,hl]) rfl hP.out
   ·have HE:=hid (runS_stC (q:=⟨op,⟨m0,m1,m2,m3,m4,m5,m6,m7,m8⟩,nm,z,a⟩) Hmz.out (HCH.out rfl) Hz5.out)
    have hfw:Few (edC (qaa l).1 ⟨op,⟨m0,m1,m2,m3,m4,m5,m6,m7,m8⟩,nm,z,a⟩).1:=ed_few HBl.out.n HBl.out.all HBl.out.ok HBl.out.dl HQ.out.ok HQ.out.dl HQ.out.l5
    have Hfw:=hid hfw
    have hcx:(stX true ms ⟨op,⟨m0,m1,m2,m3,m4,m5,m6,m7,m8⟩,nm,z,a⟩).map core=(edC (qaa l).1 ⟨op,⟨m0,m1,m2,m3,m4,m5,m6,m7,m8⟩,nm,z,a⟩).1.map core:=HS.out.1
    obtain⟨ys,hA6,hcy⟩:=qxt HM6.out (ok_cong hcx hfw.ok) (by have h1:=congrArg List.length hcx;rw[List.length_map,List.length_map] at h1;have:=hfw.n;omega)
    have hA7:=hA6.on HbT.out
    have hcy2:=hcy.trans hcx
    have HSO:=hid (Six.same_out hcy2)
    have H8:=hid (Six.qqc w6.heap.size A6 n6 c6 ys w7 ⟨HGd.out.on (by rw[HG.out];exact HB7.out),hA7.rd,hA7.hK,hfw.core hcy2,hA7.cap⟩)
    clear hfw Hfw hcx hA6 hcy hA7 hcy2 HM6 HN7 HD7 HC7 HBl HQ HS Hr HbT Hs
    have t0:=zjc s 0 HT.out
    have t3:=zjc s 3 HT.out
    have u0:=zjc u 0 HU7.out
    go_wp2_with fail
    refine H8.out.mono ?_
    rintro e w9 ⟨v9,rfl,o9,b9⟩
    obtain⟨A9,c9,rfl,_⟩:=o9.reads
    rw[HSO.out.1] at o9 ⊢
    rw[HSO.out.2.2.2]
    clear t0 t3 u0 HT H8 HU7
    obtain⟨n9,hn9⟩:∃n9,(qg7 (edC (qaa l).1 ⟨op,⟨m0,m1,m2,m3,m4,m5,m6,m7,m8⟩,nm,z,a⟩).1).length=n9:=⟨_,rfl⟩
    rw[hn9] at o9 ⊢
    clear hn9
    obtain⟨z9,hz9⟩:∃z9,(qbq 0 (edC (qaa l).1 ⟨op,⟨m0,m1,m2,m3,m4,m5,m6,m7,m8⟩,nm,z,a⟩).1).2=z9:=⟨_,rfl⟩
    rw[hz9] at HE ⊢
    clear hz9
    have HR9:=hid ((b9.block (g+1) (by omega)).trans HR7.out)
    have HB9:=hid (HB7.out.trans (b9.mono (by omega)))
    have HO9:=hid (o9.more (show g≤w7.heap.size by omega))
    clear o9 b9 HR7 HB7
    have zzr:=fun k=>zjc (g+1) k HR9.out
    have fr:∀o,w9.frozen? ⟨g+1,o,none⟩=false:=fun o=>frozen_of_row _ _ o _ _ HR9.out
    have hl:=qn2 HR9.out (.slice A9 n9 c9) (.slice none 0 0) (.slice none 0 0)
    have hP:=hid (ExeP.set (q:=⟨op,⟨m0,m1,m2,m3,m4,m5,m6,m7,m8⟩,nm,z,a⟩) (w:=w) (A:=A9) (n:=n9) (c:=c9) (E:=none) (k:=0) (d:=0) (D:=none) (j:=0) (f:=0) HE.out HR9.out (by rw[HG.out];omega) (by rw[HG.out];exact HB9.out) (fun h=>by rw[HG.out,if_pos h];exact⟨HO9.out,JS.Own.nil _ _,JB.Own.nil _ _,qfe.nil _ _ _⟩))
    go_wp2_with fail
    exact bodyPost_ret (v:=.tuple #[.agg #[.slice A9 n9 c9,.slice none 0 0,.slice none 0 0],.int .i64 z9]) (by simp[results,Tryz.results34,asAddr,hl]) rfl hP.out
end JL
namespace JL
open JB
open JS (Oth qfe)
open JN (qcj)
open JR (Mem RdM qdc qa7)
open JW (core MOk qab qbj)
open JE (ClP qbu qkm qgd)
theorem RunQ.set {l:List UInt8}{q:Cmd}{w W:World}{B:Nat}{x y u:Value}{A:Option Addr}{n c:Nat}{E:Option Addr}{k d:Nat}{D:Option Addr}{j f:Nat}{l1:List UInt8}{l2:List ByteArray}{l3:List UInt8}{z:Int}
 (e:qbp l q=(l1,l2,l3,z))(hB:W.heap[B]?=some (.cells #[x,y,u] 61 (0,0)))(hle:w.heap.size≤B)(hb:Below w.heap.size w W)
 (h1:JB.Own W w.heap.size (.slice A n c) n l1)(h2:JS.Own W w.heap.size (.slice E k d) k l2)(h3:JB.Own W w.heap.size (.slice D j f) j l3)(ha:qfe (.slice D j f) (.slice A n c)):
 RunQ l q w (.returned (.tuple #[.agg #[.slice A n c,.slice E k d,.slice D j f],.int .i64 z])) (((W.setCell ⟨B,0,none⟩ (.slice A n c)).setCell ⟨B,1,none⟩ (.slice E k d)).setCell ⟨B,2,none⟩ (.slice D j f)):=by
 have ho:Oth 61 W (Qaz W B (.slice A n c) (.slice E k d) (.slice D j f)):=Oth.put hB fun g hg=>qmz _ _ _ g hg
 exact⟨A,n,c,E,k,d,D,j,f,by rw[e],by rw[e];exact qab h1 ho (by decide),by rw[e];exact qbj h2 ho (by decide),by rw[e];exact qab h3 ho (by decide),ha,qje hb hle _ _ _⟩
theorem runS_bad {l:List UInt8}{q:Cmd}(h:(qbp l q).2.2.2≠0):qbp l q=(l,[],[],(qbp l q).2.2.2):=by
 unfold qbp at h ⊢
 split
 ·rfl
 ·split
  ·rfl
  ·split
   ·rename_i a b c
    rw[if_neg a,if_neg b,if_pos c] at h
    exact absurd rfl h
   ·split
    ·rename_i a b c d
     rw[if_neg a,if_neg b,if_neg c,if_pos d] at h
     rw[qw2 h]
    ·split
     ·rfl
     ·split
      ·rfl
      ·rename_i a b c d e f
       rw[if_neg a,if_neg b,if_neg c,if_neg d,if_neg e,if_neg f] at h
       exact absurd rfl h
theorem prun_any (Hex:∀(A:Option Addr)(n c:Nat)(l:List UInt8)(q:Cmd)(w:World),qcj w→JB.Rd w w.heap.size A n l→n≤c→c≤maxLen→BOk l→qfu w w.heap.size q→Calls Tryz.prog 34 #[.slice A n c,q.val] w (ExeP l q w)):RunC:=by
 intro A n c l q w hG hr hnc hcm hB hq
 have hn:n≤99000:=by rw[←hr.1];exact hB.len
 have HX:=hid fun (W:World) (hW:Below w.heap.size w W)=>Hex A n c l q W (hG.on hW) ((hr.below hW).more hW.size) hnc hcm hB ((hq.on hW).more hW.size zjn)
 have HBA:=hid (fun (h:(qbp l q).2.2.2≠0)=>runS_bad h)
 clear hG hnc hcm hB hq Hex
 obtain⟨op,⟨m0,m1,m2,m3,m4,m5,m6,m7,m8⟩,nm,z,a⟩:=q
 obtain⟨w1,e1,hb1,hC1,hR1,hs1⟩:=qcr w (.cells #[.int .u8 (op.toNat:Int),.string m0,.int .i64 m1,.int .i64 m2,.int .i64 m3,.int .i64 m4,.slice m5 m6 m7,.string nm,.int .i64 z,.string a] 56) (.cells #[.slice none 0 0,.slice none 0 0,.slice none 0 0] 61)
 simp only[Cmd.val,Cmd.cells] at HX ⊢
 go_enter Tryz.func25,Tryz.ntmps25
 go_upto_region 1 with fail
 rw[←e1]
 clear e1
 obtain⟨g,hg⟩:∃g,w.heap.size=g:=⟨_,rfl⟩
 have HG:=hid hg
 have Hr:=hid hr
 clear hr
 rw[hg] at hb1 hC1 hR1 hs1 HX ⊢
 have HB1:=hid hb1
 have HC1:=hid hC1
 have HR1:=hid hR1
 have hg1:g+1<w1.heap.size:=by omega
 clear hb1 hC1 hR1 hs1 hg
 have HX1:=hid (HX.out w1 HB1.out)
 clear HX
 have zzd:=fun k=>zjc g k HC1.out
 go_wp2_with fail
 refine HX1.out.mono ?_
 rintro e w2 ⟨A2,n2,c2,B2,k2,q2,D2,j2,f2,rfl,hz,b2⟩
 clear HX1 zzd
 have HZ:=hid hz
 have h2:=b2.size
 have HR2:=hid ((b2.block (g+1) hg1).trans HR1.out)
 have HB2:=hid (HB1.out.trans (b2.mono (show g≤w1.heap.size by omega)))
 clear hz b2 HC1 HR1
 have bT:=zjB w2 (.cells #[.slice A2 n2 c2,.slice B2 k2 q2,.slice D2 j2 f2] 61)
 have hT:=heap_alloc_new w2 (.cells #[.slice A2 n2 c2,.slice B2 k2 q2,.slice D2 j2 f2] 61)
 have sT:=World.size_alloc w2 (.cells #[.slice A2 n2 c2,.slice B2 k2 q2,.slice D2 j2 f2] 61)
 obtain⟨rz,hrz⟩:∃rz,(qbp l ⟨op,⟨m0,m1,m2,m3,m4,m5,m6,m7,m8⟩,nm,z,a⟩).2.2.2=rz:=⟨_,rfl⟩
 have Hrz:=hid hrz
 rw[hrz]
 clear hrz
 go_upto_region 2 with fail
 generalize w2.alloc (.cells #[.slice A2 n2 c2,.slice B2 k2 q2,.slice D2 j2 f2] 61)=w3 at *
 have HT:=hid hT
 have HR3:=hid ((bT.block (g+1) (by omega)).trans HR2.out)
 have HB3:=hid (HB2.out.trans (bT.mono (by omega)))
 have HbT:=hid bT
 obtain⟨u,hu⟩:∃u,w2.heap.size=u:=⟨_,rfl⟩
 have Hu:=hid hu
 rw[hu] at HT sT h2 ⊢
 clear bT hT hu HR2 HB2
 by_cases hz:rz=0
 ·subst hz
  obtain⟨o1,o2,o3,ha⟩:=HZ.out Hrz.out
  have hle:w.heap.size≤w1.heap.size:=by rw[HG.out];omega
  have hP:=hid (RunQ.set (q:=⟨op,⟨m0,m1,m2,m3,m4,m5,m6,m7,m8⟩,nm,z,a⟩) (w:=w) (l1:=(qbp l ⟨op,⟨m0,m1,m2,m3,m4,m5,m6,m7,m8⟩,nm,z,a⟩).1) (l2:=(qbp l ⟨op,⟨m0,m1,m2,m3,m4,m5,m6,m7,m8⟩,nm,z,a⟩).2.1) (l3:=(qbp l ⟨op,⟨m0,m1,m2,m3,m4,m5,m6,m7,m8⟩,nm,z,a⟩).2.2.1) (z:=0) (by rw[←Hrz.out]) HR3.out (by rw[HG.out];omega) (by rw[HG.out];exact HB3.out) ((o1.below HbT.out).more hle) ((o2.below HbT.out).more hle) ((o3.below HbT.out).more hle) ha)
  clear o1 o2 o3 ha HZ Hrz HBA HbT HG Hu hle
  have e0:=zjc u 0 HT.out
  have e1:=zjc u 1 HT.out
  have e2:=zjc u 2 HT.out
  have zzr:=fun k=>zjc (g+1) k HR3.out
  have hl0:=run_loadVar_row (P:=Tryz.prog) _ _ 61 61 _ (0,0) _ HT.out Tryz.underlying61 rfl (by kernel_rfl)
  have fw:∀o,w3.frozen? ⟨g+1,o,none⟩=false:=fun o=>frozen_of_row _ _ o _ _ HR3.out
  have hl:=qn2 HR3.out (.slice A2 n2 c2) (.slice B2 k2 q2) (.slice D2 j2 f2)
  go_wp2_with fail
  exact bodyPost_ret (v:=.tuple #[.agg #[.slice A2 n2 c2,.slice B2 k2 q2,.slice D2 j2 f2],.int .i64 0]) (by simp[results,Tryz.results25,asAddr,hl]) rfl hP.out
 ·have hzb:(rz !=0)=true:=by simpa using hz
  have HE:=hid ((HBA.out (by rw[Hrz.out];exact hz)).trans (by rw[Hrz.out]))
  have HK:=hid (qbu g A n c l w3 (by have:=Hr.out;rw[HG.out] at this;exact this.below HB3.out) (by omega))
  clear hz HZ Hrz HBA HbT Hu HT Hr
  go_wp2_with fail
  refine HK.out.mono ?_
  rintro e w4 ⟨A4,c4,rfl,o4,b4⟩
  have hR4:=(b4.block (g+1) (by omega)).trans HR3.out
  have hP:=hid (RunQ.set (q:=⟨op,⟨m0,m1,m2,m3,m4,m5,m6,m7,m8⟩,nm,z,a⟩) (w:=w) HE.out hR4 (by rw[HG.out];omega) (by rw[HG.out];exact HB3.out.trans (b4.mono (by omega))) (o4.more (by rw[HG.out];omega)) (JS.Own.nil _ _) (JB.Own.nil _ _) (qfe.nil _ _ _))
  have zzr:=fun k=>zjc (g+1) k hR4
  have fw:∀o,w4.frozen? ⟨g+1,o,none⟩=false:=fun o=>frozen_of_row _ _ o _ _ hR4
  have hl:=qn2 hR4 (.slice A4 n c4) (.slice none 0 0) (.slice none 0 0)
  clear hR4 o4 b4 HK HE HG
  go_wp2_with fail
  exact bodyPost_ret (v:=.tuple #[.agg #[.slice A4 n c4,.slice none 0 0,.slice none 0 0],.int .i64 rz]) (by simp[results,Tryz.results25,asAddr,hl]) rfl hP.out
end JL
end Go.Proofs.YtlmolmohhpdhdaaGreatDoor
