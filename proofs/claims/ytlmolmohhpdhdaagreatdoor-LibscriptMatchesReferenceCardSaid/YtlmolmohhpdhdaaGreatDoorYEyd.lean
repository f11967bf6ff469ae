/-
  edit: the program's modes and
-/
import Derived.Test.YtlmolmohhpdhdaaGreatDoorYEya
set_option maxRecDepth 100000
set_option maxHeartbeats 16000000
set_option linter.all false
namespace Go.Proofs.YtlmolmohhpdhdaaGreatDoor
open Go.RowKit Go.Proofs Tryz
namespace JE
open JB
open JR (Mem RdM qft qa8)
open JW (core MOk)
open JH (qb9 qep)
def md0:Array Value:=#[.bool false,.func (.func 222) #[] #[]]
def md1:Array Value:=#[.bool true,.func (.func 223) #[] #[]]
def md2:Array Value:=#[.bool true,.func (.func 224) #[] #[]]
def mdz:Array Value:=#[.bool false,.nilFunc]
def mds:Array Value:=#[.bool false,.func (.func 222) #[] #[],.bool true,.func (.func 223) #[] #[],.bool true,.func (.func 224) #[] #[]]
theorem Qf3 (w:World):(Instr.build 255 #[(0,.bool false),(1,.func (.func 222) #[] #[])]).run prog w=.ok (.agg md0) w:=by kernel_rfl
theorem Qf4 (w:World):(Instr.build 255 #[(0,.bool true),(1,.func (.func 223) #[] #[])]).run prog w=.ok (.agg md1) w:=by kernel_rfl
theorem Qf5 (w:World):(Instr.build 255 #[(0,.bool true),(1,.func (.func 224) #[] #[])]).run prog w=.ok (.agg md2) w:=by kernel_rfl
theorem Qf6 (w:World):(Instr.build 285 #[(0,.agg md0),(1,.agg md1),(2,.agg md2)]).run prog w=.ok (.agg mds) w:=by kernel_rfl
theorem Qf7 (w:World):Calls prog 204 #[] w fun e w'=>e=.returned (.agg mds)/\Below w.heap.size w w':=by
 go_enter func204,ntmps204;go_upto_region 1 with (fail)
 go_step
 refine qb9 (some 1) rfl rfl _ _ rfl _ _ (Qf3 _) (by kernel_rfl) ?_;refine qb9 (some 2) rfl rfl _ _ rfl _ _ (Qf4 _) (by kernel_rfl) ?_;refine qb9 (some 3) rfl rfl _ _ rfl _ _ (Qf5 _) (by kernel_rfl) ?_;refine qb9 (some 4) rfl rfl _ _ rfl _ _ (Qf6 _) (by kernel_rfl) ?_;refine qep rfl rfl _ _ _ rfl _ _ rfl rfl (run_storeAt_new w 285 _ mds (by kernel_rfl) (by kernel_rfl) (by kernel_rfl)) ?_;go_wp2
 have hl:=run_loadVar_new (P:=prog) w 285 mds 3 255 underlying285 (by kernel_rfl);exact zlf (v:=.agg mds) (by simp[results,results204,Act.put,asAddr,hl]) rfl ⟨rfl,(Below.refl _ _).alloc zjn _⟩
theorem qki (w3:World)(g:Nat)(x y:Value)(h:w3.heap[g]?=some (.cells #[.bool false,.nilFunc] 255 (0,0))):
 (loadVar 255 ⟨g,0,none⟩).run prog ((w3.setCell ⟨g,0,none⟩ x).setCell ⟨g,1,none⟩ y)=.ok (.agg #[x,y]) ((w3.setCell ⟨g,0,none⟩ x).setCell ⟨g,1,none⟩ y):=by
 have h1:=zle w3 g 0 _ _ x h;have h2:=zle _ g 1 _ _ y h1;exact run_loadVar_row (P:=prog) _ _ 255 255 _ (0,0) _ h2 underlying255 rfl (by kernel_rfl)
theorem qc8 (z:Int)(a:ByteArray)(w:World)(r:Array Value)(b:Bool)(hr:(z<0/\r=mdz/\b=false)∨(2<z/\r=mdz/\b=false)∨(z=0/\r=md0/\b=true)∨(z=1/\r=md1/\b=true)∨(z=2/\r=md2/\b=true)):
 Calls prog 165 #[qi6 z a] w fun e w'=>e=.returned (.tuple #[.agg r,.bool b])/\Below w.heap.size w w':=by
 unfold qi6;have hA:=zld w (.cells #[.int .i64 z,.string a] 54);have bA:=zjB w (.cells #[.int .i64 z,.string a] 54);have sA:=zlr w (.cells #[.int .i64 z,.string a] 54);have hM:=zld (w.alloc (.cells #[.int .i64 z,.string a] 54)) (.cells mdz 255);have bM:=(Below.refl (w.alloc (.cells #[.int .i64 z,.string a] 54)).heap.size (w.alloc (.cells #[.int .i64 z,.string a] 54))).alloc zjn (.cells mdz 255);have sM:=zlr (w.alloc (.cells #[.int .i64 z,.string a] 54)) (.cells mdz 255);unfold mdz at hM bM sM;go_enter func165,ntmps165;go_upto_region 1 with fail
 generalize w.alloc (.cells #[.int .i64 z,.string a] 54)=wA at *;generalize wA.alloc (.cells #[.bool false,.nilFunc] 255)=w1 at *;rw[sA] at hM sM bM;obtain⟨g,hg⟩:∃g,w.heap.size=g:=⟨_,rfl⟩;rw[hg] at hA hM sM bM bA |-;have HG:=hid hg;have hA1:=(bM.block g (by omega)).trans hA;have b1:=bA.trans (bM.mono (by omega));have hgs:g+1<w1.heap.size:=by omega
 clear hA bA bM sM sA hg;go_wp2_with fail
 refine (Qf7 _).mono ?_;rintro e w2 ⟨rfl,b2⟩;have hA2:=(b2.block g (by omega)).trans hA1;have hM2:=(b2.block (g+1) hgs).trans hM;have s2:=b2.size;have bB:=zjB w2 (.cells mds 285);have hB:=zld w2 (.cells mds 285);go_upto_region 2 with (refine qep rfl rfl _ _ _ rfl _ _ rfl rfl (run_storeAt_new _ 285 _ mds (by kernel_rfl) (by kernel_rfl) (by kernel_rfl)) ?_)
 generalize w2.alloc (.cells mds 285)=w3 at *;have hA3:=(bB.block g (by omega)).trans hA2;have hM3:=(bB.block (g+1) (by omega)).trans hM2;have b3:Below g w w3:=b1.trans ((b2.trans (bB.mono s2)).mono (by omega));have d0:=zjc g 0 hA3;obtain⟨h,hh⟩:∃h,w2.heap.size=h:=⟨_,rfl⟩;rw[hh] at hB |-;have zzm:=fun k=>zjc (g+1) k hM3;have f1:∀o,w3.frozen? ⟨g+1,o,none⟩=false:=fun o=>by simp[World.frozen?,hM3]
 clear hA1 hM hA2 hM2 bB b1 b2 s2 hh hgs hA3;have c0:w3.cell? ⟨h,0,none⟩=some (.bool false):=zlc _ h 0 _ _ _ hB;have c1:w3.cell? ⟨h,1,none⟩=some (.func (.func 222) #[] #[]):=zlc _ h 1 _ _ _ hB;have c2:w3.cell? ⟨h,2,none⟩=some (.bool true):=zlc _ h 2 _ _ _ hB;have c3:w3.cell? ⟨h,3,none⟩=some (.func (.func 223) #[] #[]):=zlc _ h 3 _ _ _ hB;have c4:w3.cell? ⟨h,4,none⟩=some (.bool true):=zlc _ h 4 _ _ _ hB;have c5:w3.cell? ⟨h,5,none⟩=some (.func (.func 224) #[] #[]):=zlc _ h 5 _ _ _ hB;clear hB;rcases hr with ⟨hz,rfl,rfl⟩|⟨hz,rfl,rfl⟩|⟨rfl,rfl,rfl⟩|⟨rfl,rfl,rfl⟩|⟨rfl,rfl,rfl⟩
 ·have hl:=qki w3 (g+1) (.bool false) (.nilFunc) hM3;have hb:Below g w ((w3.setCell ⟨g+1,0,none⟩ (.bool false)).setCell ⟨g+1,1,none⟩ (.nilFunc)):=(b3.setCell (p:=⟨g+1,0,none⟩) (Nat.le_succ g) _).setCell (p:=⟨g+1,1,none⟩) (Nat.le_succ g) _;clear hM3 b3;go_wp2_with fail
  exact zlf (v:=.tuple #[.agg mdz,.bool false]) (by simp[results,results165,asAddr,hl,mdz]) rfl ⟨rfl,by first|exact hb|(rw[HG.out];exact hb)⟩
 ·have hl:=qki w3 (g+1) (.bool false) (.nilFunc) hM3;have hb:Below g w ((w3.setCell ⟨g+1,0,none⟩ (.bool false)).setCell ⟨g+1,1,none⟩ (.nilFunc)):=(b3.setCell (p:=⟨g+1,0,none⟩) (Nat.le_succ g) _).setCell (p:=⟨g+1,1,none⟩) (Nat.le_succ g) _;clear hM3 b3;go_wp2_with fail
  exact zlf (v:=.tuple #[.agg mdz,.bool false]) (by simp[results,results165,asAddr,hl,mdz]) rfl ⟨rfl,by first|exact hb|(rw[HG.out];exact hb)⟩
 ·have hl:=qki w3 (g+1) (.bool false) (.func (.func 222) #[] #[]) hM3;have hb:Below g w ((w3.setCell ⟨g+1,0,none⟩ (.bool false)).setCell ⟨g+1,1,none⟩ (.func (.func 222) #[] #[])):=(b3.setCell (p:=⟨g+1,0,none⟩) (Nat.le_succ g) _).setCell (p:=⟨g+1,1,none⟩) (Nat.le_succ g) _;clear hM3 b3;go_wp2_with fail
  exact zlf (v:=.tuple #[.agg md0,.bool true]) (by simp[results,results165,asAddr,hl,md0]) rfl ⟨rfl,by first|exact hb|(rw[HG.out];exact hb)⟩
 ·have hl:=qki w3 (g+1) (.bool true) (.func (.func 223) #[] #[]) hM3;have hb:Below g w ((w3.setCell ⟨g+1,0,none⟩ (.bool true)).setCell ⟨g+1,1,none⟩ (.func (.func 223) #[] #[])):=(b3.setCell (p:=⟨g+1,0,none⟩) (Nat.le_succ g) _).setCell (p:=⟨g+1,1,none⟩) (Nat.le_succ g) _;clear hM3 b3;go_wp2_with fail
  exact zlf (v:=.tuple #[.agg md1,.bool true]) (by simp[results,results165,asAddr,hl,md1]) rfl ⟨rfl,by first|exact hb|(rw[HG.out];exact hb)⟩
 ·have hl:=qki w3 (g+1) (.bool true) (.func (.func 224) #[] #[]) hM3;have hb:Below g w ((w3.setCell ⟨g+1,0,none⟩ (.bool true)).setCell ⟨g+1,1,none⟩ (.func (.func 224) #[] #[])):=(b3.setCell (p:=⟨g+1,0,none⟩) (Nat.le_succ g) _).setCell (p:=⟨g+1,1,none⟩) (Nat.le_succ g) _;clear hM3 b3;go_wp2_with fail
  exact zlf (v:=.tuple #[.agg md2,.bool true]) (by simp[results,results165,asAddr,hl,md2]) rfl ⟨rfl,by first|exact hb|(rw[HG.out];exact hb)⟩
end JE
namespace JE
open JB
open JR (Mem RdM qft qa8)
open JW (core MOk)
theorem Qf8 (x y:Int)(w:World):Calls prog 222 #[.int .i64 x,.int .i64 y] w fun e w'=>e=.returned (.int .i64 x)/\w=w':=by
 go_enter func222,ntmps222;go_wp2_with fail
 go_ret
 exact⟨rfl,rfl⟩
theorem Qf9 (x y:Int)(w:World):Calls prog 223 #[.int .i64 x,.int .i64 y] w fun e w'=>e=.returned (.int .i64 y)/\w=w':=by
 go_enter func223,ntmps223;go_wp2_with fail
 go_ret
 exact⟨rfl,rfl⟩
theorem Qfa (x:Int)(y:Nat)(hy:y<=1000)(w:World):Calls prog 224 #[.int .i64 x,.int .i64 (y:Int)] w fun e w'=>e=.returned (.int .i64 ((y+1:Nat):Int))/\w=w':=by
 go_enter func224,ntmps224;go_wp2_with fail
 go_ret
 exact⟨by go_num,rfl⟩
theorem Qbx (K:Nat)(A:Option Addr)(n c:Nat)(xs:List Mem)(z:Int)(a:ByteArray)(w:World)(h:RdM w K A n xs)(hK:K<=w.heap.size)(_hn:n<=1000)(hz:z<0):
 Calls prog 160 #[qi6 z a,.slice A n c] w fun e w'=>e=.returned (.tuple #[.int .i64 ((plN xs z a).1:Nat),.int .i64 (plN xs z a).2])/\Below w.heap.size w w':=by
 have Hl:=hid h.1;have HP:=hid (show plN xs z a=(0,13) by unfold plN;rw[if_pos (by omega)]);have HMo:=hid (fun W=>qc8 z a W mdz false (.inl ⟨hz,rfl,rfl⟩));unfold qi6 at HMo |-;unfold mdz at HMo;have hA:=zld w (.cells #[.int .i64 z,.string a] 54);have bA:=zjB w (.cells #[.int .i64 z,.string a] 54);have sA:=zlr w (.cells #[.int .i64 z,.string a] 54);clear hz;go_enter func160,ntmps160;go_upto_region 1 with fail
 generalize w.alloc (.cells #[.int .i64 z,.string a] 54)=w1 at *;obtain⟨g,hg⟩:∃g,w.heap.size=g:=⟨_,rfl⟩;rw[hg] at hA sA bA |-;have HG:=hid hg;have H1:=hid ((h.below (bA.mono (by omega))));have d0:=zjc g 0 hA;have d1:=zjc g 1 hA;have s1:g<w1.heap.size:=by omega
 have HA:=hid hA;have hKg:K<=g:=by omega
 clear sA hA h hg;go_wp2_with fail
 refine (HMo.out _).mono ?_;rintro e w2 ⟨rfl,b2⟩;have s2:=b2.size;have HA2:=hid ((b2.block g s1).trans HA.out);have B2:=hid (bA.trans (b2.mono (by omega)));have H2:=hid (H1.out.below (b2.mono (by omega)));have hM:=zld w2 (.cells #[.bool false,.nilFunc] 255);have bM:=zjB w2 (.cells #[.bool false,.nilFunc] 255);have sM:=zlr w2 (.cells #[.bool false,.nilFunc] 255);clear HMo b2 bA d0 d1 HA H1;go_upto_region 2 with fail
 generalize w2.alloc (.cells #[.bool false,.nilFunc] 255)=w3 at *;have B3:=hid (B2.out.trans (bM.mono (by omega)));have d1:=zlc _ g 1 _ _ _ ((bM.block g (by omega)).trans HA2.out);clear hM sM bM;go_wp2_with fail
 exact zlf (v:=.tuple #[.int .i64 0,.int .i64 13]) (by simp[results,results160,asAddr]) rfl ⟨by rw[HP.out];rfl,by rw[HG.out];exact B3.out⟩
theorem Qby (K:Nat)(A:Option Addr)(n c:Nat)(xs:List Mem)(z:Int)(a:ByteArray)(w:World)(h:RdM w K A n xs)(hK:K<=w.heap.size)(_hn:n<=1000)(hz:2<z):
 Calls prog 160 #[qi6 z a,.slice A n c] w fun e w'=>e=.returned (.tuple #[.int .i64 ((plN xs z a).1:Nat),.int .i64 (plN xs z a).2])/\Below w.heap.size w w':=by
 have Hl:=hid h.1;have HP:=hid (show plN xs z a=(0,13) by unfold plN;rw[if_pos (by omega)]);have HMo:=hid (fun W=>qc8 z a W mdz false (.inr (.inl ⟨hz,rfl,rfl⟩)));unfold qi6 at HMo |-;unfold mdz at HMo;have hA:=zld w (.cells #[.int .i64 z,.string a] 54);have bA:=zjB w (.cells #[.int .i64 z,.string a] 54);have sA:=zlr w (.cells #[.int .i64 z,.string a] 54);clear hz;go_enter func160,ntmps160;go_upto_region 1 with fail
 generalize w.alloc (.cells #[.int .i64 z,.string a] 54)=w1 at *;obtain⟨g,hg⟩:∃g,w.heap.size=g:=⟨_,rfl⟩;rw[hg] at hA sA bA |-;have HG:=hid hg;have H1:=hid ((h.below (bA.mono (by omega))));have d0:=zjc g 0 hA;have d1:=zjc g 1 hA;have s1:g<w1.heap.size:=by omega
 have HA:=hid hA;have hKg:K<=g:=by omega
 clear sA hA h hg;go_wp2_with fail
 refine (HMo.out _).mono ?_;rintro e w2 ⟨rfl,b2⟩;have s2:=b2.size;have HA2:=hid ((b2.block g s1).trans HA.out);have B2:=hid (bA.trans (b2.mono (by omega)));have H2:=hid (H1.out.below (b2.mono (by omega)));have hM:=zld w2 (.cells #[.bool false,.nilFunc] 255);have bM:=zjB w2 (.cells #[.bool false,.nilFunc] 255);have sM:=zlr w2 (.cells #[.bool false,.nilFunc] 255);clear HMo b2 bA d0 d1 HA H1;go_upto_region 2 with fail
 generalize w2.alloc (.cells #[.bool false,.nilFunc] 255)=w3 at *;have B3:=hid (B2.out.trans (bM.mono (by omega)));have d1:=zlc _ g 1 _ _ _ ((bM.block g (by omega)).trans HA2.out);clear hM sM bM;go_wp2_with fail
 exact zlf (v:=.tuple #[.int .i64 0,.int .i64 13]) (by simp[results,results160,asAddr]) rfl ⟨by rw[HP.out];rfl,by rw[HG.out];exact B3.out⟩
theorem Qbz (K:Nat)(A:Option Addr)(n c:Nat)(xs:List Mem)(z:Int)(a:ByteArray)(w:World)(h:RdM w K A n xs)(hK:K<=w.heap.size)(hn:n<=1000)(hz:z=0):
 Calls prog 160 #[qi6 z a,.slice A n c] w fun e w'=>e=.returned (.tuple #[.int .i64 ((plN xs z a).1:Nat),.int .i64 (plN xs z a).2])/\Below w.heap.size w w':=by
 have Hl:=hid h.1;have HP:=hid (show plN xs z a=(xs.length,0) by unfold plN;rw[if_neg (by omega),if_pos hz]);have HMo:=hid (fun W=>qc8 z a W md0 true (.inr (.inr (.inl ⟨hz,rfl,rfl⟩))));unfold qi6 at HMo |-;unfold md0 at HMo;have hA:=zld w (.cells #[.int .i64 z,.string a] 54);have bA:=zjB w (.cells #[.int .i64 z,.string a] 54);have sA:=zlr w (.cells #[.int .i64 z,.string a] 54);clear hz;go_enter func160,ntmps160;go_upto_region 1 with fail
 generalize w.alloc (.cells #[.int .i64 z,.string a] 54)=w1 at *;obtain⟨g,hg⟩:∃g,w.heap.size=g:=⟨_,rfl⟩;rw[hg] at hA sA bA |-;have HG:=hid hg;have H1:=hid ((h.below (bA.mono (by omega))));have d0:=zjc g 0 hA;have d1:=zjc g 1 hA;have s1:g<w1.heap.size:=by omega
 have HA:=hid hA;have hKg:K<=g:=by omega
 clear sA hA h hg;go_wp2_with fail
 refine (HMo.out _).mono ?_;rintro e w2 ⟨rfl,b2⟩;have s2:=b2.size;have HA2:=hid ((b2.block g s1).trans HA.out);have B2:=hid (bA.trans (b2.mono (by omega)));have H2:=hid (H1.out.below (b2.mono (by omega)));have hM:=zld w2 (.cells #[.bool false,.func (.func 222) #[] #[]] 255);have bM:=zjB w2 (.cells #[.bool false,.func (.func 222) #[] #[]] 255);have sM:=zlr w2 (.cells #[.bool false,.func (.func 222) #[] #[]] 255);clear HMo b2 bA d0 d1 HA H1;go_upto_region 2 with fail
 generalize w2.alloc (.cells #[.bool false,.func (.func 222) #[] #[]] 255)=w3 at *;have B3:=hid (B2.out.trans (bM.mono (by omega)));have d1:=zlc _ g 1 _ _ _ ((bM.block g (by omega)).trans HA2.out);have HF:=hid (qfi K A n c xs a w3 (H2.out.below (bM.mono (by omega))) (by omega) (by omega));obtain⟨q,hq⟩:∃q,w2.heap.size=q:=⟨_,rfl⟩;rw[hq] at hM sM |-;have s3:q<w3.heap.size:=by omega
 have s4:g<=w3.heap.size:=by omega
 have HM:=hid hM;clear hM sM bM hq H2 HA2 B2;go_wp2_with fail
 refine HF.out.mono ?_;rintro e w4 ⟨rfl,b4⟩;have B4:=hid (B3.out.trans (b4.mono s4));have hM4:=(b4.block q s3).trans HM.out;have e0:w4.cell? ⟨q,0,none⟩=some (.bool false):=zlc _ q 0 _ _ _ hM4;have e1:w4.cell? ⟨q,1,none⟩=some (.func (.func 222) #[] #[]):=zlc _ q 1 _ _ _ hM4;clear hM4 b4 HF d1 HM B3;generalize qaz xs a=fi at *;go_wp2_with fail
 refine (Qf8 _ _ _).mono ?_;rintro e w5 ⟨rfl,rfl⟩;go_wp2_with fail
 exact zlf (v:=.tuple #[.int .i64 (n:Int),.int .i64 0]) (by simp[results,results160,asAddr]) rfl ⟨by rw[HP.out,Hl.out],by rw[HG.out];exact B4.out⟩
theorem qtd (K:Nat)(A:Option Addr)(n c:Nat)(xs:List Mem)(z:Int)(a:ByteArray)(w:World)(h:RdM w K A n xs)(hK:K<=w.heap.size)(hn:n<=1000)(hz:z=1):
 Calls prog 160 #[qi6 z a,.slice A n c] w fun e w'=>e=.returned (.tuple #[.int .i64 ((plN xs z a).1:Nat),.int .i64 (plN xs z a).2])/\Below w.heap.size w w':=by
 have Hl:=hid h.1;have HP:=hid (show plN xs z a=match qar xs a with|none=>(0,11)|some i=>(i,0) by cases hf:qar xs a with|none=>exact qtc (by omega) (by omega) hf|some i=>exact Qeu (by omega) (by omega) hf (by omega));have HMo:=hid (fun W=>qc8 z a W md1 true (.inr (.inr (.inr (.inl ⟨hz,rfl,rfl⟩)))));unfold qi6 at HMo |-;unfold md1 at HMo;have hA:=zld w (.cells #[.int .i64 z,.string a] 54);have bA:=zjB w (.cells #[.int .i64 z,.string a] 54);have sA:=zlr w (.cells #[.int .i64 z,.string a] 54);clear hz;go_enter func160,ntmps160;go_upto_region 1 with fail
 generalize w.alloc (.cells #[.int .i64 z,.string a] 54)=w1 at *;obtain⟨g,hg⟩:∃g,w.heap.size=g:=⟨_,rfl⟩;rw[hg] at hA sA bA |-;have HG:=hid hg;have H1:=hid ((h.below (bA.mono (by omega))));have d0:=zjc g 0 hA;have d1:=zjc g 1 hA;have s1:g<w1.heap.size:=by omega
 have HA:=hid hA;have hKg:K<=g:=by omega
 clear sA hA h hg;go_wp2_with fail
 refine (HMo.out _).mono ?_;rintro e w2 ⟨rfl,b2⟩;have s2:=b2.size;have HA2:=hid ((b2.block g s1).trans HA.out);have B2:=hid (bA.trans (b2.mono (by omega)));have H2:=hid (H1.out.below (b2.mono (by omega)));have hM:=zld w2 (.cells #[.bool true,.func (.func 223) #[] #[]] 255);have bM:=zjB w2 (.cells #[.bool true,.func (.func 223) #[] #[]] 255);have sM:=zlr w2 (.cells #[.bool true,.func (.func 223) #[] #[]] 255);clear HMo b2 bA d0 d1 HA H1;go_upto_region 2 with fail
 generalize w2.alloc (.cells #[.bool true,.func (.func 223) #[] #[]] 255)=w3 at *;have B3:=hid (B2.out.trans (bM.mono (by omega)));have d1:=zlc _ g 1 _ _ _ ((bM.block g (by omega)).trans HA2.out);have HF:=hid (qfi K A n c xs a w3 (H2.out.below (bM.mono (by omega))) (by omega) (by omega));obtain⟨q,hq⟩:∃q,w2.heap.size=q:=⟨_,rfl⟩;rw[hq] at hM sM |-;have s3:q<w3.heap.size:=by omega
 have s4:g<=w3.heap.size:=by omega
 have HM:=hid hM;clear hM sM bM hq H2 HA2 B2;go_wp2_with fail
 refine HF.out.mono ?_;rintro e w4 ⟨rfl,b4⟩;have B4:=hid (B3.out.trans (b4.mono s4));have hM4:=(b4.block q s3).trans HM.out;have e0:w4.cell? ⟨q,0,none⟩=some (.bool true):=zlc _ q 0 _ _ _ hM4;have e1:w4.cell? ⟨q,1,none⟩=some (.func (.func 223) #[] #[]):=zlc _ q 1 _ _ _ hM4;clear hM4 b4 HF d1 HM B3
 cases hf:qar xs a with
 |none=>
  have hfi:qaz xs a= -1:=by unfold qaz;rw[hf]
  have HP1:Hid (plN xs z a=(0,11)):=hid (by rw[HP.out,hf]);rw[hfi];clear hf hfi HP;go_wp2_with fail
  exact zlf (v:=.tuple #[.int .i64 0,.int .i64 11]) (by simp[results,results160,asAddr]) rfl ⟨by rw[HP1.out];rfl,by rw[HG.out];exact B4.out⟩
 |some i=>
  have hfi:qaz xs a=(i:Int):=by unfold qaz;rw[hf]
  have HP1:Hid (plN xs z a=(i,0)):=hid (by rw[HP.out,hf]);rw[hfi];have hil:i<n:=by have:=(qb6 hf).1;have:=Hl.out;omega
  have hi0:¬(i:Int)<0:=by omega
  clear hf hfi HP;go_wp2_with fail
  refine (Qf9 _ _ _).mono ?_;rintro e w5 ⟨rfl,rfl⟩;go_wp2_with fail
  exact zlf (v:=.tuple #[.int .i64 (i:Int),.int .i64 0]) (by simp[results,results160,asAddr]) rfl ⟨by rw[HP1.out],by rw[HG.out];exact B4.out⟩
theorem qvy (K:Nat)(A:Option Addr)(n c:Nat)(xs:List Mem)(z:Int)(a:ByteArray)(w:World)(h:RdM w K A n xs)(hK:K<=w.heap.size)(hn:n<=1000)(hz:z=2):
 Calls prog 160 #[qi6 z a,.slice A n c] w fun e w'=>e=.returned (.tuple #[.int .i64 ((plN xs z a).1:Nat),.int .i64 (plN xs z a).2])/\Below w.heap.size w w':=by
 have Hl:=hid h.1;have HP:=hid (show plN xs z a=match qar xs a with|none=>(0,11)|some i=>(i+1,0) by cases hf:qar xs a with|none=>exact qtc (by omega) (by omega) hf|some i=>exact Qet (by omega) (by omega) hf hz);have HMo:=hid (fun W=>qc8 z a W md2 true (.inr (.inr (.inr (.inr ⟨hz,rfl,rfl⟩)))));unfold qi6 at HMo |-;unfold md2 at HMo;have hA:=zld w (.cells #[.int .i64 z,.string a] 54);have bA:=zjB w (.cells #[.int .i64 z,.string a] 54);have sA:=zlr w (.cells #[.int .i64 z,.string a] 54);clear hz;go_enter func160,ntmps160;go_upto_region 1 with fail
 generalize w.alloc (.cells #[.int .i64 z,.string a] 54)=w1 at *;obtain⟨g,hg⟩:∃g,w.heap.size=g:=⟨_,rfl⟩;rw[hg] at hA sA bA |-;have HG:=hid hg;have H1:=hid ((h.below (bA.mono (by omega))));have d0:=zjc g 0 hA;have d1:=zjc g 1 hA;have s1:g<w1.heap.size:=by omega
 have HA:=hid hA;have hKg:K<=g:=by omega
 clear sA hA h hg;go_wp2_with fail
 refine (HMo.out _).mono ?_;rintro e w2 ⟨rfl,b2⟩;have s2:=b2.size;have HA2:=hid ((b2.block g s1).trans HA.out);have B2:=hid (bA.trans (b2.mono (by omega)));have H2:=hid (H1.out.below (b2.mono (by omega)));have hM:=zld w2 (.cells #[.bool true,.func (.func 224) #[] #[]] 255);have bM:=zjB w2 (.cells #[.bool true,.func (.func 224) #[] #[]] 255);have sM:=zlr w2 (.cells #[.bool true,.func (.func 224) #[] #[]] 255);clear HMo b2 bA d0 d1 HA H1;go_upto_region 2 with fail
 generalize w2.alloc (.cells #[.bool true,.func (.func 224) #[] #[]] 255)=w3 at *;have B3:=hid (B2.out.trans (bM.mono (by omega)));have d1:=zlc _ g 1 _ _ _ ((bM.block g (by omega)).trans HA2.out);have HF:=hid (qfi K A n c xs a w3 (H2.out.below (bM.mono (by omega))) (by omega) (by omega));obtain⟨q,hq⟩:∃q,w2.heap.size=q:=⟨_,rfl⟩;rw[hq] at hM sM |-;have s3:q<w3.heap.size:=by omega
 have s4:g<=w3.heap.size:=by omega
 have HM:=hid hM;clear hM sM bM hq H2 HA2 B2;go_wp2_with fail
 refine HF.out.mono ?_;rintro e w4 ⟨rfl,b4⟩;have B4:=hid (B3.out.trans (b4.mono s4));have hM4:=(b4.block q s3).trans HM.out;have e0:w4.cell? ⟨q,0,none⟩=some (.bool true):=zlc _ q 0 _ _ _ hM4;have e1:w4.cell? ⟨q,1,none⟩=some (.func (.func 224) #[] #[]):=zlc _ q 1 _ _ _ hM4;clear hM4 b4 HF d1 HM B3
 cases hf:qar xs a with
 |none=>
  have hfi:qaz xs a= -1:=by unfold qaz;rw[hf]
  have HP1:Hid (plN xs z a=(0,11)):=hid (by rw[HP.out,hf]);rw[hfi];clear hf hfi HP;go_wp2_with fail
  exact zlf (v:=.tuple #[.int .i64 0,.int .i64 11]) (by simp[results,results160,asAddr]) rfl ⟨by rw[HP1.out];rfl,by rw[HG.out];exact B4.out⟩
 |some i=>
  have hfi:qaz xs a=(i:Int):=by unfold qaz;rw[hf]
  have HP1:Hid (plN xs z a=(i+1,0)):=hid (by rw[HP.out,hf]);rw[hfi];have hil:i<n:=by have:=(qb6 hf).1;have:=Hl.out;omega
  have hi0:¬(i:Int)<0:=by omega
  clear hf hfi HP;go_wp2_with fail
  refine (Qfa _ i (by omega) _).mono ?_;rintro e w5 ⟨rfl,rfl⟩;go_wp2_with fail
  exact zlf (v:=.tuple #[.int .i64 ((i+1:Nat):Int),.int .i64 0]) (by simp[results,results160,asAddr]) rfl ⟨by rw[HP1.out],by rw[HG.out];exact B4.out⟩
theorem qrt (K:Nat)(A:Option Addr)(n c:Nat)(xs:List Mem)(z:Int)(a:ByteArray)(w:World)(h:RdM w K A n xs)(hK:K<=w.heap.size)(hn:n<=1000):
 Calls prog 160 #[qi6 z a,.slice A n c] w fun e w'=>e=.returned (.tuple #[.int .i64 ((plN xs z a).1:Nat),.int .i64 (plN xs z a).2])/\Below w.heap.size w w':=by
 by_cases h0:z<0
 ·exact Qbx K A n c xs z a w h hK hn h0
 by_cases h2:2<z
 ·exact Qby K A n c xs z a w h hK hn h2
 rcases (show z=0∨z=1∨z=2 by omega) with hz|hz|hz
 ·exact Qbz K A n c xs z a w h hK hn hz
 ·exact qtd K A n c xs z a w h hK hn hz
 ·exact qvy K A n c xs z a w h hK hn hz
end JE
end Go.Proofs.YtlmolmohhpdhdaaGreatDoor
