/-
  header.Decode: the fields, of the table of long
-/
import Derived.Test.YtlmolmohhpdhdaaGreatDoorZMc
import Derived.Laws.EntriesVeiled
import Derived.Deep.LoopGhost
set_option maxRecDepth 100000
set_option maxHeartbeats 16000000
set_option linter.unusedSimpArgs false
set_option linter.unusedVariables false
namespace Go.Proofs.YtlmolmohhpdhdaaGreatDoor
open Go.RowKit Go.Proofs
namespace JH
open JB JT JD
theorem qwj (K b o:Nat)(n c:Nat)(l:List UInt8)(w:World)(hr:Rd w K (some ⟨b,o,none⟩) n l)(hK:K≤w.heap.size)(h:60≤n)(hc:n≤c)(hx:(l.drop 58).take 2=[96,10])(h6:qad (nm l)=true)(htab:qa9 (nm l)=true):
 Calls Tryz.prog 103 #[.slice (some ⟨b,o,none⟩) n c] w (qac l w):=by
 have hll:60≤l.length:=by rw[hr.1];exact h
 have H3:=hid fun (h4:qfc l 5=false) w' (hb:Below w.heap.size w w')=>qac.bad (derr_3 hll hx h6 h4) (by decide) hb
 have H0:=hid fun (h4:qfc l 5=true) w' (hb:Below w.heap.size w w')=>qac.good (qyj hll hx h6 h4) hb
 have hb0:Below w.heap.size w (w.alloc (.cells #[.string ⟨#[]⟩,.int .i64 0,.int .i64 0,.int .i64 0,.int .i64 0,.int .i64 0] 105)):=(Below.refl _ _).alloc zjn _
 have hr1:=((hr.more hK).below hb0)
 have Hr1:=hid (hr1.cut 58 |>.pre (show 2≤n-58 by omega))
 have Hr2:=hid (hr1.pre (show 16≤n by omega))
 have Hb0:=hid hb0
 have HR1:=hid hr1
 have hx':(List.take 2 (List.drop 58 l)==[96,10])=true:=by simpa using hx
 have hns:=qpm l
 have Hn:=hid fun w'=>qce (nm l) w' (by omega)
 have Hll:=hid hll
 clear hx hr1 hb0 hll
 go_enter Tryz.func103,Tryz.ntmps103
 go_wp2_with (first
  |(refine qax _ _ _ _ _ _ Hr1.out rfl (.tmp 17) rfl rfl ?_)
  |(refine qax _ _ _ _ _ _ Hr2.out rfl (.tmp 22) rfl rfl ?_)
  |(go_at_call 140;refine (qky l _).mono ?_;rintro e w' ⟨rfl,hw⟩;rw[hw])
  |(go_at_call 141;refine (Hn.out _).mono ?_;rintro e w2 ⟨rfl,hb2⟩;rw[h6])
  |(go_at_call 142;refine (qh8 _).mono ?_;rintro e w5 ⟨rfl,hb5⟩))
 have Hb02:=hid (Hb0.out.trans (hb2.mono (by simp)))
 have HR2:=hid (HR1.out.below (hb2.mono (by simp)))
 have hB0:w.heap.size<w2.heap.size:=Nat.lt_of_lt_of_le (by simp) hb2.size
 have Hh0:Hid (w2.heap[w.heap.size]?=some (.cells #[.string ⟨#[]⟩,.int .i64 0,.int .i64 0,.int .i64 0,.int .i64 0,.int .i64 0] 105 (0,0))):=hid (by
  rw[hb2.block _ (by simp)];exact heap_alloc_new w _)
 have hh5:w5.heap[w2.heap.size]?=some (.cells (qgg l 0) 105 (0,0)):=by
  rw[hb5.block _ (by simp)];exact heap_alloc_new w2 _
 have hbel5:Below w2.heap.size w2 w5:=((Below.refl _ _).alloc zjn _).trans (hb5.mono (by simp))
 clear hb2 hb5 Hr1 Hr2 HR1 Hb0
 go_loopw [6,34] (fun r i W=>∃k:Nat,i=.int .i64 (k:Int)∧k≤5∧r=.slice (some ⟨b,o+off k,none⟩) (58-off k) (c-off k)∧qfc l k=true∧W.heap[w2.heap.size]?=some (.cells (qgg l k) 105 (0,0))∧Below w2.heap.size w2 W) (fun _ i _=>5-qwg i)
 case atStart=>exact⟨0,rfl,by omega,qk3 rfl rfl rfl,rfl,hh5,hbel5⟩
 case round=>
  clear hh5 hbel5
  obtain⟨k,rfl,hk,hrest,hok,hh,hbel⟩:=hrel
  have hB1:w2.heap.size<wr.heap.size:=(Array.getElem?_eq_some_iff.1 hh).1
  have hB0r:w.heap.size<wr.heap.size:=by omega
  have Hok:=hid hok
  have Hhr:Hid (wr.heap[w.heap.size]?=_):=hid ((hbel.block _ hB0).trans Hh0.out)
  have HhB:=hid hh
  have Hrr:=hid (HR2.out.below (hbel.mono (Nat.le_of_lt hB0)))
  have kc:=fun j=>cell_of_row wr w.heap.size j _ 105 (0,0) Hhr.out
  have kz:∀j,wr.frozen? ⟨w.heap.size,j,none⟩=false:=fun j=>by simp[World.frozen?,Hhr.out]
  have kd:=fun j=>cell_of_row wr w2.heap.size j _ 105 (0,0) HhB.out
  have ky:∀j,wr.frozen? ⟨w2.heap.size,j,none⟩=false:=fun j=>by simp[World.frozen?,HhB.out]
  clear hok hh
  by_cases hlt:k<5
  ·have h5:k=0∨k=1∨k=2∨k=3∨k=4:=by omega
   clear hlt hk
   rcases h5 with rfl|rfl|rfl|rfl|rfl
   ·have ik:=at0
    simp only[row0] at ik
    obtain rfl:u6=.slice (some ⟨b,o+16,none⟩) 42 (c-16):=hrest
    have c6:wr.cell? ⟨w2.heap.size,1,none⟩=some (.int .i64 0):=kd 1
    clear kd
    cases hs:qdj (qcc l 0)
    ·have hno:rdF (qa9 (nm l)) 0 (qcc l 0)=none:=by rw[htab];unfold rdF;rw[hs];rfl
     have Hx:=hid (H3.out (qb5 (k:=0) hno 5 (by omega)))
     clear hno
     go_wp2_with (first|(go_at_call 143;refine (qa3 _ _ _ _ (nm l) _).mono ?_;rintro e w6 ⟨rfl,hb6⟩;rw[htab];have hb26:=(hbel.alloc hbel.size _).trans (hb6.mono (by simp;omega));have hw6:=hb6.size;have kf:=qa5 (B:=wr.heap.size) hb6 (by simp);have k0:=qa5 (B:=w.heap.size) hb6 (by simp;omega);have z0:=qah (B:=w.heap.size) hb6 (by simp;omega);have k1:=qa5 (B:=w2.heap.size) hb6 (by simp;omega);have z1:=qah (B:=w2.heap.size) hb6 (by simp;omega);have Hr6:=hid (qbn (Hrr.out.below (((Below.refl w.heap.size wr).alloc (Nat.le_of_lt hB0r) _).trans (hb6.mono (by simp;omega)))) h 0 (by omega)))|(go_at_call 144;refine (qcu _ _ 12 _ _ _ Hr6.out (by omega)).mono ?_;rintro e w' ⟨rfl,rfl⟩;rw[hs]))
     have hh6:w6.heap[w.heap.size]?=some (.cells #[.string ⟨#[]⟩,.int .i64 0,.int .i64 0,.int .i64 0,.int .i64 0,.int .i64 0] 105 (0,0)):=by rw[hb26.block _ hB0];exact Hh0.out
     have hl:=qc2 _ _ _ (six w6 w.heap.size _ 105 hh6 rfl (.string ⟨#[]⟩) (.int .i64 0) (.int .i64 0) (.int .i64 0) (.int .i64 0) (.int .i64 0)) rfl
     exact bodyPost_ret (v:=.tuple #[.agg #[.string ⟨#[]⟩,.int .i64 0,.int .i64 0,.int .i64 0,.int .i64 0,.int .i64 0],.int .i64 3]) (by simp[results,Tryz.results103,asAddr,hl]) rfl (Hx.out _ (qbk (Hb02.out.trans (hb26.mono (by omega))) zjn _ _ _ _ _ _))
    ·have hye:rdF (qa9 (nm l)) 0 (qcc l 0)=some 0:=by rw[htab];unfold rdF;rw[hs];rfl
     have Hn:=hid (qbm Hok.out hye)
     have Hc:=hid (qfd (by omega) hye)
     clear hye
     go_wp2_with (first|(go_at_call 143;refine (qa3 _ _ _ _ (nm l) _).mono ?_;rintro e w6 ⟨rfl,hb6⟩;rw[htab];have hb26:=(hbel.alloc hbel.size _).trans (hb6.mono (by simp;omega));have hw6:=hb6.size;have kf:=qa5 (B:=wr.heap.size) hb6 (by simp);have k0:=qa5 (B:=w.heap.size) hb6 (by simp;omega);have z0:=qah (B:=w.heap.size) hb6 (by simp;omega);have k1:=qa5 (B:=w2.heap.size) hb6 (by simp;omega);have z1:=qah (B:=w2.heap.size) hb6 (by simp;omega);have Hr6:=hid (qbn (Hrr.out.below (((Below.refl w.heap.size wr).alloc (Nat.le_of_lt hB0r) _).trans (hb6.mono (by simp;omega)))) h 0 (by omega)))|(go_at_call 144;refine (qcu _ _ 12 _ _ _ Hr6.out (by omega)).mono ?_;rintro e w' ⟨rfl,rfl⟩;rw[hs]))
     have Hh6:=hid ((hb6.block _ (by simp;omega)).trans ((Below.heap_alloc wr _ _ hB1).trans HhB.out))
     go_roundw
     case rel=>exact⟨1,rfl,by omega,qk3 (by simp[off,wd]<;>omega) (by simp[off,wd]) (by simp[off,wd]<;>omega),Hn.out,by rw[←Hc.out];exact Hh6.out,hb26⟩
     case measure=>decide
   ·have ik:=at1
    simp only[row1] at ik
    obtain rfl:u6=.slice (some ⟨b,o+28,none⟩) 30 (c-28):=hrest
    have c6:wr.cell? ⟨w2.heap.size,2,none⟩=some (.int .i64 0):=kd 2
    clear kd
    cases hs:qdj (qcc l 1)
    ·have hno:rdF (qa9 (nm l)) 1 (qcc l 1)=none:=by rw[htab];unfold rdF;rw[hs];rfl
     have Hx:=hid (H3.out (qb5 (k:=1) hno 5 (by omega)))
     clear hno
     go_wp2_with (first|(go_at_call 143;refine (qa3 _ _ _ _ (nm l) _).mono ?_;rintro e w6 ⟨rfl,hb6⟩;rw[htab];have hb26:=(hbel.alloc hbel.size _).trans (hb6.mono (by simp;omega));have hw6:=hb6.size;have kf:=qa5 (B:=wr.heap.size) hb6 (by simp);have k0:=qa5 (B:=w.heap.size) hb6 (by simp;omega);have z0:=qah (B:=w.heap.size) hb6 (by simp;omega);have k1:=qa5 (B:=w2.heap.size) hb6 (by simp;omega);have z1:=qah (B:=w2.heap.size) hb6 (by simp;omega);have Hr6:=hid (qbn (Hrr.out.below (((Below.refl w.heap.size wr).alloc (Nat.le_of_lt hB0r) _).trans (hb6.mono (by simp;omega)))) h 1 (by omega)))|(go_at_call 144;refine (qcu _ _ 6 _ _ _ Hr6.out (by omega)).mono ?_;rintro e w' ⟨rfl,rfl⟩;rw[hs]))
     have hh6:w6.heap[w.heap.size]?=some (.cells #[.string ⟨#[]⟩,.int .i64 0,.int .i64 0,.int .i64 0,.int .i64 0,.int .i64 0] 105 (0,0)):=by rw[hb26.block _ hB0];exact Hh0.out
     have hl:=qc2 _ _ _ (six w6 w.heap.size _ 105 hh6 rfl (.string ⟨#[]⟩) (.int .i64 0) (.int .i64 0) (.int .i64 0) (.int .i64 0) (.int .i64 0)) rfl
     exact bodyPost_ret (v:=.tuple #[.agg #[.string ⟨#[]⟩,.int .i64 0,.int .i64 0,.int .i64 0,.int .i64 0,.int .i64 0],.int .i64 3]) (by simp[results,Tryz.results103,asAddr,hl]) rfl (Hx.out _ (qbk (Hb02.out.trans (hb26.mono (by omega))) zjn _ _ _ _ _ _))
    ·have hye:rdF (qa9 (nm l)) 1 (qcc l 1)=some 0:=by rw[htab];unfold rdF;rw[hs];rfl
     have Hn:=hid (qbm Hok.out hye)
     have Hc:=hid (qfd (by omega) hye)
     clear hye
     go_wp2_with (first|(go_at_call 143;refine (qa3 _ _ _ _ (nm l) _).mono ?_;rintro e w6 ⟨rfl,hb6⟩;rw[htab];have hb26:=(hbel.alloc hbel.size _).trans (hb6.mono (by simp;omega));have hw6:=hb6.size;have kf:=qa5 (B:=wr.heap.size) hb6 (by simp);have k0:=qa5 (B:=w.heap.size) hb6 (by simp;omega);have z0:=qah (B:=w.heap.size) hb6 (by simp;omega);have k1:=qa5 (B:=w2.heap.size) hb6 (by simp;omega);have z1:=qah (B:=w2.heap.size) hb6 (by simp;omega);have Hr6:=hid (qbn (Hrr.out.below (((Below.refl w.heap.size wr).alloc (Nat.le_of_lt hB0r) _).trans (hb6.mono (by simp;omega)))) h 1 (by omega)))|(go_at_call 144;refine (qcu _ _ 6 _ _ _ Hr6.out (by omega)).mono ?_;rintro e w' ⟨rfl,rfl⟩;rw[hs]))
     have Hh6:=hid ((hb6.block _ (by simp;omega)).trans ((Below.heap_alloc wr _ _ hB1).trans HhB.out))
     go_roundw
     case rel=>exact⟨2,rfl,by omega,qk3 (by simp[off,wd]<;>omega) (by simp[off,wd]) (by simp[off,wd]<;>omega),Hn.out,by rw[←Hc.out];exact Hh6.out,hb26⟩
     case measure=>decide
   ·have ik:=at2
    simp only[row2] at ik
    obtain rfl:u6=.slice (some ⟨b,o+34,none⟩) 24 (c-34):=hrest
    have c6:wr.cell? ⟨w2.heap.size,3,none⟩=some (.int .i64 0):=kd 3
    clear kd
    cases hs:qdj (qcc l 2)
    ·have hno:rdF (qa9 (nm l)) 2 (qcc l 2)=none:=by rw[htab];unfold rdF;rw[hs];rfl
     have Hx:=hid (H3.out (qb5 (k:=2) hno 5 (by omega)))
     clear hno
     go_wp2_with (first|(go_at_call 143;refine (qa3 _ _ _ _ (nm l) _).mono ?_;rintro e w6 ⟨rfl,hb6⟩;rw[htab];have hb26:=(hbel.alloc hbel.size _).trans (hb6.mono (by simp;omega));have hw6:=hb6.size;have kf:=qa5 (B:=wr.heap.size) hb6 (by simp);have k0:=qa5 (B:=w.heap.size) hb6 (by simp;omega);have z0:=qah (B:=w.heap.size) hb6 (by simp;omega);have k1:=qa5 (B:=w2.heap.size) hb6 (by simp;omega);have z1:=qah (B:=w2.heap.size) hb6 (by simp;omega);have Hr6:=hid (qbn (Hrr.out.below (((Below.refl w.heap.size wr).alloc (Nat.le_of_lt hB0r) _).trans (hb6.mono (by simp;omega)))) h 2 (by omega)))|(go_at_call 144;refine (qcu _ _ 6 _ _ _ Hr6.out (by omega)).mono ?_;rintro e w' ⟨rfl,rfl⟩;rw[hs]))
     have hh6:w6.heap[w.heap.size]?=some (.cells #[.string ⟨#[]⟩,.int .i64 0,.int .i64 0,.int .i64 0,.int .i64 0,.int .i64 0] 105 (0,0)):=by rw[hb26.block _ hB0];exact Hh0.out
     have hl:=qc2 _ _ _ (six w6 w.heap.size _ 105 hh6 rfl (.string ⟨#[]⟩) (.int .i64 0) (.int .i64 0) (.int .i64 0) (.int .i64 0) (.int .i64 0)) rfl
     exact bodyPost_ret (v:=.tuple #[.agg #[.string ⟨#[]⟩,.int .i64 0,.int .i64 0,.int .i64 0,.int .i64 0,.int .i64 0],.int .i64 3]) (by simp[results,Tryz.results103,asAddr,hl]) rfl (Hx.out _ (qbk (Hb02.out.trans (hb26.mono (by omega))) zjn _ _ _ _ _ _))
    ·have hye:rdF (qa9 (nm l)) 2 (qcc l 2)=some 0:=by rw[htab];unfold rdF;rw[hs];rfl
     have Hn:=hid (qbm Hok.out hye)
     have Hc:=hid (qfd (by omega) hye)
     clear hye
     go_wp2_with (first|(go_at_call 143;refine (qa3 _ _ _ _ (nm l) _).mono ?_;rintro e w6 ⟨rfl,hb6⟩;rw[htab];have hb26:=(hbel.alloc hbel.size _).trans (hb6.mono (by simp;omega));have hw6:=hb6.size;have kf:=qa5 (B:=wr.heap.size) hb6 (by simp);have k0:=qa5 (B:=w.heap.size) hb6 (by simp;omega);have z0:=qah (B:=w.heap.size) hb6 (by simp;omega);have k1:=qa5 (B:=w2.heap.size) hb6 (by simp;omega);have z1:=qah (B:=w2.heap.size) hb6 (by simp;omega);have Hr6:=hid (qbn (Hrr.out.below (((Below.refl w.heap.size wr).alloc (Nat.le_of_lt hB0r) _).trans (hb6.mono (by simp;omega)))) h 2 (by omega)))|(go_at_call 144;refine (qcu _ _ 6 _ _ _ Hr6.out (by omega)).mono ?_;rintro e w' ⟨rfl,rfl⟩;rw[hs]))
     have Hh6:=hid ((hb6.block _ (by simp;omega)).trans ((Below.heap_alloc wr _ _ hB1).trans HhB.out))
     go_roundw
     case rel=>exact⟨3,rfl,by omega,qk3 (by simp[off,wd]<;>omega) (by simp[off,wd]) (by simp[off,wd]<;>omega),Hn.out,by rw[←Hc.out];exact Hh6.out,hb26⟩
     case measure=>decide
   ·have ik:=at3
    simp only[row3] at ik
    obtain rfl:u6=.slice (some ⟨b,o+40,none⟩) 18 (c-40):=hrest
    have c6:wr.cell? ⟨w2.heap.size,4,none⟩=some (.int .i64 0):=kd 4
    clear kd
    cases hs:qdj (qcc l 3)
    ·have hno:rdF (qa9 (nm l)) 3 (qcc l 3)=none:=by rw[htab];unfold rdF;rw[hs];rfl
     have Hx:=hid (H3.out (qb5 (k:=3) hno 5 (by omega)))
     clear hno
     go_wp2_with (first|(go_at_call 143;refine (qa3 _ _ _ _ (nm l) _).mono ?_;rintro e w6 ⟨rfl,hb6⟩;rw[htab];have hb26:=(hbel.alloc hbel.size _).trans (hb6.mono (by simp;omega));have hw6:=hb6.size;have kf:=qa5 (B:=wr.heap.size) hb6 (by simp);have k0:=qa5 (B:=w.heap.size) hb6 (by simp;omega);have z0:=qah (B:=w.heap.size) hb6 (by simp;omega);have k1:=qa5 (B:=w2.heap.size) hb6 (by simp;omega);have z1:=qah (B:=w2.heap.size) hb6 (by simp;omega);have Hr6:=hid (qbn (Hrr.out.below (((Below.refl w.heap.size wr).alloc (Nat.le_of_lt hB0r) _).trans (hb6.mono (by simp;omega)))) h 3 (by omega)))|(go_at_call 144;refine (qcu _ _ 8 _ _ _ Hr6.out (by omega)).mono ?_;rintro e w' ⟨rfl,rfl⟩;rw[hs]))
     have hh6:w6.heap[w.heap.size]?=some (.cells #[.string ⟨#[]⟩,.int .i64 0,.int .i64 0,.int .i64 0,.int .i64 0,.int .i64 0] 105 (0,0)):=by rw[hb26.block _ hB0];exact Hh0.out
     have hl:=qc2 _ _ _ (six w6 w.heap.size _ 105 hh6 rfl (.string ⟨#[]⟩) (.int .i64 0) (.int .i64 0) (.int .i64 0) (.int .i64 0) (.int .i64 0)) rfl
     exact bodyPost_ret (v:=.tuple #[.agg #[.string ⟨#[]⟩,.int .i64 0,.int .i64 0,.int .i64 0,.int .i64 0,.int .i64 0],.int .i64 3]) (by simp[results,Tryz.results103,asAddr,hl]) rfl (Hx.out _ (qbk (Hb02.out.trans (hb26.mono (by omega))) zjn _ _ _ _ _ _))
    ·have hye:rdF (qa9 (nm l)) 3 (qcc l 3)=some 0:=by rw[htab];unfold rdF;rw[hs];rfl
     have Hn:=hid (qbm Hok.out hye)
     have Hc:=hid (qfd (by omega) hye)
     clear hye
     go_wp2_with (first|(go_at_call 143;refine (qa3 _ _ _ _ (nm l) _).mono ?_;rintro e w6 ⟨rfl,hb6⟩;rw[htab];have hb26:=(hbel.alloc hbel.size _).trans (hb6.mono (by simp;omega));have hw6:=hb6.size;have kf:=qa5 (B:=wr.heap.size) hb6 (by simp);have k0:=qa5 (B:=w.heap.size) hb6 (by simp;omega);have z0:=qah (B:=w.heap.size) hb6 (by simp;omega);have k1:=qa5 (B:=w2.heap.size) hb6 (by simp;omega);have z1:=qah (B:=w2.heap.size) hb6 (by simp;omega);have Hr6:=hid (qbn (Hrr.out.below (((Below.refl w.heap.size wr).alloc (Nat.le_of_lt hB0r) _).trans (hb6.mono (by simp;omega)))) h 3 (by omega)))|(go_at_call 144;refine (qcu _ _ 8 _ _ _ Hr6.out (by omega)).mono ?_;rintro e w' ⟨rfl,rfl⟩;rw[hs]))
     have Hh6:=hid ((hb6.block _ (by simp;omega)).trans ((Below.heap_alloc wr _ _ hB1).trans HhB.out))
     go_roundw
     case rel=>exact⟨4,rfl,by omega,qk3 (by simp[off,wd]<;>omega) (by simp[off,wd]) (by simp[off,wd]<;>omega),Hn.out,by rw[←Hc.out];exact Hh6.out,hb26⟩
     case measure=>decide
   ·have ik:=at4
    simp only[qur] at ik
    obtain rfl:u6=.slice (some ⟨b,o+48,none⟩) 10 (c-48):=hrest
    have c6:wr.cell? ⟨w2.heap.size,5,none⟩=some (.int .i64 0):=kd 5
    clear kd
    cases hp:qdb 10 (qcc l 4)
    ·have hno:rdF (qa9 (nm l)) 4 (qcc l 4)=none:=by rw[htab];exact hp
     have Hx:=hid (H3.out (qb5 (k:=4) hno 5 (by omega)))
     have Hp:=hid fun w' r=>qh9 4 w.heap.size (some ⟨b,o+48,none⟩) (c-48) (qcc l 4) w' r (by show 10≤_;omega) hp
     clear hno hp
     go_wp2_with (first|(go_at_call 143;refine (qa3 _ _ _ _ (nm l) _).mono ?_;rintro e w6 ⟨rfl,hb6⟩;rw[htab];have hb26:=(hbel.alloc hbel.size _).trans (hb6.mono (by simp;omega));have hw6:=hb6.size;have kf:=qa5 (B:=wr.heap.size) hb6 (by simp);have k0:=qa5 (B:=w.heap.size) hb6 (by simp;omega);have z0:=qah (B:=w.heap.size) hb6 (by simp;omega);have k1:=qa5 (B:=w2.heap.size) hb6 (by simp;omega);have z1:=qah (B:=w2.heap.size) hb6 (by simp;omega);have Hr6:=hid (qbn (Hrr.out.below (((Below.refl w.heap.size wr).alloc (Nat.le_of_lt hB0r) _).trans (hb6.mono (by simp;omega)))) h 4 (by omega)))|(go_at_call 145;refine (Hp.out _ Hr6.out).mono ?_;rintro e w' ⟨rfl,rfl⟩))
     have hh6:w6.heap[w.heap.size]?=some (.cells #[.string ⟨#[]⟩,.int .i64 0,.int .i64 0,.int .i64 0,.int .i64 0,.int .i64 0] 105 (0,0)):=by rw[hb26.block _ hB0];exact Hh0.out
     have hl:=qc2 _ _ _ (six w6 w.heap.size _ 105 hh6 rfl (.string ⟨#[]⟩) (.int .i64 0) (.int .i64 0) (.int .i64 0) (.int .i64 0) (.int .i64 0)) rfl
     exact bodyPost_ret (v:=.tuple #[.agg #[.string ⟨#[]⟩,.int .i64 0,.int .i64 0,.int .i64 0,.int .i64 0,.int .i64 0],.int .i64 3]) (by simp[results,Tryz.results103,asAddr,hl]) rfl (Hx.out _ (qbk (Hb02.out.trans (hb26.mono (by omega))) zjn _ _ _ _ _ _))
    ·rename_i x
     have hye:rdF (qa9 (nm l)) 4 (qcc l 4)=some x:=by rw[htab];exact hp
     have Hn:=hid (qbm Hok.out hye)
     have Hc:=hid (qds (by omega) hye)
     have Hp:=hid fun w' r=>qez 4 w.heap.size (some ⟨b,o+48,none⟩) (c-48) (qcc l 4) x w' r (by show 10≤_;omega) hp
     clear hye hp
     go_wp2_with (first|(go_at_call 143;refine (qa3 _ _ _ _ (nm l) _).mono ?_;rintro e w6 ⟨rfl,hb6⟩;rw[htab];have hb26:=(hbel.alloc hbel.size _).trans (hb6.mono (by simp;omega));have hw6:=hb6.size;have kf:=qa5 (B:=wr.heap.size) hb6 (by simp);have k0:=qa5 (B:=w.heap.size) hb6 (by simp;omega);have z0:=qah (B:=w.heap.size) hb6 (by simp;omega);have k1:=qa5 (B:=w2.heap.size) hb6 (by simp;omega);have z1:=qah (B:=w2.heap.size) hb6 (by simp;omega);have Hr6:=hid (qbn (Hrr.out.below (((Below.refl w.heap.size wr).alloc (Nat.le_of_lt hB0r) _).trans (hb6.mono (by simp;omega)))) h 4 (by omega)))|(go_at_call 188;refine (var5 _ _).mono ?_;rintro e w' ⟨rfl,rfl⟩)|(go_at_call 145;refine (Hp.out _ Hr6.out).mono ?_;rintro e w' ⟨rfl,rfl⟩))
     have Hh6:=hid ((hb6.block _ (by simp;omega)).trans ((Below.heap_alloc wr _ _ hB1).trans HhB.out))
     have Hh7:=hid (heap_setCell_same _ _ 5 _ _ (.int .i64 (x:Int)) Hh6.out)
     go_roundw
     case rel=>exact⟨5,rfl,by omega,qk3 (by simp[off,wd]<;>omega) (by simp[off,wd]) (by simp[off,wd]<;>omega),Hn.out,by rw[←Hc.out];exact Hh7.out,hb26.setCell (p:=⟨w2.heap.size,5,none⟩) zjn _⟩
     case measure=>decide
  ·obtain rfl:k=5:=by omega
   have d0:wr.cell? ⟨w2.heap.size,0,none⟩=some (.string (nm l)):=kd 0
   have d1:wr.cell? ⟨w2.heap.size,1,none⟩=some (.int .i64 (val l 5 0)):=kd 1
   have d2:wr.cell? ⟨w2.heap.size,2,none⟩=some (.int .i64 (val l 5 1)):=kd 2
   have d3:wr.cell? ⟨w2.heap.size,3,none⟩=some (.int .i64 (val l 5 2)):=kd 3
   have d4:wr.cell? ⟨w2.heap.size,4,none⟩=some (.int .i64 (val l 5 3)):=kd 4
   have d5:wr.cell? ⟨w2.heap.size,5,none⟩=some (.int .i64 (val l 5 4)):=kd 5
   have Hx:=hid (H0.out Hok.out)
   clear kd
   go_wp2_with fail
   have hl:=qc2 _ _ _ (six wr w.heap.size _ 105 Hhr.out rfl (.string (nm l)) (.int .i64 (val l 5 0)) (.int .i64 (val l 5 1)) (.int .i64 (val l 5 2)) (.int .i64 (val l 5 3)) (.int .i64 (val l 5 4))) rfl
   exact bodyPost_ret (v:=.tuple #[.agg #[.string (nm l),.int .i64 (val l 5 0),.int .i64 (val l 5 1),.int .i64 (val l 5 2),.int .i64 (val l 5 3),.int .i64 (val l 5 4)],.int .i64 0]) (by simp[results,Tryz.results103,asAddr,hl]) rfl
    (Hx.out _ (qbk (Hb02.out.trans (hbel.mono (by omega))) zjn _ _ _ _ _ _))
end JH
namespace JH
open JB JT JD
theorem qwk (K b o:Nat)(n c:Nat)(l:List UInt8)(w:World)(hr:Rd w K (some ⟨b,o,none⟩) n l)(hK:K≤w.heap.size)(h:60≤n)(hc:n≤c)(hx:(l.drop 58).take 2=[96,10])(h6:qad (nm l)=true)(htab:qa9 (nm l)=false):
 Calls Tryz.prog 103 #[.slice (some ⟨b,o,none⟩) n c] w (qac l w):=by
 have hll:60≤l.length:=by rw[hr.1];exact h
 have H3:=hid fun (h4:qfc l 5=false) w' (hb:Below w.heap.size w w')=>qac.bad (derr_3 hll hx h6 h4) (by decide) hb
 have H0:=hid fun (h4:qfc l 5=true) w' (hb:Below w.heap.size w w')=>qac.good (qyj hll hx h6 h4) hb
 have hb0:Below w.heap.size w (w.alloc (.cells #[.string ⟨#[]⟩,.int .i64 0,.int .i64 0,.int .i64 0,.int .i64 0,.int .i64 0] 105)):=(Below.refl _ _).alloc zjn _
 have hr1:=((hr.more hK).below hb0)
 have Hr1:=hid (hr1.cut 58 |>.pre (show 2≤n-58 by omega))
 have Hr2:=hid (hr1.pre (show 16≤n by omega))
 have Hb0:=hid hb0
 have HR1:=hid hr1
 have hx':(List.take 2 (List.drop 58 l)==[96,10])=true:=by simpa using hx
 have hns:=qpm l
 have Hn:=hid fun w'=>qce (nm l) w' (by omega)
 have Hll:=hid hll
 clear hx hr1 hb0 hll
 go_enter Tryz.func103,Tryz.ntmps103
 go_wp2_with (first
  |(refine qax _ _ _ _ _ _ Hr1.out rfl (.tmp 17) rfl rfl ?_)
  |(refine qax _ _ _ _ _ _ Hr2.out rfl (.tmp 22) rfl rfl ?_)
  |(go_at_call 140;refine (qky l _).mono ?_;rintro e w' ⟨rfl,hw⟩;rw[hw])
  |(go_at_call 141;refine (Hn.out _).mono ?_;rintro e w2 ⟨rfl,hb2⟩;rw[h6])
  |(go_at_call 142;refine (qh8 _).mono ?_;rintro e w5 ⟨rfl,hb5⟩))
 have Hb02:=hid (Hb0.out.trans (hb2.mono (by simp)))
 have HR2:=hid (HR1.out.below (hb2.mono (by simp)))
 have hB0:w.heap.size<w2.heap.size:=Nat.lt_of_lt_of_le (by simp) hb2.size
 have Hh0:Hid (w2.heap[w.heap.size]?=some (.cells #[.string ⟨#[]⟩,.int .i64 0,.int .i64 0,.int .i64 0,.int .i64 0,.int .i64 0] 105 (0,0))):=hid (by
  rw[hb2.block _ (by simp)];exact heap_alloc_new w _)
 have hh5:w5.heap[w2.heap.size]?=some (.cells (qgg l 0) 105 (0,0)):=by
  rw[hb5.block _ (by simp)];exact heap_alloc_new w2 _
 have hbel5:Below w2.heap.size w2 w5:=((Below.refl _ _).alloc zjn _).trans (hb5.mono (by simp))
 clear hb2 hb5 Hr1 Hr2 HR1 Hb0
 go_loopw [6,34] (fun r i W=>∃k:Nat,i=.int .i64 (k:Int)∧k≤5∧r=.slice (some ⟨b,o+off k,none⟩) (58-off k) (c-off k)∧qfc l k=true∧W.heap[w2.heap.size]?=some (.cells (qgg l k) 105 (0,0))∧Below w2.heap.size w2 W) (fun _ i _=>5-qwg i)
 case atStart=>exact⟨0,rfl,by omega,qk3 rfl rfl rfl,rfl,hh5,hbel5⟩
 case round=>
  clear hh5 hbel5
  obtain⟨k,rfl,hk,hrest,hok,hh,hbel⟩:=hrel
  have hB1:w2.heap.size<wr.heap.size:=(Array.getElem?_eq_some_iff.1 hh).1
  have hB0r:w.heap.size<wr.heap.size:=by omega
  have Hok:=hid hok
  have Hhr:Hid (wr.heap[w.heap.size]?=_):=hid ((hbel.block _ hB0).trans Hh0.out)
  have HhB:=hid hh
  have Hrr:=hid (HR2.out.below (hbel.mono (Nat.le_of_lt hB0)))
  have kc:=fun j=>cell_of_row wr w.heap.size j _ 105 (0,0) Hhr.out
  have kz:∀j,wr.frozen? ⟨w.heap.size,j,none⟩=false:=fun j=>by simp[World.frozen?,Hhr.out]
  have kd:=fun j=>cell_of_row wr w2.heap.size j _ 105 (0,0) HhB.out
  have ky:∀j,wr.frozen? ⟨w2.heap.size,j,none⟩=false:=fun j=>by simp[World.frozen?,HhB.out]
  clear hok hh
  by_cases hlt:k<5
  ·have h5:k=0∨k=1∨k=2∨k=3∨k=4:=by omega
   clear hlt hk
   rcases h5 with rfl|rfl|rfl|rfl|rfl
   ·have ik:=at0
    simp only[row0] at ik
    obtain rfl:u6=.slice (some ⟨b,o+16,none⟩) 42 (c-16):=hrest
    have c6:wr.cell? ⟨w2.heap.size,1,none⟩=some (.int .i64 0):=kd 1
    clear kd
    cases hp:qdb 10 (qcc l 0)
    ·have hno:rdF (qa9 (nm l)) 0 (qcc l 0)=none:=by rw[htab];exact hp
     have Hx:=hid (H3.out (qb5 (k:=0) hno 5 (by omega)))
     have Hp:=hid fun w' r=>qh9 0 w.heap.size (some ⟨b,o+16,none⟩) (c-16) (qcc l 0) w' r (by show 12≤_;omega) hp
     clear hno hp
     go_wp2_with (first|(go_at_call 143;refine (qa3 _ _ _ _ (nm l) _).mono ?_;rintro e w6 ⟨rfl,hb6⟩;rw[htab];have hb26:=(hbel.alloc hbel.size _).trans (hb6.mono (by simp;omega));have hw6:=hb6.size;have kf:=qa5 (B:=wr.heap.size) hb6 (by simp);have k0:=qa5 (B:=w.heap.size) hb6 (by simp;omega);have z0:=qah (B:=w.heap.size) hb6 (by simp;omega);have k1:=qa5 (B:=w2.heap.size) hb6 (by simp;omega);have z1:=qah (B:=w2.heap.size) hb6 (by simp;omega);have Hr6:=hid (qbn (Hrr.out.below (((Below.refl w.heap.size wr).alloc (Nat.le_of_lt hB0r) _).trans (hb6.mono (by simp;omega)))) h 0 (by omega)))|(go_at_call 145;refine (Hp.out _ Hr6.out).mono ?_;rintro e w' ⟨rfl,rfl⟩))
     have hh6:w6.heap[w.heap.size]?=some (.cells #[.string ⟨#[]⟩,.int .i64 0,.int .i64 0,.int .i64 0,.int .i64 0,.int .i64 0] 105 (0,0)):=by rw[hb26.block _ hB0];exact Hh0.out
     have hl:=qc2 _ _ _ (six w6 w.heap.size _ 105 hh6 rfl (.string ⟨#[]⟩) (.int .i64 0) (.int .i64 0) (.int .i64 0) (.int .i64 0) (.int .i64 0)) rfl
     exact bodyPost_ret (v:=.tuple #[.agg #[.string ⟨#[]⟩,.int .i64 0,.int .i64 0,.int .i64 0,.int .i64 0,.int .i64 0],.int .i64 3]) (by simp[results,Tryz.results103,asAddr,hl]) rfl (Hx.out _ (qbk (Hb02.out.trans (hb26.mono (by omega))) zjn _ _ _ _ _ _))
    ·rename_i x
     have hye:rdF (qa9 (nm l)) 0 (qcc l 0)=some x:=by rw[htab];exact hp
     have Hn:=hid (qbm Hok.out hye)
     have Hc:=hid (qds (by omega) hye)
     have Hp:=hid fun w' r=>qez 0 w.heap.size (some ⟨b,o+16,none⟩) (c-16) (qcc l 0) x w' r (by show 12≤_;omega) hp
     clear hye hp
     go_wp2_with (first|(go_at_call 143;refine (qa3 _ _ _ _ (nm l) _).mono ?_;rintro e w6 ⟨rfl,hb6⟩;rw[htab];have hb26:=(hbel.alloc hbel.size _).trans (hb6.mono (by simp;omega));have hw6:=hb6.size;have kf:=qa5 (B:=wr.heap.size) hb6 (by simp);have k0:=qa5 (B:=w.heap.size) hb6 (by simp;omega);have z0:=qah (B:=w.heap.size) hb6 (by simp;omega);have k1:=qa5 (B:=w2.heap.size) hb6 (by simp;omega);have z1:=qah (B:=w2.heap.size) hb6 (by simp;omega);have Hr6:=hid (qbn (Hrr.out.below (((Below.refl w.heap.size wr).alloc (Nat.le_of_lt hB0r) _).trans (hb6.mono (by simp;omega)))) h 0 (by omega)))|(go_at_call 184;refine (var1 _ _).mono ?_;rintro e w' ⟨rfl,rfl⟩)|(go_at_call 145;refine (Hp.out _ Hr6.out).mono ?_;rintro e w' ⟨rfl,rfl⟩))
     have Hh6:=hid ((hb6.block _ (by simp;omega)).trans ((Below.heap_alloc wr _ _ hB1).trans HhB.out))
     have Hh7:=hid (heap_setCell_same _ _ 1 _ _ (.int .i64 (x:Int)) Hh6.out)
     go_roundw
     case rel=>exact⟨1,rfl,by omega,qk3 (by simp[off,wd]<;>omega) (by simp[off,wd]) (by simp[off,wd]<;>omega),Hn.out,by rw[←Hc.out];exact Hh7.out,hb26.setCell (p:=⟨w2.heap.size,1,none⟩) zjn _⟩
     case measure=>decide
   ·have ik:=at1
    simp only[row1] at ik
    obtain rfl:u6=.slice (some ⟨b,o+28,none⟩) 30 (c-28):=hrest
    have c6:wr.cell? ⟨w2.heap.size,2,none⟩=some (.int .i64 0):=kd 2
    clear kd
    cases hp:qdb 10 (qcc l 1)
    ·have hno:rdF (qa9 (nm l)) 1 (qcc l 1)=none:=by rw[htab];exact hp
     have Hx:=hid (H3.out (qb5 (k:=1) hno 5 (by omega)))
     have Hp:=hid fun w' r=>qh9 1 w.heap.size (some ⟨b,o+28,none⟩) (c-28) (qcc l 1) w' r (by show 6≤_;omega) hp
     clear hno hp
     go_wp2_with (first|(go_at_call 143;refine (qa3 _ _ _ _ (nm l) _).mono ?_;rintro e w6 ⟨rfl,hb6⟩;rw[htab];have hb26:=(hbel.alloc hbel.size _).trans (hb6.mono (by simp;omega));have hw6:=hb6.size;have kf:=qa5 (B:=wr.heap.size) hb6 (by simp);have k0:=qa5 (B:=w.heap.size) hb6 (by simp;omega);have z0:=qah (B:=w.heap.size) hb6 (by simp;omega);have k1:=qa5 (B:=w2.heap.size) hb6 (by simp;omega);have z1:=qah (B:=w2.heap.size) hb6 (by simp;omega);have Hr6:=hid (qbn (Hrr.out.below (((Below.refl w.heap.size wr).alloc (Nat.le_of_lt hB0r) _).trans (hb6.mono (by simp;omega)))) h 1 (by omega)))|(go_at_call 145;refine (Hp.out _ Hr6.out).mono ?_;rintro e w' ⟨rfl,rfl⟩))
     have hh6:w6.heap[w.heap.size]?=some (.cells #[.string ⟨#[]⟩,.int .i64 0,.int .i64 0,.int .i64 0,.int .i64 0,.int .i64 0] 105 (0,0)):=by rw[hb26.block _ hB0];exact Hh0.out
     have hl:=qc2 _ _ _ (six w6 w.heap.size _ 105 hh6 rfl (.string ⟨#[]⟩) (.int .i64 0) (.int .i64 0) (.int .i64 0) (.int .i64 0) (.int .i64 0)) rfl
     exact bodyPost_ret (v:=.tuple #[.agg #[.string ⟨#[]⟩,.int .i64 0,.int .i64 0,.int .i64 0,.int .i64 0,.int .i64 0],.int .i64 3]) (by simp[results,Tryz.results103,asAddr,hl]) rfl (Hx.out _ (qbk (Hb02.out.trans (hb26.mono (by omega))) zjn _ _ _ _ _ _))
    ·rename_i x
     have hye:rdF (qa9 (nm l)) 1 (qcc l 1)=some x:=by rw[htab];exact hp
     have Hn:=hid (qbm Hok.out hye)
     have Hc:=hid (qds (by omega) hye)
     have Hp:=hid fun w' r=>qez 1 w.heap.size (some ⟨b,o+28,none⟩) (c-28) (qcc l 1) x w' r (by show 6≤_;omega) hp
     clear hye hp
     go_wp2_with (first|(go_at_call 143;refine (qa3 _ _ _ _ (nm l) _).mono ?_;rintro e w6 ⟨rfl,hb6⟩;rw[htab];have hb26:=(hbel.alloc hbel.size _).trans (hb6.mono (by simp;omega));have hw6:=hb6.size;have kf:=qa5 (B:=wr.heap.size) hb6 (by simp);have k0:=qa5 (B:=w.heap.size) hb6 (by simp;omega);have z0:=qah (B:=w.heap.size) hb6 (by simp;omega);have k1:=qa5 (B:=w2.heap.size) hb6 (by simp;omega);have z1:=qah (B:=w2.heap.size) hb6 (by simp;omega);have Hr6:=hid (qbn (Hrr.out.below (((Below.refl w.heap.size wr).alloc (Nat.le_of_lt hB0r) _).trans (hb6.mono (by simp;omega)))) h 1 (by omega)))|(go_at_call 185;refine (var2 _ _).mono ?_;rintro e w' ⟨rfl,rfl⟩)|(go_at_call 145;refine (Hp.out _ Hr6.out).mono ?_;rintro e w' ⟨rfl,rfl⟩))
     have Hh6:=hid ((hb6.block _ (by simp;omega)).trans ((Below.heap_alloc wr _ _ hB1).trans HhB.out))
     have Hh7:=hid (heap_setCell_same _ _ 2 _ _ (.int .i64 (x:Int)) Hh6.out)
     go_roundw
     case rel=>exact⟨2,rfl,by omega,qk3 (by simp[off,wd]<;>omega) (by simp[off,wd]) (by simp[off,wd]<;>omega),Hn.out,by rw[←Hc.out];exact Hh7.out,hb26.setCell (p:=⟨w2.heap.size,2,none⟩) zjn _⟩
     case measure=>decide
   ·have ik:=at2
    simp only[row2] at ik
    obtain rfl:u6=.slice (some ⟨b,o+34,none⟩) 24 (c-34):=hrest
    have c6:wr.cell? ⟨w2.heap.size,3,none⟩=some (.int .i64 0):=kd 3
    clear kd
    cases hp:qdb 10 (qcc l 2)
    ·have hno:rdF (qa9 (nm l)) 2 (qcc l 2)=none:=by rw[htab];exact hp
     have Hx:=hid (H3.out (qb5 (k:=2) hno 5 (by omega)))
     have Hp:=hid fun w' r=>qh9 2 w.heap.size (some ⟨b,o+34,none⟩) (c-34) (qcc l 2) w' r (by show 6≤_;omega) hp
     clear hno hp
     go_wp2_with (first|(go_at_call 143;refine (qa3 _ _ _ _ (nm l) _).mono ?_;rintro e w6 ⟨rfl,hb6⟩;rw[htab];have hb26:=(hbel.alloc hbel.size _).trans (hb6.mono (by simp;omega));have hw6:=hb6.size;have kf:=qa5 (B:=wr.heap.size) hb6 (by simp);have k0:=qa5 (B:=w.heap.size) hb6 (by simp;omega);have z0:=qah (B:=w.heap.size) hb6 (by simp;omega);have k1:=qa5 (B:=w2.heap.size) hb6 (by simp;omega);have z1:=qah (B:=w2.heap.size) hb6 (by simp;omega);have Hr6:=hid (qbn (Hrr.out.below (((Below.refl w.heap.size wr).alloc (Nat.le_of_lt hB0r) _).trans (hb6.mono (by simp;omega)))) h 2 (by omega)))|(go_at_call 145;refine (Hp.out _ Hr6.out).mono ?_;rintro e w' ⟨rfl,rfl⟩))
     have hh6:w6.heap[w.heap.size]?=some (.cells #[.string ⟨#[]⟩,.int .i64 0,.int .i64 0,.int .i64 0,.int .i64 0,.int .i64 0] 105 (0,0)):=by rw[hb26.block _ hB0];exact Hh0.out
     have hl:=qc2 _ _ _ (six w6 w.heap.size _ 105 hh6 rfl (.string ⟨#[]⟩) (.int .i64 0) (.int .i64 0) (.int .i64 0) (.int .i64 0) (.int .i64 0)) rfl
     exact bodyPost_ret (v:=.tuple #[.agg #[.string ⟨#[]⟩,.int .i64 0,.int .i64 0,.int .i64 0,.int .i64 0,.int .i64 0],.int .i64 3]) (by simp[results,Tryz.results103,asAddr,hl]) rfl (Hx.out _ (qbk (Hb02.out.trans (hb26.mono (by omega))) zjn _ _ _ _ _ _))
    ·rename_i x
     have hye:rdF (qa9 (nm l)) 2 (qcc l 2)=some x:=by rw[htab];exact hp
     have Hn:=hid (qbm Hok.out hye)
     have Hc:=hid (qds (by omega) hye)
     have Hp:=hid fun w' r=>qez 2 w.heap.size (some ⟨b,o+34,none⟩) (c-34) (qcc l 2) x w' r (by show 6≤_;omega) hp
     clear hye hp
     go_wp2_with (first|(go_at_call 143;refine (qa3 _ _ _ _ (nm l) _).mono ?_;rintro e w6 ⟨rfl,hb6⟩;rw[htab];have hb26:=(hbel.alloc hbel.size _).trans (hb6.mono (by simp;omega));have hw6:=hb6.size;have kf:=qa5 (B:=wr.heap.size) hb6 (by simp);have k0:=qa5 (B:=w.heap.size) hb6 (by simp;omega);have z0:=qah (B:=w.heap.size) hb6 (by simp;omega);have k1:=qa5 (B:=w2.heap.size) hb6 (by simp;omega);have z1:=qah (B:=w2.heap.size) hb6 (by simp;omega);have Hr6:=hid (qbn (Hrr.out.below (((Below.refl w.heap.size wr).alloc (Nat.le_of_lt hB0r) _).trans (hb6.mono (by simp;omega)))) h 2 (by omega)))|(go_at_call 186;refine (var3 _ _).mono ?_;rintro e w' ⟨rfl,rfl⟩)|(go_at_call 145;refine (Hp.out _ Hr6.out).mono ?_;rintro e w' ⟨rfl,rfl⟩))
     have Hh6:=hid ((hb6.block _ (by simp;omega)).trans ((Below.heap_alloc wr _ _ hB1).trans HhB.out))
     have Hh7:=hid (heap_setCell_same _ _ 3 _ _ (.int .i64 (x:Int)) Hh6.out)
     go_roundw
     case rel=>exact⟨3,rfl,by omega,qk3 (by simp[off,wd]<;>omega) (by simp[off,wd]) (by simp[off,wd]<;>omega),Hn.out,by rw[←Hc.out];exact Hh7.out,hb26.setCell (p:=⟨w2.heap.size,3,none⟩) zjn _⟩
     case measure=>decide
   ·have ik:=at3
    simp only[row3] at ik
    obtain rfl:u6=.slice (some ⟨b,o+40,none⟩) 18 (c-40):=hrest
    have c6:wr.cell? ⟨w2.heap.size,4,none⟩=some (.int .i64 0):=kd 4
    clear kd
    cases hp:qdb 8 (qcc l 3)
    ·have hno:rdF (qa9 (nm l)) 3 (qcc l 3)=none:=by rw[htab];exact hp
     have Hx:=hid (H3.out (qb5 (k:=3) hno 5 (by omega)))
     have Hp:=hid fun w' r=>qh9 3 w.heap.size (some ⟨b,o+40,none⟩) (c-40) (qcc l 3) w' r (by show 8≤_;omega) hp
     clear hno hp
     go_wp2_with (first|(go_at_call 143;refine (qa3 _ _ _ _ (nm l) _).mono ?_;rintro e w6 ⟨rfl,hb6⟩;rw[htab];have hb26:=(hbel.alloc hbel.size _).trans (hb6.mono (by simp;omega));have hw6:=hb6.size;have kf:=qa5 (B:=wr.heap.size) hb6 (by simp);have k0:=qa5 (B:=w.heap.size) hb6 (by simp;omega);have z0:=qah (B:=w.heap.size) hb6 (by simp;omega);have k1:=qa5 (B:=w2.heap.size) hb6 (by simp;omega);have z1:=qah (B:=w2.heap.size) hb6 (by simp;omega);have Hr6:=hid (qbn (Hrr.out.below (((Below.refl w.heap.size wr).alloc (Nat.le_of_lt hB0r) _).trans (hb6.mono (by simp;omega)))) h 3 (by omega)))|(go_at_call 145;refine (Hp.out _ Hr6.out).mono ?_;rintro e w' ⟨rfl,rfl⟩))
     have hh6:w6.heap[w.heap.size]?=some (.cells #[.string ⟨#[]⟩,.int .i64 0,.int .i64 0,.int .i64 0,.int .i64 0,.int .i64 0] 105 (0,0)):=by rw[hb26.block _ hB0];exact Hh0.out
     have hl:=qc2 _ _ _ (six w6 w.heap.size _ 105 hh6 rfl (.string ⟨#[]⟩) (.int .i64 0) (.int .i64 0) (.int .i64 0) (.int .i64 0) (.int .i64 0)) rfl
     exact bodyPost_ret (v:=.tuple #[.agg #[.string ⟨#[]⟩,.int .i64 0,.int .i64 0,.int .i64 0,.int .i64 0,.int .i64 0],.int .i64 3]) (by simp[results,Tryz.results103,asAddr,hl]) rfl (Hx.out _ (qbk (Hb02.out.trans (hb26.mono (by omega))) zjn _ _ _ _ _ _))
    ·rename_i x
     have hye:rdF (qa9 (nm l)) 3 (qcc l 3)=some x:=by rw[htab];exact hp
     have Hn:=hid (qbm Hok.out hye)
     have Hc:=hid (qds (by omega) hye)
     have Hp:=hid fun w' r=>qez 3 w.heap.size (some ⟨b,o+40,none⟩) (c-40) (qcc l 3) x w' r (by show 8≤_;omega) hp
     clear hye hp
     go_wp2_with (first|(go_at_call 143;refine (qa3 _ _ _ _ (nm l) _).mono ?_;rintro e w6 ⟨rfl,hb6⟩;rw[htab];have hb26:=(hbel.alloc hbel.size _).trans (hb6.mono (by simp;omega));have hw6:=hb6.size;have kf:=qa5 (B:=wr.heap.size) hb6 (by simp);have k0:=qa5 (B:=w.heap.size) hb6 (by simp;omega);have z0:=qah (B:=w.heap.size) hb6 (by simp;omega);have k1:=qa5 (B:=w2.heap.size) hb6 (by simp;omega);have z1:=qah (B:=w2.heap.size) hb6 (by simp;omega);have Hr6:=hid (qbn (Hrr.out.below (((Below.refl w.heap.size wr).alloc (Nat.le_of_lt hB0r) _).trans (hb6.mono (by simp;omega)))) h 3 (by omega)))|(go_at_call 187;refine (var4 _ _).mono ?_;rintro e w' ⟨rfl,rfl⟩)|(go_at_call 145;refine (Hp.out _ Hr6.out).mono ?_;rintro e w' ⟨rfl,rfl⟩))
     have Hh6:=hid ((hb6.block _ (by simp;omega)).trans ((Below.heap_alloc wr _ _ hB1).trans HhB.out))
     have Hh7:=hid (heap_setCell_same _ _ 4 _ _ (.int .i64 (x:Int)) Hh6.out)
     go_roundw
     case rel=>exact⟨4,rfl,by omega,qk3 (by simp[off,wd]<;>omega) (by simp[off,wd]) (by simp[off,wd]<;>omega),Hn.out,by rw[←Hc.out];exact Hh7.out,hb26.setCell (p:=⟨w2.heap.size,4,none⟩) zjn _⟩
     case measure=>decide
   ·have ik:=at4
    simp only[qur] at ik
    obtain rfl:u6=.slice (some ⟨b,o+48,none⟩) 10 (c-48):=hrest
    have c6:wr.cell? ⟨w2.heap.size,5,none⟩=some (.int .i64 0):=kd 5
    clear kd
    cases hp:qdb 10 (qcc l 4)
    ·have hno:rdF (qa9 (nm l)) 4 (qcc l 4)=none:=by rw[htab];exact hp
     have Hx:=hid (H3.out (qb5 (k:=4) hno 5 (by omega)))
     have Hp:=hid fun w' r=>qh9 4 w.heap.size (some ⟨b,o+48,none⟩) (c-48) (qcc l 4) w' r (by show 10≤_;omega) hp
     clear hno hp
     go_wp2_with (first|(go_at_call 143;refine (qa3 _ _ _ _ (nm l) _).mono ?_;rintro e w6 ⟨rfl,hb6⟩;rw[htab];have hb26:=(hbel.alloc hbel.size _).trans (hb6.mono (by simp;omega));have hw6:=hb6.size;have kf:=qa5 (B:=wr.heap.size) hb6 (by simp);have k0:=qa5 (B:=w.heap.size) hb6 (by simp;omega);have z0:=qah (B:=w.heap.size) hb6 (by simp;omega);have k1:=qa5 (B:=w2.heap.size) hb6 (by simp;omega);have z1:=qah (B:=w2.heap.size) hb6 (by simp;omega);have Hr6:=hid (qbn (Hrr.out.below (((Below.refl w.heap.size wr).alloc (Nat.le_of_lt hB0r) _).trans (hb6.mono (by simp;omega)))) h 4 (by omega)))|(go_at_call 145;refine (Hp.out _ Hr6.out).mono ?_;rintro e w' ⟨rfl,rfl⟩))
     have hh6:w6.heap[w.heap.size]?=some (.cells #[.string ⟨#[]⟩,.int .i64 0,.int .i64 0,.int .i64 0,.int .i64 0,.int .i64 0] 105 (0,0)):=by rw[hb26.block _ hB0];exact Hh0.out
     have hl:=qc2 _ _ _ (six w6 w.heap.size _ 105 hh6 rfl (.string ⟨#[]⟩) (.int .i64 0) (.int .i64 0) (.int .i64 0) (.int .i64 0) (.int .i64 0)) rfl
     exact bodyPost_ret (v:=.tuple #[.agg #[.string ⟨#[]⟩,.int .i64 0,.int .i64 0,.int .i64 0,.int .i64 0,.int .i64 0],.int .i64 3]) (by simp[results,Tryz.results103,asAddr,hl]) rfl (Hx.out _ (qbk (Hb02.out.trans (hb26.mono (by omega))) zjn _ _ _ _ _ _))
    ·rename_i x
     have hye:rdF (qa9 (nm l)) 4 (qcc l 4)=some x:=by rw[htab];exact hp
     have Hn:=hid (qbm Hok.out hye)
     have Hc:=hid (qds (by omega) hye)
     have Hp:=hid fun w' r=>qez 4 w.heap.size (some ⟨b,o+48,none⟩) (c-48) (qcc l 4) x w' r (by show 10≤_;omega) hp
     clear hye hp
     go_wp2_with (first|(go_at_call 143;refine (qa3 _ _ _ _ (nm l) _).mono ?_;rintro e w6 ⟨rfl,hb6⟩;rw[htab];have hb26:=(hbel.alloc hbel.size _).trans (hb6.mono (by simp;omega));have hw6:=hb6.size;have kf:=qa5 (B:=wr.heap.size) hb6 (by simp);have k0:=qa5 (B:=w.heap.size) hb6 (by simp;omega);have z0:=qah (B:=w.heap.size) hb6 (by simp;omega);have k1:=qa5 (B:=w2.heap.size) hb6 (by simp;omega);have z1:=qah (B:=w2.heap.size) hb6 (by simp;omega);have Hr6:=hid (qbn (Hrr.out.below (((Below.refl w.heap.size wr).alloc (Nat.le_of_lt hB0r) _).trans (hb6.mono (by simp;omega)))) h 4 (by omega)))|(go_at_call 188;refine (var5 _ _).mono ?_;rintro e w' ⟨rfl,rfl⟩)|(go_at_call 145;refine (Hp.out _ Hr6.out).mono ?_;rintro e w' ⟨rfl,rfl⟩))
     have Hh6:=hid ((hb6.block _ (by simp;omega)).trans ((Below.heap_alloc wr _ _ hB1).trans HhB.out))
     have Hh7:=hid (heap_setCell_same _ _ 5 _ _ (.int .i64 (x:Int)) Hh6.out)
     go_roundw
     case rel=>exact⟨5,rfl,by omega,qk3 (by simp[off,wd]<;>omega) (by simp[off,wd]) (by simp[off,wd]<;>omega),Hn.out,by rw[←Hc.out];exact Hh7.out,hb26.setCell (p:=⟨w2.heap.size,5,none⟩) zjn _⟩
     case measure=>decide
  ·obtain rfl:k=5:=by omega
   have d0:wr.cell? ⟨w2.heap.size,0,none⟩=some (.string (nm l)):=kd 0
   have d1:wr.cell? ⟨w2.heap.size,1,none⟩=some (.int .i64 (val l 5 0)):=kd 1
   have d2:wr.cell? ⟨w2.heap.size,2,none⟩=some (.int .i64 (val l 5 1)):=kd 2
   have d3:wr.cell? ⟨w2.heap.size,3,none⟩=some (.int .i64 (val l 5 2)):=kd 3
   have d4:wr.cell? ⟨w2.heap.size,4,none⟩=some (.int .i64 (val l 5 3)):=kd 4
   have d5:wr.cell? ⟨w2.heap.size,5,none⟩=some (.int .i64 (val l 5 4)):=kd 5
   have Hx:=hid (H0.out Hok.out)
   clear kd
   go_wp2_with fail
   have hl:=qc2 _ _ _ (six wr w.heap.size _ 105 Hhr.out rfl (.string (nm l)) (.int .i64 (val l 5 0)) (.int .i64 (val l 5 1)) (.int .i64 (val l 5 2)) (.int .i64 (val l 5 3)) (.int .i64 (val l 5 4))) rfl
   exact bodyPost_ret (v:=.tuple #[.agg #[.string (nm l),.int .i64 (val l 5 0),.int .i64 (val l 5 1),.int .i64 (val l 5 2),.int .i64 (val l 5 3),.int .i64 (val l 5 4)],.int .i64 0]) (by simp[results,Tryz.results103,asAddr,hl]) rfl
    (Hx.out _ (qbk (Hb02.out.trans (hbel.mono (by omega))) zjn _ _ _ _ _ _))
end JH
namespace JH
open JB JT JD
theorem qd0 (K:Nat)(A:Option Addr)(n c:Nat)(l:List UInt8)(w:World)(hr:Rd w K A n l)(hK:K≤w.heap.size)(hc:n≤c):
 Calls Tryz.prog 103 #[.slice A n c] w (qac l w):=by
 by_cases h:n<60
 ·exact qpn K A n c l w hr h
 ·obtain⟨b,o,rfl,_⟩:=qk9 hr (by omega)
  have h60:60≤n:=by omega
  by_cases hx:(l.drop 58).take 2=[96,10]
  ·cases h6:qad (nm l)
   ·exact decode_6 K b o n c l w hr hK h60 hc hx h6
   ·cases htab:qa9 (nm l)
    ·exact qwk K b o n c l w hr hK h60 hc hx h6 htab
    ·exact qwj K b o n c l w hr hK h60 hc hx h6 htab
  ·exact decode_4 K b o n c l w hr hK h60 hc hx
end JH
end Go.Proofs.YtlmolmohhpdhdaaGreatDoor
