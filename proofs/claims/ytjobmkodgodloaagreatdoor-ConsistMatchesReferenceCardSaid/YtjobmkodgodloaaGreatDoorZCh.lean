/-
  ConsistMatchesReference, from the program's contracts: for every byte slice, the view, the offset and the error are those of the reference implementation, and so are the actual index and the check of what is parsed.
-/
import Derived.Test.YtjobmkodgodloaaGreatDoorZCg
import Derived.BigQuiet
namespace Go.Proofs.YtjobmkodgodloaaGreatDoor.Con
open Go.RowKit Go.Proofs Go.Proofs.YtjobmkodgodloaaGreatDoor.Byt
open Go.Proofs.YtjobmkodgodloaaGreatDoor.Lnm (Gnd)
open Go.Proofs.YtjobmkodgodloaaGreatDoor.Arp (Mem St Pm ar Arc RdM OwnM mcells)

set_option linter.unusedSimpArgs false in
set_option maxRecDepth 100000 in
set_option maxHeartbeats 16000000 in
theorem match9 (P : PC9) (w : World) (hG : Gnd w) (A : Option Addr) (n c : Nat) (l : List UInt8) (hr : Byt.Rd w w.heap.size A n l) (hnc : n ≤ c) (hcm : c ≤ maxLen) :
   Calls Tryz.prog 3 #[.slice A n c] w fun e w' => e = .returned (.bool true) ∧ Below w.heap.size w w' := by
 have HP := hid P
 have Hr := hid hr
 have Hg := hid hG
 clear hr hG
 go_enter Tryz.func3, Tryz.ntmps3
 go_wp2_with fail
 refine (awake9_any HP.out w Hg.out).mono ?_
 rintro e w1 ⟨rfl, B1⟩
 by_cases hn : 20000 < n
 · have hni : (20000 : Int) < (n : Int) := by omega
   go_wp2_with fail
   refine (awake9_any HP.out w1 (Hg.out.on B1)).mono ?_
   rintro e w2 ⟨rfl, hb2⟩
   go_wp2_with fail
   go_ret
   exact ⟨rfl, B1.trans (hb2.mono B1.size)⟩
 have hni : ¬ (20000 : Int) < (n : Int) := by omega
 obtain ⟨s, k, z, ho⟩ : ∃ s k z, opn l = (s, k, z) := ⟨_, _, _, rfl⟩
 have HO := hid ho
 clear ho
 go_wp2_with fail
 refine (HP.out.open_ A n c l w1 (Hg.out.on B1) ((Hr.out.below B1).more B1.size) hnc hcm (by omega)).mono ?_
 rintro e w2 hO
 obtain ⟨V1, rfl, hi1, rV1, _, _, hb2⟩ := hO.at HO.out
 have HI1 := hid hi1
 have HV1 := hid rV1
 obtain ⟨p1, p2, p3, p4, p5, p6, p7, p8⟩ := V1
 simp only [Vw.val]
 have hbA := (Below.refl w2.heap.size w2).alloc (Nat.le_refl _) (.cells #[.slice p1 p2 p3, .slice p5 p6 p7] 27)
 have hrA := heap_alloc_new w2 (.cells #[.slice p1 p2 p3, .slice p5 p6 p7] 27)
 have hsA := World.size_alloc w2 (.cells #[.slice p1 p2 p3, .slice p5 p6 p7] 27)
 have hb13 := hb2.trans (hbA.mono hb2.size)
 clear hO hi1 rV1 hb2
 go_upto_region 4 with fail
 generalize w2.alloc (.cells #[.slice p1 p2 p3, .slice p5 p6 p7] 27) = w3 at *
 have B3 := B1.trans (hb13.mono B1.size)
 have HV3 := hid ((HV1.out.below hbA).more hbA.size)
 have hg2 : w2.heap.size < w3.heap.size := by omega
 obtain ⟨g, hg⟩ : ∃ g, w2.heap.size = g := ⟨_, rfl⟩
 rw [hg] at hrA hg2 ⊢
 have HRA := hid hrA
 clear hbA hrA hsA hb13 HV1 B1 hg
 go_wp2_with fail
 refine (ropen_any A n c l w3 ((Hr.out.below B3).more B3.size) hnc (by omega)).mono ?_
 rintro e w4 hO
 obtain ⟨V2, rfl, hi2, rV2, _, _, hb4⟩ := hO.at HO.out
 have HI2 := hid hi2
 have HV2 := hid rV2
 obtain ⟨q1, q2, q3, q4, q5, q6, q7, q8⟩ := V2
 simp only [Vw.val]
 have hbA := (Below.refl w4.heap.size w4).alloc (Nat.le_refl _) (.cells #[.slice q1 q2 q3, .slice q5 q6 q7] 31)
 have hrA := heap_alloc_new w4 (.cells #[.slice q1 q2 q3, .slice q5 q6 q7] 31)
 have hsA := World.size_alloc w4 (.cells #[.slice q1 q2 q3, .slice q5 q6 q7] 31)
 have hb35 := hb4.trans (hbA.mono hb4.size)
 clear hO hi2 rV2 hb4
 go_upto_region 5 with fail
 generalize w4.alloc (.cells #[.slice q1 q2 q3, .slice q5 q6 q7] 31) = w5 at *
 have B5 := B3.trans (hb35.mono B3.size)
 have HV5 := hid ((HV2.out.below hbA).more hbA.size)
 have HV35 := hid ((HV3.out.below hb35).more hb35.size)
 have hg5 : g < w5.heap.size := by have := hb35.size; omega
 have HRA5 := hid ((hb35.block g hg2).trans HRA.out)
 have hg4 : w4.heap.size < w5.heap.size := by omega
 obtain ⟨g', hg'⟩ : ∃ g', w4.heap.size = g' := ⟨_, rfl⟩
 rw [hg'] at hrA hg4 ⊢
 have HRB5 := hid hrA
 have HB5 := hid B5
 have hsame : Arp.sameMs p4 q4 = true := Arp.sameMs_pure (HI1.out.1.trans HI2.out.1.symm)
 have hdfs : p8 = q8 := HI1.out.2.trans HI2.out.2.symm
 have HVw := hid fun (W : World) => view_any ⟨p1, p2, p3, p4, p5, p6, p7, p8⟩ W
 have HSm := hid fun (W : World) (hW : Below w5.heap.size w5 W) => rsameV_any _ _ w5.heap.size W (HV35.out.below hW) (HV5.out.below hW) hW.size hsame hdfs
 simp only [Vw.val] at HVw HSm
 have hbd : Below w5.heap.size w5 w5.drew := (Below.refl _ _).drew
 have hkk : ((k : Int) != (k : Int)) = false := by simp
 have hzz : (z != z) = false := by simp
 clear hbA hrA hsA hb35 B3 B5 HV2 HV3 HRA hsame hdfs HV35 HV5 HI1 HI2 hg' hg2
 have hS : (fun W' => W'.cell? ⟨g, 0, none⟩ = some (.slice p1 p2 p3) ∧ W'.cell? ⟨g, 1, none⟩ = some (.slice p5 p6 p7) ∧ W'.cell? ⟨g', 0, none⟩ = some (.slice q1 q2 q3) ∧ W'.cell? ⟨g', 1, none⟩ = some (.slice q5 q6 q7)) w5.drew := ⟨cell_of_row _ g 0 _ _ _ ((hbd.block g hg5).trans HRA5.out), cell_of_row _ g 1 _ _ _ ((hbd.block g hg5).trans HRA5.out), cell_of_row _ g' 0 _ _ _ ((hbd.block g' hg4).trans HRB5.out), cell_of_row _ g' 1 _ _ _ ((hbd.block g' hg4).trans HRB5.out)⟩
 refine Ord.Till.begin (fun W' => W'.cell? ⟨g, 0, none⟩ = some (.slice p1 p2 p3) ∧ W'.cell? ⟨g, 1, none⟩ = some (.slice p5 p6 p7) ∧ W'.cell? ⟨g', 0, none⟩ = some (.slice q1 q2 q3) ∧ W'.cell? ⟨g', 1, none⟩ = some (.slice q5 q6 q7)) 60 (by kernel_rfl) ?_
 generalize w5.drew = wd at *
 refine Ord.Till.take' 0 (some 33) (oi := _) (x := ?_) rfl rfl (by kernel_rfl) (by kernel_rfl) (by kernel_rfl) (by kernel_rfl) (fun _ _ _ h => h) (by kernel_rfl) ?_ hS ?_
 rotate_left 1
 · intro v hv; obtain ⟨z0, z1, z2, z3⟩ := hv; go_simp; first | done | with_reducible rfl
 try simp only [List.getElem_toArray, List.getElem_cons_zero, List.getElem_cons_succ, Act.put, List.setIfInBounds_toArray, List.set_cons_zero, List.set_cons_succ]
 refine Ord.Till.take' 2 (some 35) (oi := _) (x := ?_) rfl rfl (by kernel_rfl) (by kernel_rfl) (by kernel_rfl) (by kernel_rfl) (fun _ _ _ h => h) (by kernel_rfl) ?_ hS ?_
 rotate_left 1
 · intro v hv; obtain ⟨z0, z1, z2, z3⟩ := hv; go_simp; first | done | with_reducible rfl
 try simp only [List.getElem_toArray, List.getElem_cons_zero, List.getElem_cons_succ, Act.put, List.setIfInBounds_toArray, List.set_cons_zero, List.set_cons_succ]
 refine Ord.Till.step 1 (by kernel_rfl) rfl (fun C hC => ?_)
 go_simp
 go_at_call 12
 refine (HVw.out _).mono ?_
 rintro e w6 ⟨rfl, hb6⟩
 have hb56 := hbd.trans (hb6.mono hbd.size)
 clear hS hb6 hbd
 have hS : (fun W' => W'.cell? ⟨g, 0, none⟩ = some (.slice p1 p2 p3) ∧ W'.cell? ⟨g, 1, none⟩ = some (.slice p5 p6 p7) ∧ W'.cell? ⟨g', 0, none⟩ = some (.slice q1 q2 q3) ∧ W'.cell? ⟨g', 1, none⟩ = some (.slice q5 q6 q7)) w6 := ⟨cell_of_row _ g 0 _ _ _ ((hb56.block g hg5).trans HRA5.out), cell_of_row _ g 1 _ _ _ ((hb56.block g hg5).trans HRA5.out), cell_of_row _ g' 0 _ _ _ ((hb56.block g' hg4).trans HRB5.out), cell_of_row _ g' 1 _ _ _ ((hb56.block g' hg4).trans HRB5.out)⟩
 go_wp2_with fail
 refine hC.out _ _ (fun _ => hS) ?_
 clear hC C
 try simp only [List.getElem_toArray, List.getElem_cons_zero, List.getElem_cons_succ, Act.put, List.setIfInBounds_toArray, List.set_cons_zero, List.set_cons_succ]
 refine Ord.Till.step 3 (by kernel_rfl) rfl (fun C hC => ?_)
 go_simp
 go_at_call 11
 refine (HSm.out _ hb56).mono ?_
 rintro e w7 ⟨rfl, hb7⟩
 have hb57 := hb56.trans (hb7.mono hb56.size)
 clear hS hb7 hb56
 have hS : (fun W' => W'.cell? ⟨g, 0, none⟩ = some (.slice p1 p2 p3) ∧ W'.cell? ⟨g, 1, none⟩ = some (.slice p5 p6 p7) ∧ W'.cell? ⟨g', 0, none⟩ = some (.slice q1 q2 q3) ∧ W'.cell? ⟨g', 1, none⟩ = some (.slice q5 q6 q7)) w7 := ⟨cell_of_row _ g 0 _ _ _ ((hb57.block g hg5).trans HRA5.out), cell_of_row _ g 1 _ _ _ ((hb57.block g hg5).trans HRA5.out), cell_of_row _ g' 0 _ _ _ ((hb57.block g' hg4).trans HRB5.out), cell_of_row _ g' 1 _ _ _ ((hb57.block g' hg4).trans HRB5.out)⟩
 go_wp2_with fail
 refine hC.out _ _ (fun _ => hS) ?_
 clear hC C
 try simp only [List.getElem_toArray, List.getElem_cons_zero, List.getElem_cons_succ, Act.put, List.setIfInBounds_toArray, List.set_cons_zero, List.set_cons_succ]
 refine Ord.Till.take' 4 (some 37) (oi := _) (x := ?_) rfl rfl (by kernel_rfl) (by kernel_rfl) (by kernel_rfl) (by kernel_rfl) (fun _ _ _ h => h) (by kernel_rfl) ?_ hS ?_
 rotate_left 1
 · intro v hv; obtain ⟨z0, z1, z2, z3⟩ := hv; go_simp; first | done | with_reducible rfl
 try simp only [List.getElem_toArray, List.getElem_cons_zero, List.getElem_cons_succ, Act.put, List.setIfInBounds_toArray, List.set_cons_zero, List.set_cons_succ]
 refine Ord.Till.take' 5 (some 38) (oi := _) (x := ?_) rfl rfl (by kernel_rfl) (by kernel_rfl) (by kernel_rfl) (by kernel_rfl) (fun _ _ _ h => h) (by kernel_rfl) ?_ hS ?_
 rotate_left 1
 · intro v hv; obtain ⟨z0, z1, z2, z3⟩ := hv; go_simp; first | done | with_reducible rfl
 try simp only [List.getElem_toArray, List.getElem_cons_zero, List.getElem_cons_succ, Act.put, List.setIfInBounds_toArray, List.set_cons_zero, List.set_cons_succ]
 refine Ord.Till.take' 6 (some 39) (oi := _) (x := ?_) rfl rfl (by kernel_rfl) (by kernel_rfl) (by kernel_rfl) (by kernel_rfl) (fun _ _ _ h => h) (by kernel_rfl) ?_ hS ?_
 rotate_left 1
 · intro v hv; obtain ⟨z0, z1, z2, z3⟩ := hv; go_simp; first | done | with_reducible rfl
 try simp only [List.getElem_toArray, List.getElem_cons_zero, List.getElem_cons_succ, Act.put, List.setIfInBounds_toArray, List.set_cons_zero, List.set_cons_succ]
 refine Ord.Till.take' 7 (some 40) (oi := _) (x := ?_) rfl rfl (by kernel_rfl) (by kernel_rfl) (by kernel_rfl) (by kernel_rfl) (fun _ _ _ h => h) (by kernel_rfl) ?_ hS ?_
 rotate_left 1
 · intro v hv; obtain ⟨z0, z1, z2, z3⟩ := hv; go_simp; first | done | with_reducible rfl
 try simp only [List.getElem_toArray, List.getElem_cons_zero, List.getElem_cons_succ, Act.put, List.setIfInBounds_toArray, List.set_cons_zero, List.set_cons_succ]
 refine Ord.Till.take' 8 (some 41) (oi := _) (x := ?_) rfl rfl (by kernel_rfl) (by kernel_rfl) (by kernel_rfl) (by kernel_rfl) (fun _ _ _ h => h) (by kernel_rfl) ?_ hS ?_
 rotate_left 1
 · intro v hv; obtain ⟨z0, z1, z2, z3⟩ := hv; go_simp; first | done | with_reducible rfl
 try simp only [List.getElem_toArray, List.getElem_cons_zero, List.getElem_cons_succ, Act.put, List.setIfInBounds_toArray, List.set_cons_zero, List.set_cons_succ]
 refine Ord.Till.take' 9 (some 42) (oi := _) (x := ?_) rfl rfl (by kernel_rfl) (by kernel_rfl) (by kernel_rfl) (by kernel_rfl) (fun _ _ _ h => h) (by kernel_rfl) ?_ hS ?_
 rotate_left 1
 · intro v hv; obtain ⟨z0, z1, z2, z3⟩ := hv; go_simp; first | done | with_reducible rfl
 try simp only [List.getElem_toArray, List.getElem_cons_zero, List.getElem_cons_succ, Act.put, List.setIfInBounds_toArray, List.set_cons_zero, List.set_cons_succ]
 refine Ord.Till.take' 10 (some 43) (oi := _) (x := ?_) rfl rfl (by kernel_rfl) (by kernel_rfl) (by kernel_rfl) (by kernel_rfl) (fun _ _ _ h => h) (by kernel_rfl) ?_ hS ?_
 rotate_left 1
 · intro v hv; obtain ⟨z0, z1, z2, z3⟩ := hv; go_simp; first | done | with_reducible rfl
 try simp only [List.getElem_toArray, List.getElem_cons_zero, List.getElem_cons_succ, Act.put, List.setIfInBounds_toArray, List.set_cons_zero, List.set_cons_succ]
 refine Ord.Till.take' 11 (some 44) (oi := _) (x := ?_) rfl rfl (by kernel_rfl) (by kernel_rfl) (by kernel_rfl) (by kernel_rfl) (fun _ _ _ h => h) (by kernel_rfl) ?_ hS ?_
 rotate_left 1
 · intro v hv; obtain ⟨z0, z1, z2, z3⟩ := hv; go_simp; first | done | with_reducible rfl
 try simp only [List.getElem_toArray, List.getElem_cons_zero, List.getElem_cons_succ, Act.put, List.setIfInBounds_toArray, List.set_cons_zero, List.set_cons_succ]
 refine Ord.Till.take' 12 (some 45) (oi := _) (x := ?_) rfl rfl (by kernel_rfl) (by kernel_rfl) (by kernel_rfl) (by kernel_rfl) (fun _ _ _ h => h) (by kernel_rfl) ?_ hS ?_
 rotate_left 1
 · intro v hv; obtain ⟨z0, z1, z2, z3⟩ := hv; go_simp; first | done | with_reducible rfl
 try simp only [List.getElem_toArray, List.getElem_cons_zero, List.getElem_cons_succ, Act.put, List.setIfInBounds_toArray, List.set_cons_zero, List.set_cons_succ]
 refine Ord.Till.take' 13 (some 46) (oi := _) (x := ?_) rfl rfl (by kernel_rfl) (by kernel_rfl) (by kernel_rfl) (by kernel_rfl) (fun _ _ _ h => h) (by kernel_rfl) ?_ hS ?_
 rotate_left 1
 · intro v hv; obtain ⟨z0, z1, z2, z3⟩ := hv; go_simp; first | done | with_reducible rfl
 try simp only [List.getElem_toArray, List.getElem_cons_zero, List.getElem_cons_succ, Act.put, List.setIfInBounds_toArray, List.set_cons_zero, List.set_cons_succ]
 refine Ord.Till.take' 14 (some 47) (oi := _) (x := ?_) rfl rfl (by kernel_rfl) (by kernel_rfl) (by kernel_rfl) (by kernel_rfl) (fun _ _ _ h => h) (by kernel_rfl) ?_ hS ?_
 rotate_left 1
 · intro v hv; obtain ⟨z0, z1, z2, z3⟩ := hv; go_simp; first | done | with_reducible rfl
 try simp only [List.getElem_toArray, List.getElem_cons_zero, List.getElem_cons_succ, Act.put, List.setIfInBounds_toArray, List.set_cons_zero, List.set_cons_succ]
 refine Ord.Till.done (by kernel_rfl) ?_ _
 clear hS
 have B7 := HB5.out.trans (hb57.mono HB5.out.size)
 clear HVw HSm HB5 hb57 HRA5 HRB5 hg4 hg5
 obtain ⟨s', k', z', har⟩ : ∃ s k z, ar l = (s, k, z) := ⟨_, _, _, rfl⟩
 have HAR := hid har
 have Hll : Hid (l.length ≤ 100000) := hid (by have := Hr.out.1; omega)
 clear har
 go_wp2_with fail
 refine (Arp.parse_at A n c l w7 (Hg.out.on B7) ((Hr.out.below B7).more B7.size) hnc (by omega) s' k' z' HAR.out).mono ?_
 rintro e w8 ⟨X, rfl, hx, ho, hb8⟩
 have HX := hid hx
 have HOA := hid ho
 obtain ⟨xh, mp, mn, mc, xm, ap, an, ac, xms, op, on, oc, xos⟩ := X
 simp only [Arp.Arc.val]
 have hbA := (Below.refl w8.heap.size w8).alloc (Nat.le_refl _) (.cells #[.bool xh, .slice mp mn mc, .slice ap an ac, .slice op on oc] 38)
 have hrA := heap_alloc_new w8 (.cells #[.bool xh, .slice mp mn mc, .slice ap an ac, .slice op on oc] 38)
 have hsA := World.size_alloc w8 (.cells #[.bool xh, .slice mp mn mc, .slice ap an ac, .slice op on oc] 38)
 have hb79 := hb8.trans (hbA.mono hb8.size)
 have B9 := B7.trans (hb79.mono B7.size)
 clear hx ho hb8 hb79 B7
 go_upto_region 8 with fail
 generalize w8.alloc (.cells #[.bool xh, .slice mp mn mc, .slice ap an ac, .slice op on oc] 38) = w9 at *
 obtain ⟨h, hh⟩ : ∃ h, w8.heap.size = h := ⟨_, rfl⟩
 rw [hh] at hrA hsA ⊢
 have hh9 : h < w9.heap.size := by omega
 clear hsA
 have d0 := cell_of_row _ h 0 _ _ _ hrA
 have d1 := cell_of_row _ h 1 _ _ _ hrA
 have d2 := cell_of_row _ h 2 _ _ _ hrA
 have d3 := cell_of_row _ h 3 _ _ _ hrA
 by_cases hz0 : z' = 0
 · have hzb : (z' != 0) = false := by rw [hz0]; rfl
   have HA0 : Hid (ar l = (s', k', 0)) := hid (by rw [← hz0]; exact HAR.out)
   have HAA := hid ((argA_of HOA.out HX.out HA0.out Hll.out).on hbA)
   have hlen : (an : Int) = (on : Int) := by
     have h1 := HAA.out.len
     have h2 := HAA.out.rd.2.1.1
     have h3 := HAA.out.rd.2.2.1.1
     simp only at h1 h2 h3
     omega
   have hlb : ((an : Int) != (on : Int)) = false := by rw [hlen]; simp
   clear hz0 hlen
   have hbC := (Below.refl w9.heap.size w9).alloc (Nat.le_refl _) (.cells #[.bool xh, .slice mp mn mc, .slice ap an ac, .slice op on oc] 41)
   have hrC := heap_alloc_new w9 (.cells #[.bool xh, .slice mp mn mc, .slice ap an ac, .slice op on oc] 41)
   have hsC := World.size_alloc w9 (.cells #[.bool xh, .slice mp mn mc, .slice ap an ac, .slice op on oc] 41)
   go_upto_region 11 with fail
   generalize w9.alloc (.cells #[.bool xh, .slice mp mn mc, .slice ap an ac, .slice op on oc] 41) = wa at *
   have HBa := hid (B9.trans (hbC.mono B9.size))
   have HAa := hid (HAA.out.on hbC)
   have hhlt : h < wa.heap.size := by omega
   have HRa := hid ((hbC.block h (by omega)).trans hrA)
   obtain ⟨h', hh'⟩ : ∃ h', w9.heap.size = h' := ⟨_, rfl⟩
   rw [hh'] at hrC hsC ⊢
   have hhlt' : h' < wa.heap.size := by omega
   have HRc := hid hrC
   have HXe := hid (aentsX_is HX.out)
   have HI := hid fun (W : World) (hW : Below wa.heap.size wa W) => HP.out.index ⟨xh, mp, mn, mc, xm, ap, an, ac, xms, op, on, oc, xos⟩ w8.heap.size W (HAa.out.on hW)
   have HJ := hid fun (W : World) (hW : Below wa.heap.size wa W) => rindex_any ⟨xh, mp, mn, mc, xm, ap, an, ac, xms, op, on, oc, xos⟩ w8.heap.size W (HAa.out.on hW)
   have HK := hid fun (W : World) (hW : Below wa.heap.size wa W) => HP.out.check ⟨xh, mp, mn, mc, xm, ap, an, ac, xms, op, on, oc, xos⟩ w8.heap.size W s' (HAa.out.on hW) HX.out
   have HL := hid fun (W : World) (hW : Below wa.heap.size wa W) => rcheck_any ⟨xh, mp, mn, mc, xm, ap, an, ac, xms, op, on, oc, xos⟩ w8.heap.size W (HAa.out.on hW) s' HX.out
   have HEn := hid HAa.out.ents
   simp only [Arp.Arc.val] at HI HJ HK HL
   have hbd : Below wa.heap.size wa wa.drew := (Below.refl _ _).drew
   generalize aentsX ⟨xh, mp, mn, mc, xm, ap, an, ac, xms, op, on, oc, xos⟩ = es at *
   generalize chk s' = cz at *
   have hcz : (cz == cz) = true := by simp
   clear B9 hbA hrA hbC hrC hsC d0 d1 d2 d3 HAA HOA hh hh' HXe
   have hS : (fun W' => W'.cell? ⟨h, 0, none⟩ = some (.bool xh) ∧ W'.cell? ⟨h, 1, none⟩ = some (.slice mp mn mc) ∧ W'.cell? ⟨h, 2, none⟩ = some (.slice ap an ac) ∧ W'.cell? ⟨h, 3, none⟩ = some (.slice op on oc) ∧ W'.cell? ⟨h', 0, none⟩ = some (.bool xh) ∧ W'.cell? ⟨h', 1, none⟩ = some (.slice mp mn mc) ∧ W'.cell? ⟨h', 2, none⟩ = some (.slice ap an ac) ∧ W'.cell? ⟨h', 3, none⟩ = some (.slice op on oc)) wa.drew := ⟨cell_of_row _ h 0 _ _ _ ((hbd.block h hhlt).trans HRa.out), cell_of_row _ h 1 _ _ _ ((hbd.block h hhlt).trans HRa.out), cell_of_row _ h 2 _ _ _ ((hbd.block h hhlt).trans HRa.out), cell_of_row _ h 3 _ _ _ ((hbd.block h hhlt).trans HRa.out), cell_of_row _ h' 0 _ _ _ ((hbd.block h' hhlt').trans HRc.out), cell_of_row _ h' 1 _ _ _ ((hbd.block h' hhlt').trans HRc.out), cell_of_row _ h' 2 _ _ _ ((hbd.block h' hhlt').trans HRc.out), cell_of_row _ h' 3 _ _ _ ((hbd.block h' hhlt').trans HRc.out)⟩
   refine Ord.Till.begin (fun W' => W'.cell? ⟨h, 0, none⟩ = some (.bool xh) ∧ W'.cell? ⟨h, 1, none⟩ = some (.slice mp mn mc) ∧ W'.cell? ⟨h, 2, none⟩ = some (.slice ap an ac) ∧ W'.cell? ⟨h, 3, none⟩ = some (.slice op on oc) ∧ W'.cell? ⟨h', 0, none⟩ = some (.bool xh) ∧ W'.cell? ⟨h', 1, none⟩ = some (.slice mp mn mc) ∧ W'.cell? ⟨h', 2, none⟩ = some (.slice ap an ac) ∧ W'.cell? ⟨h', 3, none⟩ = some (.slice op on oc)) 60 (by kernel_rfl) ?_
   generalize wa.drew = wd at *
   refine Ord.Till.take' 0 (some 76) (oi := _) (x := ?_) rfl rfl (by kernel_rfl) (by kernel_rfl) (by kernel_rfl) (by kernel_rfl) (fun _ _ _ h => h) (by kernel_rfl) ?_ hS ?_
   rotate_left 1
   · intro v hv; obtain ⟨z0, z1, z2, z3, z4, z5, z6, z7⟩ := hv; go_simp; first | done | with_reducible rfl
   try simp only [List.getElem_toArray, List.getElem_cons_zero, List.getElem_cons_succ, Act.put, List.setIfInBounds_toArray, List.set_cons_zero, List.set_cons_succ]
   refine Ord.Till.take' 2 (some 78) (oi := _) (x := ?_) rfl rfl (by kernel_rfl) (by kernel_rfl) (by kernel_rfl) (by kernel_rfl) (fun _ _ _ h => h) (by kernel_rfl) ?_ hS ?_
   rotate_left 1
   · intro v hv; obtain ⟨z0, z1, z2, z3, z4, z5, z6, z7⟩ := hv; go_simp; first | done | with_reducible rfl
   try simp only [List.getElem_toArray, List.getElem_cons_zero, List.getElem_cons_succ, Act.put, List.setIfInBounds_toArray, List.set_cons_zero, List.set_cons_succ]
   refine Ord.Till.step 1 (by kernel_rfl) rfl (fun C hC => ?_)
   go_simp
   go_at_call 15
   refine (HI.out _ hbd).mono ?_
   rintro e wb hE
   obtain ⟨Ab, nb, cb, rfl, hnb, rb, _, _, hbb⟩ := hE.reads
   have hnbs : nb ≤ 140737488355328 := by rw [hnb]; have := HEn.out; omega
   have hbab := hbd.trans (hbb.mono hbd.size)
   clear hS hE hbb hbd hnb
   have hS : (fun W' => W'.cell? ⟨h, 0, none⟩ = some (.bool xh) ∧ W'.cell? ⟨h, 1, none⟩ = some (.slice mp mn mc) ∧ W'.cell? ⟨h, 2, none⟩ = some (.slice ap an ac) ∧ W'.cell? ⟨h, 3, none⟩ = some (.slice op on oc) ∧ W'.cell? ⟨h', 0, none⟩ = some (.bool xh) ∧ W'.cell? ⟨h', 1, none⟩ = some (.slice mp mn mc) ∧ W'.cell? ⟨h', 2, none⟩ = some (.slice ap an ac) ∧ W'.cell? ⟨h', 3, none⟩ = some (.slice op on oc)) wb := ⟨cell_of_row _ h 0 _ _ _ ((hbab.block h hhlt).trans HRa.out), cell_of_row _ h 1 _ _ _ ((hbab.block h hhlt).trans HRa.out), cell_of_row _ h 2 _ _ _ ((hbab.block h hhlt).trans HRa.out), cell_of_row _ h 3 _ _ _ ((hbab.block h hhlt).trans HRa.out), cell_of_row _ h' 0 _ _ _ ((hbab.block h' hhlt').trans HRc.out), cell_of_row _ h' 1 _ _ _ ((hbab.block h' hhlt').trans HRc.out), cell_of_row _ h' 2 _ _ _ ((hbab.block h' hhlt').trans HRc.out), cell_of_row _ h' 3 _ _ _ ((hbab.block h' hhlt').trans HRc.out)⟩
   go_wp2_with fail
   refine hC.out _ _ (fun _ => hS) ?_
   clear hC C
   try simp only [List.getElem_toArray, List.getElem_cons_zero, List.getElem_cons_succ, Act.put, List.setIfInBounds_toArray, List.set_cons_zero, List.set_cons_succ]
   refine Ord.Till.step 3 (by kernel_rfl) rfl (fun C hC => ?_)
   go_simp
   go_at_call 16
   refine (HJ.out _ hbab).mono ?_
   rintro e wc hE
   obtain ⟨Ac, nc, cc, rfl, hnc', rc, _, _, hbc⟩ := hE.reads
   have hbac := hbab.trans (hbc.mono hbab.size)
   have rbc := (rb.below hbc).more hbc.size
   clear hS hE hbc hbab rb hnc'
   have hS : (fun W' => W'.cell? ⟨h, 0, none⟩ = some (.bool xh) ∧ W'.cell? ⟨h, 1, none⟩ = some (.slice mp mn mc) ∧ W'.cell? ⟨h, 2, none⟩ = some (.slice ap an ac) ∧ W'.cell? ⟨h, 3, none⟩ = some (.slice op on oc) ∧ W'.cell? ⟨h', 0, none⟩ = some (.bool xh) ∧ W'.cell? ⟨h', 1, none⟩ = some (.slice mp mn mc) ∧ W'.cell? ⟨h', 2, none⟩ = some (.slice ap an ac) ∧ W'.cell? ⟨h', 3, none⟩ = some (.slice op on oc)) wc := ⟨cell_of_row _ h 0 _ _ _ ((hbac.block h hhlt).trans HRa.out), cell_of_row _ h 1 _ _ _ ((hbac.block h hhlt).trans HRa.out), cell_of_row _ h 2 _ _ _ ((hbac.block h hhlt).trans HRa.out), cell_of_row _ h 3 _ _ _ ((hbac.block h hhlt).trans HRa.out), cell_of_row _ h' 0 _ _ _ ((hbac.block h' hhlt').trans HRc.out), cell_of_row _ h' 1 _ _ _ ((hbac.block h' hhlt').trans HRc.out), cell_of_row _ h' 2 _ _ _ ((hbac.block h' hhlt').trans HRc.out), cell_of_row _ h' 3 _ _ _ ((hbac.block h' hhlt').trans HRc.out)⟩
   go_wp2_with fail
   refine hC.out _ _ (fun _ => hS) ?_
   clear hC C
   try simp only [List.getElem_toArray, List.getElem_cons_zero, List.getElem_cons_succ, Act.put, List.setIfInBounds_toArray, List.set_cons_zero, List.set_cons_succ]
   refine Ord.Till.step 4 (by kernel_rfl) rfl (fun C hC => ?_)
   go_simp
   go_at_call 14
   refine (Amp.rsameE_any wc.heap.size Ab Ac nb cb nc cc _ _ wc rbc rc (Nat.le_refl _) hnbs).mono ?_
   rintro e wf ⟨rfl, hbf⟩
   rw [Amp.sameE_eq.2 rfl]
   have hbaf := hbac.trans (hbf.mono hbac.size)
   clear hS hbf hbac rbc rc
   have hS : (fun W' => W'.cell? ⟨h, 0, none⟩ = some (.bool xh) ∧ W'.cell? ⟨h, 1, none⟩ = some (.slice mp mn mc) ∧ W'.cell? ⟨h, 2, none⟩ = some (.slice ap an ac) ∧ W'.cell? ⟨h, 3, none⟩ = some (.slice op on oc) ∧ W'.cell? ⟨h', 0, none⟩ = some (.bool xh) ∧ W'.cell? ⟨h', 1, none⟩ = some (.slice mp mn mc) ∧ W'.cell? ⟨h', 2, none⟩ = some (.slice ap an ac) ∧ W'.cell? ⟨h', 3, none⟩ = some (.slice op on oc)) wf := ⟨cell_of_row _ h 0 _ _ _ ((hbaf.block h hhlt).trans HRa.out), cell_of_row _ h 1 _ _ _ ((hbaf.block h hhlt).trans HRa.out), cell_of_row _ h 2 _ _ _ ((hbaf.block h hhlt).trans HRa.out), cell_of_row _ h 3 _ _ _ ((hbaf.block h hhlt).trans HRa.out), cell_of_row _ h' 0 _ _ _ ((hbaf.block h' hhlt').trans HRc.out), cell_of_row _ h' 1 _ _ _ ((hbaf.block h' hhlt').trans HRc.out), cell_of_row _ h' 2 _ _ _ ((hbaf.block h' hhlt').trans HRc.out), cell_of_row _ h' 3 _ _ _ ((hbaf.block h' hhlt').trans HRc.out)⟩
   go_wp2_with fail
   refine hC.out _ _ (fun _ => hS) ?_
   clear hC C
   try simp only [List.getElem_toArray, List.getElem_cons_zero, List.getElem_cons_succ, Act.put, List.setIfInBounds_toArray, List.set_cons_zero, List.set_cons_succ]
   refine Ord.Till.take' 5 (some 81) (oi := _) (x := ?_) rfl rfl (by kernel_rfl) (by kernel_rfl) (by kernel_rfl) (by kernel_rfl) (fun _ _ _ h => h) (by kernel_rfl) ?_ hS ?_
   rotate_left 1
   · intro v hv; obtain ⟨z0, z1, z2, z3, z4, z5, z6, z7⟩ := hv; go_simp; first | done | with_reducible rfl
   try simp only [List.getElem_toArray, List.getElem_cons_zero, List.getElem_cons_succ, Act.put, List.setIfInBounds_toArray, List.set_cons_zero, List.set_cons_succ]
   refine Ord.Till.take' 6 (some 82) (oi := _) (x := ?_) rfl rfl (by kernel_rfl) (by kernel_rfl) (by kernel_rfl) (by kernel_rfl) (fun _ _ _ h => h) (by kernel_rfl) ?_ hS ?_
   rotate_left 1
   · intro v hv; obtain ⟨z0, z1, z2, z3, z4, z5, z6, z7⟩ := hv; go_simp; first | done | with_reducible rfl
   try simp only [List.getElem_toArray, List.getElem_cons_zero, List.getElem_cons_succ, Act.put, List.setIfInBounds_toArray, List.set_cons_zero, List.set_cons_succ]
   refine Ord.Till.take' 8 (some 84) (oi := _) (x := ?_) rfl rfl (by kernel_rfl) (by kernel_rfl) (by kernel_rfl) (by kernel_rfl) (fun _ _ _ h => h) (by kernel_rfl) ?_ hS ?_
   rotate_left 1
   · intro v hv; obtain ⟨z0, z1, z2, z3, z4, z5, z6, z7⟩ := hv; go_simp; first | done | with_reducible rfl
   try simp only [List.getElem_toArray, List.getElem_cons_zero, List.getElem_cons_succ, Act.put, List.setIfInBounds_toArray, List.set_cons_zero, List.set_cons_succ]
   refine Ord.Till.step 7 (by kernel_rfl) rfl (fun C hC => ?_)
   go_simp
   go_at_call 17
   refine (HK.out _ hbaf).mono ?_
   rintro e wg ⟨rfl, hbg⟩
   have hbag := hbaf.trans (hbg.mono hbaf.size)
   clear hS hbg hbaf
   have hS : (fun W' => W'.cell? ⟨h, 0, none⟩ = some (.bool xh) ∧ W'.cell? ⟨h, 1, none⟩ = some (.slice mp mn mc) ∧ W'.cell? ⟨h, 2, none⟩ = some (.slice ap an ac) ∧ W'.cell? ⟨h, 3, none⟩ = some (.slice op on oc) ∧ W'.cell? ⟨h', 0, none⟩ = some (.bool xh) ∧ W'.cell? ⟨h', 1, none⟩ = some (.slice mp mn mc) ∧ W'.cell? ⟨h', 2, none⟩ = some (.slice ap an ac) ∧ W'.cell? ⟨h', 3, none⟩ = some (.slice op on oc)) wg := ⟨cell_of_row _ h 0 _ _ _ ((hbag.block h hhlt).trans HRa.out), cell_of_row _ h 1 _ _ _ ((hbag.block h hhlt).trans HRa.out), cell_of_row _ h 2 _ _ _ ((hbag.block h hhlt).trans HRa.out), cell_of_row _ h 3 _ _ _ ((hbag.block h hhlt).trans HRa.out), cell_of_row _ h' 0 _ _ _ ((hbag.block h' hhlt').trans HRc.out), cell_of_row _ h' 1 _ _ _ ((hbag.block h' hhlt').trans HRc.out), cell_of_row _ h' 2 _ _ _ ((hbag.block h' hhlt').trans HRc.out), cell_of_row _ h' 3 _ _ _ ((hbag.block h' hhlt').trans HRc.out)⟩
   go_wp2_with fail
   refine hC.out _ _ (fun _ => hS) ?_
   clear hC C
   try simp only [List.getElem_toArray, List.getElem_cons_zero, List.getElem_cons_succ, Act.put, List.setIfInBounds_toArray, List.set_cons_zero, List.set_cons_succ]
   refine Ord.Till.step 9 (by kernel_rfl) rfl (fun C hC => ?_)
   go_simp
   go_at_call 18
   refine (HL.out _ hbag).mono ?_
   rintro e wh ⟨rfl, hbh⟩
   have hbah := hbag.trans (hbh.mono hbag.size)
   clear hS hbh hbag
   have hS : (fun W' => W'.cell? ⟨h, 0, none⟩ = some (.bool xh) ∧ W'.cell? ⟨h, 1, none⟩ = some (.slice mp mn mc) ∧ W'.cell? ⟨h, 2, none⟩ = some (.slice ap an ac) ∧ W'.cell? ⟨h, 3, none⟩ = some (.slice op on oc) ∧ W'.cell? ⟨h', 0, none⟩ = some (.bool xh) ∧ W'.cell? ⟨h', 1, none⟩ = some (.slice mp mn mc) ∧ W'.cell? ⟨h', 2, none⟩ = some (.slice ap an ac) ∧ W'.cell? ⟨h', 3, none⟩ = some (.slice op on oc)) wh := ⟨cell_of_row _ h 0 _ _ _ ((hbah.block h hhlt).trans HRa.out), cell_of_row _ h 1 _ _ _ ((hbah.block h hhlt).trans HRa.out), cell_of_row _ h 2 _ _ _ ((hbah.block h hhlt).trans HRa.out), cell_of_row _ h 3 _ _ _ ((hbah.block h hhlt).trans HRa.out), cell_of_row _ h' 0 _ _ _ ((hbah.block h' hhlt').trans HRc.out), cell_of_row _ h' 1 _ _ _ ((hbah.block h' hhlt').trans HRc.out), cell_of_row _ h' 2 _ _ _ ((hbah.block h' hhlt').trans HRc.out), cell_of_row _ h' 3 _ _ _ ((hbah.block h' hhlt').trans HRc.out)⟩
   go_wp2_with fail
   refine hC.out _ _ (fun _ => hS) ?_
   clear hC C
   try simp only [List.getElem_toArray, List.getElem_cons_zero, List.getElem_cons_succ, Act.put, List.setIfInBounds_toArray, List.set_cons_zero, List.set_cons_succ]
   refine Ord.Till.take' 10 (some 86) (oi := _) (x := ?_) rfl rfl (by kernel_rfl) (by kernel_rfl) (by kernel_rfl) (by kernel_rfl) (fun _ _ _ h => h) (by kernel_rfl) ?_ hS ?_
   rotate_left 1
   · intro v hv; obtain ⟨z0, z1, z2, z3, z4, z5, z6, z7⟩ := hv; go_simp; first | done | with_reducible rfl
   try simp only [List.getElem_toArray, List.getElem_cons_zero, List.getElem_cons_succ, Act.put, List.setIfInBounds_toArray, List.set_cons_zero, List.set_cons_succ]
   refine Ord.Till.take' 11 (some 87) (oi := _) (x := ?_) rfl rfl (by kernel_rfl) (by kernel_rfl) (by kernel_rfl) (by kernel_rfl) (fun _ _ _ h => h) (by kernel_rfl) ?_ hS ?_
   rotate_left 1
   · intro v hv; obtain ⟨z0, z1, z2, z3, z4, z5, z6, z7⟩ := hv; go_simp; first | done | with_reducible rfl
   try simp only [List.getElem_toArray, List.getElem_cons_zero, List.getElem_cons_succ, Act.put, List.setIfInBounds_toArray, List.set_cons_zero, List.set_cons_succ]
   refine Ord.Till.step 12 (by kernel_rfl) rfl (fun C hC => ?_)
   go_simp
   refine hC.out _ _ (fun _ => hS) ?_
   clear hC C
   try simp only [List.getElem_toArray, List.getElem_cons_zero, List.getElem_cons_succ, Act.put, List.setIfInBounds_toArray, List.set_cons_zero, List.set_cons_succ]
   refine Ord.Till.done (by kernel_rfl) ?_ _
   clear hS
   have Bh := HBa.out.trans (hbah.mono HBa.out.size)
   clear hbah
   go_wp2_with fail
   go_ret
   exact ⟨rfl, Bh⟩
 · have hzb : (z' != 0) = true := by simpa using hz0
   clear hz0
   go_wp2_with fail
   go_ret
   exact ⟨rfl, B9⟩
end Go.Proofs.YtjobmkodgodloaaGreatDoor.Con
