/-
  ConsistRestored, from the program's contracts: what is opened is opened with the same view from the complete archive of its members.
-/
import Derived.Test.YtjobmkodgodloaaGreatDoorYCg
import Derived.Test.YtjobmkodgodloaaGreatDoorYWy
import Derived.BigQuiet
namespace Go.Proofs.YtjobmkodgodloaaGreatDoor.Con
open Go.RowKit Go.Proofs Go.Proofs.YtjobmkodgodloaaGreatDoor.Byt
open Go.Proofs.YtjobmkodgodloaaGreatDoor.Lnm (Gnd)
open Go.Proofs.YtjobmkodgodloaaGreatDoor.Arp (Mem St Pm ar Arc RdM OwnM mcells)
open Go.Proofs.YtjobmkodgodloaaGreatDoor.Arw (RdM0 fewM fewM_iff fitL MOk)
open Go.Proofs.YtjobmkodgodloaaGreatDoor.Six (Few cOut)

theorem few_parsed {l : List UInt8} {s : St} {k : Nat} (h : ar l = (s, k, 0)) {xs : List Mem} (hx : xs.map Mem.pure = s.mems) (hl : ∀ x ∈ xs, x.len = x.data.length) (hf : fewM xs = true) : Few xs ∧ (fitL 0 xs).2 = 0 := by
 obtain ⟨h1, h2, h3⟩ := fewM_iff.1 hf
 have hp := Arw.fits_parsed h hx hl
 refine ⟨⟨h1, fun x hm => ?_, fun x hm => (hl x hm).symm, h2⟩, (Arw.fitL_zero 0 xs).2 fun x hm => (hp x hm).1⟩
 obtain ⟨_, _, p3, p4, p5, p6⟩ := hp x hm
 exact ⟨(h3 x hm).1, (h3 x hm).2, p3, p4, p5, p6⟩

set_option linter.unusedSimpArgs false in
set_option maxRecDepth 100000 in
set_option maxHeartbeats 16000000 in
theorem restored9 (P : PC9) (w : World) (hG : Gnd w) (A : Option Addr) (n c : Nat) (l : List UInt8) (hr : Byt.Rd w w.heap.size A n l) (hnc : n ≤ c) (hcm : c ≤ maxLen) :
   Calls Tryz.prog 7 #[.slice A n c] w fun e w' => e = .returned (.bool true) ∧ Below w.heap.size w w' := by
 have HP := hid P
 have Hr := hid hr
 have Hg := hid hG
 clear hr hG
 go_enter Tryz.func7, Tryz.ntmps7
 go_wp2_with fail
 refine (awake9_any HP.out w Hg.out).mono ?_
 rintro e w1 ⟨rfl, B1⟩
 by_cases hn : 10000 < n
 · have hni : (10000 : Int) < (n : Int) := by omega
   go_wp2_with fail
   refine (awake9_any HP.out w1 (Hg.out.on B1)).mono ?_
   rintro e w2 ⟨rfl, hb2⟩
   go_wp2_with fail
   go_ret
   exact ⟨rfl, B1.trans (hb2.mono B1.size)⟩
 have hni : ¬ (10000 : Int) < (n : Int) := by omega
 obtain ⟨s, k, z, ho⟩ : ∃ s k z, opn l = (s, k, z) := ⟨_, _, _, rfl⟩
 have HO := hid ho
 clear ho
 go_wp2_with fail
 refine (HP.out.open_ A n c l w1 (Hg.out.on B1) ((Hr.out.below B1).more B1.size) hnc hcm (by omega)).mono ?_
 rintro e w2 hO
 obtain ⟨V1, rfl, hi1, rV1, _, od1, hb2⟩ := hO.at HO.out
 have HI1 := hid hi1
 have HV1 := hid rV1
 have HOD := hid od1
 obtain ⟨p1, p2, p3, p4, p5, p6, p7, p8⟩ := V1
 simp only [Vw.val]
 have hbA := (Below.refl w2.heap.size w2).alloc (Nat.le_refl _) (.cells #[.slice p1 p2 p3, .slice p5 p6 p7] 27)
 have hrA := heap_alloc_new w2 (.cells #[.slice p1 p2 p3, .slice p5 p6 p7] 27)
 have hsA := World.size_alloc w2 (.cells #[.slice p1 p2 p3, .slice p5 p6 p7] 27)
 have hb13 := hb2.trans (hbA.mono hb2.size)
 clear hO hi1 rV1 hb2 od1
 go_upto_region 4 with fail
 generalize w2.alloc (.cells #[.slice p1 p2 p3, .slice p5 p6 p7] 27) = w3 at *
 have B3 := B1.trans (hb13.mono B1.size)
 have HV3 := hid ((HV1.out.below hbA).more hbA.size)
 have hg2 : w2.heap.size < w3.heap.size := by omega
 obtain ⟨g, hg⟩ : ∃ g, w2.heap.size = g := ⟨_, rfl⟩
 rw [hg] at hrA hg2 ⊢
 have HRA := hid hrA
 have d0 := cell_of_row _ g 0 _ _ _ hrA
 have HM3 : Hid (RdM w3 w3.heap.size p1 p2 p4) := hid HV3.out.1
 have Hlen : Hid (∀ x ∈ p4, x.len = x.data.length) := hid fun x hx => by
   obtain ⟨q, hq, rfl⟩ := List.mem_iff_getElem.1 hx
   exact (HM3.out.2 q hq).2.1.1.symm
 have Hcap : Hid (∀ x ∈ p4, x.len ≤ x.cap) := hid fun x hx => by
   obtain ⟨_, _, e1, _, h1, _⟩ := (HOD.out x hx).reads
   injection e1 with _ _ e3
   rw [e3]
   exact h1
 have HI1a : Hid (p4.map Mem.pure = s.mems) := hid HI1.out.1
 have HI1b : Hid (p8 = defsP s.mems) := hid HI1.out.2
 clear hbA hrA hsA hb13 HV1 B1 hg HOD HI1
 by_cases hz : ¬ z = 0
 · have hzb : (z != 0) = true := by simpa using hz
   clear hz
   go_wp2_with fail
   go_ret
   exact ⟨rfl, B3⟩
 have hz := Decidable.not_not.1 hz
 have hzb : (z != 0) = false := by rw [hz]; rfl
 have HAR : Hid (ar l = (s, (ar l).2.1, 0)) := hid (by have h1 := HO.out; rw [hz] at h1; exact (opn_zero h1).1)
 clear hz
 rename ¬ ¬ z = 0 => hz0
 clear hz0
 go_wp2_with fail
 refine (Arw.few5_any w3.heap.size p1 p2 p3 p4 w3 ⟨HM3.out.1, fun q hq => ⟨(HM3.out.2 q hq).1, (HM3.out.2 q hq).2.1⟩⟩ (Nat.le_refl _)).mono ?_
 rintro e w4 ⟨rfl, hb4⟩
 have B4 := B3.trans (hb4.mono B3.size)
 have d0 := cell_of_row _ g 0 _ _ _ ((hb4.block g hg2).trans HRA.out)
 cases hf : fewM p4
 · clear hf
   go_wp2_with fail
   go_ret
   exact ⟨rfl, B4⟩
 have HF := hid (few_parsed HAR.out HI1a.out Hlen.out hf)
 have hM4 := HM3.out.below hb4
 have hk34 := hb4.size
 have HRA4 := hid ((hb4.block g hg2).trans HRA.out)
 have HV4 := hid (HV3.out.below hb4)
 clear hf hb4 B3 HRA HM3 HV3
 go_wp2_with fail
 refine (Six.rcomplete_any w3.heap.size p1 p2 p3 p4 w4 hM4 hk34 HF.out.1 Hcap.out).mono ?_
 rintro e w5 hR
 obtain ⟨A5, n5, c5, A6, n6, c6, A7, n7, c7, rfl, hn5, r5, hc5, hm5, _, hb5⟩ := rcomp_owns hR
 have B5 := B4.trans (hb5.mono B4.size)
 have hg4 : g < w4.heap.size := by omega
 have HRA5 := hid ((hb5.block g hg4).trans HRA4.out)
 have HV5 := hid (HV4.out.below (hb5.mono hk34))
 have hn5b : n5 < 100000 := by rw [hn5]; have := HF.out.1.clen; omega
 have hk45 := hb5.size
 have Hfz := hid HF.out.2
 obtain ⟨f, hf⟩ : ∃ f, (fitL 0 p4).2 = f := ⟨_, rfl⟩
 rw [hf] at Hfz ⊢
 have hf0 : (f == 0) = true := by rw [Hfz.out]; rfl
 clear hR hb5 B4 hn5 hM4 HRA4 HV4 d0 hf Hfz
 obtain ⟨mp, tt, hoc⟩ := opn_complete HF.out.1 HF.out.2
 have HOC := hid hoc
 clear hoc
 go_wp2_with fail
 refine (HP.out.open_ A5 n5 c5 (cOut p4) w5 (Hg.out.on B5) r5 hc5 hm5 hn5b).mono ?_
 rintro e w6 hO
 obtain ⟨V2, rfl, hi2, rV2, _, _, hb6⟩ := hO.at HOC.out
 have HV2 := hid rV2
 obtain ⟨q1, q2, q3, q4, q5, q6, q7, q8⟩ := V2
 have HI2a : Hid (q4.map Mem.pure = p4.map Mem.pure) := hid hi2.1
 have HI2b : Hid (q8 = defsP (p4.map Mem.pure)) := hid hi2.2
 simp only [Vw.val]
 have hbA := (Below.refl w6.heap.size w6).alloc (Nat.le_refl _) (.cells #[.slice q1 q2 q3, .slice q5 q6 q7] 27)
 have hrA := heap_alloc_new w6 (.cells #[.slice q1 q2 q3, .slice q5 q6 q7] 27)
 have hsA := World.size_alloc w6 (.cells #[.slice q1 q2 q3, .slice q5 q6 q7] 27)
 have hb57 := hb6.trans (hbA.mono hb6.size)
 clear hO hi2 rV2 hb6 r5 hc5 hm5 hn5b
 go_upto_region 8 with fail
 generalize w6.alloc (.cells #[.slice q1 q2 q3, .slice q5 q6 q7] 27) = w7 at *
 have HB7 := hid (B5.trans (hb57.mono B5.size))
 have hg5 : g < w5.heap.size := by omega
 have hg7 : g < w7.heap.size := by have := hb57.size; omega
 have HRA7 := hid ((hb57.block g hg5).trans HRA5.out)
 have HV7 := hid ((HV5.out.below (hb57.mono (by omega))).more (K' := w7.heap.size) (by have := hb57.size; omega))
 have HW7 := hid ((HV2.out.below hbA).more hbA.size)
 have hg6 : w6.heap.size < w7.heap.size := by omega
 obtain ⟨g', hg'⟩ : ∃ g', w6.heap.size = g' := ⟨_, rfl⟩
 rw [hg'] at hrA hg6 ⊢
 have HRB7 := hid hrA
 have hsame : Arp.sameMs p4 q4 = true := Arp.sameMs_pure HI2a.out.symm
 have hdfs : p8 = q8 := by rw [HI1b.out, HI2b.out, HI1a.out]
 have HVw := hid fun (W : World) => view_any ⟨p1, p2, p3, p4, p5, p6, p7, p8⟩ W
 have HVx := hid fun (W : World) => view_any ⟨q1, q2, q3, q4, q5, q6, q7, q8⟩ W
 have HSm := hid fun (W : World) (hW : Below w7.heap.size w7 W) => rsameV_any _ _ w7.heap.size W (HV7.out.below hW) (HW7.out.below hW) hW.size hsame hdfs
 simp only [Vw.val] at HVw HVx HSm
 have hbd : Below w7.heap.size w7 w7.drew := (Below.refl _ _).drew
 clear hbA hrA hsA hb57 B5 HV2 HV5 HRA5 hsame hdfs HV7 HW7 hg' hg2 hg4 hg5 hk34 hk45
 have hS : (fun W' => W'.cell? ⟨g, 0, none⟩ = some (.slice p1 p2 p3) ∧ W'.cell? ⟨g, 1, none⟩ = some (.slice p5 p6 p7) ∧ W'.cell? ⟨g', 0, none⟩ = some (.slice q1 q2 q3) ∧ W'.cell? ⟨g', 1, none⟩ = some (.slice q5 q6 q7)) w7.drew := ⟨cell_of_row _ g 0 _ _ _ ((hbd.block g hg7).trans HRA7.out), cell_of_row _ g 1 _ _ _ ((hbd.block g hg7).trans HRA7.out), cell_of_row _ g' 0 _ _ _ ((hbd.block g' hg6).trans HRB7.out), cell_of_row _ g' 1 _ _ _ ((hbd.block g' hg6).trans HRB7.out)⟩
 refine Ord.Till.begin (fun W' => W'.cell? ⟨g, 0, none⟩ = some (.slice p1 p2 p3) ∧ W'.cell? ⟨g, 1, none⟩ = some (.slice p5 p6 p7) ∧ W'.cell? ⟨g', 0, none⟩ = some (.slice q1 q2 q3) ∧ W'.cell? ⟨g', 1, none⟩ = some (.slice q5 q6 q7)) 60 (by kernel_rfl) ?_
 generalize w7.drew = wd at *
 refine Ord.Till.take' 0 (some 49) (oi := _) (x := ?_) rfl rfl (by kernel_rfl) (by kernel_rfl) (by kernel_rfl) (by kernel_rfl) (fun _ _ _ h => h) (by kernel_rfl) ?_ hS ?_
 rotate_left 1
 · intro v hv; obtain ⟨z0, z1, z2, z3⟩ := hv; go_simp; first | done | with_reducible rfl
 try simp only [List.getElem_toArray, List.getElem_cons_zero, List.getElem_cons_succ, Act.put, List.setIfInBounds_toArray, List.set_cons_zero, List.set_cons_succ]
 refine Ord.Till.take' 1 (some 50) (oi := _) (x := ?_) rfl rfl (by kernel_rfl) (by kernel_rfl) (by kernel_rfl) (by kernel_rfl) (fun _ _ _ h => h) (by kernel_rfl) ?_ hS ?_
 rotate_left 1
 · intro v hv; obtain ⟨z0, z1, z2, z3⟩ := hv; go_simp; first | done | with_reducible rfl
 try simp only [List.getElem_toArray, List.getElem_cons_zero, List.getElem_cons_succ, Act.put, List.setIfInBounds_toArray, List.set_cons_zero, List.set_cons_succ]
 refine Ord.Till.take' 2 (some 51) (oi := _) (x := ?_) rfl rfl (by kernel_rfl) (by kernel_rfl) (by kernel_rfl) (by kernel_rfl) (fun _ _ _ h => h) (by kernel_rfl) ?_ hS ?_
 rotate_left 1
 · intro v hv; obtain ⟨z0, z1, z2, z3⟩ := hv; go_simp; first | done | with_reducible rfl
 try simp only [List.getElem_toArray, List.getElem_cons_zero, List.getElem_cons_succ, Act.put, List.setIfInBounds_toArray, List.set_cons_zero, List.set_cons_succ]
 refine Ord.Till.take' 3 (some 52) (oi := _) (x := ?_) rfl rfl (by kernel_rfl) (by kernel_rfl) (by kernel_rfl) (by kernel_rfl) (fun _ _ _ h => h) (by kernel_rfl) ?_ hS ?_
 rotate_left 1
 · intro v hv; obtain ⟨z0, z1, z2, z3⟩ := hv; go_simp; first | done | with_reducible rfl
 try simp only [List.getElem_toArray, List.getElem_cons_zero, List.getElem_cons_succ, Act.put, List.setIfInBounds_toArray, List.set_cons_zero, List.set_cons_succ]
 refine Ord.Till.take' 4 (some 53) (oi := _) (x := ?_) rfl rfl (by kernel_rfl) (by kernel_rfl) (by kernel_rfl) (by kernel_rfl) (fun _ _ _ h => h) (by kernel_rfl) ?_ hS ?_
 rotate_left 1
 · intro v hv; obtain ⟨z0, z1, z2, z3⟩ := hv; go_simp; first | done | with_reducible rfl
 try simp only [List.getElem_toArray, List.getElem_cons_zero, List.getElem_cons_succ, Act.put, List.setIfInBounds_toArray, List.set_cons_zero, List.set_cons_succ]
 refine Ord.Till.take' 5 (some 54) (oi := _) (x := ?_) rfl rfl (by kernel_rfl) (by kernel_rfl) (by kernel_rfl) (by kernel_rfl) (fun _ _ _ h => h) (by kernel_rfl) ?_ hS ?_
 rotate_left 1
 · intro v hv; obtain ⟨z0, z1, z2, z3⟩ := hv; go_simp; first | done | with_reducible rfl
 try simp only [List.getElem_toArray, List.getElem_cons_zero, List.getElem_cons_succ, Act.put, List.setIfInBounds_toArray, List.set_cons_zero, List.set_cons_succ]
 refine Ord.Till.take' 6 (some 55) (oi := _) (x := ?_) rfl rfl (by kernel_rfl) (by kernel_rfl) (by kernel_rfl) (by kernel_rfl) (fun _ _ _ h => h) (by kernel_rfl) ?_ hS ?_
 rotate_left 1
 · intro v hv; obtain ⟨z0, z1, z2, z3⟩ := hv; go_simp; first | done | with_reducible rfl
 try simp only [List.getElem_toArray, List.getElem_cons_zero, List.getElem_cons_succ, Act.put, List.setIfInBounds_toArray, List.set_cons_zero, List.set_cons_succ]
 refine Ord.Till.take' 7 (some 56) (oi := _) (x := ?_) rfl rfl (by kernel_rfl) (by kernel_rfl) (by kernel_rfl) (by kernel_rfl) (fun _ _ _ h => h) (by kernel_rfl) ?_ hS ?_
 rotate_left 1
 · intro v hv; obtain ⟨z0, z1, z2, z3⟩ := hv; go_simp; first | done | with_reducible rfl
 try simp only [List.getElem_toArray, List.getElem_cons_zero, List.getElem_cons_succ, Act.put, List.setIfInBounds_toArray, List.set_cons_zero, List.set_cons_succ]
 refine Ord.Till.take' 8 (some 57) (oi := _) (x := ?_) rfl rfl (by kernel_rfl) (by kernel_rfl) (by kernel_rfl) (by kernel_rfl) (fun _ _ _ h => h) (by kernel_rfl) ?_ hS ?_
 rotate_left 1
 · intro v hv; obtain ⟨z0, z1, z2, z3⟩ := hv; go_simp; first | done | with_reducible rfl
 try simp only [List.getElem_toArray, List.getElem_cons_zero, List.getElem_cons_succ, Act.put, List.setIfInBounds_toArray, List.set_cons_zero, List.set_cons_succ]
 refine Ord.Till.take' 9 (some 58) (oi := _) (x := ?_) rfl rfl (by kernel_rfl) (by kernel_rfl) (by kernel_rfl) (by kernel_rfl) (fun _ _ _ h => h) (by kernel_rfl) ?_ hS ?_
 rotate_left 1
 · intro v hv; obtain ⟨z0, z1, z2, z3⟩ := hv; go_simp; first | done | with_reducible rfl
 try simp only [List.getElem_toArray, List.getElem_cons_zero, List.getElem_cons_succ, Act.put, List.setIfInBounds_toArray, List.set_cons_zero, List.set_cons_succ]
 refine Ord.Till.take' 10 (some 59) (oi := _) (x := ?_) rfl rfl (by kernel_rfl) (by kernel_rfl) (by kernel_rfl) (by kernel_rfl) (fun _ _ _ h => h) (by kernel_rfl) ?_ hS ?_
 rotate_left 1
 · intro v hv; obtain ⟨z0, z1, z2, z3⟩ := hv; go_simp; first | done | with_reducible rfl
 try simp only [List.getElem_toArray, List.getElem_cons_zero, List.getElem_cons_succ, Act.put, List.setIfInBounds_toArray, List.set_cons_zero, List.set_cons_succ]
 refine Ord.Till.take' 11 (some 60) (oi := _) (x := ?_) rfl rfl (by kernel_rfl) (by kernel_rfl) (by kernel_rfl) (by kernel_rfl) (fun _ _ _ h => h) (by kernel_rfl) ?_ hS ?_
 rotate_left 1
 · intro v hv; obtain ⟨z0, z1, z2, z3⟩ := hv; go_simp; first | done | with_reducible rfl
 try simp only [List.getElem_toArray, List.getElem_cons_zero, List.getElem_cons_succ, Act.put, List.setIfInBounds_toArray, List.set_cons_zero, List.set_cons_succ]
 refine Ord.Till.take' 13 (some 62) (oi := _) (x := ?_) rfl rfl (by kernel_rfl) (by kernel_rfl) (by kernel_rfl) (by kernel_rfl) (fun _ _ _ h => h) (by kernel_rfl) ?_ hS ?_
 rotate_left 1
 · intro v hv; obtain ⟨z0, z1, z2, z3⟩ := hv; go_simp; first | done | with_reducible rfl
 try simp only [List.getElem_toArray, List.getElem_cons_zero, List.getElem_cons_succ, Act.put, List.setIfInBounds_toArray, List.set_cons_zero, List.set_cons_succ]
 refine Ord.Till.step 12 (by kernel_rfl) rfl (fun C hC => ?_)
 go_simp
 go_at_call 12
 refine (HVw.out _).mono ?_
 rintro e w8 ⟨rfl, hb8⟩
 have hb78 := hbd.trans (hb8.mono hbd.size)
 clear hS hb8 hbd
 have hS : (fun W' => W'.cell? ⟨g, 0, none⟩ = some (.slice p1 p2 p3) ∧ W'.cell? ⟨g, 1, none⟩ = some (.slice p5 p6 p7) ∧ W'.cell? ⟨g', 0, none⟩ = some (.slice q1 q2 q3) ∧ W'.cell? ⟨g', 1, none⟩ = some (.slice q5 q6 q7)) w8 := ⟨cell_of_row _ g 0 _ _ _ ((hb78.block g hg7).trans HRA7.out), cell_of_row _ g 1 _ _ _ ((hb78.block g hg7).trans HRA7.out), cell_of_row _ g' 0 _ _ _ ((hb78.block g' hg6).trans HRB7.out), cell_of_row _ g' 1 _ _ _ ((hb78.block g' hg6).trans HRB7.out)⟩
 go_wp2_with fail
 refine hC.out _ _ (fun _ => hS) ?_
 clear hC C
 try simp only [List.getElem_toArray, List.getElem_cons_zero, List.getElem_cons_succ, Act.put, List.setIfInBounds_toArray, List.set_cons_zero, List.set_cons_succ]
 refine Ord.Till.step 14 (by kernel_rfl) rfl (fun C hC => ?_)
 go_simp
 go_at_call 12
 refine (HVx.out _).mono ?_
 rintro e w9 ⟨rfl, hb9⟩
 have hb79 := hb78.trans (hb9.mono hb78.size)
 clear hS hb9 hb78
 have hS : (fun W' => W'.cell? ⟨g, 0, none⟩ = some (.slice p1 p2 p3) ∧ W'.cell? ⟨g, 1, none⟩ = some (.slice p5 p6 p7) ∧ W'.cell? ⟨g', 0, none⟩ = some (.slice q1 q2 q3) ∧ W'.cell? ⟨g', 1, none⟩ = some (.slice q5 q6 q7)) w9 := ⟨cell_of_row _ g 0 _ _ _ ((hb79.block g hg7).trans HRA7.out), cell_of_row _ g 1 _ _ _ ((hb79.block g hg7).trans HRA7.out), cell_of_row _ g' 0 _ _ _ ((hb79.block g' hg6).trans HRB7.out), cell_of_row _ g' 1 _ _ _ ((hb79.block g' hg6).trans HRB7.out)⟩
 go_wp2_with fail
 refine hC.out _ _ (fun _ => hS) ?_
 clear hC C
 try simp only [List.getElem_toArray, List.getElem_cons_zero, List.getElem_cons_succ, Act.put, List.setIfInBounds_toArray, List.set_cons_zero, List.set_cons_succ]
 refine Ord.Till.step 15 (by kernel_rfl) rfl (fun C hC => ?_)
 go_simp
 go_at_call 11
 refine (HSm.out _ hb79).mono ?_
 rintro e wa ⟨rfl, hba⟩
 have hb7a := hb79.trans (hba.mono hb79.size)
 clear hS hba hb79
 have hS : (fun W' => W'.cell? ⟨g, 0, none⟩ = some (.slice p1 p2 p3) ∧ W'.cell? ⟨g, 1, none⟩ = some (.slice p5 p6 p7) ∧ W'.cell? ⟨g', 0, none⟩ = some (.slice q1 q2 q3) ∧ W'.cell? ⟨g', 1, none⟩ = some (.slice q5 q6 q7)) wa := ⟨cell_of_row _ g 0 _ _ _ ((hb7a.block g hg7).trans HRA7.out), cell_of_row _ g 1 _ _ _ ((hb7a.block g hg7).trans HRA7.out), cell_of_row _ g' 0 _ _ _ ((hb7a.block g' hg6).trans HRB7.out), cell_of_row _ g' 1 _ _ _ ((hb7a.block g' hg6).trans HRB7.out)⟩
 go_wp2_with fail
 refine hC.out _ _ (fun _ => hS) ?_
 clear hC C
 try simp only [List.getElem_toArray, List.getElem_cons_zero, List.getElem_cons_succ, Act.put, List.setIfInBounds_toArray, List.set_cons_zero, List.set_cons_succ]
 refine Ord.Till.take' 16 (some 65) (oi := _) (x := ?_) rfl rfl (by kernel_rfl) (by kernel_rfl) (by kernel_rfl) (by kernel_rfl) (fun _ _ _ h => h) (by kernel_rfl) ?_ hS ?_
 rotate_left 1
 · intro v hv; obtain ⟨z0, z1, z2, z3⟩ := hv; go_simp; first | done | with_reducible rfl
 try simp only [List.getElem_toArray, List.getElem_cons_zero, List.getElem_cons_succ, Act.put, List.setIfInBounds_toArray, List.set_cons_zero, List.set_cons_succ]
 refine Ord.Till.step 17 (by kernel_rfl) rfl (fun C hC => ?_)
 go_simp
 refine hC.out _ _ (fun _ => hS) ?_
 clear hC C
 try simp only [List.getElem_toArray, List.getElem_cons_zero, List.getElem_cons_succ, Act.put, List.setIfInBounds_toArray, List.set_cons_zero, List.set_cons_succ]
 refine Ord.Till.done (by kernel_rfl) ?_ _
 clear hS
 have Ba := HB7.out.trans (hb7a.mono HB7.out.size)
 clear hb7a
 go_wp2_with fail
 go_ret
 exact ⟨rfl, Ba⟩
end Go.Proofs.YtjobmkodgodloaaGreatDoor.Con
