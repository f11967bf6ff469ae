/-
  ArwriteRoundTrip: members that fit are parsed from the archive, with the map and their offsets, and writing them again yields the same archive. For every map, flag and list of members: no condition.
-/
import Derived.Test.YteeeongnabpheaaGreatDoorWy
import Derived.Test.YteeeongnabpheaaGreatDoorWu
import Derived.Test.YteeeongnabpheaaGreatDoorMn
import Derived.Test.YteeeongnabpheaaGreatDoorCards
namespace Go.Proofs.YteeeongnabpheaaGreatDoor.Round5
open Go.ChangeShapes Go.WideShapes Go.ChangeAt Go.RowKit Go.Proofs Go.Proofs.YteeeongnabpheaaGreatDoor.Byt Go.Proofs.YteeeongnabpheaaGreatDoor.Dec Go.Proofs.YteeeongnabpheaaGreatDoor.Lnm Go.Proofs.YteeeongnabpheaaGreatDoor.Hdr Go.Proofs.YteeeongnabpheaaGreatDoor.Arp Go.Proofs.YteeeongnabpheaaGreatDoor.Arw Go.Proofs.YteeeongnabpheaaGreatDoor.Frame

set_option linter.unusedSimpArgs false in
set_option maxRecDepth 100000 in
set_option maxHeartbeats 8000000 in
theorem walk (w : World) (hG : GndP w) (hm : Bool) (A' : Option Addr) (n' c' : Nat) (l : List UInt8) (hr : Byt.Rd w w.heap.size A' n' l) (_hnc' : n' ≤ c') (_hc' : c' ≤ maxLen) (A : Option Addr) (n c : Nat) (xs : List Mem) (h : RdM0 w w.heap.size A n xs) (_hnc : n ≤ c) (_hc : c ≤ maxLen) (hB : ∀ x ∈ xs, MB x) :
    Calls Tryz.prog 3 #[.bool hm, .slice A' n' c', .slice A n c] w fun e w' => e = .returned (.bool true) ∧ Below w.heap.size w w' := by
  go_enter Tryz.func3, Tryz.ntmps3
  go_wp2_with fail
  refine (awake_any w hG).mono ?_
  rintro e w1 ⟨rfl, hb1⟩
  go_wp2_with fail
  refine (few5_any w.heap.size A n c xs w1 (h.below hb1) hb1.size).mono ?_
  rintro e w2 ⟨rfl, hb2⟩
  have hb02 := hb1.trans (hb2.mono hb1.size)
  have hs2 : w.heap.size ≤ w2.heap.size := hb02.size
  clear hb1 hb2
  cases hf : fewM xs
  · go_wp2_with fail
    refine (awake_any _ (hG.on hb02)).mono ?_
    rintro e w9 ⟨rfl, hb9⟩
    go_wp2_with fail
    go_ret
    exact ⟨rfl, hb02.trans (hb9.mono hb02.size)⟩
  · obtain ⟨k1, _, k3⟩ := fewM_iff.1 hf
    have hl := hid h.1
    have hM := h.to (fun x hx => (k3 x hx).2)
    have hok : ∀ x ∈ xs, MOk x := fun x hx => (hB x hx).ok (k3 x hx).1 (k3 x hx).2
    have hn20 : n ≤ 20 := by have := hl.out; omega
    clear hf k1 k3 h hB
    by_cases h5 : 1000 < n'
    · have h5i : (1000 : Int) < (n' : Int) := by omega
      go_wp2_with fail
      refine (awake_any _ (hG.on hb02)).mono ?_
      rintro e w9 ⟨rfl, hb9⟩
      go_wp2_with fail
      go_ret
      exact ⟨rfl, hb02.trans (hb9.mono hb02.size)⟩
    have h5i : ¬ (1000 : Int) < (n' : Int) := by omega
    have hlr := hid hr.1
    go_wp2_with fail
    refine (write_any hm A' n' c' l w.heap.size w.heap.size A n c xs w2 (hG.on hb02) (hr.below hb02) hs2 (by omega) (hM.below hb02) hs2 hok hn20).mono ?_
    rintro e w3 ⟨v3, rfl, o3, hb3⟩
    have hb03 := hb02.trans (hb3.mono hs2)
    have hs3 : w.heap.size ≤ w3.heap.size := hb03.size
    clear hb3 hb02
    by_cases hz : (fitL 0 xs).2 = 0
    case neg =>
      rw [show wout hm l xs = [] from if_neg hz] at o3
      obtain ⟨A3, c3, rfl, _⟩ := o3.reads
      clear o3
      obtain ⟨f1, f2, hf⟩ : ∃ f1 f2, fitL 0 xs = (f1, f2) := ⟨_, _, rfl⟩
      have HF := hid hf
      rw [hf] at hz ⊢
      have hz' : f2 ≠ 0 := hz
      clear hf hz
      go_wp2_with fail
      refine (rfits5_any w.heap.size A n c xs w3 (hM.below hb03) hs3 hok (by omega)).mono ?_
      rintro e w4 ⟨rfl, hb4⟩
      rw [HF.out]
      have hb04 := hb03.trans (hb4.mono hs3)
      have e2 : (f2 == f2) = true := beq_self_eq_true f2
      clear hb4 hb03
      go_wp2_with fail
      go_ret
      exact ⟨rfl, hb04⟩
    cases hm
    case false =>
      have hz' := hz
      have HZ : Hid ((if (fitL 0 xs).2 = 0 then offL (base false n' xs) xs else []) = offL (base false n' xs) xs) := hid (if_pos hz)
      have hfit := (fitL_zero 0 xs).1 hz
      have hxl : ∀ x ∈ xs, x.data.length = x.len := fun x hx => by obtain ⟨k, hk, rfl⟩ := List.mem_iff_getElem.1 hx; exact (hM.2 k hk).2.1.1
      have hn20' : xs.length ≤ 20 := by have := hl.out; omega
      have hal := arch_len (hm := false) (md := l) hfit hn20' hok hxl (by have := hlr.out; omega)
      have hw3 : wout false l xs = arch false l xs := if_pos hz
      have HAR := hid (ar_arch (hm := false) (md := l) (xs := xs) (by have := hlr.out; omega) hfit (by omega) (fun x hx => (hxl x hx).symm))
      rw [hw3] at o3
      rw [hz]
      have HWX0 : Hid (wout false l xs = arch false l xs) := hid hw3
      obtain ⟨ar, har⟩ : ∃ ar, arch false l xs = ar := ⟨_, rfl⟩
      rw [har] at o3 hal HAR HWX0
      clear har hw3
      obtain ⟨A3, c3, rfl, r3, hc3, _⟩ := o3.reads
      clear o3 hz'
      go_wp2_with fail
      refine (parse_any A3 ar.length c3 ar w3 (hG.on hb03).1 r3 hc3 (by omega)).mono ?_
      rintro e w4 ⟨x, rfl, hxis, hxo, hb4⟩
      rw [HAR.out] at hxis ⊢
      obtain ⟨hx1, hx2, hx3, hx4⟩ := hxis
      simp only at hx1 hx2 hx3 hx4
      replace hx2 : x.map = [] := by simpa using hx2
      have HX2 := hid hx2
      have HX1 := hid hx1
      clear hx1
      have hb04 := hb03.trans (hb4.mono hs3)
      have hxd : ∀ y ∈ x.mems, y.len = y.data.length := fun y hy => (hxo.data y hy).1.symm
      have hcore : x.mems.map core = xs.map core := pure_core hx3 hxd (fun y hy => (hxl y hy).symm)
      have hxml : x.map.length = x.mn := hxo.map.1
      obtain ⟨rMap, rMem, rOff, hmnb, hanb, honb⟩ := hxo.reads
      have hokx := core_mok hcore hok
      have hanl : x.mems.length = x.an := rMem.1
      have han20 : x.an ≤ 20 := by rw [← hanl, core_len hcore]; exact hn20'
      have HSM := hid (sameMs_pure hx3)
      have HOF : Hid (x.offs = (offL (base false n' xs) xs).map fun (o : Nat) => (o : Int)) := hid (by rw [hx4, hlr.out])
      have HFX : Hid ((fitL 0 x.mems).2 = 0) := hid (by rw [← fitL_core, hcore, fitL_core]; exact hz)
      have hmn1 : x.mn ≤ 1000 := by rw [← hxml, hx2]; show (0 : Nat) ≤ 1000; omega
      have HWX : Hid (wout false x.map x.mems = ar) := hid (by rw [← wout_core, hcore, wout_core, ← HWX0.out]; unfold wout arch; rfl)
      have rMap5 := rMap.below ((Below.refl w4.heap.size w4).alloc (Nat.le_refl _) (.cells #[.bool x.hasMap, .slice x.mp x.mn x.mc, .slice x.ap x.an x.ac, .slice x.op x.on x.oc] 33))
      have rMem5 := rMem.below ((Below.refl w4.heap.size w4).alloc (Nat.le_refl _) (.cells #[.bool x.hasMap, .slice x.mp x.mn x.mc, .slice x.ap x.an x.ac, .slice x.op x.on x.oc] 33))
      have rOff5 := rOff.below ((Below.refl w4.heap.size w4).alloc (Nat.le_refl _) (.cells #[.bool x.hasMap, .slice x.mp x.mn x.mc, .slice x.ap x.an x.ac, .slice x.op x.on x.oc] 33))
      have hrow := heap_alloc_new w4 (.cells #[.bool x.hasMap, .slice x.mp x.mn x.mc, .slice x.ap x.an x.ac, .slice x.op x.on x.oc] 33)
      have hb45 := (Below.refl w4.heap.size w4).alloc (Nat.le_refl _) (.cells #[.bool x.hasMap, .slice x.mp x.mn x.mc, .slice x.ap x.an x.ac, .slice x.op x.on x.oc] 33)
      have hb05 := hb04.trans (hb45.mono hb04.size)
      have hb35 : Below w3.heap.size w3 (w4.alloc (.cells #[.bool x.hasMap, .slice x.mp x.mn x.mc, .slice x.ap x.an x.ac, .slice x.op x.on x.oc] 33)) := hb4.trans (hb45.mono hb4.size)
      clear hx2 hx3 hx4 hcore hxml hanl
      simp only [Arc.val]
      go_upto_region 8 with fail
      clear rMap rMem rOff hb4 hb04 hb03 hxo HAR hxd
      have hs45 := hb45.size
      have hgl := (Array.getElem?_eq_some_iff.1 hrow).1
      skip
      clear hb45
      generalize w4.alloc (.cells #[.bool x.hasMap, .slice x.mp x.mn x.mc, .slice x.ap x.an x.ac, .slice x.op x.on x.oc] 33) = w5 at *
      replace rMap := rMap5.more hs45
      replace rMem := rMem5.more hs45
      replace rOff := rOff5.more hs45
      clear rMap5 rMem5 rOff5
      skip
      skip
      skip
      generalize w4.heap.size = g at *
      have hs5 : w.heap.size ≤ w5.heap.size := hb05.size
      have hs35 : w3.heap.size ≤ w5.heap.size := hb35.size
      rw [HX1.out] at hrow
      have hSall : Hid (∀ W', Below w5.heap.size w5 W' → (fun W' => W'.cell? ⟨g, 0, none⟩ = some (.bool false) ∧ W'.cell? ⟨g, 1, none⟩ = some (.slice x.mp x.mn x.mc) ∧ W'.cell? ⟨g, 2, none⟩ = some (.slice x.ap x.an x.ac) ∧ W'.cell? ⟨g, 3, none⟩ = some (.slice x.op x.on x.oc)) W') := hid fun W' hb' => by
        have r := (hb'.block g hgl).trans hrow
        exact ⟨cell_of_row _ g 0 _ _ _ r, cell_of_row _ g 1 _ _ _ r, cell_of_row _ g 2 _ _ _ r, cell_of_row _ g 3 _ _ _ r⟩
      have hbd : Below w5.heap.size w5 w5.drew := (Below.refl _ _).drew
      refine Ord.Till.begin (fun W' => W'.cell? ⟨g, 0, none⟩ = some (.bool false) ∧ W'.cell? ⟨g, 1, none⟩ = some (.slice x.mp x.mn x.mc) ∧ W'.cell? ⟨g, 2, none⟩ = some (.slice x.ap x.an x.ac) ∧ W'.cell? ⟨g, 3, none⟩ = some (.slice x.op x.on x.oc)) 60 (by kernel_rfl) ?_
      refine Ord.Till.take' 0 (some 57) (oi := _) (x := ?_) rfl rfl (by kernel_rfl) (by kernel_rfl) (by kernel_rfl) (by kernel_rfl) (fun _ _ _ h => h) (by kernel_rfl) ?_ (hSall.out _ hbd) ?_
      rotate_left 1
      · intro v hv; obtain ⟨z0, z1, z2, z3⟩ := hv; go_simp; first | done | with_reducible rfl
      try simp only [Act.put, List.setIfInBounds_toArray, List.set_cons_zero, List.set_cons_succ]
      refine Ord.Till.take' 1 (some 58) (oi := _) (x := ?_) rfl rfl (by kernel_rfl) (by kernel_rfl) (by kernel_rfl) (by kernel_rfl) (fun _ _ _ h => h) (by kernel_rfl) ?_ (hSall.out _ hbd) ?_
      rotate_left 1
      · intro v hv; obtain ⟨z0, z1, z2, z3⟩ := hv; go_simp; first | done | with_reducible rfl
      try simp only [Act.put, List.setIfInBounds_toArray, List.set_cons_zero, List.set_cons_succ]
      refine Ord.Till.take' 2 (some 59) (oi := _) (x := ?_) rfl rfl (by kernel_rfl) (by kernel_rfl) (by kernel_rfl) (by kernel_rfl) (fun _ _ _ h => h) (by kernel_rfl) ?_ (hSall.out _ hbd) ?_
      rotate_left 1
      · intro v hv; obtain ⟨z0, z1, z2, z3⟩ := hv; go_simp; first | done | with_reducible rfl
      try simp only [Act.put, List.setIfInBounds_toArray, List.set_cons_zero, List.set_cons_succ]
      refine Ord.Till.take' 3 (some 60) (oi := _) (x := ?_) rfl rfl (by kernel_rfl) (by kernel_rfl) (by kernel_rfl) (by kernel_rfl) (fun _ _ _ h => h) (by kernel_rfl) ?_ (hSall.out _ hbd) ?_
      rotate_left 1
      · intro v hv; obtain ⟨z0, z1, z2, z3⟩ := hv; go_simp; first | done | with_reducible rfl
      try simp only [Act.put, List.setIfInBounds_toArray, List.set_cons_zero, List.set_cons_succ]
      refine Ord.Till.take' 4 (some 61) (oi := _) (x := ?_) rfl rfl (by kernel_rfl) (by kernel_rfl) (by kernel_rfl) (by kernel_rfl) (fun _ _ _ h => h) (by kernel_rfl) ?_ (hSall.out _ hbd) ?_
      rotate_left 1
      · intro v hv; obtain ⟨z0, z1, z2, z3⟩ := hv; go_simp; first | done | with_reducible rfl
      try simp only [Act.put, List.setIfInBounds_toArray, List.set_cons_zero, List.set_cons_succ]
      refine Ord.Till.take' 5 (some 62) (oi := _) (x := ?_) rfl rfl (by kernel_rfl) (by kernel_rfl) (by kernel_rfl) (by kernel_rfl) (fun _ _ _ h => h) (by kernel_rfl) ?_ (hSall.out _ hbd) ?_
      rotate_left 1
      · intro v hv; obtain ⟨z0, z1, z2, z3⟩ := hv; go_simp; first | done | with_reducible rfl
      try simp only [Act.put, List.setIfInBounds_toArray, List.set_cons_zero, List.set_cons_succ]
      refine Ord.Till.take' 6 (some 63) (oi := _) (x := ?_) rfl rfl (by kernel_rfl) (by kernel_rfl) (by kernel_rfl) (by kernel_rfl) (fun _ _ _ h => h) (by kernel_rfl) ?_ (hSall.out _ hbd) ?_
      rotate_left 1
      · intro v hv; obtain ⟨z0, z1, z2, z3⟩ := hv; go_simp; first | done | with_reducible rfl
      try simp only [Act.put, List.setIfInBounds_toArray, List.set_cons_zero, List.set_cons_succ]
      refine Ord.Till.take' 7 (some 64) (oi := _) (x := ?_) rfl rfl (by kernel_rfl) (by kernel_rfl) (by kernel_rfl) (by kernel_rfl) (fun _ _ _ h => h) (by kernel_rfl) ?_ (hSall.out _ hbd) ?_
      rotate_left 1
      · intro v hv; obtain ⟨z0, z1, z2, z3⟩ := hv; go_simp; first | done | with_reducible rfl
      try simp only [Act.put, List.setIfInBounds_toArray, List.set_cons_zero, List.set_cons_succ]
      refine Ord.Till.take' 8 (some 65) (oi := _) (x := ?_) rfl rfl (by kernel_rfl) (by kernel_rfl) (by kernel_rfl) (by kernel_rfl) (fun _ _ _ h => h) (by kernel_rfl) ?_ (hSall.out _ hbd) ?_
      rotate_left 1
      · intro v hv; obtain ⟨z0, z1, z2, z3⟩ := hv; go_simp; first | done | with_reducible rfl
      try simp only [Act.put, List.setIfInBounds_toArray, List.set_cons_zero, List.set_cons_succ]
      refine Ord.Till.take' 9 (some 66) (oi := _) (x := ?_) rfl rfl (by kernel_rfl) (by kernel_rfl) (by kernel_rfl) (by kernel_rfl) (fun _ _ _ h => h) (by kernel_rfl) ?_ (hSall.out _ hbd) ?_
      rotate_left 1
      · intro v hv; obtain ⟨z0, z1, z2, z3⟩ := hv; go_simp; first | done | with_reducible rfl
      try simp only [Act.put, List.setIfInBounds_toArray, List.set_cons_zero, List.set_cons_succ]
      refine Ord.Till.take' 10 (some 67) (oi := _) (x := ?_) rfl rfl (by kernel_rfl) (by kernel_rfl) (by kernel_rfl) (by kernel_rfl) (fun _ _ _ h => h) (by kernel_rfl) ?_ (hSall.out _ hbd) ?_
      rotate_left 1
      · intro v hv; obtain ⟨z0, z1, z2, z3⟩ := hv; go_simp; first | done | with_reducible rfl
      try simp only [Act.put, List.setIfInBounds_toArray, List.set_cons_zero, List.set_cons_succ]
      refine Ord.Till.take' 11 (some 68) (oi := _) (x := ?_) rfl rfl (by kernel_rfl) (by kernel_rfl) (by kernel_rfl) (by kernel_rfl) (fun _ _ _ h => h) (by kernel_rfl) ?_ (hSall.out _ hbd) ?_
      rotate_left 1
      · intro v hv; obtain ⟨z0, z1, z2, z3⟩ := hv; go_simp; first | done | with_reducible rfl
      try simp only [Act.put, List.setIfInBounds_toArray, List.set_cons_zero, List.set_cons_succ]
      refine Ord.Till.take' 12 (some 69) (oi := _) (x := ?_) rfl rfl (by kernel_rfl) (by kernel_rfl) (by kernel_rfl) (by kernel_rfl) (fun _ _ _ h => h) (by kernel_rfl) ?_ (hSall.out _ hbd) ?_
      rotate_left 1
      · intro v hv; obtain ⟨z0, z1, z2, z3⟩ := hv; go_simp; first | done | with_reducible rfl
      try simp only [Act.put, List.setIfInBounds_toArray, List.set_cons_zero, List.set_cons_succ]
      refine Ord.Till.take' 13 (some 70) (oi := _) (x := ?_) rfl rfl (by kernel_rfl) (by kernel_rfl) (by kernel_rfl) (by kernel_rfl) (fun _ _ _ h => h) (by kernel_rfl) ?_ (hSall.out _ hbd) ?_
      rotate_left 1
      · intro v hv; obtain ⟨z0, z1, z2, z3⟩ := hv; go_simp; first | done | with_reducible rfl
      try simp only [Act.put, List.setIfInBounds_toArray, List.set_cons_zero, List.set_cons_succ]
      refine Ord.Till.take' 14 (some 71) (oi := _) (x := ?_) rfl rfl (by kernel_rfl) (by kernel_rfl) (by kernel_rfl) (by kernel_rfl) (fun _ _ _ h => h) (by kernel_rfl) ?_ (hSall.out _ hbd) ?_
      rotate_left 1
      · intro v hv; obtain ⟨z0, z1, z2, z3⟩ := hv; go_simp; first | done | with_reducible rfl
      try simp only [Act.put, List.setIfInBounds_toArray, List.set_cons_zero, List.set_cons_succ]
      refine Ord.Till.skip' 15 (some 72) (oi := _) rfl rfl (by kernel_rfl) (by kernel_rfl) (by kernel_rfl) (by kernel_rfl) (fun _ _ _ h => h) (by kernel_rfl) (hSall.out _ hbd) ?_
      try simp only [Act.put, List.setIfInBounds_toArray, List.set_cons_zero, List.set_cons_succ]
      refine Ord.Till.skip' 16 (some 73) (oi := _) rfl rfl (by kernel_rfl) (by kernel_rfl) (by kernel_rfl) (by kernel_rfl) (fun _ _ _ h => h) (by kernel_rfl) (hSall.out _ hbd) ?_
      try simp only [Act.put, List.setIfInBounds_toArray, List.set_cons_zero, List.set_cons_succ]
      refine Ord.Till.skip' 17 (some 74) (oi := _) rfl rfl (by kernel_rfl) (by kernel_rfl) (by kernel_rfl) (by kernel_rfl) (fun _ _ _ h => h) (by kernel_rfl) (hSall.out _ hbd) ?_
      try simp only [Act.put, List.setIfInBounds_toArray, List.set_cons_zero, List.set_cons_succ]
      refine Ord.Till.skip' 18 (some 75) (oi := _) rfl rfl (by kernel_rfl) (by kernel_rfl) (by kernel_rfl) (by kernel_rfl) (fun _ _ _ h => h) (by kernel_rfl) (hSall.out _ hbd) ?_
      try simp only [Act.put, List.setIfInBounds_toArray, List.set_cons_zero, List.set_cons_succ]
      refine Ord.Till.skip' 19 (some 76) (oi := _) rfl rfl (by kernel_rfl) (by kernel_rfl) (by kernel_rfl) (by kernel_rfl) (fun _ _ _ h => h) (by kernel_rfl) (hSall.out _ hbd) ?_
      try simp only [Act.put, List.setIfInBounds_toArray, List.set_cons_zero, List.set_cons_succ]
      refine Ord.Till.take' 20 (some 77) (oi := _) (x := ?_) rfl rfl (by kernel_rfl) (by kernel_rfl) (by kernel_rfl) (by kernel_rfl) (fun _ _ _ h => h) (by kernel_rfl) ?_ (hSall.out _ hbd) ?_
      rotate_left 1
      · intro v hv; obtain ⟨z0, z1, z2, z3⟩ := hv; go_simp; first | done | with_reducible rfl
      try simp only [Act.put, List.setIfInBounds_toArray, List.set_cons_zero, List.set_cons_succ]
      refine Ord.Till.take' 21 (some 78) (oi := _) (x := ?_) rfl rfl (by kernel_rfl) (by kernel_rfl) (by kernel_rfl) (by kernel_rfl) (fun _ _ _ h => h) (by kernel_rfl) ?_ (hSall.out _ hbd) ?_
      rotate_left 1
      · intro v hv; obtain ⟨z0, z1, z2, z3⟩ := hv; go_simp; first | done | with_reducible rfl
      try simp only [Act.put, List.setIfInBounds_toArray, List.set_cons_zero, List.set_cons_succ]
      refine Ord.Till.take' 22 (some 79) (oi := _) (x := ?_) rfl rfl (by kernel_rfl) (by kernel_rfl) (by kernel_rfl) (by kernel_rfl) (fun _ _ _ h => h) (by kernel_rfl) ?_ (hSall.out _ hbd) ?_
      rotate_left 1
      · intro v hv; obtain ⟨z0, z1, z2, z3⟩ := hv; go_simp; first | done | with_reducible rfl
      try simp only [Act.put, List.setIfInBounds_toArray, List.set_cons_zero, List.set_cons_succ]
      refine Ord.Till.take' 23 (some 80) (oi := _) (x := ?_) rfl rfl (by kernel_rfl) (by kernel_rfl) (by kernel_rfl) (by kernel_rfl) (fun _ _ _ h => h) (by kernel_rfl) ?_ (hSall.out _ hbd) ?_
      rotate_left 1
      · intro v hv; obtain ⟨z0, z1, z2, z3⟩ := hv; go_simp; first | done | with_reducible rfl
      try simp only [Act.put, List.setIfInBounds_toArray, List.set_cons_zero, List.set_cons_succ]
      refine Ord.Till.take' 24 (some 81) (oi := _) (x := ?_) rfl rfl (by kernel_rfl) (by kernel_rfl) (by kernel_rfl) (by kernel_rfl) (fun _ _ _ h => h) (by kernel_rfl) ?_ (hSall.out _ hbd) ?_
      rotate_left 1
      · intro v hv; obtain ⟨z0, z1, z2, z3⟩ := hv; go_simp; first | done | with_reducible rfl
      try simp only [Act.put, List.setIfInBounds_toArray, List.set_cons_zero, List.set_cons_succ]
      refine Ord.Till.take' 25 (some 82) (oi := _) (x := ?_) rfl rfl (by kernel_rfl) (by kernel_rfl) (by kernel_rfl) (by kernel_rfl) (fun _ _ _ h => h) (by kernel_rfl) ?_ (hSall.out _ hbd) ?_
      rotate_left 1
      · intro v hv; obtain ⟨z0, z1, z2, z3⟩ := hv; go_simp; first | done | with_reducible rfl
      try simp only [Act.put, List.setIfInBounds_toArray, List.set_cons_zero, List.set_cons_succ]
      refine Ord.Till.step 26 (by kernel_rfl) rfl (fun C hC => ?_)
      go_simp
      go_at_call 11
      refine (rsamemembers_any w5.heap.size x.ap A x.an x.ac n c x.mems xs w5.drew (rMem.below hbd) (((hM.below hb05).more hs5).below hbd) hbd.size hanb).mono ?_
      rintro e w7 ⟨rfl, hb7'⟩
      rw [HSM.out]
      have hb7 : Below w5.heap.size w5 w7 := hbd.trans (hb7'.mono hbd.size)
      go_wp2_with fail
      refine hC.out _ _ (fun _ => hSall.out _ hb7) ?_
      clear hC C hb7'
      try simp only [List.getElem_toArray, List.getElem_cons_zero, List.getElem_cons_succ, Act.put, List.setIfInBounds_toArray, List.set_cons_zero, List.set_cons_succ]
      refine Ord.Till.take' 27 (some 84) (oi := _) (x := ?_) rfl rfl (by kernel_rfl) (by kernel_rfl) (by kernel_rfl) (by kernel_rfl) (fun _ _ _ h => h) (by kernel_rfl) ?_ (hSall.out _ hb7) ?_
      rotate_left 1
      · intro v hv; obtain ⟨z0, z1, z2, z3⟩ := hv; go_simp; first | done | with_reducible rfl
      try simp only [Act.put, List.setIfInBounds_toArray, List.set_cons_zero, List.set_cons_succ]
      refine Ord.Till.take' 28 (some 85) (oi := _) (x := ?_) rfl rfl (by kernel_rfl) (by kernel_rfl) (by kernel_rfl) (by kernel_rfl) (fun _ _ _ h => h) (by kernel_rfl) ?_ (hSall.out _ hb7) ?_
      rotate_left 1
      · intro v hv; obtain ⟨z0, z1, z2, z3⟩ := hv; go_simp; first | done | with_reducible rfl
      try simp only [Act.put, List.setIfInBounds_toArray, List.set_cons_zero, List.set_cons_succ]
      refine Ord.Till.take' 29 (some 86) (oi := _) (x := ?_) rfl rfl (by kernel_rfl) (by kernel_rfl) (by kernel_rfl) (by kernel_rfl) (fun _ _ _ h => h) (by kernel_rfl) ?_ (hSall.out _ hb7) ?_
      rotate_left 1
      · intro v hv; obtain ⟨z0, z1, z2, z3⟩ := hv; go_simp; first | done | with_reducible rfl
      try simp only [Act.put, List.setIfInBounds_toArray, List.set_cons_zero, List.set_cons_succ]
      refine Ord.Till.take' 30 (some 87) (oi := _) (x := ?_) rfl rfl (by kernel_rfl) (by kernel_rfl) (by kernel_rfl) (by kernel_rfl) (fun _ _ _ h => h) (by kernel_rfl) ?_ (hSall.out _ hb7) ?_
      rotate_left 1
      · intro v hv; obtain ⟨z0, z1, z2, z3⟩ := hv; go_simp; first | done | with_reducible rfl
      try simp only [Act.put, List.setIfInBounds_toArray, List.set_cons_zero, List.set_cons_succ]
      refine Ord.Till.take' 31 (some 88) (oi := _) (x := ?_) rfl rfl (by kernel_rfl) (by kernel_rfl) (by kernel_rfl) (by kernel_rfl) (fun _ _ _ h => h) (by kernel_rfl) ?_ (hSall.out _ hb7) ?_
      rotate_left 1
      · intro v hv; obtain ⟨z0, z1, z2, z3⟩ := hv; go_simp; first | done | with_reducible rfl
      try simp only [Act.put, List.setIfInBounds_toArray, List.set_cons_zero, List.set_cons_succ]
      refine Ord.Till.take' 32 (some 89) (oi := _) (x := ?_) rfl rfl (by kernel_rfl) (by kernel_rfl) (by kernel_rfl) (by kernel_rfl) (fun _ _ _ h => h) (by kernel_rfl) ?_ (hSall.out _ hb7) ?_
      rotate_left 1
      · intro v hv; obtain ⟨z0, z1, z2, z3⟩ := hv; go_simp; first | done | with_reducible rfl
      try simp only [Act.put, List.setIfInBounds_toArray, List.set_cons_zero, List.set_cons_succ]
      refine Ord.Till.take' 33 (some 90) (oi := _) (x := ?_) rfl rfl (by kernel_rfl) (by kernel_rfl) (by kernel_rfl) (by kernel_rfl) (fun _ _ _ h => h) (by kernel_rfl) ?_ (hSall.out _ hb7) ?_
      rotate_left 1
      · intro v hv; obtain ⟨z0, z1, z2, z3⟩ := hv; go_simp; first | done | with_reducible rfl
      try simp only [Act.put, List.setIfInBounds_toArray, List.set_cons_zero, List.set_cons_succ]
      refine Ord.Till.take' 34 (some 91) (oi := _) (x := ?_) rfl rfl (by kernel_rfl) (by kernel_rfl) (by kernel_rfl) (by kernel_rfl) (fun _ _ _ h => h) (by kernel_rfl) ?_ (hSall.out _ hb7) ?_
      rotate_left 1
      · intro v hv; obtain ⟨z0, z1, z2, z3⟩ := hv; go_simp; first | done | with_reducible rfl
      try simp only [Act.put, List.setIfInBounds_toArray, List.set_cons_zero, List.set_cons_succ]
      refine Ord.Till.take' 35 (some 92) (oi := _) (x := ?_) rfl rfl (by kernel_rfl) (by kernel_rfl) (by kernel_rfl) (by kernel_rfl) (fun _ _ _ h => h) (by kernel_rfl) ?_ (hSall.out _ hb7) ?_
      rotate_left 1
      · intro v hv; obtain ⟨z0, z1, z2, z3⟩ := hv; go_simp; first | done | with_reducible rfl
      try simp only [Act.put, List.setIfInBounds_toArray, List.set_cons_zero, List.set_cons_succ]
      refine Ord.Till.step 36 (by kernel_rfl) rfl (fun C hC => ?_)
      go_simp
      go_at_call 13
      refine (offsets_any false n' w.heap.size A n c xs w7 (hG.on (hb05.trans (hb7.mono hs5))) ((hM.below hb05).below (hb7.mono hs5)) (Nat.le_trans hs5 hb7.size) hok hn20 (by omega)).mono ?_
      rintro e w8 ⟨A8, n8, c8, rfl, o8, hb8'⟩
      rw [HZ.out] at o8
      have r8 := rdI_of o8
      have hb8 : Below w5.heap.size w5 w8 := hb7.trans (hb8'.mono hb7.size)
      go_wp2_with fail
      refine hC.out _ _ (fun _ => hSall.out _ hb8) ?_
      clear hC C hb8' o8
      try simp only [List.getElem_toArray, List.getElem_cons_zero, List.getElem_cons_succ, Act.put, List.setIfInBounds_toArray, List.set_cons_zero, List.set_cons_succ]
      refine Ord.Till.step 37 (by kernel_rfl) rfl (fun C hC => ?_)
      go_simp
      go_at_call 12
      refine (rnumbers_any _ _ x.op A8 x.on x.oc n8 c8 x.offs ((offL (base false n' xs) xs).map fun (o : Nat) => (o : Int)) w8 (rOff.below hb8) r8 honb).mono ?_
      rintro e w9 ⟨rfl, k9, rfl⟩
      rw [HOF.out, beq_self_eq_true]
      have hb9 : Below w5.heap.size w5 (w8.drewN k9) := hb8.trans ⟨rfl, rfl, rfl, Nat.le_refl _, fun _ _ => rfl⟩
      go_wp2_with fail
      refine hC.out _ _ (fun _ => hSall.out _ hb9) ?_
      clear hC C
      try simp only [List.getElem_toArray, List.getElem_cons_zero, List.getElem_cons_succ, Act.put, List.setIfInBounds_toArray, List.set_cons_zero, List.set_cons_succ]
      refine Ord.Till.take' 38 (some 95) (oi := _) (x := ?_) rfl rfl (by kernel_rfl) (by kernel_rfl) (by kernel_rfl) (by kernel_rfl) (fun _ _ _ h => h) (by kernel_rfl) ?_ (hSall.out _ hb9) ?_
      rotate_left 1
      · intro v hv; obtain ⟨z0, z1, z2, z3⟩ := hv; go_simp; first | done | with_reducible rfl
      try simp only [Act.put, List.setIfInBounds_toArray, List.set_cons_zero, List.set_cons_succ]
      refine Ord.Till.take' 39 (some 96) (oi := _) (x := ?_) rfl rfl (by kernel_rfl) (by kernel_rfl) (by kernel_rfl) (by kernel_rfl) (fun _ _ _ h => h) (by kernel_rfl) ?_ (hSall.out _ hb9) ?_
      rotate_left 1
      · intro v hv; obtain ⟨z0, z1, z2, z3⟩ := hv; go_simp; first | done | with_reducible rfl
      try simp only [Act.put, List.setIfInBounds_toArray, List.set_cons_zero, List.set_cons_succ]
      refine Ord.Till.done (by kernel_rfl) ?_ _
      clear hb8 hb7 hbd r8
      generalize w8.drewN k9 = w9 at *
      obtain ⟨e0, e1, e2, _⟩ := hSall.out _ hb9
      have hb09 := hb05.trans (hb9.mono hs5)
      have hs9 : w5.heap.size ≤ w9.heap.size := hb9.size
      go_wp2_with fail
      refine (write_any false x.mp x.mn x.mc x.map w5.heap.size w5.heap.size x.ap x.an x.ac x.mems w9 (hG.on hb09) (rMap.below hb9) hs9 hmn1 (rMem.below hb9) hs9 hokx han20).mono ?_
      rintro e w10 ⟨v10, rfl, o10, hb10⟩
      rw [HFX.out]
      rw [HWX.out] at o10
      obtain ⟨A10, c10, rfl, r10, _⟩ := o10.reads
      have r310 := r3.below ((hb35.trans (hb9.mono hs35)).trans (hb10.mono (by omega)))
      have hb010 := hb09.trans (hb10.mono (by omega))
      clear o10 hb10 e0 e1 e2
      go_wp2_with fail
      refine (Dec.same_any 10 rfl _ _ A3 A10 _ c3 _ c10 ar ar w10 r310 r10 (by omega)).mono ?_
      rintro e w11 ⟨rfl, k11, rfl⟩
      rw [beq_self_eq_true]
      go_wp2_with fail
      go_ret
      exact ⟨rfl, hb010.trans ⟨rfl, rfl, rfl, Nat.le_refl _, fun _ _ => rfl⟩⟩
    case true =>
      have hz' := hz
      have HZ : Hid ((if (fitL 0 xs).2 = 0 then offL (base true n' xs) xs else []) = offL (base true n' xs) xs) := hid (if_pos hz)
      have hfit := (fitL_zero 0 xs).1 hz
      have hxl : ∀ x ∈ xs, x.data.length = x.len := fun x hx => by obtain ⟨k, hk, rfl⟩ := List.mem_iff_getElem.1 hx; exact (hM.2 k hk).2.1.1
      have hn20' : xs.length ≤ 20 := by have := hl.out; omega
      have hal := arch_len (hm := true) (md := l) hfit hn20' hok hxl (by have := hlr.out; omega)
      have hw3 : wout true l xs = arch true l xs := if_pos hz
      have HAR := hid (ar_arch (hm := true) (md := l) (xs := xs) (by have := hlr.out; omega) hfit (by omega) (fun x hx => (hxl x hx).symm))
      rw [hw3] at o3
      rw [hz]
      have HWX0 : Hid (wout true l xs = arch true l xs) := hid hw3
      obtain ⟨ar, har⟩ : ∃ ar, arch true l xs = ar := ⟨_, rfl⟩
      rw [har] at o3 hal HAR HWX0
      clear har hw3
      obtain ⟨A3, c3, rfl, r3, hc3, _⟩ := o3.reads
      clear o3 hz'
      go_wp2_with fail
      refine (parse_any A3 ar.length c3 ar w3 (hG.on hb03).1 r3 hc3 (by omega)).mono ?_
      rintro e w4 ⟨x, rfl, hxis, hxo, hb4⟩
      rw [HAR.out] at hxis ⊢
      obtain ⟨hx1, hx2, hx3, hx4⟩ := hxis
      simp only at hx1 hx2 hx3 hx4
      replace hx2 : x.map = l := by simpa using hx2
      have HX2 := hid hx2
      have HX1 := hid hx1
      clear hx1
      have hb04 := hb03.trans (hb4.mono hs3)
      have hxd : ∀ y ∈ x.mems, y.len = y.data.length := fun y hy => (hxo.data y hy).1.symm
      have hcore : x.mems.map core = xs.map core := pure_core hx3 hxd (fun y hy => (hxl y hy).symm)
      have hxml : x.map.length = x.mn := hxo.map.1
      obtain ⟨rMap, rMem, rOff, hmnb, hanb, honb⟩ := hxo.reads
      have hokx := core_mok hcore hok
      have hanl : x.mems.length = x.an := rMem.1
      have han20 : x.an ≤ 20 := by rw [← hanl, core_len hcore]; exact hn20'
      have HSM := hid (sameMs_pure hx3)
      have HOF : Hid (x.offs = (offL (base true n' xs) xs).map fun (o : Nat) => (o : Int)) := hid (by rw [hx4, hlr.out])
      have HFX : Hid ((fitL 0 x.mems).2 = 0) := hid (by rw [← fitL_core, hcore, fitL_core]; exact hz)
      have hmn1 : x.mn ≤ 1000 := by rw [← hxml, hx2]; rw [hlr.out]; omega
      have HWX : Hid (wout true x.map x.mems = ar) := hid (by rw [← wout_core, hcore, wout_core, ← HWX0.out]; rw [hx2])
      have rMap5 := rMap.below ((Below.refl w4.heap.size w4).alloc (Nat.le_refl _) (.cells #[.bool x.hasMap, .slice x.mp x.mn x.mc, .slice x.ap x.an x.ac, .slice x.op x.on x.oc] 33))
      have rMem5 := rMem.below ((Below.refl w4.heap.size w4).alloc (Nat.le_refl _) (.cells #[.bool x.hasMap, .slice x.mp x.mn x.mc, .slice x.ap x.an x.ac, .slice x.op x.on x.oc] 33))
      have rOff5 := rOff.below ((Below.refl w4.heap.size w4).alloc (Nat.le_refl _) (.cells #[.bool x.hasMap, .slice x.mp x.mn x.mc, .slice x.ap x.an x.ac, .slice x.op x.on x.oc] 33))
      have hrow := heap_alloc_new w4 (.cells #[.bool x.hasMap, .slice x.mp x.mn x.mc, .slice x.ap x.an x.ac, .slice x.op x.on x.oc] 33)
      have hb45 := (Below.refl w4.heap.size w4).alloc (Nat.le_refl _) (.cells #[.bool x.hasMap, .slice x.mp x.mn x.mc, .slice x.ap x.an x.ac, .slice x.op x.on x.oc] 33)
      have hb05 := hb04.trans (hb45.mono hb04.size)
      have hb35 : Below w3.heap.size w3 (w4.alloc (.cells #[.bool x.hasMap, .slice x.mp x.mn x.mc, .slice x.ap x.an x.ac, .slice x.op x.on x.oc] 33)) := hb4.trans (hb45.mono hb4.size)
      clear hx2 hx3 hx4 hcore hxml hanl
      simp only [Arc.val]
      go_upto_region 8 with fail
      clear rMap rMem rOff hb4 hb04 hb03 hxo HAR hxd
      have hs45 := hb45.size
      have hgl := (Array.getElem?_eq_some_iff.1 hrow).1
      have hx2l : x.map = l := HX2.out
      clear hb45
      generalize w4.alloc (.cells #[.bool x.hasMap, .slice x.mp x.mn x.mc, .slice x.ap x.an x.ac, .slice x.op x.on x.oc] 33) = w5 at *
      replace rMap := rMap5.more hs45
      replace rMem := rMem5.more hs45
      replace rOff := rOff5.more hs45
      clear rMap5 rMem5 rOff5
      have rMapL := rMap
      rw [hx2l] at rMapL
      clear hx2l
      generalize w4.heap.size = g at *
      have hs5 : w.heap.size ≤ w5.heap.size := hb05.size
      have hs35 : w3.heap.size ≤ w5.heap.size := hb35.size
      rw [HX1.out] at hrow
      have hSall : Hid (∀ W', Below w5.heap.size w5 W' → (fun W' => W'.cell? ⟨g, 0, none⟩ = some (.bool true) ∧ W'.cell? ⟨g, 1, none⟩ = some (.slice x.mp x.mn x.mc) ∧ W'.cell? ⟨g, 2, none⟩ = some (.slice x.ap x.an x.ac) ∧ W'.cell? ⟨g, 3, none⟩ = some (.slice x.op x.on x.oc)) W') := hid fun W' hb' => by
        have r := (hb'.block g hgl).trans hrow
        exact ⟨cell_of_row _ g 0 _ _ _ r, cell_of_row _ g 1 _ _ _ r, cell_of_row _ g 2 _ _ _ r, cell_of_row _ g 3 _ _ _ r⟩
      have hbd : Below w5.heap.size w5 w5.drew := (Below.refl _ _).drew
      refine Ord.Till.begin (fun W' => W'.cell? ⟨g, 0, none⟩ = some (.bool true) ∧ W'.cell? ⟨g, 1, none⟩ = some (.slice x.mp x.mn x.mc) ∧ W'.cell? ⟨g, 2, none⟩ = some (.slice x.ap x.an x.ac) ∧ W'.cell? ⟨g, 3, none⟩ = some (.slice x.op x.on x.oc)) 60 (by kernel_rfl) ?_
      refine Ord.Till.take' 0 (some 57) (oi := _) (x := ?_) rfl rfl (by kernel_rfl) (by kernel_rfl) (by kernel_rfl) (by kernel_rfl) (fun _ _ _ h => h) (by kernel_rfl) ?_ (hSall.out _ hbd) ?_
      rotate_left 1
      · intro v hv; obtain ⟨z0, z1, z2, z3⟩ := hv; go_simp; first | done | with_reducible rfl
      try simp only [Act.put, List.setIfInBounds_toArray, List.set_cons_zero, List.set_cons_succ]
      refine Ord.Till.take' 1 (some 58) (oi := _) (x := ?_) rfl rfl (by kernel_rfl) (by kernel_rfl) (by kernel_rfl) (by kernel_rfl) (fun _ _ _ h => h) (by kernel_rfl) ?_ (hSall.out _ hbd) ?_
      rotate_left 1
      · intro v hv; obtain ⟨z0, z1, z2, z3⟩ := hv; go_simp; first | done | with_reducible rfl
      try simp only [Act.put, List.setIfInBounds_toArray, List.set_cons_zero, List.set_cons_succ]
      refine Ord.Till.take' 2 (some 59) (oi := _) (x := ?_) rfl rfl (by kernel_rfl) (by kernel_rfl) (by kernel_rfl) (by kernel_rfl) (fun _ _ _ h => h) (by kernel_rfl) ?_ (hSall.out _ hbd) ?_
      rotate_left 1
      · intro v hv; obtain ⟨z0, z1, z2, z3⟩ := hv; go_simp; first | done | with_reducible rfl
      try simp only [Act.put, List.setIfInBounds_toArray, List.set_cons_zero, List.set_cons_succ]
      refine Ord.Till.take' 3 (some 60) (oi := _) (x := ?_) rfl rfl (by kernel_rfl) (by kernel_rfl) (by kernel_rfl) (by kernel_rfl) (fun _ _ _ h => h) (by kernel_rfl) ?_ (hSall.out _ hbd) ?_
      rotate_left 1
      · intro v hv; obtain ⟨z0, z1, z2, z3⟩ := hv; go_simp; first | done | with_reducible rfl
      try simp only [Act.put, List.setIfInBounds_toArray, List.set_cons_zero, List.set_cons_succ]
      refine Ord.Till.take' 4 (some 61) (oi := _) (x := ?_) rfl rfl (by kernel_rfl) (by kernel_rfl) (by kernel_rfl) (by kernel_rfl) (fun _ _ _ h => h) (by kernel_rfl) ?_ (hSall.out _ hbd) ?_
      rotate_left 1
      · intro v hv; obtain ⟨z0, z1, z2, z3⟩ := hv; go_simp; first | done | with_reducible rfl
      try simp only [Act.put, List.setIfInBounds_toArray, List.set_cons_zero, List.set_cons_succ]
      refine Ord.Till.take' 5 (some 62) (oi := _) (x := ?_) rfl rfl (by kernel_rfl) (by kernel_rfl) (by kernel_rfl) (by kernel_rfl) (fun _ _ _ h => h) (by kernel_rfl) ?_ (hSall.out _ hbd) ?_
      rotate_left 1
      · intro v hv; obtain ⟨z0, z1, z2, z3⟩ := hv; go_simp; first | done | with_reducible rfl
      try simp only [Act.put, List.setIfInBounds_toArray, List.set_cons_zero, List.set_cons_succ]
      refine Ord.Till.take' 6 (some 63) (oi := _) (x := ?_) rfl rfl (by kernel_rfl) (by kernel_rfl) (by kernel_rfl) (by kernel_rfl) (fun _ _ _ h => h) (by kernel_rfl) ?_ (hSall.out _ hbd) ?_
      rotate_left 1
      · intro v hv; obtain ⟨z0, z1, z2, z3⟩ := hv; go_simp; first | done | with_reducible rfl
      try simp only [Act.put, List.setIfInBounds_toArray, List.set_cons_zero, List.set_cons_succ]
      refine Ord.Till.take' 7 (some 64) (oi := _) (x := ?_) rfl rfl (by kernel_rfl) (by kernel_rfl) (by kernel_rfl) (by kernel_rfl) (fun _ _ _ h => h) (by kernel_rfl) ?_ (hSall.out _ hbd) ?_
      rotate_left 1
      · intro v hv; obtain ⟨z0, z1, z2, z3⟩ := hv; go_simp; first | done | with_reducible rfl
      try simp only [Act.put, List.setIfInBounds_toArray, List.set_cons_zero, List.set_cons_succ]
      refine Ord.Till.take' 8 (some 65) (oi := _) (x := ?_) rfl rfl (by kernel_rfl) (by kernel_rfl) (by kernel_rfl) (by kernel_rfl) (fun _ _ _ h => h) (by kernel_rfl) ?_ (hSall.out _ hbd) ?_
      rotate_left 1
      · intro v hv; obtain ⟨z0, z1, z2, z3⟩ := hv; go_simp; first | done | with_reducible rfl
      try simp only [Act.put, List.setIfInBounds_toArray, List.set_cons_zero, List.set_cons_succ]
      refine Ord.Till.take' 9 (some 66) (oi := _) (x := ?_) rfl rfl (by kernel_rfl) (by kernel_rfl) (by kernel_rfl) (by kernel_rfl) (fun _ _ _ h => h) (by kernel_rfl) ?_ (hSall.out _ hbd) ?_
      rotate_left 1
      · intro v hv; obtain ⟨z0, z1, z2, z3⟩ := hv; go_simp; first | done | with_reducible rfl
      try simp only [Act.put, List.setIfInBounds_toArray, List.set_cons_zero, List.set_cons_succ]
      refine Ord.Till.take' 10 (some 67) (oi := _) (x := ?_) rfl rfl (by kernel_rfl) (by kernel_rfl) (by kernel_rfl) (by kernel_rfl) (fun _ _ _ h => h) (by kernel_rfl) ?_ (hSall.out _ hbd) ?_
      rotate_left 1
      · intro v hv; obtain ⟨z0, z1, z2, z3⟩ := hv; go_simp; first | done | with_reducible rfl
      try simp only [Act.put, List.setIfInBounds_toArray, List.set_cons_zero, List.set_cons_succ]
      refine Ord.Till.take' 11 (some 68) (oi := _) (x := ?_) rfl rfl (by kernel_rfl) (by kernel_rfl) (by kernel_rfl) (by kernel_rfl) (fun _ _ _ h => h) (by kernel_rfl) ?_ (hSall.out _ hbd) ?_
      rotate_left 1
      · intro v hv; obtain ⟨z0, z1, z2, z3⟩ := hv; go_simp; first | done | with_reducible rfl
      try simp only [Act.put, List.setIfInBounds_toArray, List.set_cons_zero, List.set_cons_succ]
      refine Ord.Till.take' 12 (some 69) (oi := _) (x := ?_) rfl rfl (by kernel_rfl) (by kernel_rfl) (by kernel_rfl) (by kernel_rfl) (fun _ _ _ h => h) (by kernel_rfl) ?_ (hSall.out _ hbd) ?_
      rotate_left 1
      · intro v hv; obtain ⟨z0, z1, z2, z3⟩ := hv; go_simp; first | done | with_reducible rfl
      try simp only [Act.put, List.setIfInBounds_toArray, List.set_cons_zero, List.set_cons_succ]
      refine Ord.Till.take' 13 (some 70) (oi := _) (x := ?_) rfl rfl (by kernel_rfl) (by kernel_rfl) (by kernel_rfl) (by kernel_rfl) (fun _ _ _ h => h) (by kernel_rfl) ?_ (hSall.out _ hbd) ?_
      rotate_left 1
      · intro v hv; obtain ⟨z0, z1, z2, z3⟩ := hv; go_simp; first | done | with_reducible rfl
      try simp only [Act.put, List.setIfInBounds_toArray, List.set_cons_zero, List.set_cons_succ]
      refine Ord.Till.take' 14 (some 71) (oi := _) (x := ?_) rfl rfl (by kernel_rfl) (by kernel_rfl) (by kernel_rfl) (by kernel_rfl) (fun _ _ _ h => h) (by kernel_rfl) ?_ (hSall.out _ hbd) ?_
      rotate_left 1
      · intro v hv; obtain ⟨z0, z1, z2, z3⟩ := hv; go_simp; first | done | with_reducible rfl
      try simp only [Act.put, List.setIfInBounds_toArray, List.set_cons_zero, List.set_cons_succ]
      refine Ord.Till.take' 15 (some 72) (oi := _) (x := ?_) rfl rfl (by kernel_rfl) (by kernel_rfl) (by kernel_rfl) (by kernel_rfl) (fun _ _ _ h => h) (by kernel_rfl) ?_ (hSall.out _ hbd) ?_
      rotate_left 1
      · intro v hv; obtain ⟨z0, z1, z2, z3⟩ := hv; go_simp; first | done | with_reducible rfl
      try simp only [Act.put, List.setIfInBounds_toArray, List.set_cons_zero, List.set_cons_succ]
      refine Ord.Till.take' 16 (some 73) (oi := _) (x := ?_) rfl rfl (by kernel_rfl) (by kernel_rfl) (by kernel_rfl) (by kernel_rfl) (fun _ _ _ h => h) (by kernel_rfl) ?_ (hSall.out _ hbd) ?_
      rotate_left 1
      · intro v hv; obtain ⟨z0, z1, z2, z3⟩ := hv; go_simp; first | done | with_reducible rfl
      try simp only [Act.put, List.setIfInBounds_toArray, List.set_cons_zero, List.set_cons_succ]
      refine Ord.Till.take' 17 (some 74) (oi := _) (x := ?_) rfl rfl (by kernel_rfl) (by kernel_rfl) (by kernel_rfl) (by kernel_rfl) (fun _ _ _ h => h) (by kernel_rfl) ?_ (hSall.out _ hbd) ?_
      rotate_left 1
      · intro v hv; obtain ⟨z0, z1, z2, z3⟩ := hv; go_simp; first | done | with_reducible rfl
      try simp only [Act.put, List.setIfInBounds_toArray, List.set_cons_zero, List.set_cons_succ]
      refine Ord.Till.step 18 (by kernel_rfl) rfl (fun C hC => ?_)
      go_simp
      go_at_call 10
      refine (Dec.same_any 10 rfl _ w.heap.size x.mp A' x.mn x.mc n' c' l l w5.drew (rMapL.below hbd) (hr.below (hb05.trans (hbd.mono hs5))) hmnb).mono ?_
      rintro e w6 ⟨rfl, k6, hw6⟩
      rw [beq_self_eq_true]
      have hb6 : Below w5.heap.size w5 w6 := by rw [hw6]; exact hbd.trans ⟨rfl, rfl, rfl, Nat.le_refl _, fun _ _ => rfl⟩
      clear hw6
      go_wp2_with fail
      refine hC.out _ _ (fun _ => hSall.out _ hb6) ?_
      clear hC C
      try simp only [List.getElem_toArray, List.getElem_cons_zero, List.getElem_cons_succ, Act.put, List.setIfInBounds_toArray, List.set_cons_zero, List.set_cons_succ]
      clear hbd
      refine Ord.Till.take' 19 (some 76) (oi := _) (x := ?_) rfl rfl (by kernel_rfl) (by kernel_rfl) (by kernel_rfl) (by kernel_rfl) (fun _ _ _ h => h) (by kernel_rfl) ?_ (hSall.out _ hb6) ?_
      rotate_left 1
      · intro v hv; obtain ⟨z0, z1, z2, z3⟩ := hv; go_simp; first | done | with_reducible rfl
      try simp only [Act.put, List.setIfInBounds_toArray, List.set_cons_zero, List.set_cons_succ]
      refine Ord.Till.take' 20 (some 77) (oi := _) (x := ?_) rfl rfl (by kernel_rfl) (by kernel_rfl) (by kernel_rfl) (by kernel_rfl) (fun _ _ _ h => h) (by kernel_rfl) ?_ (hSall.out _ hb6) ?_
      rotate_left 1
      · intro v hv; obtain ⟨z0, z1, z2, z3⟩ := hv; go_simp; first | done | with_reducible rfl
      try simp only [Act.put, List.setIfInBounds_toArray, List.set_cons_zero, List.set_cons_succ]
      refine Ord.Till.take' 21 (some 78) (oi := _) (x := ?_) rfl rfl (by kernel_rfl) (by kernel_rfl) (by kernel_rfl) (by kernel_rfl) (fun _ _ _ h => h) (by kernel_rfl) ?_ (hSall.out _ hb6) ?_
      rotate_left 1
      · intro v hv; obtain ⟨z0, z1, z2, z3⟩ := hv; go_simp; first | done | with_reducible rfl
      try simp only [Act.put, List.setIfInBounds_toArray, List.set_cons_zero, List.set_cons_succ]
      refine Ord.Till.take' 22 (some 79) (oi := _) (x := ?_) rfl rfl (by kernel_rfl) (by kernel_rfl) (by kernel_rfl) (by kernel_rfl) (fun _ _ _ h => h) (by kernel_rfl) ?_ (hSall.out _ hb6) ?_
      rotate_left 1
      · intro v hv; obtain ⟨z0, z1, z2, z3⟩ := hv; go_simp; first | done | with_reducible rfl
      try simp only [Act.put, List.setIfInBounds_toArray, List.set_cons_zero, List.set_cons_succ]
      refine Ord.Till.take' 23 (some 80) (oi := _) (x := ?_) rfl rfl (by kernel_rfl) (by kernel_rfl) (by kernel_rfl) (by kernel_rfl) (fun _ _ _ h => h) (by kernel_rfl) ?_ (hSall.out _ hb6) ?_
      rotate_left 1
      · intro v hv; obtain ⟨z0, z1, z2, z3⟩ := hv; go_simp; first | done | with_reducible rfl
      try simp only [Act.put, List.setIfInBounds_toArray, List.set_cons_zero, List.set_cons_succ]
      refine Ord.Till.take' 24 (some 81) (oi := _) (x := ?_) rfl rfl (by kernel_rfl) (by kernel_rfl) (by kernel_rfl) (by kernel_rfl) (fun _ _ _ h => h) (by kernel_rfl) ?_ (hSall.out _ hb6) ?_
      rotate_left 1
      · intro v hv; obtain ⟨z0, z1, z2, z3⟩ := hv; go_simp; first | done | with_reducible rfl
      try simp only [Act.put, List.setIfInBounds_toArray, List.set_cons_zero, List.set_cons_succ]
      refine Ord.Till.take' 25 (some 82) (oi := _) (x := ?_) rfl rfl (by kernel_rfl) (by kernel_rfl) (by kernel_rfl) (by kernel_rfl) (fun _ _ _ h => h) (by kernel_rfl) ?_ (hSall.out _ hb6) ?_
      rotate_left 1
      · intro v hv; obtain ⟨z0, z1, z2, z3⟩ := hv; go_simp; first | done | with_reducible rfl
      try simp only [Act.put, List.setIfInBounds_toArray, List.set_cons_zero, List.set_cons_succ]
      refine Ord.Till.step 26 (by kernel_rfl) rfl (fun C hC => ?_)
      go_simp
      go_at_call 11
      refine (rsamemembers_any w5.heap.size x.ap A x.an x.ac n c x.mems xs w6 (rMem.below hb6) (((hM.below hb05).more hs5).below hb6) hb6.size hanb).mono ?_
      rintro e w7 ⟨rfl, hb7'⟩
      rw [HSM.out]
      have hb7 : Below w5.heap.size w5 w7 := hb6.trans (hb7'.mono hb6.size)
      go_wp2_with fail
      refine hC.out _ _ (fun _ => hSall.out _ hb7) ?_
      clear hC C hb7'
      try simp only [List.getElem_toArray, List.getElem_cons_zero, List.getElem_cons_succ, Act.put, List.setIfInBounds_toArray, List.set_cons_zero, List.set_cons_succ]
      refine Ord.Till.take' 27 (some 84) (oi := _) (x := ?_) rfl rfl (by kernel_rfl) (by kernel_rfl) (by kernel_rfl) (by kernel_rfl) (fun _ _ _ h => h) (by kernel_rfl) ?_ (hSall.out _ hb7) ?_
      rotate_left 1
      · intro v hv; obtain ⟨z0, z1, z2, z3⟩ := hv; go_simp; first | done | with_reducible rfl
      try simp only [Act.put, List.setIfInBounds_toArray, List.set_cons_zero, List.set_cons_succ]
      refine Ord.Till.take' 28 (some 85) (oi := _) (x := ?_) rfl rfl (by kernel_rfl) (by kernel_rfl) (by kernel_rfl) (by kernel_rfl) (fun _ _ _ h => h) (by kernel_rfl) ?_ (hSall.out _ hb7) ?_
      rotate_left 1
      · intro v hv; obtain ⟨z0, z1, z2, z3⟩ := hv; go_simp; first | done | with_reducible rfl
      try simp only [Act.put, List.setIfInBounds_toArray, List.set_cons_zero, List.set_cons_succ]
      refine Ord.Till.take' 29 (some 86) (oi := _) (x := ?_) rfl rfl (by kernel_rfl) (by kernel_rfl) (by kernel_rfl) (by kernel_rfl) (fun _ _ _ h => h) (by kernel_rfl) ?_ (hSall.out _ hb7) ?_
      rotate_left 1
      · intro v hv; obtain ⟨z0, z1, z2, z3⟩ := hv; go_simp; first | done | with_reducible rfl
      try simp only [Act.put, List.setIfInBounds_toArray, List.set_cons_zero, List.set_cons_succ]
      refine Ord.Till.take' 30 (some 87) (oi := _) (x := ?_) rfl rfl (by kernel_rfl) (by kernel_rfl) (by kernel_rfl) (by kernel_rfl) (fun _ _ _ h => h) (by kernel_rfl) ?_ (hSall.out _ hb7) ?_
      rotate_left 1
      · intro v hv; obtain ⟨z0, z1, z2, z3⟩ := hv; go_simp; first | done | with_reducible rfl
      try simp only [Act.put, List.setIfInBounds_toArray, List.set_cons_zero, List.set_cons_succ]
      refine Ord.Till.take' 31 (some 88) (oi := _) (x := ?_) rfl rfl (by kernel_rfl) (by kernel_rfl) (by kernel_rfl) (by kernel_rfl) (fun _ _ _ h => h) (by kernel_rfl) ?_ (hSall.out _ hb7) ?_
      rotate_left 1
      · intro v hv; obtain ⟨z0, z1, z2, z3⟩ := hv; go_simp; first | done | with_reducible rfl
      try simp only [Act.put, List.setIfInBounds_toArray, List.set_cons_zero, List.set_cons_succ]
      refine Ord.Till.take' 32 (some 89) (oi := _) (x := ?_) rfl rfl (by kernel_rfl) (by kernel_rfl) (by kernel_rfl) (by kernel_rfl) (fun _ _ _ h => h) (by kernel_rfl) ?_ (hSall.out _ hb7) ?_
      rotate_left 1
      · intro v hv; obtain ⟨z0, z1, z2, z3⟩ := hv; go_simp; first | done | with_reducible rfl
      try simp only [Act.put, List.setIfInBounds_toArray, List.set_cons_zero, List.set_cons_succ]
      refine Ord.Till.take' 33 (some 90) (oi := _) (x := ?_) rfl rfl (by kernel_rfl) (by kernel_rfl) (by kernel_rfl) (by kernel_rfl) (fun _ _ _ h => h) (by kernel_rfl) ?_ (hSall.out _ hb7) ?_
      rotate_left 1
      · intro v hv; obtain ⟨z0, z1, z2, z3⟩ := hv; go_simp; first | done | with_reducible rfl
      try simp only [Act.put, List.setIfInBounds_toArray, List.set_cons_zero, List.set_cons_succ]
      refine Ord.Till.take' 34 (some 91) (oi := _) (x := ?_) rfl rfl (by kernel_rfl) (by kernel_rfl) (by kernel_rfl) (by kernel_rfl) (fun _ _ _ h => h) (by kernel_rfl) ?_ (hSall.out _ hb7) ?_
      rotate_left 1
      · intro v hv; obtain ⟨z0, z1, z2, z3⟩ := hv; go_simp; first | done | with_reducible rfl
      try simp only [Act.put, List.setIfInBounds_toArray, List.set_cons_zero, List.set_cons_succ]
      refine Ord.Till.take' 35 (some 92) (oi := _) (x := ?_) rfl rfl (by kernel_rfl) (by kernel_rfl) (by kernel_rfl) (by kernel_rfl) (fun _ _ _ h => h) (by kernel_rfl) ?_ (hSall.out _ hb7) ?_
      rotate_left 1
      · intro v hv; obtain ⟨z0, z1, z2, z3⟩ := hv; go_simp; first | done | with_reducible rfl
      try simp only [Act.put, List.setIfInBounds_toArray, List.set_cons_zero, List.set_cons_succ]
      refine Ord.Till.step 36 (by kernel_rfl) rfl (fun C hC => ?_)
      go_simp
      go_at_call 13
      refine (offsets_any true n' w.heap.size A n c xs w7 (hG.on (hb05.trans (hb7.mono hs5))) ((hM.below hb05).below (hb7.mono hs5)) (Nat.le_trans hs5 hb7.size) hok hn20 (by omega)).mono ?_
      rintro e w8 ⟨A8, n8, c8, rfl, o8, hb8'⟩
      rw [HZ.out] at o8
      have r8 := rdI_of o8
      have hb8 : Below w5.heap.size w5 w8 := hb7.trans (hb8'.mono hb7.size)
      go_wp2_with fail
      refine hC.out _ _ (fun _ => hSall.out _ hb8) ?_
      clear hC C hb8' o8
      try simp only [List.getElem_toArray, List.getElem_cons_zero, List.getElem_cons_succ, Act.put, List.setIfInBounds_toArray, List.set_cons_zero, List.set_cons_succ]
      refine Ord.Till.step 37 (by kernel_rfl) rfl (fun C hC => ?_)
      go_simp
      go_at_call 12
      refine (rnumbers_any _ _ x.op A8 x.on x.oc n8 c8 x.offs ((offL (base true n' xs) xs).map fun (o : Nat) => (o : Int)) w8 (rOff.below hb8) r8 honb).mono ?_
      rintro e w9 ⟨rfl, k9, rfl⟩
      rw [HOF.out, beq_self_eq_true]
      have hb9 : Below w5.heap.size w5 (w8.drewN k9) := hb8.trans ⟨rfl, rfl, rfl, Nat.le_refl _, fun _ _ => rfl⟩
      go_wp2_with fail
      refine hC.out _ _ (fun _ => hSall.out _ hb9) ?_
      clear hC C
      try simp only [List.getElem_toArray, List.getElem_cons_zero, List.getElem_cons_succ, Act.put, List.setIfInBounds_toArray, List.set_cons_zero, List.set_cons_succ]
      refine Ord.Till.take' 38 (some 95) (oi := _) (x := ?_) rfl rfl (by kernel_rfl) (by kernel_rfl) (by kernel_rfl) (by kernel_rfl) (fun _ _ _ h => h) (by kernel_rfl) ?_ (hSall.out _ hb9) ?_
      rotate_left 1
      · intro v hv; obtain ⟨z0, z1, z2, z3⟩ := hv; go_simp; first | done | with_reducible rfl
      try simp only [Act.put, List.setIfInBounds_toArray, List.set_cons_zero, List.set_cons_succ]
      refine Ord.Till.take' 39 (some 96) (oi := _) (x := ?_) rfl rfl (by kernel_rfl) (by kernel_rfl) (by kernel_rfl) (by kernel_rfl) (fun _ _ _ h => h) (by kernel_rfl) ?_ (hSall.out _ hb9) ?_
      rotate_left 1
      · intro v hv; obtain ⟨z0, z1, z2, z3⟩ := hv; go_simp; first | done | with_reducible rfl
      try simp only [Act.put, List.setIfInBounds_toArray, List.set_cons_zero, List.set_cons_succ]
      refine Ord.Till.done (by kernel_rfl) ?_ _
      clear hb8 hb7 hb6 r8
      generalize w8.drewN k9 = w9 at *
      obtain ⟨e0, e1, e2, _⟩ := hSall.out _ hb9
      have hb09 := hb05.trans (hb9.mono hs5)
      have hs9 : w5.heap.size ≤ w9.heap.size := hb9.size
      go_wp2_with fail
      refine (write_any true x.mp x.mn x.mc x.map w5.heap.size w5.heap.size x.ap x.an x.ac x.mems w9 (hG.on hb09) (rMap.below hb9) hs9 hmn1 (rMem.below hb9) hs9 hokx han20).mono ?_
      rintro e w10 ⟨v10, rfl, o10, hb10⟩
      rw [HFX.out]
      rw [HWX.out] at o10
      obtain ⟨A10, c10, rfl, r10, _⟩ := o10.reads
      have r310 := r3.below ((hb35.trans (hb9.mono hs35)).trans (hb10.mono (by omega)))
      have hb010 := hb09.trans (hb10.mono (by omega))
      clear o10 hb10 e0 e1 e2
      go_wp2_with fail
      refine (Dec.same_any 10 rfl _ _ A3 A10 _ c3 _ c10 ar ar w10 r310 r10 (by omega)).mono ?_
      rintro e w11 ⟨rfl, k11, rfl⟩
      rw [beq_self_eq_true]
      go_wp2_with fail
      go_ret
      exact ⟨rfl, hb010.trans ⟨rfl, rfl, rfl, Nat.le_refl _, fun _ _ => rfl⟩⟩

set_option maxRecDepth 100000 in
theorem held : Rows.ArwriteRoundTripSaid :=
  OpenClaim.holds_of_wide 3 Tryz.f3 rfl rfl rfl rfl rfl rfl rfl ⟨rfl, rfl, rfl, rfl, rfl⟩ rfl rfl rfl rfl rfl (by kernel_rfl) Tryz.func3 (by kernel_rfl)
    (of_decide_eq_true (by kernel_rfl)) (by unfold Func.isWrapper; first | (rw [if_pos (by decide +kernel)]; kernel_rfl) | (rw [if_neg (by decide +kernel)]; exact ⟨rfl, rfl⟩))
    (fun os started H enc _ => liftedG (started := started) (s := Rows.arwriteRoundTripSpec) (L := Rows.arwriteRoundTripRow.laid) rfl
      (fun ds h => by match ds, h with | [_, _, _], _ => rfl) (by kernel_rfl)
      (by kernel_rfl) (by kernel_rfl) Tryz.func3
      (ChangeSpec.witness_shaped (enc := enc) (C := Tryz.checked) (os := os) (X := fun w _ => laidMetH Tryz.prog Rows.arwriteRoundTripRow.laid w) false (World.laidAll Tryz.prog os Rows.arwriteRoundTripRow.laid) #[.bool false, .slice none 0 0, .slice none 0 0] 8 (World.laidAll_os _ _ _)
        (World.shaped_of_ZipB (by kernel_rfl) (by kernel_rfl)) (by kernel_rfl) (by kernel_rfl) (by kernel_rfl)
        (by rw [MakeChecks.laidMetH_plain _ _ _ (by kernel_rfl)]; exact laidMet_laidAll _ (by kernel_rfl) (by kernel_rfl)))
      gndp5_of (fun W base args ds p hG h => by
        obtain ⟨hval, hA, _⟩ := h
        rw [show Tryz.f3.params = #[4, 22, 23] from by kernel_rfl] at hA hval
        obtain ⟨v0, vs0, d0, ds0, p0, q0, hargs, rfl, rfl, k0, r0⟩ := trodAll_cons hA
        obtain ⟨v1, vs1, d1, ds1, p1, q1, rfl, rfl, rfl, k1, r1⟩ := trodAll_cons r0
        obtain ⟨v2, vs2, d2, ds2, p2, q2, rfl, rfl, rfl, k2, r2⟩ := trodAll_cons r1
        obtain ⟨rfl, rfl, rfl⟩ := trodAll_nil r2
        obtain rfl : args = #[v0, v1, v2] := by cases args; simp_all
        obtain ⟨a0, rfl⟩ := open_b (hval 0 _ v0 rfl rfl) k0
        obtain ⟨A1, n1, c1, l1, rfl, h1, m1, g1⟩ := open_bytes (hval 1 _ v1 rfl rfl) k1
        obtain ⟨A2, n2, c2, l2, rfl, h2, m2, g2, s2⟩ := open_mems (hval 2 _ v2 rfl rfl) k2
        exact walk W hG a0 A1 n1 c1 l1 h1 m1 g1 A2 n2 c2 l2 h2 m2 g2 s2))
theorem proved : Rows.ArwriteRoundTripCardSaid :=
  Claim7.holds_tied_plain_at .later [] [.data, .data, .data, .data, .pinned] true (true, "01e07c060bffd787e59266562abec18b0eea3801b8b49561a67441d93869cefd") false held (fun _ h => by cases h) (by kernel_rfl) (fun _ h => by cases h) arwriteRoundTrip_row_tie rfl ⟨rfl, rfl⟩ (by kernel_rfl) rfl
    (fun f fn hf hfn => by
      obtain rfl : f = 3 := Option.some.inj ((show Tryz.prog.funcNamed "arlink/arlinklaw05.ArwriteRoundTrip" = some 3 by kernel_rfl).symm.trans hf) |>.symm
      obtain rfl : fn = Tryz.f3 := (Option.some.inj (Tryz.func3.symm.trans hfn)).symm
      exact ⟨by kernel_rfl, fun j t ht => by
        rw [Tryz.params3] at ht
        have hm : t ∈ [4, 22, 23] := by simpa using Array.mem_of_getElem? ht
        have hall : ([4, 22, 23].all fun u => !Tryz.prog.wantsStandIn u) = true := by kernel_rfl
        exact (show Tryz.prog.wantsStandIn t = false by simpa using List.all_eq_true.1 hall t hm)⟩)
    (by kernel_rfl)
#print axioms proved
end Go.Proofs.YteeeongnabpheaaGreatDoor.Round5
