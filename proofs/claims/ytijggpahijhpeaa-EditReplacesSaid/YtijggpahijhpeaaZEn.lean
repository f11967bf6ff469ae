/-
  EditReplaces, from the program's contracts: after replacing, the member with the name is the new one, at the position of the old one if there was one, and the order of all others is unchanged.
-/
import Derived.Test.YtijggpahijhpeaaZEl
namespace Go.Proofs.Ytijggpahijhpeaa.Edt
open Go.RowKit Go.Proofs Go.Proofs.Ytijggpahijhpeaa.Byt
open Go.Proofs.Ytijggpahijhpeaa.Arp (Mem RdM OwnM mcells)
open Go.Proofs.Ytijggpahijhpeaa.Arw (core MOk RdM0)

set_option linter.unusedSimpArgs false in
set_option maxRecDepth 100000 in
set_option maxHeartbeats 16000000 in
theorem replaces10 (P : PC10) (w : World) (A : Option Addr) (n c : Nat) (xs : List Mem) (h : RdM0 w w.heap.size A n xs) (hnc : n ≤ c) (hcm : c ≤ maxLen) (hB : ∀ x ∈ xs, Frame.MB x) (m : Mem) (hm : Byt.Rd w w.heap.size m.ptr m.len m.data) (gm : Frame.MB m) (z : Int) (a : ByteArray) (lz : -9223372036854775808 ≤ z) (uz : z < 9223372036854775808) :
    Calls Try.prog 4 #[.slice A n c, m.val, plaV z a] w fun e w' => e = .returned (.bool true) ∧ Below w.heap.size w w' := by
  have HP := hid P
  obtain ⟨m0, m1, m2, m3, m4, m5, m6, m7, m8⟩ := m
  simp only at hm
  have hbm := (Below.refl w.heap.size w).alloc (Nat.le_refl _) (.cells #[.string m0, .int .i64 m1, .int .i64 m2, .int .i64 m3, .int .i64 m4, .slice m5 m6 m7] 25)
  have hrm := heap_alloc_new w (.cells #[.string m0, .int .i64 m1, .int .i64 m2, .int .i64 m3, .int .i64 m4, .slice m5 m6 m7] 25)
  have hsm := World.size_alloc w (.cells #[.string m0, .int .i64 m1, .int .i64 m2, .int .i64 m3, .int .i64 m4, .slice m5 m6 m7] 25)
  have hbp := (Below.refl (w.alloc (.cells #[.string m0, .int .i64 m1, .int .i64 m2, .int .i64 m3, .int .i64 m4, .slice m5 m6 m7] 25)).heap.size (w.alloc (.cells #[.string m0, .int .i64 m1, .int .i64 m2, .int .i64 m3, .int .i64 m4, .slice m5 m6 m7] 25))).alloc (Nat.le_refl _) (.cells #[.int .i64 z, .string a] 27)
  have hrp := heap_alloc_new (w.alloc (.cells #[.string m0, .int .i64 m1, .int .i64 m2, .int .i64 m3, .int .i64 m4, .slice m5 m6 m7] 25)) (.cells #[.int .i64 z, .string a] 27)
  have hsp := World.size_alloc (w.alloc (.cells #[.string m0, .int .i64 m1, .int .i64 m2, .int .i64 m3, .int .i64 m4, .slice m5 m6 m7] 25)) (.cells #[.int .i64 z, .string a] 27)
  simp only [Mem.val, plaV]
  go_enter Try.func4, Try.ntmps4
  go_upto_region 1 with fail
  generalize w.alloc (.cells #[.string m0, .int .i64 m1, .int .i64 m2, .int .i64 m3, .int .i64 m4, .slice m5 m6 m7] 25) = wm at *
  generalize wm.alloc (.cells #[.int .i64 z, .string a] 27) = w0 at *
  obtain ⟨g, hg⟩ : ∃ g, w.heap.size = g := ⟨_, rfl⟩
  rw [hg] at hrm hsm
  rw [hsm] at hrp hsp
  try rw [hsm]
  try rw [hg]
  have hrm0 := (hbp.block g (by omega)).trans hrm
  have B0 := hbm.trans (hbp.mono hbm.size)
  have HBox : Hid (∀ W, Below w0.heap.size w0 W → BoxS g m0 m1 m2 m3 m4 m5 m6 m7 z a W) := hid fun W hW => BoxS.of ((hW.block g (by omega)).trans hrm0) ((hW.block (g + 1) (by omega)).trans hrp)
  have HG := hid hg
  clear hbm hrm hsm hbp hrp hsp hrm0 hg
  go_wp2_with fail
  refine (awake10_any HP.out w0).mono ?_
  rintro e w1 ⟨rfl, hb1⟩
  go_wp2_with fail
  refine (Arw.few5_any w.heap.size A n c xs w1 (h.below (B0.trans (hb1.mono B0.size))) (Nat.le_trans B0.size hb1.size)).mono ?_
  rintro e w2 ⟨rfl, hb2⟩
  have b2 := hb1.trans (hb2.mono hb1.size)
  clear hb1 hb2
  obtain ⟨c0, c1, c2, c3, c4, c5, c6, c7⟩ := HBox.out w2 b2
  cases hf : Arw.fewM xs
  · go_wp2_with fail
    refine (awake10_any HP.out w2).mono ?_
    rintro e w9 ⟨rfl, hb9⟩
    go_wp2_with fail
    go_ret
    exact ⟨rfl, B0.trans ((b2.trans (hb9.mono b2.size)).mono B0.size)⟩
  obtain ⟨k1, _, k3⟩ := Arw.fewM_iff.1 hf
  by_cases q0 : 1000 < m6
  · have q0i : (1000 : Int) < (m6 : Int) := by omega
    go_wp2_with fail
    refine (awake10_any HP.out w2).mono ?_
    rintro e w9 ⟨rfl, hb9⟩
    go_wp2_with fail
    go_ret
    exact ⟨rfl, B0.trans ((b2.trans (hb9.mono b2.size)).mono B0.size)⟩
  have q0i : ¬ (1000 : Int) < (m6 : Int) := by omega
  by_cases q1 : 300 < m0.size
  · have q1i : (300 : Int) < (m0.size : Int) := by omega
    go_wp2_with fail
    refine (awake10_any HP.out w2).mono ?_
    rintro e w9 ⟨rfl, hb9⟩
    go_wp2_with fail
    go_ret
    exact ⟨rfl, B0.trans ((b2.trans (hb9.mono b2.size)).mono B0.size)⟩
  have q1i : ¬ (300 : Int) < (m0.size : Int) := by omega
  by_cases q2 : 300 < a.size
  · have q2i : (300 : Int) < (a.size : Int) := by omega
    go_wp2_with fail
    refine (awake10_any HP.out w2).mono ?_
    rintro e w9 ⟨rfl, hb9⟩
    go_wp2_with fail
    go_ret
    exact ⟨rfl, B0.trans ((b2.trans (hb9.mono b2.size)).mono B0.size)⟩
  have q2i : ¬ (300 : Int) < (a.size : Int) := by omega
  have hM := h.to (fun x hx => (k3 x hx).2)
  have hok : ∀ x ∈ xs, MOk x := fun x hx => (hB x hx).ok (k3 x hx).1 (k3 x hx).2
  have hxl : xs.length = n := h.1
  have hn20 : n ≤ 20 := by omega
  have HAM : Hid (∀ W, Below w0.heap.size w0 W → ArgM W w.heap.size A n c xs) := hid fun W hW => ⟨hM.below (B0.trans (hW.mono B0.size)), Nat.le_trans B0.size hW.size, hnc, hcm, hok, fun x hx => (hB x hx).cap, by omega⟩
  have Hok := hid hok
  have Hxl := hid hxl
  have HAE : Hid (∀ W, Below w0.heap.size w0 W → ArgE W w.heap.size ⟨m0, m1, m2, m3, m4, m5, m6, m7, m8⟩) := hid fun W hW => ⟨gm.ok (by show m0.size ≤ 300; omega) (by show m6 ≤ 1000; omega), hm.below (B0.trans (hW.mono B0.size)), Nat.le_trans B0.size hW.size, gm.cap⟩
  have Hmk : Hid (MOk ⟨m0, m1, m2, m3, m4, m5, m6, m7, m8⟩) := hid (gm.ok (by show m0.size ≤ 300; omega) (by show m6 ≤ 1000; omega))
  obtain ⟨R, ze, hrep⟩ : ∃ R ze, repE xs ⟨m0, m1, m2, m3, m4, m5, m6, m7, m8⟩ z a = (R, ze) := ⟨_, _, rfl⟩
  have HR1 : Hid (∀ W, Below w0.heap.size w0 W → Calls Try.prog 10 #[.slice A n c, .agg #[.string m0, .int .i64 m1, .int .i64 m2, .int .i64 m3, .int .i64 m4, .slice m5 m6 m7], .agg #[.int .i64 z, .string a]] W (CopiesE R ze W)) := hid fun W hW => by
    have q := HP.out.replace w.heap.size A n c xs ⟨m0, m1, m2, m3, m4, m5, m6, m7, m8⟩ z a W (HAM.out W hW) (HAE.out W hW) lz uz
    rw [hrep] at q
    exact q
  have HRl : Hid (R.length ≤ 300) := hid (by have q := repE_len (xs := xs) (m := ⟨m0, m1, m2, m3, m4, m5, m6, m7, m8⟩) (z := z) (a := a); rw [hrep] at q; simp only at q; omega)
  have HRo : Hid (∀ x ∈ R, MOk x) := hid (by have q := repE_ok (z := z) (a := a) Hok.out Hmk.out; rw [hrep] at q; exact q)
  have HBad : Hid (ze ≠ 0 → R = xs) := hid fun hz => by
    have q := rep_bad (xs := xs) (m := ⟨m0, m1, m2, m3, m4, m5, m6, m7, m8⟩) (z := z) (a := a)
    rw [hrep] at q
    exact q hz
  have HGood : Hid (ze = 0 → ∃ t zs, Rep xs ⟨m0, m1, m2, m3, m4, m5, m6, m7, m8⟩ R t zs) := hid fun hz => by
    have q := rep_good (xs := xs) (m := ⟨m0, m1, m2, m3, m4, m5, m6, m7, m8⟩) (z := z) (a := a)
    rw [hrep] at q
    exact q hz
  clear hrep hM hok gm hm lz uz k1 k3 h hB hf
  go_upto_region 3 with fail
  have hbd : Below w2.heap.size w2 w2.drew := (Below.refl _ _).drew
  have b3 := b2.trans (hbd.mono b2.size)
  have hS : (BoxS g m0 m1 m2 m3 m4 m5 m6 m7 z a) w2.drew := HBox.out _ b3
  refine Ord.Till.begin (BoxS g m0 m1 m2 m3 m4 m5 m6 m7 z a) 60 (by kernel_rfl) ?_
  generalize w2.drew = wd at *
  clear hbd c0 c1 c2 c3 c4 c5 c6 c7
  refine Ord.Till.take' 0 (some 41) (oi := _) (x := ?_) rfl rfl (by kernel_rfl) (by kernel_rfl) (by kernel_rfl) (by kernel_rfl) (fun _ _ _ h => h) (by kernel_rfl) ?_ hS ?_
  rotate_left 1
  · intro v hv; obtain ⟨z0, z1, z2, z3, z4, z5, z6, z7⟩ := hv; go_simp; first | done | with_reducible rfl
  try simp only [List.getElem_toArray, List.getElem_cons_zero, List.getElem_cons_succ, Act.put, List.setIfInBounds_toArray, List.set_cons_zero, List.set_cons_succ]
  refine Ord.Till.take' 1 (some 42) (oi := _) (x := ?_) rfl rfl (by kernel_rfl) (by kernel_rfl) (by kernel_rfl) (by kernel_rfl) (fun _ _ _ h => h) (by kernel_rfl) ?_ hS ?_
  rotate_left 1
  · intro v hv; obtain ⟨z0, z1, z2, z3, z4, z5, z6, z7⟩ := hv; go_simp; first | done | with_reducible rfl
  try simp only [List.getElem_toArray, List.getElem_cons_zero, List.getElem_cons_succ, Act.put, List.setIfInBounds_toArray, List.set_cons_zero, List.set_cons_succ]
  refine Ord.Till.take' 2 (some 43) (oi := _) (x := ?_) rfl rfl (by kernel_rfl) (by kernel_rfl) (by kernel_rfl) (by kernel_rfl) (fun _ _ _ h => h) (by kernel_rfl) ?_ hS ?_
  rotate_left 1
  · intro v hv; obtain ⟨z0, z1, z2, z3, z4, z5, z6, z7⟩ := hv; go_simp; first | done | with_reducible rfl
  try simp only [List.getElem_toArray, List.getElem_cons_zero, List.getElem_cons_succ, Act.put, List.setIfInBounds_toArray, List.set_cons_zero, List.set_cons_succ]
  refine Ord.Till.step 3 (by kernel_rfl) rfl (fun C hC => ?_)
  go_simp
  go_at_call 11
  refine (forward_any z a _).mono ?_
  rintro e w4 ⟨rfl, hb4⟩
  have b4 := b3.trans (hb4.mono b3.size)
  clear hS hb4
  have hS := HBox.out _ b4
  go_wp2_with fail
  refine hC.out _ _ (fun _ => hS) ?_
  clear hC C
  try simp only [List.getElem_toArray, List.getElem_cons_zero, List.getElem_cons_succ, Act.put, List.setIfInBounds_toArray, List.set_cons_zero, List.set_cons_succ]
  refine Ord.Till.step 4 (by kernel_rfl) rfl (fun C hC => ?_)
  go_simp
  go_at_call 10
  refine (HR1.out _ b4).mono ?_
  rintro e w5 hC
  obtain ⟨A1, n1, d1, y1, rfl, a1, e1, hn1, hb5⟩ := hC.arg HRo.out HRl.out
  have HE1 := hid e1
  have Hn1 := hid hn1
  have b5 := b4.trans (hb5.mono b4.size)
  clear hS hC hb5 e1 hn1
  have hS := HBox.out _ b5
  go_wp2_with fail
  refine hC.out _ _ (fun _ => hS) ?_
  clear hC C
  try simp only [List.getElem_toArray, List.getElem_cons_zero, List.getElem_cons_succ, Act.put, List.setIfInBounds_toArray, List.set_cons_zero, List.set_cons_succ]
  refine Ord.Till.take' 5 (some 40) (oi := _) (x := ?_) rfl rfl (by kernel_rfl) (by kernel_rfl) (by kernel_rfl) (by kernel_rfl) (fun _ _ _ h => h) (by kernel_rfl) ?_ hS ?_
  rotate_left 1
  · intro v hv; obtain ⟨z0, z1, z2, z3, z4, z5, z6, z7⟩ := hv; go_simp; first | done | with_reducible rfl
  try simp only [List.getElem_toArray, List.getElem_cons_zero, List.getElem_cons_succ, Act.put, List.setIfInBounds_toArray, List.set_cons_zero, List.set_cons_succ]
  refine Ord.Till.take' 6 (some 46) (oi := _) (x := ?_) rfl rfl (by kernel_rfl) (by kernel_rfl) (by kernel_rfl) (by kernel_rfl) (fun _ _ _ h => h) (by kernel_rfl) ?_ hS ?_
  rotate_left 1
  · intro v hv; obtain ⟨z0, z1, z2, z3, z4, z5, z6, z7⟩ := hv; go_simp; first | done | with_reducible rfl
  try simp only [List.getElem_toArray, List.getElem_cons_zero, List.getElem_cons_succ, Act.put, List.setIfInBounds_toArray, List.set_cons_zero, List.set_cons_succ]
  refine Ord.Till.take' 7 (some 47) (oi := _) (x := ?_) rfl rfl (by kernel_rfl) (by kernel_rfl) (by kernel_rfl) (by kernel_rfl) (fun _ _ _ h => h) (by kernel_rfl) ?_ hS ?_
  rotate_left 1
  · intro v hv; obtain ⟨z0, z1, z2, z3, z4, z5, z6, z7⟩ := hv; go_simp; first | done | with_reducible rfl
  try simp only [List.getElem_toArray, List.getElem_cons_zero, List.getElem_cons_succ, Act.put, List.setIfInBounds_toArray, List.set_cons_zero, List.set_cons_succ]
  refine Ord.Till.take' 8 (some 7) (oi := _) (x := ?_) rfl rfl (by kernel_rfl) (by kernel_rfl) (by kernel_rfl) (by kernel_rfl) (fun _ _ _ h => h) (by kernel_rfl) ?_ hS ?_
  rotate_left 1
  · intro v hv; obtain ⟨z0, z1, z2, z3, z4, z5, z6, z7⟩ := hv; go_simp; first | done | with_reducible rfl
  try simp only [List.getElem_toArray, List.getElem_cons_zero, List.getElem_cons_succ, Act.put, List.setIfInBounds_toArray, List.set_cons_zero, List.set_cons_succ]
  refine Ord.Till.take' 9 (some 8) (oi := _) (x := ?_) rfl rfl (by kernel_rfl) (by kernel_rfl) (by kernel_rfl) (by kernel_rfl) (fun _ _ _ h => h) (by kernel_rfl) ?_ hS ?_
  rotate_left 1
  · intro v hv; obtain ⟨z0, z1, z2, z3, z4, z5, z6, z7⟩ := hv; go_simp; first | done | with_reducible rfl
  try simp only [List.getElem_toArray, List.getElem_cons_zero, List.getElem_cons_succ, Act.put, List.setIfInBounds_toArray, List.set_cons_zero, List.set_cons_succ]
  refine Ord.Till.done (by kernel_rfl) ?_ _
  clear hS b3 b4
  clear b2 HR1
  by_cases hz : ze = 0
  · obtain ⟨t, zs, hRep⟩ := HGood.out hz
    subst hz
    have HRep := hid hRep
    have htR : t < R.length := by rw [hRep.eq, insM_length]; have := hRep.le; omega
    have hn1R : n1 = R.length := Hn1.out
    have ht1 : t < n1 := by omega
    have HtR := hid htR
    have Hn1R := hid hn1R
    clear hRep HBad HGood htR hn1R
    obtain ⟨c0, c1, c2, c3, c4, c5, c6, c7⟩ := HBox.out w5 b5
    go_wp2_with fail
    refine (HP.out.find w.heap.size A n c xs m0 w5 (HAM.out w5 b5)).mono ?_
    rintro e w6 ⟨rfl, hb6⟩
    have b6 := b5.trans (hb6.mono b5.size)
    have a1' := a1.on hb6
    clear hb6 b5 a1 c0 c1 c2 c3 c4 c5 c6 c7
    obtain ⟨c0, c1, c2, c3, c4, c5, c6, c7⟩ := HBox.out w6 b6
    go_wp2_with fail
    refine (HP.out.find _ A1 n1 d1 y1 m0 w6 a1').mono ?_
    rintro e w7 ⟨rfl, hb7⟩
    have hfy : findI y1 m0 = (t : Int) := by rw [findI_as HE1.out]; exact findI_some HRep.out.find
    rw [hfy]
    have b7 := b6.trans (hb7.mono b6.size)
    have a1 := a1'.on hb7
    clear hb7 b6 a1' hfy c0 c1 c2 c3 c4 c5 c6 c7
    have hty : t < y1.length := by rw [a1.rd.1]; exact ht1
    have hcore : core y1[t] = core (⟨m0, m1, m2, m3, m4, m5, m6, m7, m8⟩ : Mem) := by
      rw [core_at HE1.out hty HtR.out]
      have e1 : R[t]'HtR.out = ⟨m0, m1, m2, m3, m4, m5, m6, m7, m8⟩ := by
        have e2 := List.getElem_of_eq HRep.out.eq HtR.out
        rw [e2]
        exact ins_get HRep.out.le _
      rw [e1]
    obtain ⟨⟨qb, qo, rfl, hbK, hcell⟩, hrd, hxl⟩ := a1.rd.2 t hty
    have hlt : (t : Int) < (n1 : Int) := by omega
    have hge : decide ((n1 : Int) ≤ (t : Int)) = false := by simp; omega
    have HA1 := hid fun (W : World) (hW : Below w7.heap.size w7 W) => a1.on hW
    have HCell : Hid (∀ W, Below w7.heap.size w7 W → Arp.MCells W qb (qo + t * 6) y1[t]) := hid fun W hW => hcell.below hW (by have := a1.hK; omega)
    have HSM := hid fun (W : World) (hW : Below w7.heap.size w7 W) => sameMem_any y1[t] ⟨m0, m1, m2, m3, m4, m5, m6, m7, m8⟩ hcore w5.heap.size w.heap.size W (hrd.below (hW.mono a1.hK)) (HAE.out W (b7.trans (hW.mono b7.size))).rd hxl (Nat.le_trans a1.hK hW.size) (Nat.le_trans B0.size (b7.trans (hW.mono b7.size)).size)
    have HS8 : Hid (∀ W, Below w7.heap.size w7 W → (Arp.MCells W qb (qo + t * 6) y1[t] ∧ BoxS g m0 m1 m2 m3 m4 m5 m6 m7 z a W)) := hid fun W hW => ⟨HCell.out W hW, HBox.out W (b7.trans (hW.mono b7.size))⟩
    clear hcell hrd hxl hcore HCell a1
    simp only [Mem.val] at HSM
    generalize y1[t] = x at *
    clear hty
    obtain ⟨x0, x1, x2, x3, x4, x5, x6, x7, x8⟩ := x
    simp only at HSM
    cases hfn : findN xs m0 with
    | some i =>
      obtain ⟨hti, hzs, hix, hly⟩ := HRep.out.old i hfn
      have hnn : n1 = n := by rw [Hn1R.out, hly]; exact Hxl.out
      subst hti
      subst hnn
      rw [findI_some hfn]
      have Hdel : Hid (delE xs m0 = (zs, 0)) := hid (by unfold delE; rw [hfn, hzs])
      clear hzs hix hly hfn
      go_upto_region 8 with fail
      have hbd : Below w7.heap.size w7 w7.drew := (Below.refl _ _).drew
      have hS : (fun W' => Arp.MCells W' qb (qo + t * 6) ⟨x0, x1, x2, x3, x4, x5, x6, x7, x8⟩ ∧ BoxS g m0 m1 m2 m3 m4 m5 m6 m7 z a W') w7.drew := HS8.out _ hbd
      refine Ord.Till.begin (fun W' => Arp.MCells W' qb (qo + t * 6) ⟨x0, x1, x2, x3, x4, x5, x6, x7, x8⟩ ∧ BoxS g m0 m1 m2 m3 m4 m5 m6 m7 z a W') 60 (by kernel_rfl) ?_
      generalize w7.drew = wd8 at *
      refine Ord.Till.take' 0 (some 61) (oi := _) (x := ?_) rfl rfl (by kernel_rfl) (by kernel_rfl) (by kernel_rfl) (by kernel_rfl) (fun _ _ _ h => h) (by kernel_rfl) ?_ hS ?_
      rotate_left 1
      · intro v hv; obtain ⟨⟨y0, y1, y2, y3, y4, y5⟩, z0, z1, z2, z3, z4, z5, z6, z7⟩ := hv; go_simp; first | done | with_reducible rfl
      try simp only [List.getElem_toArray, List.getElem_cons_zero, List.getElem_cons_succ, Act.put, List.setIfInBounds_toArray, List.set_cons_zero, List.set_cons_succ]
      refine Ord.Till.take' 1 (some 62) (oi := _) (x := ?_) rfl rfl (by kernel_rfl) (by kernel_rfl) (by kernel_rfl) (by kernel_rfl) (fun _ _ _ h => h) (by kernel_rfl) ?_ hS ?_
      rotate_left 1
      · intro v hv; obtain ⟨⟨y0, y1, y2, y3, y4, y5⟩, z0, z1, z2, z3, z4, z5, z6, z7⟩ := hv; go_simp; first | done | with_reducible rfl
      try simp only [List.getElem_toArray, List.getElem_cons_zero, List.getElem_cons_succ, Act.put, List.setIfInBounds_toArray, List.set_cons_zero, List.set_cons_succ]
      refine Ord.Till.take' 2 (some 63) (oi := _) (x := ?_) rfl rfl (by kernel_rfl) (by kernel_rfl) (by kernel_rfl) (by kernel_rfl) (fun _ _ _ h => h) (by kernel_rfl) ?_ hS ?_
      rotate_left 1
      · intro v hv; obtain ⟨⟨y0, y1, y2, y3, y4, y5⟩, z0, z1, z2, z3, z4, z5, z6, z7⟩ := hv; go_simp; first | done | with_reducible rfl
      try simp only [List.getElem_toArray, List.getElem_cons_zero, List.getElem_cons_succ, Act.put, List.setIfInBounds_toArray, List.set_cons_zero, List.set_cons_succ]
      refine Ord.Till.take' 3 (some 64) (oi := _) (x := ?_) rfl rfl (by kernel_rfl) (by kernel_rfl) (by kernel_rfl) (by kernel_rfl) (fun _ _ _ h => h) (by kernel_rfl) ?_ hS ?_
      rotate_left 1
      · intro v hv; obtain ⟨⟨y0, y1, y2, y3, y4, y5⟩, z0, z1, z2, z3, z4, z5, z6, z7⟩ := hv; go_simp; first | done | with_reducible rfl
      try simp only [List.getElem_toArray, List.getElem_cons_zero, List.getElem_cons_succ, Act.put, List.setIfInBounds_toArray, List.set_cons_zero, List.set_cons_succ]
      refine Ord.Till.take' 4 (some 65) (oi := _) (x := ?_) rfl rfl (by kernel_rfl) (by kernel_rfl) (by kernel_rfl) (by kernel_rfl) (fun _ _ _ h => h) (by kernel_rfl) ?_ hS ?_
      rotate_left 1
      · intro v hv; obtain ⟨⟨y0, y1, y2, y3, y4, y5⟩, z0, z1, z2, z3, z4, z5, z6, z7⟩ := hv; go_simp; first | done | with_reducible rfl
      try simp only [List.getElem_toArray, List.getElem_cons_zero, List.getElem_cons_succ, Act.put, List.setIfInBounds_toArray, List.set_cons_zero, List.set_cons_succ]
      refine Ord.Till.take' 5 (some 66) (oi := _) (x := ?_) rfl rfl (by kernel_rfl) (by kernel_rfl) (by kernel_rfl) (by kernel_rfl) (fun _ _ _ h => h) (by kernel_rfl) ?_ hS ?_
      rotate_left 1
      · intro v hv; obtain ⟨⟨y0, y1, y2, y3, y4, y5⟩, z0, z1, z2, z3, z4, z5, z6, z7⟩ := hv; go_simp; first | done | with_reducible rfl
      try simp only [List.getElem_toArray, List.getElem_cons_zero, List.getElem_cons_succ, Act.put, List.setIfInBounds_toArray, List.set_cons_zero, List.set_cons_succ]
      refine Ord.Till.take' 6 (some 67) (oi := _) (x := .bool false) rfl rfl (by kernel_rfl) (by kernel_rfl) (by kernel_rfl) (by kernel_rfl) (fun _ _ _ h => h) (by kernel_rfl) ?_ hS ?_
      · intro v hv; go_simp; first | done | (simp; done) | (simp; omega)
      try simp only [List.getElem_toArray, List.getElem_cons_zero, List.getElem_cons_succ, Act.put, List.setIfInBounds_toArray, List.set_cons_zero, List.set_cons_succ]
      refine Ord.Till.take' 7 (some 68) (oi := _) (x := ?_) rfl rfl (by kernel_rfl) (by kernel_rfl) (by kernel_rfl) (by kernel_rfl) (fun _ _ _ h => h) (by kernel_rfl) ?_ hS ?_
      rotate_left 1
      · intro v hv; obtain ⟨⟨y0, y1, y2, y3, y4, y5⟩, z0, z1, z2, z3, z4, z5, z6, z7⟩ := hv; go_simp; first | done | with_reducible rfl
      try simp only [List.getElem_toArray, List.getElem_cons_zero, List.getElem_cons_succ, Act.put, List.setIfInBounds_toArray, List.set_cons_zero, List.set_cons_succ]
      refine Ord.Till.take' 8 (some 69) (oi := _) (x := ?_) rfl rfl (by kernel_rfl) (by kernel_rfl) (by kernel_rfl) (by kernel_rfl) (fun _ _ _ h => h) (by kernel_rfl) ?_ hS ?_
      rotate_left 1
      · intro v hv; obtain ⟨⟨y0, y1, y2, y3, y4, y5⟩, z0, z1, z2, z3, z4, z5, z6, z7⟩ := hv; go_simp; first | done | with_reducible rfl
      try simp only [List.getElem_toArray, List.getElem_cons_zero, List.getElem_cons_succ, Act.put, List.setIfInBounds_toArray, List.set_cons_zero, List.set_cons_succ]
      refine Ord.Till.take' 9 (some 70) (oi := _) (x := ?_) rfl rfl (by kernel_rfl) (by kernel_rfl) (by kernel_rfl) (by kernel_rfl) (fun _ _ _ h => h) (by kernel_rfl) ?_ hS ?_
      rotate_left 1
      · intro v hv; obtain ⟨⟨y0, y1, y2, y3, y4, y5⟩, z0, z1, z2, z3, z4, z5, z6, z7⟩ := hv; go_simp; first | done | with_reducible rfl
      try simp only [List.getElem_toArray, List.getElem_cons_zero, List.getElem_cons_succ, Act.put, List.setIfInBounds_toArray, List.set_cons_zero, List.set_cons_succ]
      refine Ord.Till.take' 10 (some 71) (oi := _) (x := ?_) rfl rfl (by kernel_rfl) (by kernel_rfl) (by kernel_rfl) (by kernel_rfl) (fun _ _ _ h => h) (by kernel_rfl) ?_ hS ?_
      rotate_left 1
      · intro v hv; obtain ⟨⟨y0, y1, y2, y3, y4, y5⟩, z0, z1, z2, z3, z4, z5, z6, z7⟩ := hv; go_simp; first | done | with_reducible rfl
      try simp only [List.getElem_toArray, List.getElem_cons_zero, List.getElem_cons_succ, Act.put, List.setIfInBounds_toArray, List.set_cons_zero, List.set_cons_succ]
      refine Ord.Till.take' 11 (some 72) (oi := _) (x := ?_) rfl rfl (by kernel_rfl) (by kernel_rfl) (by kernel_rfl) (by kernel_rfl) (fun _ _ _ h => h) (by kernel_rfl) ?_ hS ?_
      rotate_left 1
      · intro v hv; obtain ⟨⟨y0, y1, y2, y3, y4, y5⟩, z0, z1, z2, z3, z4, z5, z6, z7⟩ := hv; go_simp; first | done | with_reducible rfl
      try simp only [List.getElem_toArray, List.getElem_cons_zero, List.getElem_cons_succ, Act.put, List.setIfInBounds_toArray, List.set_cons_zero, List.set_cons_succ]
      refine Ord.Till.take' 12 (some 73) (oi := _) (x := ?_) rfl rfl (by kernel_rfl) (by kernel_rfl) (by kernel_rfl) (by kernel_rfl) (fun _ _ _ h => h) (by kernel_rfl) ?_ hS ?_
      rotate_left 1
      · intro v hv; obtain ⟨⟨y0, y1, y2, y3, y4, y5⟩, z0, z1, z2, z3, z4, z5, z6, z7⟩ := hv; go_simp; first | done | with_reducible rfl
      try simp only [List.getElem_toArray, List.getElem_cons_zero, List.getElem_cons_succ, Act.put, List.setIfInBounds_toArray, List.set_cons_zero, List.set_cons_succ]
      refine Ord.Till.take' 13 (some 74) (oi := _) (x := ?_) rfl rfl (by kernel_rfl) (by kernel_rfl) (by kernel_rfl) (by kernel_rfl) (fun _ _ _ h => h) (by kernel_rfl) ?_ hS ?_
      rotate_left 1
      · intro v hv; obtain ⟨⟨y0, y1, y2, y3, y4, y5⟩, z0, z1, z2, z3, z4, z5, z6, z7⟩ := hv; go_simp; first | done | with_reducible rfl
      try simp only [List.getElem_toArray, List.getElem_cons_zero, List.getElem_cons_succ, Act.put, List.setIfInBounds_toArray, List.set_cons_zero, List.set_cons_succ]
      refine Ord.Till.step 14 (by kernel_rfl) rfl (fun C hC => ?_)
      go_simp
      go_at_call 27
      refine (HSM.out _ hbd).mono ?_
      rintro e w8 ⟨rfl, hb8⟩
      have hb78 := hbd.trans (hb8.mono hbd.size)
      have b8 := b7.trans (hb78.mono b7.size)
      have a1 := HA1.out _ hb78
      clear hS hb8 hbd
      have hS := HS8.out _ hb78
      go_wp2_with fail
      refine hC.out _ _ (fun _ => hS) ?_
      clear hC C
      try simp only [List.getElem_toArray, List.getElem_cons_zero, List.getElem_cons_succ, Act.put, List.setIfInBounds_toArray, List.set_cons_zero, List.set_cons_succ]
      refine Ord.Till.take' 15 (some 76) (oi := _) (x := ?_) rfl rfl (by kernel_rfl) (by kernel_rfl) (by kernel_rfl) (by kernel_rfl) (fun _ _ _ h => h) (by kernel_rfl) ?_ hS ?_
      rotate_left 1
      · intro v hv; obtain ⟨⟨y0, y1, y2, y3, y4, y5⟩, z0, z1, z2, z3, z4, z5, z6, z7⟩ := hv; go_simp; first | done | with_reducible rfl
      try simp only [List.getElem_toArray, List.getElem_cons_zero, List.getElem_cons_succ, Act.put, List.setIfInBounds_toArray, List.set_cons_zero, List.set_cons_succ]
      refine Ord.Till.take' 16 (some 77) (oi := _) (x := ?_) rfl rfl (by kernel_rfl) (by kernel_rfl) (by kernel_rfl) (by kernel_rfl) (fun _ _ _ h => h) (by kernel_rfl) ?_ hS ?_
      rotate_left 1
      · intro v hv; obtain ⟨⟨y0, y1, y2, y3, y4, y5⟩, z0, z1, z2, z3, z4, z5, z6, z7⟩ := hv; go_simp; first | done | with_reducible rfl
      try simp only [List.getElem_toArray, List.getElem_cons_zero, List.getElem_cons_succ, Act.put, List.setIfInBounds_toArray, List.set_cons_zero, List.set_cons_succ]
      refine Ord.Till.take' 17 (some 78) (oi := _) (x := ?_) rfl rfl (by kernel_rfl) (by kernel_rfl) (by kernel_rfl) (by kernel_rfl) (fun _ _ _ h => h) (by kernel_rfl) ?_ hS ?_
      rotate_left 1
      · intro v hv; obtain ⟨⟨y0, y1, y2, y3, y4, y5⟩, z0, z1, z2, z3, z4, z5, z6, z7⟩ := hv; go_simp; first | done | with_reducible rfl
      try simp only [List.getElem_toArray, List.getElem_cons_zero, List.getElem_cons_succ, Act.put, List.setIfInBounds_toArray, List.set_cons_zero, List.set_cons_succ]
      refine Ord.Till.take' 18 (some 79) (oi := _) (x := ?_) rfl rfl (by kernel_rfl) (by kernel_rfl) (by kernel_rfl) (by kernel_rfl) (fun _ _ _ h => h) (by kernel_rfl) ?_ hS ?_
      rotate_left 1
      · intro v hv; obtain ⟨⟨y0, y1, y2, y3, y4, y5⟩, z0, z1, z2, z3, z4, z5, z6, z7⟩ := hv; go_simp; first | done | with_reducible rfl
      try simp only [List.getElem_toArray, List.getElem_cons_zero, List.getElem_cons_succ, Act.put, List.setIfInBounds_toArray, List.set_cons_zero, List.set_cons_succ]
      refine Ord.Till.take' 19 (some 80) (oi := _) (x := .bool true) rfl rfl (by kernel_rfl) (by kernel_rfl) (by kernel_rfl) (by kernel_rfl) (fun _ _ _ h => h) (by kernel_rfl) ?_ hS ?_
      · intro v hv; go_simp; first | done | (simp; done) | (simp; omega)
      try simp only [List.getElem_toArray, List.getElem_cons_zero, List.getElem_cons_succ, Act.put, List.setIfInBounds_toArray, List.set_cons_zero, List.set_cons_succ]
      refine Ord.Till.take' 20 (some 81) (oi := _) (x := ?_) rfl rfl (by kernel_rfl) (by kernel_rfl) (by kernel_rfl) (by kernel_rfl) (fun _ _ _ h => h) (by kernel_rfl) ?_ hS ?_
      rotate_left 1
      · intro v hv; obtain ⟨⟨y0, y1, y2, y3, y4, y5⟩, z0, z1, z2, z3, z4, z5, z6, z7⟩ := hv; go_simp; first | done | with_reducible rfl
      try simp only [List.getElem_toArray, List.getElem_cons_zero, List.getElem_cons_succ, Act.put, List.setIfInBounds_toArray, List.set_cons_zero, List.set_cons_succ]
      refine Ord.Till.take' 21 (some 82) (oi := _) (x := ?_) rfl rfl (by kernel_rfl) (by kernel_rfl) (by kernel_rfl) (by kernel_rfl) (fun _ _ _ h => h) (by kernel_rfl) ?_ hS ?_
      rotate_left 1
      · intro v hv; obtain ⟨⟨y0, y1, y2, y3, y4, y5⟩, z0, z1, z2, z3, z4, z5, z6, z7⟩ := hv; go_simp; first | done | with_reducible rfl
      try simp only [List.getElem_toArray, List.getElem_cons_zero, List.getElem_cons_succ, Act.put, List.setIfInBounds_toArray, List.set_cons_zero, List.set_cons_succ]
      refine Ord.Till.take' 22 (some 83) (oi := _) (x := ?_) rfl rfl (by kernel_rfl) (by kernel_rfl) (by kernel_rfl) (by kernel_rfl) (fun _ _ _ h => h) (by kernel_rfl) ?_ hS ?_
      rotate_left 1
      · intro v hv; obtain ⟨⟨y0, y1, y2, y3, y4, y5⟩, z0, z1, z2, z3, z4, z5, z6, z7⟩ := hv; go_simp; first | done | with_reducible rfl
      try simp only [List.getElem_toArray, List.getElem_cons_zero, List.getElem_cons_succ, Act.put, List.setIfInBounds_toArray, List.set_cons_zero, List.set_cons_succ]
      refine Ord.Till.take' 23 (some 84) (oi := _) (x := .bool false) rfl rfl (by kernel_rfl) (by kernel_rfl) (by kernel_rfl) (by kernel_rfl) (fun _ _ _ h => h) (by kernel_rfl) ?_ hS ?_
      · intro v hv; go_simp; first | done | (simp; done) | (simp; omega)
      try simp only [List.getElem_toArray, List.getElem_cons_zero, List.getElem_cons_succ, Act.put, List.setIfInBounds_toArray, List.set_cons_zero, List.set_cons_succ]
      refine Ord.Till.take' 24 (some 85) (oi := _) (x := ?_) rfl rfl (by kernel_rfl) (by kernel_rfl) (by kernel_rfl) (by kernel_rfl) (fun _ _ _ h => h) (by kernel_rfl) ?_ hS ?_
      rotate_left 1
      · intro v hv; obtain ⟨⟨y0, y1, y2, y3, y4, y5⟩, z0, z1, z2, z3, z4, z5, z6, z7⟩ := hv; go_simp; first | done | with_reducible rfl
      try simp only [List.getElem_toArray, List.getElem_cons_zero, List.getElem_cons_succ, Act.put, List.setIfInBounds_toArray, List.set_cons_zero, List.set_cons_succ]
      refine Ord.Till.take' 25 (some 86) (oi := _) (x := ?_) rfl rfl (by kernel_rfl) (by kernel_rfl) (by kernel_rfl) (by kernel_rfl) (fun _ _ _ h => h) (by kernel_rfl) ?_ hS ?_
      rotate_left 1
      · intro v hv; obtain ⟨⟨y0, y1, y2, y3, y4, y5⟩, z0, z1, z2, z3, z4, z5, z6, z7⟩ := hv; go_simp; first | done | with_reducible rfl
      try simp only [List.getElem_toArray, List.getElem_cons_zero, List.getElem_cons_succ, Act.put, List.setIfInBounds_toArray, List.set_cons_zero, List.set_cons_succ]
      refine Ord.Till.take' 26 (some 87) (oi := _) (x := ?_) rfl rfl (by kernel_rfl) (by kernel_rfl) (by kernel_rfl) (by kernel_rfl) (fun _ _ _ h => h) (by kernel_rfl) ?_ hS ?_
      rotate_left 1
      · intro v hv; obtain ⟨⟨y0, y1, y2, y3, y4, y5⟩, z0, z1, z2, z3, z4, z5, z6, z7⟩ := hv; go_simp; first | done | with_reducible rfl
      try simp only [List.getElem_toArray, List.getElem_cons_zero, List.getElem_cons_succ, Act.put, List.setIfInBounds_toArray, List.set_cons_zero, List.set_cons_succ]
      refine Ord.Till.take' 27 (some 88) (oi := _) (x := ?_) rfl rfl (by kernel_rfl) (by kernel_rfl) (by kernel_rfl) (by kernel_rfl) (fun _ _ _ h => h) (by kernel_rfl) ?_ hS ?_
      rotate_left 1
      · intro v hv; obtain ⟨⟨y0, y1, y2, y3, y4, y5⟩, z0, z1, z2, z3, z4, z5, z6, z7⟩ := hv; go_simp; first | done | with_reducible rfl
      try simp only [List.getElem_toArray, List.getElem_cons_zero, List.getElem_cons_succ, Act.put, List.setIfInBounds_toArray, List.set_cons_zero, List.set_cons_succ]
      refine Ord.Till.take' 28 (some 89) (oi := _) (x := ?_) rfl rfl (by kernel_rfl) (by kernel_rfl) (by kernel_rfl) (by kernel_rfl) (fun _ _ _ h => h) (by kernel_rfl) ?_ hS ?_
      rotate_left 1
      · intro v hv; obtain ⟨⟨y0, y1, y2, y3, y4, y5⟩, z0, z1, z2, z3, z4, z5, z6, z7⟩ := hv; go_simp; first | done | with_reducible rfl
      try simp only [List.getElem_toArray, List.getElem_cons_zero, List.getElem_cons_succ, Act.put, List.setIfInBounds_toArray, List.set_cons_zero, List.set_cons_succ]
      refine Ord.Till.take' 29 (some 90) (oi := _) (x := .bool false) rfl rfl (by kernel_rfl) (by kernel_rfl) (by kernel_rfl) (by kernel_rfl) (fun _ _ _ h => h) (by kernel_rfl) ?_ hS ?_
      · intro v hv; go_simp; first | done | (simp; done) | (simp; omega)
      try simp only [List.getElem_toArray, List.getElem_cons_zero, List.getElem_cons_succ, Act.put, List.setIfInBounds_toArray, List.set_cons_zero, List.set_cons_succ]
      refine Ord.Till.take' 30 (some 91) (oi := _) (x := ?_) rfl rfl (by kernel_rfl) (by kernel_rfl) (by kernel_rfl) (by kernel_rfl) (fun _ _ _ h => h) (by kernel_rfl) ?_ hS ?_
      rotate_left 1
      · intro v hv; obtain ⟨⟨y0, y1, y2, y3, y4, y5⟩, z0, z1, z2, z3, z4, z5, z6, z7⟩ := hv; go_simp; first | done | with_reducible rfl
      try simp only [List.getElem_toArray, List.getElem_cons_zero, List.getElem_cons_succ, Act.put, List.setIfInBounds_toArray, List.set_cons_zero, List.set_cons_succ]
      refine Ord.Till.take' 31 (some 92) (oi := _) (x := ?_) rfl rfl (by kernel_rfl) (by kernel_rfl) (by kernel_rfl) (by kernel_rfl) (fun _ _ _ h => h) (by kernel_rfl) ?_ hS ?_
      rotate_left 1
      · intro v hv; obtain ⟨⟨y0, y1, y2, y3, y4, y5⟩, z0, z1, z2, z3, z4, z5, z6, z7⟩ := hv; go_simp; first | done | with_reducible rfl
      try simp only [List.getElem_toArray, List.getElem_cons_zero, List.getElem_cons_succ, Act.put, List.setIfInBounds_toArray, List.set_cons_zero, List.set_cons_succ]
      refine Ord.Till.take' 32 (some 93) (oi := _) (x := ?_) rfl rfl (by kernel_rfl) (by kernel_rfl) (by kernel_rfl) (by kernel_rfl) (fun _ _ _ h => h) (by kernel_rfl) ?_ hS ?_
      rotate_left 1
      · intro v hv; obtain ⟨⟨y0, y1, y2, y3, y4, y5⟩, z0, z1, z2, z3, z4, z5, z6, z7⟩ := hv; go_simp; first | done | with_reducible rfl
      try simp only [List.getElem_toArray, List.getElem_cons_zero, List.getElem_cons_succ, Act.put, List.setIfInBounds_toArray, List.set_cons_zero, List.set_cons_succ]
      refine Ord.Till.done (by kernel_rfl) ?_ _
      clear hS HS8 HSM hb78 HA1 b7
      have Hzo : Hid (∀ x ∈ zs, MOk x) := hid fun x hx => HRo.out x (by rw [← HRep.out.del] at hx; exact delM_sub hx)
      have Hzl : Hid (zs.length ≤ 300) := hid (by have q := HRl.out; rw [HRep.out.eq, insM_length] at q; omega)
      have Hdy : Hid (delE R m0 = (zs, 0)) := hid (by
        unfold delE
        have q := HRep.out.find
        simp only at q
        rw [q]
        show (delM R _, (0 : Int)) = _
        rw [HRep.out.del])
      obtain ⟨c0, c1, c2, c3, c4, c5, c6, c7⟩ := HBox.out w8 b8
      go_wp2_with fail
      refine (HP.out.delete _ _ _ d1 y1 m0 w8 a1).mono ?_
      rintro e w9 hC
      have hC := CopiesE.del hC HE1.out
      rw [Hdy.out] at hC
      obtain ⟨A2, n2, d2, y2, rfl, a2, e2, hn2, hb9⟩ := hC.arg Hzo.out Hzl.out
      have b9 := b8.trans (hb9.mono b8.size)
      have HE2 := hid e2
      clear hC e2 hn2 hb9 a1 b8 c0 c1 c2 c3 c4 c5 c6 c7
      obtain ⟨c0, c1, c2, c3, c4, c5, c6, c7⟩ := HBox.out w9 b9
      go_wp2_with fail
      refine (HP.out.delete w.heap.size A _ c xs m0 w9 (HAM.out w9 b9)).mono ?_
      rintro e wa hC
      rw [Hdel.out] at hC
      obtain ⟨A3, n3, d3, y3, rfl, a3, e3, hn3, hba⟩ := hC.arg Hzo.out Hzl.out
      have ba := b9.trans (hba.mono b9.size)
      have a2' := a2.on hba
      have hsame : Arp.sameMs y2 y3 = true := Arw.same_core (HE2.out.trans e3.symm)
      have HSm2 := hid (Arp.rsamemembers_any wa.heap.size A2 A3 n2 d2 n3 d3 y2 y3 wa (a2'.rd.more (by have := hba.size; omega)) a3.rd (Nat.le_refl _) (by have := a2'.n100; omega))
      rw [hsame] at HSm2
      clear hC e3 hn3 hba a2 a2' a3 hsame b9 c0 c1 c2 c3 c4 c5 c6 c7
      go_wp2_with fail
      refine HSm2.out.mono ?_
      rintro e wb ⟨rfl, hbb⟩
      have bb := ba.trans (hbb.mono ba.size)
      clear hbb HSm2 ba
      go_wp2_with fail
      go_ret
      exact ⟨rfl, B0.trans (bb.mono B0.size)⟩
    | none =>
      have hzs := HRep.out.new hfn
      rw [findI_no hfn]
      clear hfn
      go_upto_region 8 with fail
      have hbd : Below w7.heap.size w7 w7.drew := (Below.refl _ _).drew
      have hS : (fun W' => Arp.MCells W' qb (qo + t * 6) ⟨x0, x1, x2, x3, x4, x5, x6, x7, x8⟩ ∧ BoxS g m0 m1 m2 m3 m4 m5 m6 m7 z a W') w7.drew := HS8.out _ hbd
      refine Ord.Till.begin (fun W' => Arp.MCells W' qb (qo + t * 6) ⟨x0, x1, x2, x3, x4, x5, x6, x7, x8⟩ ∧ BoxS g m0 m1 m2 m3 m4 m5 m6 m7 z a W') 60 (by kernel_rfl) ?_
      generalize w7.drew = wd8 at *
      refine Ord.Till.take' 0 (some 61) (oi := _) (x := ?_) rfl rfl (by kernel_rfl) (by kernel_rfl) (by kernel_rfl) (by kernel_rfl) (fun _ _ _ h => h) (by kernel_rfl) ?_ hS ?_
      rotate_left 1
      · intro v hv; obtain ⟨⟨y0, y1, y2, y3, y4, y5⟩, z0, z1, z2, z3, z4, z5, z6, z7⟩ := hv; go_simp; first | done | with_reducible rfl
      try simp only [List.getElem_toArray, List.getElem_cons_zero, List.getElem_cons_succ, Act.put, List.setIfInBounds_toArray, List.set_cons_zero, List.set_cons_succ]
      refine Ord.Till.take' 1 (some 62) (oi := _) (x := ?_) rfl rfl (by kernel_rfl) (by kernel_rfl) (by kernel_rfl) (by kernel_rfl) (fun _ _ _ h => h) (by kernel_rfl) ?_ hS ?_
      rotate_left 1
      · intro v hv; obtain ⟨⟨y0, y1, y2, y3, y4, y5⟩, z0, z1, z2, z3, z4, z5, z6, z7⟩ := hv; go_simp; first | done | with_reducible rfl
      try simp only [List.getElem_toArray, List.getElem_cons_zero, List.getElem_cons_succ, Act.put, List.setIfInBounds_toArray, List.set_cons_zero, List.set_cons_succ]
      refine Ord.Till.take' 2 (some 63) (oi := _) (x := ?_) rfl rfl (by kernel_rfl) (by kernel_rfl) (by kernel_rfl) (by kernel_rfl) (fun _ _ _ h => h) (by kernel_rfl) ?_ hS ?_
      rotate_left 1
      · intro v hv; obtain ⟨⟨y0, y1, y2, y3, y4, y5⟩, z0, z1, z2, z3, z4, z5, z6, z7⟩ := hv; go_simp; first | done | with_reducible rfl
      try simp only [List.getElem_toArray, List.getElem_cons_zero, List.getElem_cons_succ, Act.put, List.setIfInBounds_toArray, List.set_cons_zero, List.set_cons_succ]
      refine Ord.Till.take' 3 (some 64) (oi := _) (x := ?_) rfl rfl (by kernel_rfl) (by kernel_rfl) (by kernel_rfl) (by kernel_rfl) (fun _ _ _ h => h) (by kernel_rfl) ?_ hS ?_
      rotate_left 1
      · intro v hv; obtain ⟨⟨y0, y1, y2, y3, y4, y5⟩, z0, z1, z2, z3, z4, z5, z6, z7⟩ := hv; go_simp; first | done | with_reducible rfl
      try simp only [List.getElem_toArray, List.getElem_cons_zero, List.getElem_cons_succ, Act.put, List.setIfInBounds_toArray, List.set_cons_zero, List.set_cons_succ]
      refine Ord.Till.take' 4 (some 65) (oi := _) (x := ?_) rfl rfl (by kernel_rfl) (by kernel_rfl) (by kernel_rfl) (by kernel_rfl) (fun _ _ _ h => h) (by kernel_rfl) ?_ hS ?_
      rotate_left 1
      · intro v hv; obtain ⟨⟨y0, y1, y2, y3, y4, y5⟩, z0, z1, z2, z3, z4, z5, z6, z7⟩ := hv; go_simp; first | done | with_reducible rfl
      try simp only [List.getElem_toArray, List.getElem_cons_zero, List.getElem_cons_succ, Act.put, List.setIfInBounds_toArray, List.set_cons_zero, List.set_cons_succ]
      refine Ord.Till.take' 5 (some 66) (oi := _) (x := ?_) rfl rfl (by kernel_rfl) (by kernel_rfl) (by kernel_rfl) (by kernel_rfl) (fun _ _ _ h => h) (by kernel_rfl) ?_ hS ?_
      rotate_left 1
      · intro v hv; obtain ⟨⟨y0, y1, y2, y3, y4, y5⟩, z0, z1, z2, z3, z4, z5, z6, z7⟩ := hv; go_simp; first | done | with_reducible rfl
      try simp only [List.getElem_toArray, List.getElem_cons_zero, List.getElem_cons_succ, Act.put, List.setIfInBounds_toArray, List.set_cons_zero, List.set_cons_succ]
      refine Ord.Till.take' 6 (some 67) (oi := _) (x := .bool false) rfl rfl (by kernel_rfl) (by kernel_rfl) (by kernel_rfl) (by kernel_rfl) (fun _ _ _ h => h) (by kernel_rfl) ?_ hS ?_
      · intro v hv; go_simp; first | done | (simp; done) | (simp; omega)
      try simp only [List.getElem_toArray, List.getElem_cons_zero, List.getElem_cons_succ, Act.put, List.setIfInBounds_toArray, List.set_cons_zero, List.set_cons_succ]
      refine Ord.Till.take' 7 (some 68) (oi := _) (x := ?_) rfl rfl (by kernel_rfl) (by kernel_rfl) (by kernel_rfl) (by kernel_rfl) (fun _ _ _ h => h) (by kernel_rfl) ?_ hS ?_
      rotate_left 1
      · intro v hv; obtain ⟨⟨y0, y1, y2, y3, y4, y5⟩, z0, z1, z2, z3, z4, z5, z6, z7⟩ := hv; go_simp; first | done | with_reducible rfl
      try simp only [List.getElem_toArray, List.getElem_cons_zero, List.getElem_cons_succ, Act.put, List.setIfInBounds_toArray, List.set_cons_zero, List.set_cons_succ]
      refine Ord.Till.take' 8 (some 69) (oi := _) (x := ?_) rfl rfl (by kernel_rfl) (by kernel_rfl) (by kernel_rfl) (by kernel_rfl) (fun _ _ _ h => h) (by kernel_rfl) ?_ hS ?_
      rotate_left 1
      · intro v hv; obtain ⟨⟨y0, y1, y2, y3, y4, y5⟩, z0, z1, z2, z3, z4, z5, z6, z7⟩ := hv; go_simp; first | done | with_reducible rfl
      try simp only [List.getElem_toArray, List.getElem_cons_zero, List.getElem_cons_succ, Act.put, List.setIfInBounds_toArray, List.set_cons_zero, List.set_cons_succ]
      refine Ord.Till.take' 9 (some 70) (oi := _) (x := ?_) rfl rfl (by kernel_rfl) (by kernel_rfl) (by kernel_rfl) (by kernel_rfl) (fun _ _ _ h => h) (by kernel_rfl) ?_ hS ?_
      rotate_left 1
      · intro v hv; obtain ⟨⟨y0, y1, y2, y3, y4, y5⟩, z0, z1, z2, z3, z4, z5, z6, z7⟩ := hv; go_simp; first | done | with_reducible rfl
      try simp only [List.getElem_toArray, List.getElem_cons_zero, List.getElem_cons_succ, Act.put, List.setIfInBounds_toArray, List.set_cons_zero, List.set_cons_succ]
      refine Ord.Till.take' 10 (some 71) (oi := _) (x := ?_) rfl rfl (by kernel_rfl) (by kernel_rfl) (by kernel_rfl) (by kernel_rfl) (fun _ _ _ h => h) (by kernel_rfl) ?_ hS ?_
      rotate_left 1
      · intro v hv; obtain ⟨⟨y0, y1, y2, y3, y4, y5⟩, z0, z1, z2, z3, z4, z5, z6, z7⟩ := hv; go_simp; first | done | with_reducible rfl
      try simp only [List.getElem_toArray, List.getElem_cons_zero, List.getElem_cons_succ, Act.put, List.setIfInBounds_toArray, List.set_cons_zero, List.set_cons_succ]
      refine Ord.Till.take' 11 (some 72) (oi := _) (x := ?_) rfl rfl (by kernel_rfl) (by kernel_rfl) (by kernel_rfl) (by kernel_rfl) (fun _ _ _ h => h) (by kernel_rfl) ?_ hS ?_
      rotate_left 1
      · intro v hv; obtain ⟨⟨y0, y1, y2, y3, y4, y5⟩, z0, z1, z2, z3, z4, z5, z6, z7⟩ := hv; go_simp; first | done | with_reducible rfl
      try simp only [List.getElem_toArray, List.getElem_cons_zero, List.getElem_cons_succ, Act.put, List.setIfInBounds_toArray, List.set_cons_zero, List.set_cons_succ]
      refine Ord.Till.take' 12 (some 73) (oi := _) (x := ?_) rfl rfl (by kernel_rfl) (by kernel_rfl) (by kernel_rfl) (by kernel_rfl) (fun _ _ _ h => h) (by kernel_rfl) ?_ hS ?_
      rotate_left 1
      · intro v hv; obtain ⟨⟨y0, y1, y2, y3, y4, y5⟩, z0, z1, z2, z3, z4, z5, z6, z7⟩ := hv; go_simp; first | done | with_reducible rfl
      try simp only [List.getElem_toArray, List.getElem_cons_zero, List.getElem_cons_succ, Act.put, List.setIfInBounds_toArray, List.set_cons_zero, List.set_cons_succ]
      refine Ord.Till.take' 13 (some 74) (oi := _) (x := ?_) rfl rfl (by kernel_rfl) (by kernel_rfl) (by kernel_rfl) (by kernel_rfl) (fun _ _ _ h => h) (by kernel_rfl) ?_ hS ?_
      rotate_left 1
      · intro v hv; obtain ⟨⟨y0, y1, y2, y3, y4, y5⟩, z0, z1, z2, z3, z4, z5, z6, z7⟩ := hv; go_simp; first | done | with_reducible rfl
      try simp only [List.getElem_toArray, List.getElem_cons_zero, List.getElem_cons_succ, Act.put, List.setIfInBounds_toArray, List.set_cons_zero, List.set_cons_succ]
      refine Ord.Till.step 14 (by kernel_rfl) rfl (fun C hC => ?_)
      go_simp
      go_at_call 27
      refine (HSM.out _ hbd).mono ?_
      rintro e w8 ⟨rfl, hb8⟩
      have hb78 := hbd.trans (hb8.mono hbd.size)
      have b8 := b7.trans (hb78.mono b7.size)
      have a1 := HA1.out _ hb78
      clear hS hb8 hbd
      have hS := HS8.out _ hb78
      go_wp2_with fail
      refine hC.out _ _ (fun _ => hS) ?_
      clear hC C
      try simp only [List.getElem_toArray, List.getElem_cons_zero, List.getElem_cons_succ, Act.put, List.setIfInBounds_toArray, List.set_cons_zero, List.set_cons_succ]
      refine Ord.Till.take' 15 (some 76) (oi := _) (x := ?_) rfl rfl (by kernel_rfl) (by kernel_rfl) (by kernel_rfl) (by kernel_rfl) (fun _ _ _ h => h) (by kernel_rfl) ?_ hS ?_
      rotate_left 1
      · intro v hv; obtain ⟨⟨y0, y1, y2, y3, y4, y5⟩, z0, z1, z2, z3, z4, z5, z6, z7⟩ := hv; go_simp; first | done | with_reducible rfl
      try simp only [List.getElem_toArray, List.getElem_cons_zero, List.getElem_cons_succ, Act.put, List.setIfInBounds_toArray, List.set_cons_zero, List.set_cons_succ]
      refine Ord.Till.take' 16 (some 77) (oi := _) (x := ?_) rfl rfl (by kernel_rfl) (by kernel_rfl) (by kernel_rfl) (by kernel_rfl) (fun _ _ _ h => h) (by kernel_rfl) ?_ hS ?_
      rotate_left 1
      · intro v hv; obtain ⟨⟨y0, y1, y2, y3, y4, y5⟩, z0, z1, z2, z3, z4, z5, z6, z7⟩ := hv; go_simp; first | done | with_reducible rfl
      try simp only [List.getElem_toArray, List.getElem_cons_zero, List.getElem_cons_succ, Act.put, List.setIfInBounds_toArray, List.set_cons_zero, List.set_cons_succ]
      refine Ord.Till.take' 17 (some 78) (oi := _) (x := ?_) rfl rfl (by kernel_rfl) (by kernel_rfl) (by kernel_rfl) (by kernel_rfl) (fun _ _ _ h => h) (by kernel_rfl) ?_ hS ?_
      rotate_left 1
      · intro v hv; obtain ⟨⟨y0, y1, y2, y3, y4, y5⟩, z0, z1, z2, z3, z4, z5, z6, z7⟩ := hv; go_simp; first | done | with_reducible rfl
      try simp only [List.getElem_toArray, List.getElem_cons_zero, List.getElem_cons_succ, Act.put, List.setIfInBounds_toArray, List.set_cons_zero, List.set_cons_succ]
      refine Ord.Till.take' 18 (some 79) (oi := _) (x := ?_) rfl rfl (by kernel_rfl) (by kernel_rfl) (by kernel_rfl) (by kernel_rfl) (fun _ _ _ h => h) (by kernel_rfl) ?_ hS ?_
      rotate_left 1
      · intro v hv; obtain ⟨⟨y0, y1, y2, y3, y4, y5⟩, z0, z1, z2, z3, z4, z5, z6, z7⟩ := hv; go_simp; first | done | with_reducible rfl
      try simp only [List.getElem_toArray, List.getElem_cons_zero, List.getElem_cons_succ, Act.put, List.setIfInBounds_toArray, List.set_cons_zero, List.set_cons_succ]
      refine Ord.Till.take' 19 (some 80) (oi := _) (x := .bool false) rfl rfl (by kernel_rfl) (by kernel_rfl) (by kernel_rfl) (by kernel_rfl) (fun _ _ _ h => h) (by kernel_rfl) ?_ hS ?_
      · intro v hv; go_simp; first | done | (simp; done) | (simp; omega)
      try simp only [List.getElem_toArray, List.getElem_cons_zero, List.getElem_cons_succ, Act.put, List.setIfInBounds_toArray, List.set_cons_zero, List.set_cons_succ]
      refine Ord.Till.take' 20 (some 81) (oi := _) (x := ?_) rfl rfl (by kernel_rfl) (by kernel_rfl) (by kernel_rfl) (by kernel_rfl) (fun _ _ _ h => h) (by kernel_rfl) ?_ hS ?_
      rotate_left 1
      · intro v hv; obtain ⟨⟨y0, y1, y2, y3, y4, y5⟩, z0, z1, z2, z3, z4, z5, z6, z7⟩ := hv; go_simp; first | done | with_reducible rfl
      try simp only [List.getElem_toArray, List.getElem_cons_zero, List.getElem_cons_succ, Act.put, List.setIfInBounds_toArray, List.set_cons_zero, List.set_cons_succ]
      refine Ord.Till.skip' 21 (some 82) (oi := _) rfl rfl (by kernel_rfl) (by kernel_rfl) (by kernel_rfl) (by kernel_rfl) (fun _ _ _ h => h) (by kernel_rfl) hS ?_
      try simp only [List.getElem_toArray, List.getElem_cons_zero, List.getElem_cons_succ, Act.put, List.setIfInBounds_toArray, List.set_cons_zero, List.set_cons_succ]
      refine Ord.Till.skip' 22 (some 83) (oi := _) rfl rfl (by kernel_rfl) (by kernel_rfl) (by kernel_rfl) (by kernel_rfl) (fun _ _ _ h => h) (by kernel_rfl) hS ?_
      try simp only [List.getElem_toArray, List.getElem_cons_zero, List.getElem_cons_succ, Act.put, List.setIfInBounds_toArray, List.set_cons_zero, List.set_cons_succ]
      refine Ord.Till.skip' 23 (some 84) (oi := _) rfl rfl (by kernel_rfl) (by kernel_rfl) (by kernel_rfl) (by kernel_rfl) (fun _ _ _ h => h) (by kernel_rfl) hS ?_
      try simp only [List.getElem_toArray, List.getElem_cons_zero, List.getElem_cons_succ, Act.put, List.setIfInBounds_toArray, List.set_cons_zero, List.set_cons_succ]
      refine Ord.Till.skip' 24 (some 85) (oi := _) rfl rfl (by kernel_rfl) (by kernel_rfl) (by kernel_rfl) (by kernel_rfl) (fun _ _ _ h => h) (by kernel_rfl) hS ?_
      try simp only [List.getElem_toArray, List.getElem_cons_zero, List.getElem_cons_succ, Act.put, List.setIfInBounds_toArray, List.set_cons_zero, List.set_cons_succ]
      refine Ord.Till.skip' 25 (some 86) (oi := _) rfl rfl (by kernel_rfl) (by kernel_rfl) (by kernel_rfl) (by kernel_rfl) (fun _ _ _ h => h) (by kernel_rfl) hS ?_
      try simp only [List.getElem_toArray, List.getElem_cons_zero, List.getElem_cons_succ, Act.put, List.setIfInBounds_toArray, List.set_cons_zero, List.set_cons_succ]
      refine Ord.Till.skip' 26 (some 87) (oi := _) rfl rfl (by kernel_rfl) (by kernel_rfl) (by kernel_rfl) (by kernel_rfl) (fun _ _ _ h => h) (by kernel_rfl) hS ?_
      try simp only [List.getElem_toArray, List.getElem_cons_zero, List.getElem_cons_succ, Act.put, List.setIfInBounds_toArray, List.set_cons_zero, List.set_cons_succ]
      refine Ord.Till.skip' 27 (some 88) (oi := _) rfl rfl (by kernel_rfl) (by kernel_rfl) (by kernel_rfl) (by kernel_rfl) (fun _ _ _ h => h) (by kernel_rfl) hS ?_
      try simp only [List.getElem_toArray, List.getElem_cons_zero, List.getElem_cons_succ, Act.put, List.setIfInBounds_toArray, List.set_cons_zero, List.set_cons_succ]
      refine Ord.Till.skip' 28 (some 89) (oi := _) rfl rfl (by kernel_rfl) (by kernel_rfl) (by kernel_rfl) (by kernel_rfl) (fun _ _ _ h => h) (by kernel_rfl) hS ?_
      try simp only [List.getElem_toArray, List.getElem_cons_zero, List.getElem_cons_succ, Act.put, List.setIfInBounds_toArray, List.set_cons_zero, List.set_cons_succ]
      refine Ord.Till.skip' 29 (some 90) (oi := _) rfl rfl (by kernel_rfl) (by kernel_rfl) (by kernel_rfl) (by kernel_rfl) (fun _ _ _ h => h) (by kernel_rfl) hS ?_
      try simp only [List.getElem_toArray, List.getElem_cons_zero, List.getElem_cons_succ, Act.put, List.setIfInBounds_toArray, List.set_cons_zero, List.set_cons_succ]
      refine Ord.Till.skip' 30 (some 91) (oi := _) rfl rfl (by kernel_rfl) (by kernel_rfl) (by kernel_rfl) (by kernel_rfl) (fun _ _ _ h => h) (by kernel_rfl) hS ?_
      try simp only [List.getElem_toArray, List.getElem_cons_zero, List.getElem_cons_succ, Act.put, List.setIfInBounds_toArray, List.set_cons_zero, List.set_cons_succ]
      refine Ord.Till.take' 31 (some 92) (oi := _) (x := ?_) rfl rfl (by kernel_rfl) (by kernel_rfl) (by kernel_rfl) (by kernel_rfl) (fun _ _ _ h => h) (by kernel_rfl) ?_ hS ?_
      rotate_left 1
      · intro v hv; obtain ⟨⟨y0, y1, y2, y3, y4, y5⟩, z0, z1, z2, z3, z4, z5, z6, z7⟩ := hv; go_simp; first | done | with_reducible rfl
      try simp only [List.getElem_toArray, List.getElem_cons_zero, List.getElem_cons_succ, Act.put, List.setIfInBounds_toArray, List.set_cons_zero, List.set_cons_succ]
      refine Ord.Till.take' 32 (some 93) (oi := _) (x := ?_) rfl rfl (by kernel_rfl) (by kernel_rfl) (by kernel_rfl) (by kernel_rfl) (fun _ _ _ h => h) (by kernel_rfl) ?_ hS ?_
      rotate_left 1
      · intro v hv; obtain ⟨⟨y0, y1, y2, y3, y4, y5⟩, z0, z1, z2, z3, z4, z5, z6, z7⟩ := hv; go_simp; first | done | with_reducible rfl
      try simp only [List.getElem_toArray, List.getElem_cons_zero, List.getElem_cons_succ, Act.put, List.setIfInBounds_toArray, List.set_cons_zero, List.set_cons_succ]
      refine Ord.Till.done (by kernel_rfl) ?_ _
      clear hS HS8 HSM hb78 HA1 b7
      have Hzo : Hid (∀ x ∈ zs, MOk x) := hid fun x hx => HRo.out x (by rw [← HRep.out.del] at hx; exact delM_sub hx)
      have Hzl : Hid (zs.length ≤ 300) := hid (by have q := HRl.out; rw [HRep.out.eq, insM_length] at q; omega)
      have Hdy : Hid (delE R m0 = (zs, 0)) := hid (by
        unfold delE
        have q := HRep.out.find
        simp only at q
        rw [q]
        show (delM R _, (0 : Int)) = _
        rw [HRep.out.del])
      obtain ⟨c0, c1, c2, c3, c4, c5, c6, c7⟩ := HBox.out w8 b8
      go_wp2_with fail
      refine (HP.out.delete _ _ _ d1 y1 m0 w8 a1).mono ?_
      rintro e w9 hC
      have hC := CopiesE.del hC HE1.out
      rw [Hdy.out] at hC
      obtain ⟨A2, n2, d2, y2, rfl, a2, e2, hn2, hb9⟩ := hC.arg Hzo.out Hzl.out
      have b9 := b8.trans (hb9.mono b8.size)
      have HE2 := hid e2
      clear hC e2 hn2 hb9 a1 b8 c0 c1 c2 c3 c4 c5 c6 c7
      have hsame : Arp.sameMs y2 xs = true := Arw.same_core (by rw [HE2.out, hzs])
      have HSm2 := hid (Arp.rsamemembers_any w9.heap.size A2 A n2 d2 n c y2 xs w9 a2.rd ((HAM.out w9 b9).rd.more (Nat.le_trans B0.size b9.size)) (Nat.le_refl _) (by have := a2.n100; omega))
      rw [hsame] at HSm2
      clear hsame a2
      go_wp2_with fail
      refine HSm2.out.mono ?_
      rintro e wb ⟨rfl, hbb⟩
      have bb := b9.trans (hbb.mono b9.size)
      clear hbb HSm2 b9
      go_wp2_with fail
      go_ret
      exact ⟨rfl, B0.trans (bb.mono B0.size)⟩
  · have hzb : (ze != 0) = true := by simpa using hz
    have hR := HBad.out hz
    have hsame : Arp.sameMs y1 xs = true := Arw.same_core (by rw [HE1.out, hR])
    have HSm := hid (Arp.rsamemembers_any w5.heap.size A1 A n1 d1 n c y1 xs w5 a1.rd ((HAM.out w5 b5).rd.more (Nat.le_trans B0.size b5.size)) (Nat.le_refl _) (by have := a1.n100; omega))
    rw [hsame] at HSm
    clear hsame hR hz HBad HGood a1
    go_wp2_with fail
    refine HSm.out.mono ?_
    rintro e w6 ⟨rfl, hb6⟩
    have b6 := b5.trans (hb6.mono b5.size)
    clear hb6 HSm b5
    go_wp2_with fail
    go_ret
    exact ⟨rfl, B0.trans (b6.mono B0.size)⟩
end Go.Proofs.Ytijggpahijhpeaa.Edt
