/-
  EditInverse, from the program's contracts: deleting a member that was inserted at any place restores the list; deleting and inserting it again before its successor does too.
-/
import Derived.Test.YtijggpahijhpeaaZEl
namespace Go.Proofs.Ytijggpahijhpeaa.Edt
open Go.RowKit Go.Proofs Go.Proofs.Ytijggpahijhpeaa.Byt
open Go.Proofs.Ytijggpahijhpeaa.Arp (Mem RdM OwnM mcells)
open Go.Proofs.Ytijggpahijhpeaa.Arw (core MOk RdM0)

set_option linter.unusedSimpArgs false in
set_option maxRecDepth 100000 in
set_option maxHeartbeats 16000000 in
theorem inverse10 (P : PC10) (w : World) (A : Option Addr) (n c : Nat) (xs : List Mem) (h : RdM0 w w.heap.size A n xs) (hnc : n ≤ c) (hcm : c ≤ maxLen) (hB : ∀ x ∈ xs, Frame.MB x) (m : Mem) (hm : Byt.Rd w w.heap.size m.ptr m.len m.data) (gm : Frame.MB m) (z : Int) (a : ByteArray) (lz : -9223372036854775808 ≤ z) (uz : z < 9223372036854775808) :
    Calls Try.prog 6 #[.slice A n c, m.val, plaV z a] w fun e w' => e = .returned (.bool true) ∧ Below w.heap.size w w' := by
  have HP := hid P
  obtain ⟨m0, m1, m2, m3, m4, m5, m6, m7, m8⟩ := m
  simp only at hm
  have hbm := (Below.refl w.heap.size w).alloc (Nat.le_refl _) (.cells #[.string m0, .int .i64 m1, .int .i64 m2, .int .i64 m3, .int .i64 m4, .slice m5 m6 m7] 25)
  have hrm := heap_alloc_new w (.cells #[.string m0, .int .i64 m1, .int .i64 m2, .int .i64 m3, .int .i64 m4, .slice m5 m6 m7] 25)
  have hsm := World.size_alloc w (.cells #[.string m0, .int .i64 m1, .int .i64 m2, .int .i64 m3, .int .i64 m4, .slice m5 m6 m7] 25)
  have hbp := (Below.refl (w.alloc (.cells #[.string m0, .int .i64 m1, .int .i64 m2, .int .i64 m3, .int .i64 m4, .slice m5 m6 m7] 25)).heap.size (w.alloc (.cells #[.string m0, .int .i64 m1, .int .i64 m2, .int .i64 m3, .int .i64 m4, .slice m5 m6 m7] 25))).alloc (Nat.le_refl _) (.cells #[.int .i64 z, .string a] 27)
  have hrp := heap_alloc_new (w.alloc (.cells #[.string m0, .int .i64 m1, .int .i64 m2, .int .i64 m3, .int .i64 m4, .slice m5 m6 m7] 25)) (.cells #[.int .i64 z, .string a] 27)
  have hsp := World.size_alloc (w.alloc (.cells #[.string m0, .int .i64 m1, .int .i64 m2, .int .i64 m3, .int .i64 m4, .slice m5 m6 m7] 25)) (.cells #[.int .i64 z, .string a] 27)
  simp only [Mem.val, plaV]
  go_enter Try.func6, Try.ntmps6
  go_upto_region 1 with fail
  generalize w.alloc (.cells #[.string m0, .int .i64 m1, .int .i64 m2, .int .i64 m3, .int .i64 m4, .slice m5 m6 m7] 25) = wm at *
  generalize wm.alloc (.cells #[.int .i64 z, .string a] 27) = w0 at *
  obtain ⟨g, hg⟩ : ∃ g, w.heap.size = g := ⟨_, rfl⟩
  rw [hg] at hrm hsm
  rw [hsm] at hrp hsp
  try rw [hsm]
  try rw [hg]
  have hrm0 := (hbp.block g (by omega)).trans hrm
  have B0 := hbm.trans (hbp.mono hbm.size)
  have HBox : Hid (∀ W, Below w0.heap.size w0 W → BoxS g m0 m1 m2 m3 m4 m5 m6 m7 z a W) := hid fun W hW => BoxS.of ((hW.block g (by omega)).trans hrm0) ((hW.block (g + 1) (by omega)).trans hrp)
  have HG := hid hg
  clear hbm hrm hsm hbp hrp hsp hrm0 hg
  go_wp2_with fail
  refine (awake10_any HP.out w0).mono ?_
  rintro e w1 ⟨rfl, hb1⟩
  go_wp2_with fail
  refine (Arw.few5_any w.heap.size A n c xs w1 (h.below (B0.trans (hb1.mono B0.size))) (Nat.le_trans B0.size hb1.size)).mono ?_
  rintro e w2 ⟨rfl, hb2⟩
  have b2 := hb1.trans (hb2.mono hb1.size)
  clear hb1 hb2
  obtain ⟨c0, c1, c2, c3, c4, c5, c6, c7⟩ := HBox.out w2 b2
  cases hf : Arw.fewM xs
  · go_wp2_with fail
    refine (awake10_any HP.out w2).mono ?_
    rintro e w9 ⟨rfl, hb9⟩
    go_wp2_with fail
    go_ret
    exact ⟨rfl, B0.trans ((b2.trans (hb9.mono b2.size)).mono B0.size)⟩
  obtain ⟨k1, _, k3⟩ := Arw.fewM_iff.1 hf
  by_cases q0 : 1000 < m6
  · have q0i : (1000 : Int) < (m6 : Int) := by omega
    go_wp2_with fail
    refine (awake10_any HP.out w2).mono ?_
    rintro e w9 ⟨rfl, hb9⟩
    go_wp2_with fail
    go_ret
    exact ⟨rfl, B0.trans ((b2.trans (hb9.mono b2.size)).mono B0.size)⟩
  have q0i : ¬ (1000 : Int) < (m6 : Int) := by omega
  by_cases q1 : 300 < m0.size
  · have q1i : (300 : Int) < (m0.size : Int) := by omega
    go_wp2_with fail
    refine (awake10_any HP.out w2).mono ?_
    rintro e w9 ⟨rfl, hb9⟩
    go_wp2_with fail
    go_ret
    exact ⟨rfl, B0.trans ((b2.trans (hb9.mono b2.size)).mono B0.size)⟩
  have q1i : ¬ (300 : Int) < (m0.size : Int) := by omega
  by_cases q2 : 300 < a.size
  · have q2i : (300 : Int) < (a.size : Int) := by omega
    go_wp2_with fail
    refine (awake10_any HP.out w2).mono ?_
    rintro e w9 ⟨rfl, hb9⟩
    go_wp2_with fail
    go_ret
    exact ⟨rfl, B0.trans ((b2.trans (hb9.mono b2.size)).mono B0.size)⟩
  have q2i : ¬ (300 : Int) < (a.size : Int) := by omega
  have hM := h.to (fun x hx => (k3 x hx).2)
  have hok : ∀ x ∈ xs, MOk x := fun x hx => (hB x hx).ok (k3 x hx).1 (k3 x hx).2
  have hxl : xs.length = n := h.1
  have hn20 : n ≤ 20 := by omega
  have HAM : Hid (∀ W, Below w0.heap.size w0 W → ArgM W w.heap.size A n c xs) := hid fun W hW => ⟨hM.below (B0.trans (hW.mono B0.size)), Nat.le_trans B0.size hW.size, hnc, hcm, hok, fun x hx => (hB x hx).cap, by omega⟩
  have Hok := hid hok
  have Hxl := hid hxl
  have HAE : Hid (∀ W, Below w0.heap.size w0 W → ArgE W w.heap.size ⟨m0, m1, m2, m3, m4, m5, m6, m7, m8⟩) := hid fun W hW => ⟨gm.ok (by show m0.size ≤ 300; omega) (by show m6 ≤ 1000; omega), hm.below (B0.trans (hW.mono B0.size)), Nat.le_trans B0.size hW.size, gm.cap⟩
  have Hmk : Hid (MOk ⟨m0, m1, m2, m3, m4, m5, m6, m7, m8⟩) := hid (gm.ok (by show m0.size ≤ 300; omega) (by show m6 ≤ 1000; omega))
  clear k1 k3 h hB hf
  go_wp2_with fail
  refine (rfind_any w.heap.size A n c xs m0 w2 (HAM.out w2 b2).rd (HAM.out w2 b2).hK (by omega)).mono ?_
  rintro e wf ⟨rfl, hbf⟩
  have bf := b2.trans (hbf.mono b2.size)
  clear hbf b2 c0 c1 c2 c3 c4 c5 c6 c7
  cases hfn : findN xs m0 with
  | some i =>
    rw [findI_some hfn]
    have hge : decide ((0 : Int) ≤ (i : Int)) = true := by simp
    clear hfn
    go_wp2_with fail
    refine (awake10_any HP.out wf).mono ?_
    rintro e w9 ⟨rfl, hb9⟩
    go_wp2_with fail
    go_ret
    exact ⟨rfl, B0.trans ((bf.trans (hb9.mono bf.size)).mono B0.size)⟩
  | none =>
    rw [findI_no hfn]
    obtain ⟨c0, c1, c2, c3, c4, c5, c6, c7⟩ := HBox.out wf bf
    obtain ⟨R, ze, hrep⟩ : ∃ R ze, repE xs ⟨m0, m1, m2, m3, m4, m5, m6, m7, m8⟩ z a = (R, ze) := ⟨_, _, rfl⟩
    have HR1 : Hid (∀ W, Below w0.heap.size w0 W → Calls Try.prog 10 #[.slice A n c, .agg #[.string m0, .int .i64 m1, .int .i64 m2, .int .i64 m3, .int .i64 m4, .slice m5 m6 m7], .agg #[.int .i64 z, .string a]] W (CopiesE R ze W)) := hid fun W hW => by
      have q := HP.out.replace w.heap.size A n c xs ⟨m0, m1, m2, m3, m4, m5, m6, m7, m8⟩ z a W (HAM.out W hW) (HAE.out W hW) lz uz
      rw [hrep] at q
      exact q
    have HRl : Hid (R.length ≤ 300) := hid (by have q := repE_len (xs := xs) (m := ⟨m0, m1, m2, m3, m4, m5, m6, m7, m8⟩) (z := z) (a := a); rw [hrep] at q; simp only at q; omega)
    have HRo : Hid (∀ x ∈ R, MOk x) := hid (by have q := repE_ok (z := z) (a := a) Hok.out Hmk.out; rw [hrep] at q; exact q)
    have HGood : Hid (ze = 0 → ∃ t, t ≤ xs.length ∧ R = insM xs t ⟨m0, m1, m2, m3, m4, m5, m6, m7, m8⟩ ∧ findN R m0 = some t ∧ delE R m0 = (xs, 0) ∧ ∀ (hs : t + 1 < R.length), findN R R[t + 1].name = some (t + 1) → repE xs ⟨m0, m1, m2, m3, m4, m5, m6, m7, m8⟩ 1 R[t + 1].name = (R, 0)) := hid fun hz => by
      have q := inv_of (xs := xs) (m := ⟨m0, m1, m2, m3, m4, m5, m6, m7, m8⟩) (z := z) (a := a) hfn (by rw [hrep]; exact hz)
      rw [hrep] at q
      obtain ⟨t, q1, q2, q3, q4, q5⟩ := q
      simp only at q2
      subst q2
      exact ⟨t, q1, rfl, q3, q4, q5⟩
    clear hrep hM hok gm hm lz uz hfn
    go_upto_region 3 with fail
    have hbd : Below wf.heap.size wf wf.drew := (Below.refl _ _).drew
    have b3 := bf.trans (hbd.mono bf.size)
    have hS : (BoxS g m0 m1 m2 m3 m4 m5 m6 m7 z a) wf.drew := HBox.out _ b3
    refine Ord.Till.begin (BoxS g m0 m1 m2 m3 m4 m5 m6 m7 z a) 60 (by kernel_rfl) ?_
    generalize wf.drew = wd at *
    clear hbd c0 c1 c2 c3 c4 c5 c6 c7
    refine Ord.Till.take' 0 (some 48) (oi := _) (x := ?_) rfl rfl (by kernel_rfl) (by kernel_rfl) (by kernel_rfl) (by kernel_rfl) (fun _ _ _ h => h) (by kernel_rfl) ?_ hS ?_
    rotate_left 1
    · intro v hv; obtain ⟨z0, z1, z2, z3, z4, z5, z6, z7⟩ := hv; go_simp; first | done | with_reducible rfl
    try simp only [List.getElem_toArray, List.getElem_cons_zero, List.getElem_cons_succ, Act.put, List.setIfInBounds_toArray, List.set_cons_zero, List.set_cons_succ]
    refine Ord.Till.take' 1 (some 49) (oi := _) (x := ?_) rfl rfl (by kernel_rfl) (by kernel_rfl) (by kernel_rfl) (by kernel_rfl) (fun _ _ _ h => h) (by kernel_rfl) ?_ hS ?_
    rotate_left 1
    · intro v hv; obtain ⟨z0, z1, z2, z3, z4, z5, z6, z7⟩ := hv; go_simp; first | done | with_reducible rfl
    try simp only [List.getElem_toArray, List.getElem_cons_zero, List.getElem_cons_succ, Act.put, List.setIfInBounds_toArray, List.set_cons_zero, List.set_cons_succ]
    refine Ord.Till.take' 2 (some 50) (oi := _) (x := ?_) rfl rfl (by kernel_rfl) (by kernel_rfl) (by kernel_rfl) (by kernel_rfl) (fun _ _ _ h => h) (by kernel_rfl) ?_ hS ?_
    rotate_left 1
    · intro v hv; obtain ⟨z0, z1, z2, z3, z4, z5, z6, z7⟩ := hv; go_simp; first | done | with_reducible rfl
    try simp only [List.getElem_toArray, List.getElem_cons_zero, List.getElem_cons_succ, Act.put, List.setIfInBounds_toArray, List.set_cons_zero, List.set_cons_succ]
    refine Ord.Till.step 3 (by kernel_rfl) rfl (fun C hC => ?_)
    go_simp
    go_at_call 11
    refine (forward_any z a _).mono ?_
    rintro e w4 ⟨rfl, hb4⟩
    have b4 := b3.trans (hb4.mono b3.size)
    clear hS hb4
    have hS := HBox.out _ b4
    go_wp2_with fail
    refine hC.out _ _ (fun _ => hS) ?_
    clear hC C
    try simp only [List.getElem_toArray, List.getElem_cons_zero, List.getElem_cons_succ, Act.put, List.setIfInBounds_toArray, List.set_cons_zero, List.set_cons_succ]
    refine Ord.Till.step 4 (by kernel_rfl) rfl (fun C hC => ?_)
    go_simp
    go_at_call 10
    refine (HR1.out _ b4).mono ?_
    rintro e w5 hC
    obtain ⟨A1, n1, d1, y1, rfl, a1, e1, hn1, hb5⟩ := hC.arg HRo.out HRl.out
    have HE1 := hid e1
    have Hn1 := hid hn1
    have b5 := b4.trans (hb5.mono b4.size)
    clear hS hC hb5 e1 hn1
    have hS := HBox.out _ b5
    go_wp2_with fail
    refine hC.out _ _ (fun _ => hS) ?_
    clear hC C
    try simp only [List.getElem_toArray, List.getElem_cons_zero, List.getElem_cons_succ, Act.put, List.setIfInBounds_toArray, List.set_cons_zero, List.set_cons_succ]
    refine Ord.Till.take' 5 (some 47) (oi := _) (x := ?_) rfl rfl (by kernel_rfl) (by kernel_rfl) (by kernel_rfl) (by kernel_rfl) (fun _ _ _ h => h) (by kernel_rfl) ?_ hS ?_
    rotate_left 1
    · intro v hv; obtain ⟨z0, z1, z2, z3, z4, z5, z6, z7⟩ := hv; go_simp; first | done | with_reducible rfl
    try simp only [List.getElem_toArray, List.getElem_cons_zero, List.getElem_cons_succ, Act.put, List.setIfInBounds_toArray, List.set_cons_zero, List.set_cons_succ]
    refine Ord.Till.take' 6 (some 53) (oi := _) (x := ?_) rfl rfl (by kernel_rfl) (by kernel_rfl) (by kernel_rfl) (by kernel_rfl) (fun _ _ _ h => h) (by kernel_rfl) ?_ hS ?_
    rotate_left 1
    · intro v hv; obtain ⟨z0, z1, z2, z3, z4, z5, z6, z7⟩ := hv; go_simp; first | done | with_reducible rfl
    try simp only [List.getElem_toArray, List.getElem_cons_zero, List.getElem_cons_succ, Act.put, List.setIfInBounds_toArray, List.set_cons_zero, List.set_cons_succ]
    refine Ord.Till.take' 7 (some 54) (oi := _) (x := ?_) rfl rfl (by kernel_rfl) (by kernel_rfl) (by kernel_rfl) (by kernel_rfl) (fun _ _ _ h => h) (by kernel_rfl) ?_ hS ?_
    rotate_left 1
    · intro v hv; obtain ⟨z0, z1, z2, z3, z4, z5, z6, z7⟩ := hv; go_simp; first | done | with_reducible rfl
    try simp only [List.getElem_toArray, List.getElem_cons_zero, List.getElem_cons_succ, Act.put, List.setIfInBounds_toArray, List.set_cons_zero, List.set_cons_succ]
    refine Ord.Till.take' 8 (some 7) (oi := _) (x := ?_) rfl rfl (by kernel_rfl) (by kernel_rfl) (by kernel_rfl) (by kernel_rfl) (fun _ _ _ h => h) (by kernel_rfl) ?_ hS ?_
    rotate_left 1
    · intro v hv; obtain ⟨z0, z1, z2, z3, z4, z5, z6, z7⟩ := hv; go_simp; first | done | with_reducible rfl
    try simp only [List.getElem_toArray, List.getElem_cons_zero, List.getElem_cons_succ, Act.put, List.setIfInBounds_toArray, List.set_cons_zero, List.set_cons_succ]
    refine Ord.Till.take' 9 (some 8) (oi := _) (x := ?_) rfl rfl (by kernel_rfl) (by kernel_rfl) (by kernel_rfl) (by kernel_rfl) (fun _ _ _ h => h) (by kernel_rfl) ?_ hS ?_
    rotate_left 1
    · intro v hv; obtain ⟨z0, z1, z2, z3, z4, z5, z6, z7⟩ := hv; go_simp; first | done | with_reducible rfl
    try simp only [List.getElem_toArray, List.getElem_cons_zero, List.getElem_cons_succ, Act.put, List.setIfInBounds_toArray, List.set_cons_zero, List.set_cons_succ]
    refine Ord.Till.done (by kernel_rfl) ?_ _
    clear hS b3 b4
    clear bf HR1
    by_cases hz : ze = 0
    · obtain ⟨t, ht, hR, hft, hdl, hag⟩ := HGood.out hz
      subst hz
      have Hft := hid hft
      have Hdl := hid hdl
      have Hag := hid hag
      have HtR : Hid (t < R.length) := hid (by rw [hR, insM_length]; omega)
      have Hxn : Hid (xs.length = n) := hid hxl
      clear hft hdl hag HGood hR ht hxl
      obtain ⟨c0, c1, c2, c3, c4, c5, c6, c7⟩ := HBox.out w5 b5
      go_wp2_with fail
      refine (HP.out.delete _ A1 n1 d1 y1 m0 w5 a1).mono ?_
      rintro e w6 hC
      have hC := CopiesE.del hC HE1.out
      rw [Hdl.out] at hC
      obtain ⟨A2, n2, d2, y2, rfl, a2, e2, hn2, hb6⟩ := hC.arg Hok.out (by show xs.length ≤ 300; have := Hxn.out; omega)
      have b6 := b5.trans (hb6.mono b5.size)
      have hw6 : w.heap.size ≤ w6.heap.size := Nat.le_trans B0.size b6.size
      have a1' := a1.on hb6
      have HE2 := hid e2
      have hsame : Arp.sameMs y2 xs = true := Arw.same_core e2
      have HSm := hid (Arp.rsamemembers_any w6.heap.size A2 A n2 d2 n c y2 xs w6 a2.rd ((HAM.out w6 b6).rd.more (Nat.le_trans B0.size b6.size)) (Nat.le_refl _) (by have := a2.n100; omega))
      rw [hsame] at HSm
      clear hC e2 hn2 hb6 a1 b5 hsame c0 c1 c2 c3 c4 c5 c6 c7
      go_wp2_with fail
      refine HSm.out.mono ?_
      rintro e w7 ⟨rfl, hb7⟩
      have b7 := b6.trans (hb7.mono b6.size)
      have a1 := a1'.on hb7
      have a2' := a2.on hb7
      clear hb7 HSm b6 a1' a2
      obtain ⟨c0, c1, c2, c3, c4, c5, c6, c7⟩ := HBox.out w7 b7
      go_wp2_with fail
      refine (HP.out.find _ A1 n1 d1 y1 m0 w7 a1).mono ?_
      rintro e w8 ⟨rfl, hb8⟩
      have hfy : findI y1 m0 = (t : Int) := by rw [findI_as HE1.out]; exact findI_some Hft.out
      rw [hfy]
      have b8 := b7.trans (hb8.mono b7.size)
      have a1' := a1.on hb8
      have a2 := a2'.on hb8
      clear hb8 b7 a1 a2' hfy c0 c1 c2 c3 c4 c5 c6 c7
      have hn100 := a1'.n100
      have hq : IntKind.i64.wrap ((t : Int) + 1) = ((t + 1 : Nat) : Int) := by rw [IntKind.wrap_i64]; have := HtR.out; have := Hn1.out; omega
      have hge0 : decide ((0 : Int) ≤ (t : Int)) = true := by simp
      have hlt0 : decide ((t : Int) < 0) = false := by simp
      obtain ⟨t1, ht1⟩ : ∃ t1, t + 1 = t1 := ⟨_, rfl⟩
      rw [ht1] at hq
      have Ht1 := hid ht1
      clear ht1
      by_cases hl : t1 < n1
      · have hly : t1 < y1.length := by rw [a1'.rd.1]; exact hl
        have hlR : t1 < R.length := by rw [← len_core HE1.out]; exact hly
        obtain ⟨⟨qb, qo, rfl, hbK, hcell⟩, hr8, hl8⟩ := a1'.rd.2 t1 hly
        have hgel : decide ((n1 : Int) ≤ (t1 : Int)) = false := by simp; omega
        have hltl : (t1 : Int) < (n1 : Int) := by omega
        have hnmR : R[t1].name = y1[t1].name := (show (core R[t1]).name = (core y1[t1]).name from by rw [core_at HE1.out hly hlR])
        have HNm : Hid (∀ W, Below w8.heap.size w8 W → W.cell? ⟨qb, qo + t1 * 6, none⟩ = some (.string y1[t1].name)) := hid fun W hW => (hcell.below hW (by have := a1'.hK; omega)).1
        have Hag2 : Hid (findN R y1[t1].name = some t1 → repE xs ⟨m0, m1, m2, m3, m4, m5, m6, m7, m8⟩ 1 y1[t1].name = (R, 0)) := hid (by
          have q := Hag.out (by rw [Ht1.out]; exact hlR)
          have e9 : R[t + 1]'(by rw [Ht1.out]; exact hlR) = R[t1] := by congr 1
          rw [e9, hnmR, Ht1.out] at q
          exact q)
        have HA1 := hid fun (W : World) (hW : Below w8.heap.size w8 W) => a1'.on hW
        have HA2 := hid fun (W : World) (hW : Below w8.heap.size w8 W) => a2.on hW
        clear hcell hbK a1' a2 Hag hnmR hr8 hl8
        generalize y1[t1].name = nm1 at *
        clear hly hlR
        have g0 := HNm.out w8 (Below.refl _ _)
        go_wp2_with fail
        refine (HP.out.find _ _ n1 d1 y1 nm1 w8 (HA1.out w8 (Below.refl _ _))).mono ?_
        rintro e w9 ⟨rfl, hb9⟩
        have b9 := b8.trans (hb9.mono b8.size)
        clear g0
        by_cases hfq : findN R nm1 = some t1
        · have hfy : findI y1 nm1 = (t1 : Int) := by rw [findI_as HE1.out]; exact findI_some hfq
          rw [hfy]
          have hrr := Hag2.out hfq
          have HRr : Hid (∀ W, Below w8.heap.size w8 W → Calls Try.prog 10 #[.slice A2 n2 d2, .agg #[.string m0, .int .i64 m1, .int .i64 m2, .int .i64 m3, .int .i64 m4, .slice m5 m6 m7], .agg #[.int .i64 1, .string nm1]] W (CopiesE R 0 W)) := hid fun W hW => by
            have q1 := HAE.out W (b8.trans (hW.mono b8.size))
            have q2 := HA2.out W hW
            have q := HP.out.replace _ A2 n2 d2 y2 ⟨m0, m1, m2, m3, m4, m5, m6, m7, m8⟩ 1 nm1 W q2 ⟨q1.ok, q1.rd.more hw6, q2.hK, q1.cap⟩ (by omega) (by omega)
            exact q.mono fun e w' hC => by
              have hC := CopiesE.rep hC HE2.out
              rw [hrr] at hC
              exact hC
          have hnn : ((t1 : Int) != (t1 : Int)) = false := by simp
          have HS12 : Hid (∀ W, Below w8.heap.size w8 W → (W.cell? ⟨qb, qo + t1 * 6, none⟩ = some (.string nm1) ∧ BoxS g m0 m1 m2 m3 m4 m5 m6 m7 z a W)) := hid fun W hW => ⟨HNm.out W hW, HBox.out W (b8.trans (hW.mono b8.size))⟩
          clear hfy hrr hfq HNm Hag2
          go_upto_region 12 with fail
          have hbd : Below w9.heap.size w9 w9.drew := (Below.refl _ _).drew
          have hb8d := hb9.trans (hbd.mono hb9.size)
          have hS : (fun W' => W'.cell? ⟨qb, qo + t1 * 6, none⟩ = some (.string nm1) ∧ BoxS g m0 m1 m2 m3 m4 m5 m6 m7 z a W') w9.drew := HS12.out _ hb8d
          refine Ord.Till.begin (fun W' => W'.cell? ⟨qb, qo + t1 * 6, none⟩ = some (.string nm1) ∧ BoxS g m0 m1 m2 m3 m4 m5 m6 m7 z a W') 60 (by kernel_rfl) ?_
          generalize w9.drew = wd9 at *
          have bd9 := b8.trans (hb8d.mono b8.size)
          refine Ord.Till.take' 0 (some 101) (oi := _) (x := ?_) rfl rfl (by kernel_rfl) (by kernel_rfl) (by kernel_rfl) (by kernel_rfl) (fun _ _ _ h => h) (by kernel_rfl) ?_ hS ?_
          rotate_left 1
          · intro v hv; obtain ⟨z0, z1, z2, z3, z4, z5, z6, z7, z8⟩ := hv; go_simp; first | done | with_reducible rfl
          try simp only [List.getElem_toArray, List.getElem_cons_zero, List.getElem_cons_succ, Act.put, List.setIfInBounds_toArray, List.set_cons_zero, List.set_cons_succ]
          refine Ord.Till.take' 1 (some 102) (oi := _) (x := ?_) rfl rfl (by kernel_rfl) (by kernel_rfl) (by kernel_rfl) (by kernel_rfl) (fun _ _ _ h => h) (by kernel_rfl) ?_ hS ?_
          rotate_left 1
          · intro v hv; obtain ⟨z0, z1, z2, z3, z4, z5, z6, z7, z8⟩ := hv; go_simp; first | done | with_reducible rfl
          try simp only [List.getElem_toArray, List.getElem_cons_zero, List.getElem_cons_succ, Act.put, List.setIfInBounds_toArray, List.set_cons_zero, List.set_cons_succ]
          refine Ord.Till.take' 2 (some 103) (oi := _) (x := ?_) rfl rfl (by kernel_rfl) (by kernel_rfl) (by kernel_rfl) (by kernel_rfl) (fun _ _ _ h => h) (by kernel_rfl) ?_ hS ?_
          rotate_left 1
          · intro v hv; obtain ⟨z0, z1, z2, z3, z4, z5, z6, z7, z8⟩ := hv; go_simp; first | done | with_reducible rfl
          try simp only [List.getElem_toArray, List.getElem_cons_zero, List.getElem_cons_succ, Act.put, List.setIfInBounds_toArray, List.set_cons_zero, List.set_cons_succ]
          refine Ord.Till.take' 3 (some 104) (oi := _) (x := ?_) rfl rfl (by kernel_rfl) (by kernel_rfl) (by kernel_rfl) (by kernel_rfl) (fun _ _ _ h => h) (by kernel_rfl) ?_ hS ?_
          rotate_left 1
          · intro v hv; obtain ⟨z0, z1, z2, z3, z4, z5, z6, z7, z8⟩ := hv; go_simp; first | done | with_reducible rfl
          try simp only [List.getElem_toArray, List.getElem_cons_zero, List.getElem_cons_succ, Act.put, List.setIfInBounds_toArray, List.set_cons_zero, List.set_cons_succ]
          refine Ord.Till.take' 4 (some 105) (oi := _) (x := .int .i64 (t1 : Int)) rfl rfl (by kernel_rfl) (by kernel_rfl) (by kernel_rfl) (by kernel_rfl) (fun _ _ _ h => h) (by kernel_rfl) ?_ hS ?_
          · intro v hv; go_simp; first | done | (rw [hq]; done) | (simp only [hq]; done) | (simp [hq]; done)
          try simp only [List.getElem_toArray, List.getElem_cons_zero, List.getElem_cons_succ, Act.put, List.setIfInBounds_toArray, List.set_cons_zero, List.set_cons_succ]
          refine Ord.Till.take' 5 (some 106) (oi := _) (x := ?_) rfl rfl (by kernel_rfl) (by kernel_rfl) (by kernel_rfl) (by kernel_rfl) (fun _ _ _ h => h) (by kernel_rfl) ?_ hS ?_
          rotate_left 1
          · intro v hv; obtain ⟨z0, z1, z2, z3, z4, z5, z6, z7, z8⟩ := hv; go_simp; first | done | with_reducible rfl
          try simp only [List.getElem_toArray, List.getElem_cons_zero, List.getElem_cons_succ, Act.put, List.setIfInBounds_toArray, List.set_cons_zero, List.set_cons_succ]
          refine Ord.Till.take' 6 (some 107) (oi := _) (x := ?_) rfl rfl (by kernel_rfl) (by kernel_rfl) (by kernel_rfl) (by kernel_rfl) (fun _ _ _ h => h) (by kernel_rfl) ?_ hS ?_
          rotate_left 1
          · intro v hv; obtain ⟨z0, z1, z2, z3, z4, z5, z6, z7, z8⟩ := hv; go_simp; first | done | with_reducible rfl
          try simp only [List.getElem_toArray, List.getElem_cons_zero, List.getElem_cons_succ, Act.put, List.setIfInBounds_toArray, List.set_cons_zero, List.set_cons_succ]
          refine Ord.Till.take' 7 (some 108) (oi := _) (x := ?_) rfl rfl (by kernel_rfl) (by kernel_rfl) (by kernel_rfl) (by kernel_rfl) (fun _ _ _ h => h) (by kernel_rfl) ?_ hS ?_
          rotate_left 1
          · intro v hv; obtain ⟨z0, z1, z2, z3, z4, z5, z6, z7, z8⟩ := hv; go_simp; first | done | with_reducible rfl
          try simp only [List.getElem_toArray, List.getElem_cons_zero, List.getElem_cons_succ, Act.put, List.setIfInBounds_toArray, List.set_cons_zero, List.set_cons_succ]
          refine Ord.Till.take' 8 (some 109) (oi := _) (x := ?_) rfl rfl (by kernel_rfl) (by kernel_rfl) (by kernel_rfl) (by kernel_rfl) (fun _ _ _ h => h) (by kernel_rfl) ?_ hS ?_
          rotate_left 1
          · intro v hv; obtain ⟨z0, z1, z2, z3, z4, z5, z6, z7, z8⟩ := hv; go_simp; first | done | with_reducible rfl
          try simp only [List.getElem_toArray, List.getElem_cons_zero, List.getElem_cons_succ, Act.put, List.setIfInBounds_toArray, List.set_cons_zero, List.set_cons_succ]
          refine Ord.Till.step 9 (by kernel_rfl) rfl (fun C hC => ?_)
          go_simp
          go_at_call 10
          refine (HRr.out _ hb8d).mono ?_
          rintro e wb hC
          obtain ⟨A3, n3, d3, y3, rfl, a3, e3, hn3, hbb⟩ := hC.arg HRo.out HRl.out
          have HE3 := hid e3
          have hb8b := hb8d.trans (hbb.mono hb8d.size)
          have bb := bd9.trans (hbb.mono bd9.size)
          clear hS hC hbb e3 hn3 hbd hb8d bd9
          have hS := HS12.out _ hb8b
          go_wp2_with fail
          refine hC.out _ _ (fun _ => hS) ?_
          clear hC C
          try simp only [List.getElem_toArray, List.getElem_cons_zero, List.getElem_cons_succ, Act.put, List.setIfInBounds_toArray, List.set_cons_zero, List.set_cons_succ]
          refine Ord.Till.take' 10 (some 100) (oi := _) (x := ?_) rfl rfl (by kernel_rfl) (by kernel_rfl) (by kernel_rfl) (by kernel_rfl) (fun _ _ _ h => h) (by kernel_rfl) ?_ hS ?_
          rotate_left 1
          · intro v hv; obtain ⟨z0, z1, z2, z3, z4, z5, z6, z7, z8⟩ := hv; go_simp; first | done | with_reducible rfl
          try simp only [List.getElem_toArray, List.getElem_cons_zero, List.getElem_cons_succ, Act.put, List.setIfInBounds_toArray, List.set_cons_zero, List.set_cons_succ]
          refine Ord.Till.take' 11 (some 111) (oi := _) (x := ?_) rfl rfl (by kernel_rfl) (by kernel_rfl) (by kernel_rfl) (by kernel_rfl) (fun _ _ _ h => h) (by kernel_rfl) ?_ hS ?_
          rotate_left 1
          · intro v hv; obtain ⟨z0, z1, z2, z3, z4, z5, z6, z7, z8⟩ := hv; go_simp; first | done | with_reducible rfl
          try simp only [List.getElem_toArray, List.getElem_cons_zero, List.getElem_cons_succ, Act.put, List.setIfInBounds_toArray, List.set_cons_zero, List.set_cons_succ]
          refine Ord.Till.take' 12 (some 112) (oi := _) (x := ?_) rfl rfl (by kernel_rfl) (by kernel_rfl) (by kernel_rfl) (by kernel_rfl) (fun _ _ _ h => h) (by kernel_rfl) ?_ hS ?_
          rotate_left 1
          · intro v hv; obtain ⟨z0, z1, z2, z3, z4, z5, z6, z7, z8⟩ := hv; go_simp; first | done | with_reducible rfl
          try simp only [List.getElem_toArray, List.getElem_cons_zero, List.getElem_cons_succ, Act.put, List.setIfInBounds_toArray, List.set_cons_zero, List.set_cons_succ]
          refine Ord.Till.take' 13 (some 12) (oi := _) (x := ?_) rfl rfl (by kernel_rfl) (by kernel_rfl) (by kernel_rfl) (by kernel_rfl) (fun _ _ _ h => h) (by kernel_rfl) ?_ hS ?_
          rotate_left 1
          · intro v hv; obtain ⟨z0, z1, z2, z3, z4, z5, z6, z7, z8⟩ := hv; go_simp; first | done | with_reducible rfl
          try simp only [List.getElem_toArray, List.getElem_cons_zero, List.getElem_cons_succ, Act.put, List.setIfInBounds_toArray, List.set_cons_zero, List.set_cons_succ]
          refine Ord.Till.take' 14 (some 13) (oi := _) (x := ?_) rfl rfl (by kernel_rfl) (by kernel_rfl) (by kernel_rfl) (by kernel_rfl) (fun _ _ _ h => h) (by kernel_rfl) ?_ hS ?_
          rotate_left 1
          · intro v hv; obtain ⟨z0, z1, z2, z3, z4, z5, z6, z7, z8⟩ := hv; go_simp; first | done | with_reducible rfl
          try simp only [List.getElem_toArray, List.getElem_cons_zero, List.getElem_cons_succ, Act.put, List.setIfInBounds_toArray, List.set_cons_zero, List.set_cons_succ]
          refine Ord.Till.done (by kernel_rfl) ?_ _
          clear hS
          obtain ⟨c0, c1, c2, c3, c4, c5, c6, c7⟩ := HBox.out wb bb
          have hsame : Arp.sameMs y3 y1 = true := Arw.same_core (HE3.out.trans HE1.out.symm)
          have a1 := HA1.out wb hb8b
          have HSm := hid (Arp.rsamemembers_any wb.heap.size A3 _ n3 d3 n1 d1 y3 y1 wb a3.rd (a1.rd.more a1.hK) (Nat.le_refl _) (by have := a3.n100; omega))
          rw [hsame] at HSm
          clear hsame a1 a3 HA1 HA2 HS12 hb8b c0 c1 c2 c3 c4 c5 c6 c7
          go_wp2_with fail
          refine HSm.out.mono ?_
          rintro e wc ⟨rfl, hbc⟩
          have bc := bb.trans (hbc.mono bb.size)
          clear hbc bb HSm
          go_wp2_with fail
          go_ret
          exact ⟨by first | rfl | simp, B0.trans (bc.mono B0.size)⟩
        · have hfy : ∀ v : Int, v = findI y1 nm1 → (v != (t1 : Int)) = true := fun v hv => by
            rw [hv, findI_as HE1.out]
            unfold findI
            cases hq2 : findN R nm1 with
            | none => first | (simp; done) | (simp; omega)
            | some k =>
              simp only [bne_iff_ne, ne_eq]
              intro e
              apply hfq
              rw [hq2]
              congr 1
              omega
          obtain ⟨v, hv⟩ : ∃ v, v = findI y1 nm1 := ⟨_, rfl⟩
          have hvb := hfy v hv
          rw [← hv]
          clear hfy hv hfq
          go_wp2_with fail
          go_ret
          exact ⟨by first | rfl | simp, B0.trans (b9.mono B0.size)⟩
      · have hgel : decide ((n1 : Int) ≤ (t1 : Int)) = true := by simp; omega
        go_wp2_with fail
        go_ret
        exact ⟨by first | rfl | simp, B0.trans (b8.mono B0.size)⟩
    · have hzb : (ze != 0) = true := by simpa using hz
      clear hz HGood
      go_wp2_with fail
      go_ret
      exact ⟨by first | rfl | simp, B0.trans (b5.mono B0.size)⟩
end Go.Proofs.Ytijggpahijhpeaa.Edt
