/-
  EditKeeps, from the program's contracts: the list is not modified, and results do not share memory with it.
-/
import Derived.Test.YtijggpahijhpeaaZEq
namespace Go.Proofs.Ytijggpahijhpeaa.Edt
open Go.RowKit Go.Proofs Go.Proofs.Ytijggpahijhpeaa.Byt
open Go.Proofs.Ytijggpahijhpeaa.Arp (Mem RdM OwnM mcells)
open Go.Proofs.Ytijggpahijhpeaa.Arw (core MOk RdM0)

theorem CopiesE.spoil {xs : List Mem} {z : Int} {w w' : World} {e : Ending} (h : CopiesE xs z w e w') (hn : xs.length ≤ 300) :
    ∃ A n c, e = .returned (.tuple #[.slice A n c, .int .i64 z]) ∧ Below w.heap.size w w' ∧ Calls Try.prog 29 #[.slice A n c] w' fun e W => e = .returned (.tuple #[]) ∧ Below w.heap.size w' W := by
  obtain ⟨A, n, c, ys, rfl, hO, hD, hC, hs, hb⟩ := h
  have h1 := len_core hC
  have h2 := hO.1
  rw [Arp.mcells_length] at h2
  exact ⟨A, n, c, rfl, hb, spoil_any _ A n c ys w' hO hD hs (by omega)⟩
theorem CopiesO.spoil {xs : List Mem} {w w' : World} {e : Ending} (h : CopiesO xs w e w') (hn : xs.length ≤ 300) :
    ∃ A n c, e = .returned (.slice A n c) ∧ Below w.heap.size w w' ∧ Calls Try.prog 29 #[.slice A n c] w' fun e W => e = .returned (.tuple #[]) ∧ Below w.heap.size w' W := by
  obtain ⟨A, n, c, ys, rfl, hO, hD, hC, hs, hb⟩ := h
  have h1 := len_core hC
  have h2 := hO.1
  rw [Arp.mcells_length] at h2
  exact ⟨A, n, c, rfl, hb, spoil_any _ A n c ys w' hO hD hs (by omega)⟩
theorem extD_len {w : World} {K n : Nat} {A : Option Addr} {xs : List Mem} (h : RdM w K A n xs) (hok : ∀ x ∈ xs, MOk x) (s : ByteArray) : (extD xs s).length ≤ 20000 := by
  unfold extD
  cases hf : findN xs s with
  | none => simp
  | some i =>
    obtain ⟨hi, _⟩ := findN_lt hf
    have h1 := (h.2 i hi).2.1.1
    have h2 := (hok _ (List.getElem_mem hi)).len
    simp only [List.getElem?_eq_getElem hi, Option.map_some, Option.getD_some]
    omega
theorem ArgM.up {w : World} {K K' n c : Nat} {A : Option Addr} {xs : List Mem} (h : ArgM w K A n c xs) (hK : K ≤ K') (hw : K' ≤ w.heap.size) : ArgM w K' A n c xs := ⟨h.rd.more hK, hw, h.nc, h.cm, h.ok, h.cap, h.n100⟩
/-- The member with its own data and the place in their variables, and the data of the first. -/
def BoxT (gN g : Nat) (m0 : ByteArray) (m1 m2 m3 m4 : Int) (A4 : Option Addr) (m6 c4 : Nat) (m5 : Option Addr) (m7 : Nat) (z : Int) (a : ByteArray) (W : World) : Prop :=
  W.cell? ⟨gN, 0, none⟩ = some (.string m0) ∧ W.cell? ⟨gN, 1, none⟩ = some (.int .i64 m1) ∧ W.cell? ⟨gN, 2, none⟩ = some (.int .i64 m2) ∧ W.cell? ⟨gN, 3, none⟩ = some (.int .i64 m3) ∧ W.cell? ⟨gN, 4, none⟩ = some (.int .i64 m4) ∧ W.cell? ⟨gN, 5, none⟩ = some (.slice A4 m6 c4) ∧ W.cell? ⟨g + 1, 0, none⟩ = some (.int .i64 z) ∧ W.cell? ⟨g + 1, 1, none⟩ = some (.string a) ∧ W.cell? ⟨g, 5, none⟩ = some (.slice m5 m6 m7)

set_option linter.unusedSimpArgs false in
set_option maxRecDepth 100000 in
set_option maxHeartbeats 16000000 in
theorem keeps10 (P : PC10) (w : World) (A : Option Addr) (n c : Nat) (xs : List Mem) (h : RdM0 w w.heap.size A n xs) (hnc : n ≤ c) (hcm : c ≤ maxLen) (hB : ∀ x ∈ xs, Frame.MB x) (m : Mem) (hm : Byt.Rd w w.heap.size m.ptr m.len m.data) (gm : Frame.MB m) (nm : ByteArray) (z : Int) (a : ByteArray) (lz : -9223372036854775808 ≤ z) (uz : z < 9223372036854775808) :
    Calls Try.prog 7 #[.slice A n c, m.val, .string nm, plaV z a] w fun e w' => e = .returned (.bool true) ∧ Below w.heap.size w w' := by
  have HP := hid P
  obtain ⟨m0, m1, m2, m3, m4, m5, m6, m7, m8⟩ := m
  simp only at hm
  have hbm := (Below.refl w.heap.size w).alloc (Nat.le_refl _) (.cells #[.string m0, .int .i64 m1, .int .i64 m2, .int .i64 m3, .int .i64 m4, .slice m5 m6 m7] 25)
  have hrm := heap_alloc_new w (.cells #[.string m0, .int .i64 m1, .int .i64 m2, .int .i64 m3, .int .i64 m4, .slice m5 m6 m7] 25)
  have hsm := World.size_alloc w (.cells #[.string m0, .int .i64 m1, .int .i64 m2, .int .i64 m3, .int .i64 m4, .slice m5 m6 m7] 25)
  have hbp := (Below.refl (w.alloc (.cells #[.string m0, .int .i64 m1, .int .i64 m2, .int .i64 m3, .int .i64 m4, .slice m5 m6 m7] 25)).heap.size (w.alloc (.cells #[.string m0, .int .i64 m1, .int .i64 m2, .int .i64 m3, .int .i64 m4, .slice m5 m6 m7] 25))).alloc (Nat.le_refl _) (.cells #[.int .i64 z, .string a] 27)
  have hrp := heap_alloc_new (w.alloc (.cells #[.string m0, .int .i64 m1, .int .i64 m2, .int .i64 m3, .int .i64 m4, .slice m5 m6 m7] 25)) (.cells #[.int .i64 z, .string a] 27)
  have hsp := World.size_alloc (w.alloc (.cells #[.string m0, .int .i64 m1, .int .i64 m2, .int .i64 m3, .int .i64 m4, .slice m5 m6 m7] 25)) (.cells #[.int .i64 z, .string a] 27)
  simp only [Mem.val, plaV]
  go_enter Try.func7, Try.ntmps7
  go_upto_region 1 with fail
  generalize w.alloc (.cells #[.string m0, .int .i64 m1, .int .i64 m2, .int .i64 m3, .int .i64 m4, .slice m5 m6 m7] 25) = wm at *
  generalize wm.alloc (.cells #[.int .i64 z, .string a] 27) = w0 at *
  obtain ⟨g, hg⟩ : ∃ g, w.heap.size = g := ⟨_, rfl⟩
  rw [hg] at hrm hsm
  rw [hsm] at hrp hsp
  try rw [hsm]
  try rw [hg]
  have hrm0 := (hbp.block g (by omega)).trans hrm
  have B0 := hbm.trans (hbp.mono hbm.size)
  have HBox : Hid (∀ W, Below w0.heap.size w0 W → BoxS g m0 m1 m2 m3 m4 m5 m6 m7 z a W) := hid fun W hW => BoxS.of ((hW.block g (by omega)).trans hrm0) ((hW.block (g + 1) (by omega)).trans hrp)
  have HG := hid hg
  clear hbm hrm hsm hbp hrp hsp hrm0 hg
  go_wp2_with fail
  refine (awake10_any HP.out w0).mono ?_
  rintro e w1 ⟨rfl, hb1⟩
  go_wp2_with fail
  refine (Arw.few5_any w.heap.size A n c xs w1 (h.below (B0.trans (hb1.mono B0.size))) (Nat.le_trans B0.size hb1.size)).mono ?_
  rintro e w2 ⟨rfl, hb2⟩
  have b2 := hb1.trans (hb2.mono hb1.size)
  clear hb1 hb2
  obtain ⟨c0, c1, c2, c3, c4, c5, c6, c7⟩ := HBox.out w2 b2
  cases hf : Arw.fewM xs
  · go_wp2_with fail
    refine (awake10_any HP.out w2).mono ?_
    rintro e w9 ⟨rfl, hb9⟩
    go_wp2_with fail
    go_ret
    exact ⟨rfl, B0.trans ((b2.trans (hb9.mono b2.size)).mono B0.size)⟩
  obtain ⟨k1, _, k3⟩ := Arw.fewM_iff.1 hf
  by_cases q0 : 1000 < m6
  · have q0i : (1000 : Int) < (m6 : Int) := by omega
    go_wp2_with fail
    refine (awake10_any HP.out w2).mono ?_
    rintro e w9 ⟨rfl, hb9⟩
    go_wp2_with fail
    go_ret
    exact ⟨rfl, B0.trans ((b2.trans (hb9.mono b2.size)).mono B0.size)⟩
  have q0i : ¬ (1000 : Int) < (m6 : Int) := by omega
  by_cases q1 : 300 < m0.size
  · have q1i : (300 : Int) < (m0.size : Int) := by omega
    go_wp2_with fail
    refine (awake10_any HP.out w2).mono ?_
    rintro e w9 ⟨rfl, hb9⟩
    go_wp2_with fail
    go_ret
    exact ⟨rfl, B0.trans ((b2.trans (hb9.mono b2.size)).mono B0.size)⟩
  have q1i : ¬ (300 : Int) < (m0.size : Int) := by omega
  by_cases q2 : 300 < nm.size
  · have q2i : (300 : Int) < (nm.size : Int) := by omega
    go_wp2_with fail
    refine (awake10_any HP.out w2).mono ?_
    rintro e w9 ⟨rfl, hb9⟩
    go_wp2_with fail
    go_ret
    exact ⟨rfl, B0.trans ((b2.trans (hb9.mono b2.size)).mono B0.size)⟩
  have q2i : ¬ (300 : Int) < (nm.size : Int) := by omega
  by_cases q3 : 300 < a.size
  · have q3i : (300 : Int) < (a.size : Int) := by omega
    go_wp2_with fail
    refine (awake10_any HP.out w2).mono ?_
    rintro e w9 ⟨rfl, hb9⟩
    go_wp2_with fail
    go_ret
    exact ⟨rfl, B0.trans ((b2.trans (hb9.mono b2.size)).mono B0.size)⟩
  have q3i : ¬ (300 : Int) < (a.size : Int) := by omega
  have hM := h.to (fun x hx => (k3 x hx).2)
  have hok : ∀ x ∈ xs, MOk x := fun x hx => (hB x hx).ok (k3 x hx).1 (k3 x hx).2
  have hxl : xs.length = n := h.1
  have hn20 : n ≤ 20 := by omega
  have HAM : Hid (∀ W, Below w0.heap.size w0 W → ArgM W w.heap.size A n c xs) := hid fun W hW => ⟨hM.below (B0.trans (hW.mono B0.size)), Nat.le_trans B0.size hW.size, hnc, hcm, hok, fun x hx => (hB x hx).cap, by omega⟩
  have Hok := hid hok
  have Hxl := hid hxl
  have HAE : Hid (∀ W, Below w0.heap.size w0 W → ArgE W w.heap.size ⟨m0, m1, m2, m3, m4, m5, m6, m7, m8⟩) := hid fun W hW => ⟨gm.ok (by show m0.size ≤ 300; omega) (by show m6 ≤ 1000; omega), hm.below (B0.trans (hW.mono B0.size)), Nat.le_trans B0.size hW.size, gm.cap⟩
  have Hmk : Hid (MOk ⟨m0, m1, m2, m3, m4, m5, m6, m7, m8⟩) := hid (gm.ok (by show m0.size ≤ 300; omega) (by show m6 ≤ 1000; omega))
  clear hM hok gm hm k1 k3 h hB hf
  go_wp2_with fail
  refine (rcopyL_any w.heap.size A n c xs w2 (HAM.out w2 b2).rd (HAM.out w2 b2).hK Hok.out (by omega)).mono ?_
  rintro e w3 hC
  obtain ⟨Ao, no, co, yo, rfl, ao, eo, hno, hb3⟩ := hC.arg Hok.out (by omega)
  have b3 := b2.trans (hb3.mono b2.size)
  have Heo := hid eo
  have Hno := hid hno
  clear hC hb3 b2 eo hno c0 c1 c2 c3 c4 c5 c6 c7
  obtain ⟨c0, c1, c2, c3, c4, c5, c6, c7⟩ := HBox.out w3 b3
  have hrm3 := (HAE.out w3 b3).rd.more (show w.heap.size ≤ w3.heap.size from Nat.le_trans B0.size b3.size)
  have hba := (Below.refl w3.heap.size w3).alloc (Nat.le_refl _) (.cells #[] 5)
  have hrma := hrm3.below hba
  simp only at hrma
  have hm61 : ¬ 1000 < m6 := q0
  have e5 := (HBox.out _ (b3.trans (hba.mono b3.size))).2.2.2.2.2.1
  clear hrm3
  go_upto_region 5 with (at_builtin; go_must (refine wpList_app _ w3.heap.size _ 0 [] (Own.lit0 w3 w3.heap.size (Nat.le_refl _)) (by simp) m5 m6 m7 w3.heap.size m8 hrma (by omega) rfl (.tmp 54) (.tmp 56) rfl rfl rfl ?_); intro v4 w4 ho4 hb4; rw [Nat.zero_add, List.nil_append] at ho4; obtain ⟨A4, c4', rfl, r4, hc4, hm4⟩ := ho4.reads)
  have hb34 := hba.trans hb4
  have b4 := b3.trans (hb34.mono b3.size)
  have ao4 := ao.on hb34
  have hsz4 := hb34.size
  clear hba hrma hb4 ho4 hb34 b3 ao e5 c0 c1 c2 c3 c4 c5 c6 c7
  obtain ⟨c0, c1, c2, c3, c4, c5, c6, c7⟩ := HBox.out w4 b4
  have hb5 := (Below.refl w4.heap.size w4).alloc (Nat.le_refl _) (.cells #[.string m0, .int .i64 m1, .int .i64 m2, .int .i64 m3, .int .i64 m4, .slice m5 m6 m7] 25)
  have hr5 := heap_alloc_new w4 (.cells #[.string m0, .int .i64 m1, .int .i64 m2, .int .i64 m3, .int .i64 m4, .slice m5 m6 m7] 25)
  have hs5 := World.size_alloc w4 (.cells #[.string m0, .int .i64 m1, .int .i64 m2, .int .i64 m3, .int .i64 m4, .slice m5 m6 m7] 25)
  go_upto_region 6 with fail
  generalize w4.alloc (.cells #[.string m0, .int .i64 m1, .int .i64 m2, .int .i64 m3, .int .i64 m4, .slice m5 m6 m7] 25) = w5 at *
  obtain ⟨gN, hgN⟩ : ∃ gN, w4.heap.size = gN := ⟨_, rfl⟩
  rw [hgN] at hr5 hs5
  try rw [hgN]
  have b5 := b4.trans (hb5.mono b4.size)
  have ao5 := ao4.on hb5
  have r5 := r4.below hb5
  have f5 : ∀ o, w5.frozen? ⟨gN, o, none⟩ = false := fun o => frozen_of_row w5 gN o _ _ hr5
  have d5 := cell_of_row _ gN 5 _ _ _ hr5
  have hr6 := heap_setCell_same w5 gN 5 _ _ (.slice A4 m6 c4') hr5
  have hb6 := (Below.refl gN w5).setCell (p := ⟨gN, 5, none⟩) (Nat.le_refl _) (.slice A4 m6 c4')
  have HgN := hid hgN
  have HwN : Hid (w0.heap.size ≤ gN) := hid (by rw [← hgN]; exact b4.size)
  clear hb5 c0 c1 c2 c3 c4 c5 c6 c7 b4 ao4 r4 hr5 hgN
  go_upto_region 7 with fail
  generalize w5.setCell ⟨gN, 5, none⟩ (.slice A4 m6 c4') = w6 at *
  have hs6 : w5.heap.size ≤ w6.heap.size := hb6.size
  have b6 : Below w0.heap.size w0 w6 := b5.trans (hb6.mono HwN.out)
  have hK6 : gN ≤ w6.heap.size := by omega
  have HOwn : Hid (∀ W, Below w6.heap.size w6 W → ArgM W w6.heap.size Ao no co yo) := hid fun W hW => by
    have q : ArgM w6 w3.heap.size Ao no co yo := ⟨ao5.rd.below (hb6.mono (by have := HgN.out; omega)), by have := HgN.out; omega, ao5.nc, ao5.cm, ao5.ok, ao5.cap, ao5.n100⟩
    exact (q.up (by have := HgN.out; omega) (Nat.le_refl _)).on hW
  have Hmine : Hid (∀ W, Below w6.heap.size w6 W → Byt.Rd W w6.heap.size A4 m6 m8) := hid fun W hW => ((r5.below (by have q := HgN.out; rw [q]; exact hb6)).more (by have := HgN.out; omega)).below hW
  have HmkN : Hid (MOk ⟨m0, m1, m2, m3, m4, A4, m6, c4', m8⟩) := hid ⟨Hmk.out.name, Hmk.out.len, Hmk.out.t, Hmk.out.u, Hmk.out.g, Hmk.out.m⟩
  have HN : Hid (∀ W, Below w6.heap.size w6 W → ArgE W w6.heap.size ⟨m0, m1, m2, m3, m4, A4, m6, c4', m8⟩) := hid fun W hW => ⟨HmkN.out, Hmine.out W hW, hW.size, ⟨hc4, hm4⟩⟩
  have Hl : Hid (∀ W, Below w6.heap.size w6 W → ArgM W w.heap.size A n c xs) := hid fun W hW => HAM.out W (b6.trans (hW.mono b6.size))
  have Hm : Hid (∀ W, Below w6.heap.size w6 W → ArgE W w.heap.size ⟨m0, m1, m2, m3, m4, m5, m6, m7, m8⟩) := hid fun W hW => HAE.out W (b6.trans (hW.mono b6.size))
  have HBT : Hid (∀ W, Below w6.heap.size w6 W → BoxT gN g m0 m1 m2 m3 m4 A4 m6 c4' m5 m7 z a W) := hid fun W hW => by
    have q := (hW.block gN (by omega)).trans hr6
    obtain ⟨_, _, _, _, _, p5, p6, p7⟩ := HBox.out W (b6.trans (hW.mono b6.size))
    exact ⟨cell_of_row _ gN 0 _ _ _ q, cell_of_row _ gN 1 _ _ _ q, cell_of_row _ gN 2 _ _ _ q, cell_of_row _ gN 3 _ _ _ q, cell_of_row _ gN 4 _ _ _ q, cell_of_row _ gN 5 _ _ _ q, p6, p7, p5⟩
  have Hyo : Hid (∀ x ∈ yo, MOk x) := hid ao5.ok
  have Hyl : Hid (yo.length ≤ 20) := hid (by rw [ao5.rd.1, Hno.out]; omega)
  have Hb6 := hid b6
  clear ao5 r5 f5 d5 hr6 hb6 hs6 b5 b6 hK6 hsz4 hs5 hc4 hm4 HBox
  have HRp : Hid (∀ W, Below w6.heap.size w6 W → ∃ R ze, R.length ≤ 300 ∧ Calls Try.prog 10 #[.slice Ao no co, .agg #[.string m0, .int .i64 m1, .int .i64 m2, .int .i64 m3, .int .i64 m4, .slice A4 m6 c4'], .agg #[.int .i64 z, .string a]] W (CopiesE R ze W)) := hid fun W hW =>
    ⟨_, _, by have q := repE_len (xs := yo) (m := ⟨m0, m1, m2, m3, m4, A4, m6, c4', m8⟩) (z := z) (a := a); have := Hyl.out; omega, HP.out.replace _ Ao no co yo ⟨m0, m1, m2, m3, m4, A4, m6, c4', m8⟩ z a W (HOwn.out W hW) (HN.out W hW) lz uz⟩
  have hbd : Below w6.heap.size w6 w6.drew := (Below.refl _ _).drew
  have hS : (BoxT gN g m0 m1 m2 m3 m4 A4 m6 c4' m5 m7 z a) w6.drew := HBT.out _ hbd
  refine Ord.Till.begin (BoxT gN g m0 m1 m2 m3 m4 A4 m6 c4' m5 m7 z a) 60 (by kernel_rfl) ?_
  generalize w6.drew = wd at *
  refine Ord.Till.take' 0 (some 62) (oi := _) (x := ?_) rfl rfl (by kernel_rfl) (by kernel_rfl) (by kernel_rfl) (by kernel_rfl) (fun _ _ _ h => h) (by kernel_rfl) ?_ hS ?_
  rotate_left 1
  · intro v hv; obtain ⟨z0, z1, z2, z3, z4, z5, z6, z7, z8⟩ := hv; go_simp; first | done | with_reducible rfl
  try simp only [List.getElem_toArray, List.getElem_cons_zero, List.getElem_cons_succ, Act.put, List.setIfInBounds_toArray, List.set_cons_zero, List.set_cons_succ]
  refine Ord.Till.take' 1 (some 63) (oi := _) (x := ?_) rfl rfl (by kernel_rfl) (by kernel_rfl) (by kernel_rfl) (by kernel_rfl) (fun _ _ _ h => h) (by kernel_rfl) ?_ hS ?_
  rotate_left 1
  · intro v hv; obtain ⟨z0, z1, z2, z3, z4, z5, z6, z7, z8⟩ := hv; go_simp; first | done | with_reducible rfl
  try simp only [List.getElem_toArray, List.getElem_cons_zero, List.getElem_cons_succ, Act.put, List.setIfInBounds_toArray, List.set_cons_zero, List.set_cons_succ]
  refine Ord.Till.take' 2 (some 64) (oi := _) (x := ?_) rfl rfl (by kernel_rfl) (by kernel_rfl) (by kernel_rfl) (by kernel_rfl) (fun _ _ _ h => h) (by kernel_rfl) ?_ hS ?_
  rotate_left 1
  · intro v hv; obtain ⟨z0, z1, z2, z3, z4, z5, z6, z7, z8⟩ := hv; go_simp; first | done | with_reducible rfl
  try simp only [List.getElem_toArray, List.getElem_cons_zero, List.getElem_cons_succ, Act.put, List.setIfInBounds_toArray, List.set_cons_zero, List.set_cons_succ]
  refine Ord.Till.step 3 (by kernel_rfl) rfl (fun C hC => ?_)
  go_simp
  go_at_call 11
  refine (forward_any z a _).mono ?_
  rintro e w7 ⟨rfl, hb7⟩
  have h7 := hbd.trans (hb7.mono hbd.size)
  clear hS hb7 hbd
  have hS := HBT.out _ h7
  obtain ⟨R, ze, hRl, hRc⟩ := HRp.out _ h7
  go_wp2_with fail
  refine hC.out _ _ (fun _ => hS) ?_
  clear hC C
  try simp only [List.getElem_toArray, List.getElem_cons_zero, List.getElem_cons_succ, Act.put, List.setIfInBounds_toArray, List.set_cons_zero, List.set_cons_succ]
  refine Ord.Till.step 4 (by kernel_rfl) rfl (fun C hC => ?_)
  go_simp
  go_at_call 10
  refine (hRc).mono ?_
  rintro e w8 hC
  obtain ⟨A1, n1, d1, rfl, hb8, hsp⟩ := hC.spoil hRl
  have HSp := hid hsp
  have h8 := h7.trans (hb8.mono h7.size)
  have hs78 := h7.size
  clear hS hC hb8 hsp hRc hRl HRp
  have hS := HBT.out _ h8
  go_wp2_with fail
  refine hC.out _ _ (fun _ => hS) ?_
  clear hC C
  try simp only [List.getElem_toArray, List.getElem_cons_zero, List.getElem_cons_succ, Act.put, List.setIfInBounds_toArray, List.set_cons_zero, List.set_cons_succ]
  refine Ord.Till.take' 5 (some 61) (oi := _) (x := ?_) rfl rfl (by kernel_rfl) (by kernel_rfl) (by kernel_rfl) (by kernel_rfl) (fun _ _ _ h => h) (by kernel_rfl) ?_ hS ?_
  rotate_left 1
  · intro v hv; obtain ⟨z0, z1, z2, z3, z4, z5, z6, z7, z8⟩ := hv; go_simp; first | done | with_reducible rfl
  try simp only [List.getElem_toArray, List.getElem_cons_zero, List.getElem_cons_succ, Act.put, List.setIfInBounds_toArray, List.set_cons_zero, List.set_cons_succ]
  refine Ord.Till.take' 6 (some 67) (oi := _) (x := ?_) rfl rfl (by kernel_rfl) (by kernel_rfl) (by kernel_rfl) (by kernel_rfl) (fun _ _ _ h => h) (by kernel_rfl) ?_ hS ?_
  rotate_left 1
  · intro v hv; obtain ⟨z0, z1, z2, z3, z4, z5, z6, z7, z8⟩ := hv; go_simp; first | done | with_reducible rfl
  try simp only [List.getElem_toArray, List.getElem_cons_zero, List.getElem_cons_succ, Act.put, List.setIfInBounds_toArray, List.set_cons_zero, List.set_cons_succ]
  refine Ord.Till.take' 7 (some 68) (oi := _) (x := ?_) rfl rfl (by kernel_rfl) (by kernel_rfl) (by kernel_rfl) (by kernel_rfl) (fun _ _ _ h => h) (by kernel_rfl) ?_ hS ?_
  rotate_left 1
  · intro v hv; obtain ⟨z0, z1, z2, z3, z4, z5, z6, z7, z8⟩ := hv; go_simp; first | done | with_reducible rfl
  try simp only [List.getElem_toArray, List.getElem_cons_zero, List.getElem_cons_succ, Act.put, List.setIfInBounds_toArray, List.set_cons_zero, List.set_cons_succ]
  refine Ord.Till.take' 8 (some 12) (oi := _) (x := ?_) rfl rfl (by kernel_rfl) (by kernel_rfl) (by kernel_rfl) (by kernel_rfl) (fun _ _ _ h => h) (by kernel_rfl) ?_ hS ?_
  rotate_left 1
  · intro v hv; obtain ⟨z0, z1, z2, z3, z4, z5, z6, z7, z8⟩ := hv; go_simp; first | done | with_reducible rfl
  try simp only [List.getElem_toArray, List.getElem_cons_zero, List.getElem_cons_succ, Act.put, List.setIfInBounds_toArray, List.set_cons_zero, List.set_cons_succ]
  refine Ord.Till.take' 9 (some 13) (oi := _) (x := ?_) rfl rfl (by kernel_rfl) (by kernel_rfl) (by kernel_rfl) (by kernel_rfl) (fun _ _ _ h => h) (by kernel_rfl) ?_ hS ?_
  rotate_left 1
  · intro v hv; obtain ⟨z0, z1, z2, z3, z4, z5, z6, z7, z8⟩ := hv; go_simp; first | done | with_reducible rfl
  try simp only [List.getElem_toArray, List.getElem_cons_zero, List.getElem_cons_succ, Act.put, List.setIfInBounds_toArray, List.set_cons_zero, List.set_cons_succ]
  refine Ord.Till.done (by kernel_rfl) ?_ _
  clear hS h7
  go_wp2_with fail
  refine HSp.out.mono ?_
  rintro e w9 ⟨rfl, hb9⟩
  have h9 := h8.trans (hb9.mono hs78)
  clear HSp hb9 h8 hs78
  obtain ⟨c0, c1, c2, c3, c4, c5, c6, c7, c8⟩ := HBT.out w9 h9
  go_wp2_with fail
  refine (HP.out.append_ _ Ao no co yo ⟨m0, m1, m2, m3, m4, A4, m6, c4', m8⟩ w9 (HOwn.out w9 h9) (HN.out w9 h9)).mono ?_
  rintro e wa hC
  obtain ⟨A1, n1, d1, rfl, hba, hsp⟩ := hC.spoil (by rw [insM_length]; have := Hyl.out; omega)
  have HSp := hid hsp
  have hs9 := h9.size
  have ha := h9.trans (hba.mono hs9)
  clear hC hba hsp h9 c0 c1 c2 c3 c4 c5 c6 c7 c8
  go_wp2_with fail
  refine HSp.out.mono ?_
  rintro e wb ⟨rfl, hbb⟩
  have hb := ha.trans (hbb.mono hs9)
  clear HSp hbb ha hs9
  go_wp2_with fail
  refine (HP.out.delete _ Ao no co yo nm wb (HOwn.out wb hb)).mono ?_
  rintro e wc hC
  obtain ⟨A1, n1, d1, rfl, hbc, hsp⟩ := hC.spoil (by have := delE_len (xs := yo) (s := nm); have := Hyl.out; omega)
  have HSp := hid hsp
  have hsb := hb.size
  have hc := hb.trans (hbc.mono hsb)
  generalize (delE yo nm).2 = ze2 at *
  clear hC hbc hsp hb
  go_wp2_with fail
  refine HSp.out.mono ?_
  rintro e we ⟨rfl, hbe⟩
  have he := hc.trans (hbe.mono hsb)
  clear HSp hbe hc hsb
  obtain ⟨c0, c1, c2, c3, c4, c5, c6, c7, c8⟩ := HBT.out we he
  go_wp2_with fail
  refine (forward_any z a we).mono ?_
  rintro e wf ⟨rfl, hbf⟩
  have hf := he.trans (hbf.mono he.size)
  clear hbf he c0 c1 c2 c3 c4 c5 c6 c7 c8
  go_wp2_with fail
  refine (HP.out.move _ Ao no co yo nm z a wf (HOwn.out wf hf) lz uz).mono ?_
  rintro e wg hC
  obtain ⟨A1, n1, d1, rfl, hbg, hsp⟩ := hC.spoil (by rw [movE_len]; have := Hyl.out; omega)
  have HSp := hid hsp
  have hsf := hf.size
  have hg := hf.trans (hbg.mono hsf)
  generalize (movE yo nm z a).2 = ze3 at *
  clear hC hbg hsp hf
  go_wp2_with fail
  refine HSp.out.mono ?_
  rintro e wh ⟨rfl, hbh⟩
  have hh := hg.trans (hbh.mono hsf)
  clear HSp hbh hg hsf
  go_wp2_with fail
  refine (HP.out.extract _ Ao no co yo nm wh (HOwn.out wh hh)).mono ?_
  rintro e V ⟨D, k, d, rfl, hD, hbV⟩
  have hV := hh.trans (hbV.mono hh.size)
  have hsh := hh.size
  have hk1000 : k ≤ 20000 := by rw [← hD.1]; exact extD_len (HOwn.out wh hh).rd Hyo.out nm
  generalize extZ yo nm = ze4 at *
  have HD := hid hD
  clear hbV hh hD
  generalize wh.heap.size = KV at *
  go_wp2_with fail
  go_loopw [20] (fun iv W => ∃ i : Nat, iv = .int .i64 (i : Int) ∧ i ≤ k ∧ Spd KV V W) (fun iv _ => k - (intOf iv).toNat)
  case atStart => exact ⟨0, rfl, by omega, Spd.refl _ _⟩
  case round =>
    obtain ⟨i, rfl, hi, hSp⟩ := hrel
    by_cases hit : i < k
    · have hii : (i : Int) < (k : Int) := by omega
      obtain ⟨q, p, x, rfl, _, hc, hf, hset⟩ := hSp.at_ HD.out hit
      have HSt := hid hset
      clear hset hSp
      go_wp2_with fail
      go_roundw
      · exact ⟨i + 1, by go_num, by omega, HSt.out _⟩
      · simp [intOf]; omega
    · obtain rfl : i = k := by omega
      have hii : ¬ (i : Int) < (i : Int) := by omega
      have hW := hV.trans (hSp.1.mono hsh)
      have hsame : Arp.sameMs yo xs = true := Arw.same_core Heo.out
      have HSm := hid (Arp.rsamemembers_any w6.heap.size Ao A no co n c yo xs wr (HOwn.out wr hW).rd ((Hl.out wr hW).rd.more (Nat.le_trans B0.size Hb6.out.size)) hW.size (by have := (HOwn.out wr hW).n100; omega))
      rw [hsame] at HSm
      clear hsame hSp hV HD hsh
      go_wp2_with fail
      refine HSm.out.mono ?_
      rintro e ws ⟨rfl, hbs⟩
      have hWs := hW.trans (hbs.mono hW.size)
      obtain ⟨c0, c1, c2, c3, c4, c5, c6, c7, c8⟩ := HBT.out ws hWs
      have HT := hid (Dec.same_any 26 rfl w6.heap.size w.heap.size A4 m5 m6 c4' m6 m7 m8 m8 ws (Hmine.out ws hWs) (Hm.out ws hWs).rd (by omega))
      rw [beq_self_eq_true] at HT
      clear hbs hW HSm
      go_wp2_with fail
      refine HT.out.mono ?_
      rintro e wt ⟨rfl, mt, hwt⟩
      have hbt := Dec.below_drewN (K := ws.heap.size) ws mt
      rw [← hwt] at hbt
      have hWt := hWs.trans (hbt.mono hWs.size)
      have hfin := Hb6.out.trans (hWt.mono Hb6.out.size)
      clear hwt hbt hWs hWt HT c0 c1 c2 c3 c4 c5 c6 c7 c8
      go_wp2_with fail
      go_ret
      exact ⟨by first | rfl | simp, B0.trans (hfin.mono B0.size)⟩
end Go.Proofs.Ytijggpahijhpeaa.Edt
