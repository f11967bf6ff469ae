/-
  EditModel, from the program's contracts: for all lists, members, names and places, all functions return what the reference implementation returns; with an error, the list is unchanged.
-/
import Derived.Test.YtijggpahijhpeaaZEl
namespace Go.Proofs.Ytijggpahijhpeaa.Edt
open Go.RowKit Go.Proofs Go.Proofs.Ytijggpahijhpeaa.Byt
open Go.Proofs.Ytijggpahijhpeaa.Arp (Mem RdM OwnM mcells)
open Go.Proofs.Ytijggpahijhpeaa.Arw (core MOk RdM0)

set_option linter.unusedSimpArgs false in
set_option maxRecDepth 100000 in
set_option maxHeartbeats 16000000 in
theorem model10 (P : PC10) (w : World) (A : Option Addr) (n c : Nat) (xs : List Mem) (h : RdM0 w w.heap.size A n xs) (hnc : n ≤ c) (hcm : c ≤ maxLen) (hB : ∀ x ∈ xs, Frame.MB x) (m : Mem) (hm : Byt.Rd w w.heap.size m.ptr m.len m.data) (gm : Frame.MB m) (nm : ByteArray) (z : Int) (a : ByteArray) (lz : -9223372036854775808 ≤ z) (uz : z < 9223372036854775808) :
    Calls Try.prog 3 #[.slice A n c, m.val, .string nm, plaV z a] w fun e w' => e = .returned (.bool true) ∧ Below w.heap.size w w' := by
  have HP := hid P
  obtain ⟨m0, m1, m2, m3, m4, m5, m6, m7, m8⟩ := m
  simp only at hm
  have hbm := (Below.refl w.heap.size w).alloc (Nat.le_refl _) (.cells #[.string m0, .int .i64 m1, .int .i64 m2, .int .i64 m3, .int .i64 m4, .slice m5 m6 m7] 25)
  have hrm := heap_alloc_new w (.cells #[.string m0, .int .i64 m1, .int .i64 m2, .int .i64 m3, .int .i64 m4, .slice m5 m6 m7] 25)
  have hsm := World.size_alloc w (.cells #[.string m0, .int .i64 m1, .int .i64 m2, .int .i64 m3, .int .i64 m4, .slice m5 m6 m7] 25)
  have hbp := (Below.refl (w.alloc (.cells #[.string m0, .int .i64 m1, .int .i64 m2, .int .i64 m3, .int .i64 m4, .slice m5 m6 m7] 25)).heap.size (w.alloc (.cells #[.string m0, .int .i64 m1, .int .i64 m2, .int .i64 m3, .int .i64 m4, .slice m5 m6 m7] 25))).alloc (Nat.le_refl _) (.cells #[.int .i64 z, .string a] 27)
  have hrp := heap_alloc_new (w.alloc (.cells #[.string m0, .int .i64 m1, .int .i64 m2, .int .i64 m3, .int .i64 m4, .slice m5 m6 m7] 25)) (.cells #[.int .i64 z, .string a] 27)
  have hsp := World.size_alloc (w.alloc (.cells #[.string m0, .int .i64 m1, .int .i64 m2, .int .i64 m3, .int .i64 m4, .slice m5 m6 m7] 25)) (.cells #[.int .i64 z, .string a] 27)
  simp only [Mem.val, plaV]
  go_enter Try.func3, Try.ntmps3
  go_upto_region 1 with fail
  generalize w.alloc (.cells #[.string m0, .int .i64 m1, .int .i64 m2, .int .i64 m3, .int .i64 m4, .slice m5 m6 m7] 25) = wm at *
  generalize wm.alloc (.cells #[.int .i64 z, .string a] 27) = w0 at *
  obtain ⟨g, hg⟩ : ∃ g, w.heap.size = g := ⟨_, rfl⟩
  rw [hg] at hrm hsm
  rw [hsm] at hrp hsp
  try rw [hsm]
  try rw [hg]
  have hrm0 := (hbp.block g (by omega)).trans hrm
  have B0 := hbm.trans (hbp.mono hbm.size)
  have HBox : Hid (∀ W, Below w0.heap.size w0 W → BoxS g m0 m1 m2 m3 m4 m5 m6 m7 z a W) := hid fun W hW => BoxS.of ((hW.block g (by omega)).trans hrm0) ((hW.block (g + 1) (by omega)).trans hrp)
  have HG := hid hg
  clear hbm hrm hsm hbp hrp hsp hrm0 hg
  have Hz : Hid (-9223372036854775808 ≤ z ∧ z < 9223372036854775808) := hid ⟨lz, uz⟩
  go_wp2_with fail
  refine (awake10_any HP.out w0).mono ?_
  rintro e w1 ⟨rfl, hb1⟩
  go_wp2_with fail
  refine (Arw.few5_any w.heap.size A n c xs w1 (h.below (B0.trans (hb1.mono B0.size))) (Nat.le_trans B0.size hb1.size)).mono ?_
  rintro e w2 ⟨rfl, hb2⟩
  have b2 := hb1.trans (hb2.mono hb1.size)
  clear hb1 hb2
  obtain ⟨c0, c1, c2, c3, c4, c5, c6, c7⟩ := HBox.out w2 b2
  cases hf : Arw.fewM xs
  · go_wp2_with fail
    refine (awake10_any HP.out w2).mono ?_
    rintro e w9 ⟨rfl, hb9⟩
    go_wp2_with fail
    go_ret
    exact ⟨rfl, B0.trans ((b2.trans (hb9.mono b2.size)).mono B0.size)⟩
  obtain ⟨k1, _, k3⟩ := Arw.fewM_iff.1 hf
  by_cases q0 : 1000 < m6
  · have q0i : (1000 : Int) < (m6 : Int) := by omega
    go_wp2_with fail
    refine (awake10_any HP.out w2).mono ?_
    rintro e w9 ⟨rfl, hb9⟩
    go_wp2_with fail
    go_ret
    exact ⟨rfl, B0.trans ((b2.trans (hb9.mono b2.size)).mono B0.size)⟩
  have q0i : ¬ (1000 : Int) < (m6 : Int) := by omega
  by_cases q1 : 300 < m0.size
  · have q1i : (300 : Int) < (m0.size : Int) := by omega
    go_wp2_with fail
    refine (awake10_any HP.out w2).mono ?_
    rintro e w9 ⟨rfl, hb9⟩
    go_wp2_with fail
    go_ret
    exact ⟨rfl, B0.trans ((b2.trans (hb9.mono b2.size)).mono B0.size)⟩
  have q1i : ¬ (300 : Int) < (m0.size : Int) := by omega
  by_cases q2 : 300 < nm.size
  · have q2i : (300 : Int) < (nm.size : Int) := by omega
    go_wp2_with fail
    refine (awake10_any HP.out w2).mono ?_
    rintro e w9 ⟨rfl, hb9⟩
    go_wp2_with fail
    go_ret
    exact ⟨rfl, B0.trans ((b2.trans (hb9.mono b2.size)).mono B0.size)⟩
  have q2i : ¬ (300 : Int) < (nm.size : Int) := by omega
  by_cases q3 : 300 < a.size
  · have q3i : (300 : Int) < (a.size : Int) := by omega
    go_wp2_with fail
    refine (awake10_any HP.out w2).mono ?_
    rintro e w9 ⟨rfl, hb9⟩
    go_wp2_with fail
    go_ret
    exact ⟨rfl, B0.trans ((b2.trans (hb9.mono b2.size)).mono B0.size)⟩
  have q3i : ¬ (300 : Int) < (a.size : Int) := by omega
  have hM := h.to (fun x hx => (k3 x hx).2)
  have hok : ∀ x ∈ xs, MOk x := fun x hx => (hB x hx).ok (k3 x hx).1 (k3 x hx).2
  have hxl : xs.length = n := h.1
  have hn20 : n ≤ 20 := by omega
  have HAM : Hid (∀ W, Below w0.heap.size w0 W → ArgM W w.heap.size A n c xs) := hid fun W hW => ⟨hM.below (B0.trans (hW.mono B0.size)), Nat.le_trans B0.size hW.size, hnc, hcm, hok, fun x hx => (hB x hx).cap, by omega⟩
  have Hok := hid hok
  have Hxl := hid hxl
  have HAE : Hid (∀ W, Below w0.heap.size w0 W → ArgE W w.heap.size ⟨m0, m1, m2, m3, m4, m5, m6, m7, m8⟩) := hid fun W hW => ⟨gm.ok (by show m0.size ≤ 300; omega) (by show m6 ≤ 1000; omega), hm.below (B0.trans (hW.mono B0.size)), Nat.le_trans B0.size hW.size, gm.cap⟩
  have Hmk : Hid (MOk ⟨m0, m1, m2, m3, m4, m5, m6, m7, m8⟩) := hid (gm.ok (by show m0.size ≤ 300; omega) (by show m6 ≤ 1000; omega))
  obtain ⟨R, ze, hrep⟩ : ∃ R ze, repE xs ⟨m0, m1, m2, m3, m4, m5, m6, m7, m8⟩ z a = (R, ze) := ⟨_, _, rfl⟩
  have HR1 : Hid (∀ W, Below w0.heap.size w0 W → Calls Try.prog 10 #[.slice A n c, .agg #[.string m0, .int .i64 m1, .int .i64 m2, .int .i64 m3, .int .i64 m4, .slice m5 m6 m7], .agg #[.int .i64 z, .string a]] W (CopiesE R ze W)) := hid fun W hW => by
    have q := HP.out.replace w.heap.size A n c xs ⟨m0, m1, m2, m3, m4, m5, m6, m7, m8⟩ z a W (HAM.out W hW) (HAE.out W hW) lz uz
    rw [hrep] at q
    exact q
  have HR2 : Hid (∀ W, Below w0.heap.size w0 W → Calls Try.prog 12 #[.slice A n c, .agg #[.string m0, .int .i64 m1, .int .i64 m2, .int .i64 m3, .int .i64 m4, .slice m5 m6 m7], .agg #[.int .i64 z, .string a]] W (CopiesE R ze W)) := hid fun W hW => by
    have q := rreplace_any w.heap.size A n c xs ⟨m0, m1, m2, m3, m4, m5, m6, m7, m8⟩ z a W (HAM.out W hW).rd (HAM.out W hW).hK Hok.out (by omega) Hmk.out (HAE.out W hW).rd
    rw [hrep] at q
    exact q
  have HRl : Hid (R.length ≤ 300) := hid (by have q := repE_len (xs := xs) (m := ⟨m0, m1, m2, m3, m4, m5, m6, m7, m8⟩) (z := z) (a := a); rw [hrep] at q; simp only at q; omega)
  have HRo : Hid (∀ x ∈ R, MOk x) := hid (by have q := repE_ok (z := z) (a := a) Hok.out Hmk.out; rw [hrep] at q; exact q)
  have hzz : (ze != ze) = false := by simp
  clear hrep hM hok gm hm lz uz k1 k3 h hB hf
  go_upto_region 3 with fail
  have hbd : Below w2.heap.size w2 w2.drew := (Below.refl _ _).drew
  have b3 := b2.trans (hbd.mono b2.size)
  have hS : (BoxS g m0 m1 m2 m3 m4 m5 m6 m7 z a) w2.drew := HBox.out _ b3
  refine Ord.Till.begin (BoxS g m0 m1 m2 m3 m4 m5 m6 m7 z a) 60 (by kernel_rfl) ?_
  generalize w2.drew = wd at *
  clear hbd c0 c1 c2 c3 c4 c5 c6 c7
  refine Ord.Till.take' 0 (some 56) (oi := _) (x := ?_) rfl rfl (by kernel_rfl) (by kernel_rfl) (by kernel_rfl) (by kernel_rfl) (fun _ _ _ h => h) (by kernel_rfl) ?_ hS ?_
  rotate_left 1
  · intro v hv; obtain ⟨z0, z1, z2, z3, z4, z5, z6, z7⟩ := hv; go_simp; first | done | with_reducible rfl
  try simp only [List.getElem_toArray, List.getElem_cons_zero, List.getElem_cons_succ, Act.put, List.setIfInBounds_toArray, List.set_cons_zero, List.set_cons_succ]
  refine Ord.Till.take' 1 (some 57) (oi := _) (x := ?_) rfl rfl (by kernel_rfl) (by kernel_rfl) (by kernel_rfl) (by kernel_rfl) (fun _ _ _ h => h) (by kernel_rfl) ?_ hS ?_
  rotate_left 1
  · intro v hv; obtain ⟨z0, z1, z2, z3, z4, z5, z6, z7⟩ := hv; go_simp; first | done | with_reducible rfl
  try simp only [List.getElem_toArray, List.getElem_cons_zero, List.getElem_cons_succ, Act.put, List.setIfInBounds_toArray, List.set_cons_zero, List.set_cons_succ]
  refine Ord.Till.take' 2 (some 58) (oi := _) (x := ?_) rfl rfl (by kernel_rfl) (by kernel_rfl) (by kernel_rfl) (by kernel_rfl) (fun _ _ _ h => h) (by kernel_rfl) ?_ hS ?_
  rotate_left 1
  · intro v hv; obtain ⟨z0, z1, z2, z3, z4, z5, z6, z7⟩ := hv; go_simp; first | done | with_reducible rfl
  try simp only [List.getElem_toArray, List.getElem_cons_zero, List.getElem_cons_succ, Act.put, List.setIfInBounds_toArray, List.set_cons_zero, List.set_cons_succ]
  refine Ord.Till.step 3 (by kernel_rfl) rfl (fun C hC => ?_)
  go_simp
  go_at_call 11
  refine (forward_any z a _).mono ?_
  rintro e w4 ⟨rfl, hb4⟩
  have b4 := b3.trans (hb4.mono b3.size)
  clear hS hb4
  have hS := HBox.out _ b4
  go_wp2_with fail
  refine hC.out _ _ (fun _ => hS) ?_
  clear hC C
  try simp only [List.getElem_toArray, List.getElem_cons_zero, List.getElem_cons_succ, Act.put, List.setIfInBounds_toArray, List.set_cons_zero, List.set_cons_succ]
  refine Ord.Till.step 4 (by kernel_rfl) rfl (fun C hC => ?_)
  go_simp
  go_at_call 10
  refine (HR1.out _ b4).mono ?_
  rintro e w5 hC
  obtain ⟨A1, n1, c1, y1, rfl, a1, e1, hn1, hb5⟩ := hC.arg HRo.out HRl.out
  have HE1 := hid e1
  have Hn1 := hid hn1
  have b5 := b4.trans (hb5.mono b4.size)
  clear hS hC hb5 e1 hn1
  have hS := HBox.out _ b5
  go_wp2_with fail
  refine hC.out _ _ (fun _ => hS) ?_
  clear hC C
  try simp only [List.getElem_toArray, List.getElem_cons_zero, List.getElem_cons_succ, Act.put, List.setIfInBounds_toArray, List.set_cons_zero, List.set_cons_succ]
  refine Ord.Till.take' 5 (some 55) (oi := _) (x := ?_) rfl rfl (by kernel_rfl) (by kernel_rfl) (by kernel_rfl) (by kernel_rfl) (fun _ _ _ h => h) (by kernel_rfl) ?_ hS ?_
  rotate_left 1
  · intro v hv; obtain ⟨z0, z1, z2, z3, z4, z5, z6, z7⟩ := hv; go_simp; first | done | with_reducible rfl
  try simp only [List.getElem_toArray, List.getElem_cons_zero, List.getElem_cons_succ, Act.put, List.setIfInBounds_toArray, List.set_cons_zero, List.set_cons_succ]
  refine Ord.Till.take' 6 (some 61) (oi := _) (x := ?_) rfl rfl (by kernel_rfl) (by kernel_rfl) (by kernel_rfl) (by kernel_rfl) (fun _ _ _ h => h) (by kernel_rfl) ?_ hS ?_
  rotate_left 1
  · intro v hv; obtain ⟨z0, z1, z2, z3, z4, z5, z6, z7⟩ := hv; go_simp; first | done | with_reducible rfl
  try simp only [List.getElem_toArray, List.getElem_cons_zero, List.getElem_cons_succ, Act.put, List.setIfInBounds_toArray, List.set_cons_zero, List.set_cons_succ]
  refine Ord.Till.take' 7 (some 62) (oi := _) (x := ?_) rfl rfl (by kernel_rfl) (by kernel_rfl) (by kernel_rfl) (by kernel_rfl) (fun _ _ _ h => h) (by kernel_rfl) ?_ hS ?_
  rotate_left 1
  · intro v hv; obtain ⟨z0, z1, z2, z3, z4, z5, z6, z7⟩ := hv; go_simp; first | done | with_reducible rfl
  try simp only [List.getElem_toArray, List.getElem_cons_zero, List.getElem_cons_succ, Act.put, List.setIfInBounds_toArray, List.set_cons_zero, List.set_cons_succ]
  refine Ord.Till.take' 8 (some 9) (oi := _) (x := ?_) rfl rfl (by kernel_rfl) (by kernel_rfl) (by kernel_rfl) (by kernel_rfl) (fun _ _ _ h => h) (by kernel_rfl) ?_ hS ?_
  rotate_left 1
  · intro v hv; obtain ⟨z0, z1, z2, z3, z4, z5, z6, z7⟩ := hv; go_simp; first | done | with_reducible rfl
  try simp only [List.getElem_toArray, List.getElem_cons_zero, List.getElem_cons_succ, Act.put, List.setIfInBounds_toArray, List.set_cons_zero, List.set_cons_succ]
  refine Ord.Till.take' 9 (some 10) (oi := _) (x := ?_) rfl rfl (by kernel_rfl) (by kernel_rfl) (by kernel_rfl) (by kernel_rfl) (fun _ _ _ h => h) (by kernel_rfl) ?_ hS ?_
  rotate_left 1
  · intro v hv; obtain ⟨z0, z1, z2, z3, z4, z5, z6, z7⟩ := hv; go_simp; first | done | with_reducible rfl
  try simp only [List.getElem_toArray, List.getElem_cons_zero, List.getElem_cons_succ, Act.put, List.setIfInBounds_toArray, List.set_cons_zero, List.set_cons_succ]
  refine Ord.Till.done (by kernel_rfl) ?_ _
  obtain ⟨c0, c1', c2, c3, c4, c5, c6, c7⟩ := hS
  go_wp2_with fail
  refine (HR2.out w5 b5).mono ?_
  rintro e w6 hC
  obtain ⟨A2, n2, d2, y2, rfl, a2, e2, hn2, hb6⟩ := hC.arg HRo.out HRl.out
  have b6 := b5.trans (hb6.mono b5.size)
  have a1' := a1.on hb6
  have hsame : Arp.sameMs y1 y2 = true := Arw.same_core (HE1.out.trans e2.symm)
  have Hn2 := hid hn2
  have HSm := hid fun (W : World) (hW : Below w6.heap.size w6 W) => Arp.rsamemembers_any w6.heap.size A1 A2 n1 c1 n2 d2 y1 y2 W ((a1'.rd.more (by have := hb6.size; omega)).below hW) (a2.rd.below hW) hW.size (by have := Hn1.out; have := HRl.out; omega)
  rw [hsame] at HSm
  have HAp1 := hid fun (W : World) (hW : Below w0.heap.size w0 W) => HP.out.append_ w.heap.size A n c xs ⟨m0, m1, m2, m3, m4, m5, m6, m7, m8⟩ W (HAM.out W hW) (HAE.out W hW)
  have HAp2 := hid fun (W : World) (hW : Below w0.heap.size w0 W) => rappend_any w.heap.size A n c xs ⟨m0, m1, m2, m3, m4, m5, m6, m7, m8⟩ W (HAM.out W hW).rd (HAM.out W hW).hK Hok.out (by omega) Hmk.out (HAE.out W hW).rd
  have HIo : Hid (∀ x ∈ insM xs n ⟨m0, m1, m2, m3, m4, m5, m6, m7, m8⟩, MOk x) := hid fun x hx => by
    rcases insM_sub hx with rfl | hx
    · exact Hmk.out
    · exact Hok.out x hx
  have HIl : Hid ((insM xs n ⟨m0, m1, m2, m3, m4, m5, m6, m7, m8⟩).length ≤ 300) := hid (by rw [insM_length]; omega)
  clear hC e2 hn2 hb6 a1 a2 a1' hsame c0 c1' c2 c3 c4 c5 c6 c7
  go_upto_region 5 with fail
  have hbd : Below w6.heap.size w6 w6.drew := (Below.refl _ _).drew
  have b7 := b6.trans (hbd.mono b6.size)
  have hS : (BoxS g m0 m1 m2 m3 m4 m5 m6 m7 z a) w6.drew := HBox.out _ b7
  refine Ord.Till.begin (BoxS g m0 m1 m2 m3 m4 m5 m6 m7 z a) 60 (by kernel_rfl) ?_
  generalize w6.drew = wd7 at *
  refine Ord.Till.take' 0 (some 70) (oi := _) (x := ?_) rfl rfl (by kernel_rfl) (by kernel_rfl) (by kernel_rfl) (by kernel_rfl) (fun _ _ _ h => h) (by kernel_rfl) ?_ hS ?_
  rotate_left 1
  · intro v hv; obtain ⟨z0, z1, z2, z3, z4, z5, z6, z7⟩ := hv; go_simp; first | done | with_reducible rfl
  try simp only [List.getElem_toArray, List.getElem_cons_zero, List.getElem_cons_succ, Act.put, List.setIfInBounds_toArray, List.set_cons_zero, List.set_cons_succ]
  refine Ord.Till.take' 1 (some 71) (oi := _) (x := ?_) rfl rfl (by kernel_rfl) (by kernel_rfl) (by kernel_rfl) (by kernel_rfl) (fun _ _ _ h => h) (by kernel_rfl) ?_ hS ?_
  rotate_left 1
  · intro v hv; obtain ⟨z0, z1, z2, z3, z4, z5, z6, z7⟩ := hv; go_simp; first | done | with_reducible rfl
  try simp only [List.getElem_toArray, List.getElem_cons_zero, List.getElem_cons_succ, Act.put, List.setIfInBounds_toArray, List.set_cons_zero, List.set_cons_succ]
  refine Ord.Till.step 2 (by kernel_rfl) rfl (fun C hC => ?_)
  go_simp
  go_at_call 13
  refine (HSm.out _ hbd).mono ?_
  rintro e w8 ⟨rfl, hb8⟩
  have b8 := b7.trans (hb8.mono b7.size)
  clear hS hb8 hbd
  have hS := HBox.out _ b8
  go_wp2_with fail
  refine hC.out _ _ (fun _ => hS) ?_
  clear hC C
  try simp only [List.getElem_toArray, List.getElem_cons_zero, List.getElem_cons_succ, Act.put, List.setIfInBounds_toArray, List.set_cons_zero, List.set_cons_succ]
  refine Ord.Till.take' 3 (some 73) (oi := _) (x := ?_) rfl rfl (by kernel_rfl) (by kernel_rfl) (by kernel_rfl) (by kernel_rfl) (fun _ _ _ h => h) (by kernel_rfl) ?_ hS ?_
  rotate_left 1
  · intro v hv; obtain ⟨z0, z1, z2, z3, z4, z5, z6, z7⟩ := hv; go_simp; first | done | with_reducible rfl
  try simp only [List.getElem_toArray, List.getElem_cons_zero, List.getElem_cons_succ, Act.put, List.setIfInBounds_toArray, List.set_cons_zero, List.set_cons_succ]
  refine Ord.Till.take' 4 (some 74) (oi := _) (x := ?_) rfl rfl (by kernel_rfl) (by kernel_rfl) (by kernel_rfl) (by kernel_rfl) (fun _ _ _ h => h) (by kernel_rfl) ?_ hS ?_
  rotate_left 1
  · intro v hv; obtain ⟨z0, z1, z2, z3, z4, z5, z6, z7⟩ := hv; go_simp; first | done | with_reducible rfl
  try simp only [List.getElem_toArray, List.getElem_cons_zero, List.getElem_cons_succ, Act.put, List.setIfInBounds_toArray, List.set_cons_zero, List.set_cons_succ]
  refine Ord.Till.take' 5 (some 75) (oi := _) (x := ?_) rfl rfl (by kernel_rfl) (by kernel_rfl) (by kernel_rfl) (by kernel_rfl) (fun _ _ _ h => h) (by kernel_rfl) ?_ hS ?_
  rotate_left 1
  · intro v hv; obtain ⟨z0, z1, z2, z3, z4, z5, z6, z7⟩ := hv; go_simp; first | done | with_reducible rfl
  try simp only [List.getElem_toArray, List.getElem_cons_zero, List.getElem_cons_succ, Act.put, List.setIfInBounds_toArray, List.set_cons_zero, List.set_cons_succ]
  refine Ord.Till.take' 6 (some 76) (oi := _) (x := ?_) rfl rfl (by kernel_rfl) (by kernel_rfl) (by kernel_rfl) (by kernel_rfl) (fun _ _ _ h => h) (by kernel_rfl) ?_ hS ?_
  rotate_left 1
  · intro v hv; obtain ⟨z0, z1, z2, z3, z4, z5, z6, z7⟩ := hv; go_simp; first | done | with_reducible rfl
  try simp only [List.getElem_toArray, List.getElem_cons_zero, List.getElem_cons_succ, Act.put, List.setIfInBounds_toArray, List.set_cons_zero, List.set_cons_succ]
  refine Ord.Till.take' 7 (some 77) (oi := _) (x := ?_) rfl rfl (by kernel_rfl) (by kernel_rfl) (by kernel_rfl) (by kernel_rfl) (fun _ _ _ h => h) (by kernel_rfl) ?_ hS ?_
  rotate_left 1
  · intro v hv; obtain ⟨z0, z1, z2, z3, z4, z5, z6, z7⟩ := hv; go_simp; first | done | with_reducible rfl
  try simp only [List.getElem_toArray, List.getElem_cons_zero, List.getElem_cons_succ, Act.put, List.setIfInBounds_toArray, List.set_cons_zero, List.set_cons_succ]
  refine Ord.Till.take' 8 (some 78) (oi := _) (x := ?_) rfl rfl (by kernel_rfl) (by kernel_rfl) (by kernel_rfl) (by kernel_rfl) (fun _ _ _ h => h) (by kernel_rfl) ?_ hS ?_
  rotate_left 1
  · intro v hv; obtain ⟨z0, z1, z2, z3, z4, z5, z6, z7⟩ := hv; go_simp; first | done | with_reducible rfl
  try simp only [List.getElem_toArray, List.getElem_cons_zero, List.getElem_cons_succ, Act.put, List.setIfInBounds_toArray, List.set_cons_zero, List.set_cons_succ]
  refine Ord.Till.take' 9 (some 79) (oi := _) (x := ?_) rfl rfl (by kernel_rfl) (by kernel_rfl) (by kernel_rfl) (by kernel_rfl) (fun _ _ _ h => h) (by kernel_rfl) ?_ hS ?_
  rotate_left 1
  · intro v hv; obtain ⟨z0, z1, z2, z3, z4, z5, z6, z7⟩ := hv; go_simp; first | done | with_reducible rfl
  try simp only [List.getElem_toArray, List.getElem_cons_zero, List.getElem_cons_succ, Act.put, List.setIfInBounds_toArray, List.set_cons_zero, List.set_cons_succ]
  refine Ord.Till.take' 10 (some 80) (oi := _) (x := ?_) rfl rfl (by kernel_rfl) (by kernel_rfl) (by kernel_rfl) (by kernel_rfl) (fun _ _ _ h => h) (by kernel_rfl) ?_ hS ?_
  rotate_left 1
  · intro v hv; obtain ⟨z0, z1, z2, z3, z4, z5, z6, z7⟩ := hv; go_simp; first | done | with_reducible rfl
  try simp only [List.getElem_toArray, List.getElem_cons_zero, List.getElem_cons_succ, Act.put, List.setIfInBounds_toArray, List.set_cons_zero, List.set_cons_succ]
  refine Ord.Till.take' 11 (some 81) (oi := _) (x := ?_) rfl rfl (by kernel_rfl) (by kernel_rfl) (by kernel_rfl) (by kernel_rfl) (fun _ _ _ h => h) (by kernel_rfl) ?_ hS ?_
  rotate_left 1
  · intro v hv; obtain ⟨z0, z1, z2, z3, z4, z5, z6, z7⟩ := hv; go_simp; first | done | with_reducible rfl
  try simp only [List.getElem_toArray, List.getElem_cons_zero, List.getElem_cons_succ, Act.put, List.setIfInBounds_toArray, List.set_cons_zero, List.set_cons_succ]
  refine Ord.Till.take' 13 (some 83) (oi := _) (x := ?_) rfl rfl (by kernel_rfl) (by kernel_rfl) (by kernel_rfl) (by kernel_rfl) (fun _ _ _ h => h) (by kernel_rfl) ?_ hS ?_
  rotate_left 1
  · intro v hv; obtain ⟨z0, z1, z2, z3, z4, z5, z6, z7⟩ := hv; go_simp; first | done | with_reducible rfl
  try simp only [List.getElem_toArray, List.getElem_cons_zero, List.getElem_cons_succ, Act.put, List.setIfInBounds_toArray, List.set_cons_zero, List.set_cons_succ]
  refine Ord.Till.take' 14 (some 84) (oi := _) (x := ?_) rfl rfl (by kernel_rfl) (by kernel_rfl) (by kernel_rfl) (by kernel_rfl) (fun _ _ _ h => h) (by kernel_rfl) ?_ hS ?_
  rotate_left 1
  · intro v hv; obtain ⟨z0, z1, z2, z3, z4, z5, z6, z7⟩ := hv; go_simp; first | done | with_reducible rfl
  try simp only [List.getElem_toArray, List.getElem_cons_zero, List.getElem_cons_succ, Act.put, List.setIfInBounds_toArray, List.set_cons_zero, List.set_cons_succ]
  refine Ord.Till.step 12 (by kernel_rfl) rfl (fun C hC => ?_)
  go_simp
  go_at_call 14
  refine (HAp1.out _ b8).mono ?_
  rintro e w9 hC
  obtain ⟨A3, n3, d3, y3, rfl, a3, e3, hn3, hb9⟩ := hC.arg HIo.out HIl.out
  have HE3 := hid e3
  have Hn3 := hid hn3
  have b9 := b8.trans (hb9.mono b8.size)
  clear hS hC hb9 e3 hn3
  have hS := HBox.out _ b9
  go_wp2_with fail
  refine hC.out _ _ (fun _ => hS) ?_
  clear hC C
  try simp only [List.getElem_toArray, List.getElem_cons_zero, List.getElem_cons_succ, Act.put, List.setIfInBounds_toArray, List.set_cons_zero, List.set_cons_succ]
  refine Ord.Till.step 15 (by kernel_rfl) rfl (fun C hC => ?_)
  go_simp
  go_at_call 15
  refine (HAp2.out _ b9).mono ?_
  rintro e wa hC
  obtain ⟨A4, n4, d4, y4, rfl, a4, e4, hn4, hba⟩ := hC.arg HIo.out HIl.out
  have a3' := a3.on hba
  have hsame : Arp.sameMs y3 y4 = true := Arw.same_core (HE3.out.trans e4.symm)
  have HSm2 := hid (Arp.rsamemembers_any wa.heap.size A3 A4 n3 d3 n4 d4 y3 y4 wa (a3'.rd.more (by have := hba.size; omega)) a4.rd (Nat.le_refl _) (by have := Hn3.out; have := HIl.out; omega))
  rw [hsame] at HSm2
  have ba := b9.trans (hba.mono b9.size)
  clear hS hC hba e4 hn4 a3 a3' a4 hsame
  have hS := HBox.out _ ba
  go_wp2_with fail
  refine hC.out _ _ (fun _ => hS) ?_
  clear hC C
  try simp only [List.getElem_toArray, List.getElem_cons_zero, List.getElem_cons_succ, Act.put, List.setIfInBounds_toArray, List.set_cons_zero, List.set_cons_succ]
  refine Ord.Till.step 16 (by kernel_rfl) rfl (fun C hC => ?_)
  go_simp
  go_at_call 13
  refine (HSm2.out).mono ?_
  rintro e wb ⟨rfl, hbb⟩
  have bb := ba.trans (hbb.mono ba.size)
  clear hS hbb HSm2
  have hS := HBox.out _ bb
  go_wp2_with fail
  refine hC.out _ _ (fun _ => hS) ?_
  clear hC C
  try simp only [List.getElem_toArray, List.getElem_cons_zero, List.getElem_cons_succ, Act.put, List.setIfInBounds_toArray, List.set_cons_zero, List.set_cons_succ]
  refine Ord.Till.take' 17 (some 87) (oi := _) (x := ?_) rfl rfl (by kernel_rfl) (by kernel_rfl) (by kernel_rfl) (by kernel_rfl) (fun _ _ _ h => h) (by kernel_rfl) ?_ hS ?_
  rotate_left 1
  · intro v hv; obtain ⟨z0, z1, z2, z3, z4, z5, z6, z7⟩ := hv; go_simp; first | done | with_reducible rfl
  try simp only [List.getElem_toArray, List.getElem_cons_zero, List.getElem_cons_succ, Act.put, List.setIfInBounds_toArray, List.set_cons_zero, List.set_cons_succ]
  refine Ord.Till.take' 18 (some 88) (oi := _) (x := ?_) rfl rfl (by kernel_rfl) (by kernel_rfl) (by kernel_rfl) (by kernel_rfl) (fun _ _ _ h => h) (by kernel_rfl) ?_ hS ?_
  rotate_left 1
  · intro v hv; obtain ⟨z0, z1, z2, z3, z4, z5, z6, z7⟩ := hv; go_simp; first | done | with_reducible rfl
  try simp only [List.getElem_toArray, List.getElem_cons_zero, List.getElem_cons_succ, Act.put, List.setIfInBounds_toArray, List.set_cons_zero, List.set_cons_succ]
  refine Ord.Till.done (by kernel_rfl) ?_ _
  clear hS HSm HAp1 HAp2 HIo HIl HE1 HE3 Hn1 Hn2 Hn3 HR1 HR2 HRl HRo b2 b3 b4 b5 b6 b7 b8 b9 ba hzz
  obtain ⟨R, ze, hdel⟩ : ∃ R ze, delE xs nm = (R, ze) := ⟨_, _, rfl⟩
  have HR1 : Hid (∀ W, Below w0.heap.size w0 W → Calls Try.prog 16 #[.slice A n c, .string nm] W (CopiesE R ze W)) := hid fun W hW => by
    have q := HP.out.delete w.heap.size A n c xs nm W (HAM.out W hW)
    rw [hdel] at q
    exact q
  have HR2 : Hid (∀ W, Below w0.heap.size w0 W → Calls Try.prog 17 #[.slice A n c, .string nm] W (CopiesE R ze W)) := hid fun W hW => by
    have q := rdelete_any w.heap.size A n c xs nm W (HAM.out W hW).rd (HAM.out W hW).hK Hok.out (by omega)
    rw [hdel] at q
    exact q
  have HRl : Hid (R.length ≤ 300) := hid (by have q := delE_len (xs := xs) (s := nm); rw [hdel] at q; simp only at q; omega)
  have HRo : Hid (∀ x ∈ R, MOk x) := hid (by have q := delE_ok (s := nm) Hok.out; rw [hdel] at q; exact q)
  have hzz : (ze != ze) = false := by simp
  clear hdel
  go_wp2_with fail
  refine (HR1.out wb bb).mono ?_
  rintro e w3 hC
  obtain ⟨A1, n1, d1, y1, rfl, a1, e1, hn1, hb3⟩ := hC.arg HRo.out HRl.out
  have b3 := bb.trans (hb3.mono bb.size)
  have HE1 := hid e1
  have Hn1 := hid hn1
  clear hC e1 hn1 hb3 bb
  go_wp2_with fail
  refine (HR2.out w3 b3).mono ?_
  rintro e w4 hC
  obtain ⟨A2, n2, d2, y2, rfl, a2, e2, hn2, hb4⟩ := hC.arg HRo.out HRl.out
  have b4 := b3.trans (hb4.mono b3.size)
  have a1' := a1.on hb4
  have hsame : Arp.sameMs y1 y2 = true := Arw.same_core (HE1.out.trans e2.symm)
  have HSm := hid (Arp.rsamemembers_any w4.heap.size A1 A2 n1 d1 n2 d2 y1 y2 w4 (a1'.rd.more (by have := hb4.size; omega)) a2.rd (Nat.le_refl _) (by have := Hn1.out; have := HRl.out; omega))
  rw [hsame] at HSm
  clear hC e2 hn2 hb4 a1 a2 a1' hsame b3
  go_wp2_with fail
  refine HSm.out.mono ?_
  rintro e w5 ⟨rfl, hb5⟩
  have b5 := b4.trans (hb5.mono b4.size)
  clear hb5 b4 HSm HR1 HR2 HRl HRo HE1 Hn1
  obtain ⟨c0, c1', c2, c3, c4, c5, c6, c7⟩ := HBox.out w5 b5
  obtain ⟨Rm, zm, hmov⟩ : ∃ R ze, movE xs nm z a = (R, ze) := ⟨_, _, rfl⟩
  have HR1 : Hid (∀ W, Below w0.heap.size w0 W → Calls Try.prog 18 #[.slice A n c, .string nm, .agg #[.int .i64 z, .string a]] W (CopiesE Rm zm W)) := hid fun W hW => by
    have q := HP.out.move w.heap.size A n c xs nm z a W (HAM.out W hW) Hz.out.1 Hz.out.2
    rw [hmov] at q
    exact q
  have HR2 : Hid (∀ W, Below w0.heap.size w0 W → Calls Try.prog 19 #[.slice A n c, .string nm, .agg #[.int .i64 z, .string a]] W (CopiesE Rm zm W)) := hid fun W hW => by
    have q := rmove_any w.heap.size A n c xs nm z a W (HAM.out W hW).rd (HAM.out W hW).hK Hok.out (by omega)
    rw [hmov] at q
    exact q
  have HRl : Hid (Rm.length ≤ 300) := hid (by have q := movE_len (xs := xs) (s := nm) (z := z) (a := a); rw [hmov] at q; simp only at q; omega)
  have HRo : Hid (∀ x ∈ Rm, MOk x) := hid (by have q := movE_ok' (s := nm) (z := z) (a := a) Hok.out; rw [hmov] at q; exact q)
  have hzm : (zm != zm) = false := by simp
  clear hmov
  go_wp2_with fail
  refine (forward_any z a w5).mono ?_
  rintro e w6 ⟨rfl, hb6⟩
  have b6 := b5.trans (hb6.mono b5.size)
  clear hb6 b5 c0 c1' c2 c3 c4 c5 c6 c7
  go_wp2_with fail
  refine (HR1.out w6 b6).mono ?_
  rintro e w7 hC
  obtain ⟨A1, n1, d1, y1, rfl, a1, e1, hn1, hb7⟩ := hC.arg HRo.out HRl.out
  have b7 := b6.trans (hb7.mono b6.size)
  have HE1 := hid e1
  have Hn1 := hid hn1
  clear hC e1 hn1 hb7 b6
  obtain ⟨c0, c1', c2, c3, c4, c5, c6, c7⟩ := HBox.out w7 b7
  go_wp2_with fail
  refine (HR2.out w7 b7).mono ?_
  rintro e w8 hC
  obtain ⟨A2, n2, d2, y2, rfl, a2, e2, hn2, hb8⟩ := hC.arg HRo.out HRl.out
  have b8 := b7.trans (hb8.mono b7.size)
  have a1' := a1.on hb8
  have hsame : Arp.sameMs y1 y2 = true := Arw.same_core (HE1.out.trans e2.symm)
  have HSm := hid (Arp.rsamemembers_any w8.heap.size A1 A2 n1 d1 n2 d2 y1 y2 w8 (a1'.rd.more (by have := hb8.size; omega)) a2.rd (Nat.le_refl _) (by have := Hn1.out; have := HRl.out; omega))
  rw [hsame] at HSm
  clear hC e2 hn2 hb8 a1 a2 a1' hsame b7 c0 c1' c2 c3 c4 c5 c6 c7
  go_wp2_with fail
  refine HSm.out.mono ?_
  rintro e w9 ⟨rfl, hb9⟩
  have b9 := b8.trans (hb9.mono b8.size)
  clear hb9 b8 HSm HR1 HR2 HRl HRo HE1 Hn1
  go_wp2_with fail
  refine (HP.out.extract w.heap.size A n c xs nm w9 (HAM.out w9 b9)).mono ?_
  rintro e wa ⟨D, k, d, rfl, hD, hba⟩
  have ba := b9.trans (hba.mono b9.size)
  obtain ⟨_, _, qD, rD, _, _⟩ := hD.reads
  injection qD with qD1 _ qD3
  subst qD1 qD3
  clear hba b9 hD
  go_wp2_with fail
  refine (rfind_any w.heap.size A n c xs nm wa (HAM.out wa ba).rd (HAM.out wa ba).hK (by omega)).mono ?_
  rintro e wb ⟨rfl, hbb⟩
  have bb := ba.trans (hbb.mono ba.size)
  have rDb := rD.below hbb
  have hkD := rD.1
  have hsab := hbb.size
  clear hbb rD
  cases hfn : findN xs nm with
  | none =>
    have hfi := findI_no hfn
    have hez : extZ xs nm = 10 := by unfold extZ; rw [hfn]
    have hed : extD xs nm = [] := by unfold extD; rw [hfn]
    rw [hed] at hkD
    obtain rfl : k = 0 := hkD.symm
    rw [hfi, hez]
    have Hfi := hid hfi
    clear hfi hez hed hkD rDb hfn ba
    go_wp2_with fail
    refine (HP.out.find w.heap.size A n c xs nm wb (HAM.out wb bb)).mono ?_
    rintro e wc ⟨rfl, hbc⟩
    rw [Hfi.out]
    have bc := bb.trans (hbc.mono bb.size)
    clear hbc bb
    go_wp2_with fail
    refine (HP.out.list w.heap.size A n c xs wc (HAM.out wc bc)).mono ?_
    rintro e wd ⟨A5, n5, d5, rfl, o5, hbd⟩
    have bd := bc.trans (hbd.mono bc.size)
    clear hbd bc
    go_wp2_with fail
    refine (rlist_any w.heap.size A n c xs wd (HAM.out wd bd).rd (HAM.out wd bd).hK (by omega)).mono ?_
    rintro e we ⟨A6, n6, d6, rfl, o6, hbe⟩
    have be := bd.trans (hbe.mono bd.size)
    have o5' := o5.below hbe
    obtain ⟨_, _, q5, r5, _, _⟩ := o5'.reads
    injection q5 with q51 _ q53
    subst q51 q53
    obtain ⟨_, _, q6, r6, _, _⟩ := o6.reads
    injection q6 with q61 _ q63
    subst q61 q63
    have HT := hid (Lnm.texts_any we.heap.size we.heap.size A5 A6 n5 d5 n6 d6 _ _ we r5 r6 (by have q : (namesL xs).length = xs.length := (by simp [namesL]); have := r5.1; omega))
    rw [Lnm.eqs_iff.2 rfl] at HT
    clear o5 o6 o5' r5 r6 hbe bd
    go_wp2_with fail
    refine HT.out.mono ?_
    rintro e wf ⟨rfl, mf, hwf⟩
    have hbf := Dec.below_drewN (K := we.heap.size) we mf
    rw [← hwf] at hbf
    have bf := be.trans (hbf.mono be.size)
    clear hwf hbf be HT
    go_wp2_with fail
    go_ret
    exact ⟨rfl, B0.trans (bf.mono B0.size)⟩
  | some i =>
    obtain ⟨hi, _⟩ := findN_lt hfn
    have hfi := findI_some hfn
    have hez : extZ xs nm = 0 := by unfold extZ; rw [hfn]
    have hed : extD xs nm = xs[i].data := by unfold extD; rw [hfn]; simp [List.getElem?_eq_getElem hi]
    rw [hfi, hez]
    rw [hed] at rDb
    have hi0 : ¬ (i : Int) < 0 := by omega
    have hin : (i : Int) < (n : Int) := by omega
    have Hfi := hid hfi
    clear hfi hez hed hkD hfn ba
    go_wp2_with fail
    refine (HP.out.find w.heap.size A n c xs nm wb (HAM.out wb bb)).mono ?_
    rintro e wc ⟨rfl, hbc⟩
    rw [Hfi.out]
    have bc := bb.trans (hbc.mono bb.size)
    have rDc := rDb.below (hbc.mono hsab)
    have hsbc := hbc.size
    clear hbc bb rDb
    obtain ⟨⟨qb, qo, rfl, hbK, hcell⟩, hrd, _⟩ := (HAM.out wc bc).rd.2 i hi
    have c5 := hcell.2.2.2.2.2
    have HT := hid (Dec.same_any 26 rfl wa.heap.size w.heap.size D xs[i].ptr k d xs[i].len xs[i].cap _ _ wc rDc hrd (by have := rDc.1; have := hrd.1; have := (Hok.out _ (List.getElem_mem hi)).len; omega))
    rw [beq_self_eq_true] at HT
    clear hcell hrd rDc
    generalize xs[i].ptr = xp at *
    generalize xs[i].len = xn at *
    generalize xs[i].cap = xc at *
    go_wp2_with fail
    refine HT.out.mono ?_
    rintro e wg ⟨rfl, mg, hwg⟩
    have hbg := Dec.below_drewN (K := wc.heap.size) wc mg
    rw [← hwg] at hbg
    have bg := bc.trans (hbg.mono bc.size)
    clear hwg hbg c5 HT bc
    go_wp2_with fail
    refine (HP.out.list w.heap.size _ n c xs wg (HAM.out wg bg)).mono ?_
    rintro e wd ⟨A5, n5, d5, rfl, o5, hbd⟩
    have bd := bg.trans (hbd.mono bg.size)
    clear hbd bg
    go_wp2_with fail
    refine (rlist_any w.heap.size _ n c xs wd (HAM.out wd bd).rd (HAM.out wd bd).hK (by omega)).mono ?_
    rintro e we ⟨A6, n6, d6, rfl, o6, hbe⟩
    have be := bd.trans (hbe.mono bd.size)
    have o5' := o5.below hbe
    obtain ⟨_, _, q5, r5, _, _⟩ := o5'.reads
    injection q5 with q51 _ q53
    subst q51 q53
    obtain ⟨_, _, q6, r6, _, _⟩ := o6.reads
    injection q6 with q61 _ q63
    subst q61 q63
    have HT := hid (Lnm.texts_any we.heap.size we.heap.size A5 A6 n5 d5 n6 d6 _ _ we r5 r6 (by have q : (namesL xs).length = xs.length := (by simp [namesL]); have := r5.1; omega))
    rw [Lnm.eqs_iff.2 rfl] at HT
    clear o5 o6 o5' r5 r6 hbe bd
    go_wp2_with fail
    refine HT.out.mono ?_
    rintro e wf ⟨rfl, mf, hwf⟩
    have hbf := Dec.below_drewN (K := we.heap.size) we mf
    rw [← hwf] at hbf
    have bf := be.trans (hbf.mono be.size)
    clear hwf hbf be HT
    go_wp2_with fail
    go_ret
    exact ⟨rfl, B0.trans (bf.mono B0.size)⟩
end Go.Proofs.Ytijggpahijhpeaa.Edt
