/-
  edit: the reference's Append and Delete.
  edit: the reference's Replace.
  edit: the reference's Move.
  edit: the reference's List.
-/
import Derived.Test.YtijggpahijhpeaaZEa
import Derived.BigQuiet
namespace Go.Proofs.Ytijggpahijhpeaa.Edt
open Go.RowKit Go.Proofs Go.Proofs.Ytijggpahijhpeaa.Byt
open Go.Proofs.Ytijggpahijhpeaa.Arp (Mem RdM OwnM mcells)
open Go.Proofs.Ytijggpahijhpeaa.Arw (core MOk rdM_own)

/-- Members that the call has made, and an error. -/
def CopiesE (xs : List Mem) (z : Int) (w : World) (e : Ending) (w' : World) : Prop :=
  ∃ A n c ys, e = .returned (.tuple #[.slice A n c, .int .i64 z]) ∧ Cel.Own 25 6 w' w.heap.size (.slice A n c) n (mcells ys) ∧ OwnM w' w.heap.size ys ∧ ys.map core = xs.map core ∧ (∀ y ∈ ys, y.len ≤ 140737488355328) ∧ Below w.heap.size w w'
/-- What Delete gives. -/
def delE (xs : List Mem) (s : ByteArray) : List Mem × Int := match findN xs s with
  | none => (xs, 10)
  | some i => (delM xs i, 0)

set_option linter.unusedSimpArgs false in
set_option maxRecDepth 100000 in
set_option maxHeartbeats 2000000 in
theorem rdelete_any (K : Nat) (A : Option Addr) (n c : Nat) (xs : List Mem) (s : ByteArray) (w : World) (h : RdM w K A n xs) (hK : K ≤ w.heap.size) (hok : ∀ x ∈ xs, MOk x) (hn : n ≤ 300) :
    Calls Try.prog 17 #[.slice A n c, .string s] w (CopiesE (delE xs s).1 (delE xs s).2 w) := by
  have Hl := hid h.1
  have HF := hid (rfind_any K A n c xs s w h hK (by omega))
  have H := hid h
  clear h
  go_enter Try.func17, Try.ntmps17
  go_wp2_with fail
  refine HF.out.mono ?_
  rintro e w1 ⟨rfl, hb1⟩
  have h1 := H.out.below (hb1.mono hK)
  have k1 := hb1.size
  cases hf : findN xs s with
  | none =>
    have hfi : findI xs s = -1 := by unfold findI; rw [hf]
    have HE : Hid (delE xs s = (xs, 10)) := hid (by unfold delE; rw [hf])
    rw [hfi]
    have HC := hid (rcopyL_any K A n c xs w1 h1 (by omega) hok (by omega))
    have HB := hid hb1
    clear hf hfi HF h1 hb1
    go_wp2_with fail
    refine HC.out.mono ?_
    rintro e w2 ⟨A2, n2, c2, ys, rfl, o2, d2, hc2, hs2, hb2⟩
    go_wp2_with fail
    exact bodyPost_ret (v := .tuple #[.slice A2 n2 c2, .int .i64 10]) (by simp [results, Try.results17, asAddr]) rfl ⟨A2, n2, c2, ys, by rw [HE.out], o2.more k1, fun y hy => (d2 y hy).more k1, by rw [HE.out]; exact hc2, hs2, HB.out.trans (hb2.mono k1)⟩
  | some i =>
    have hfi : findI xs s = (i : Int) := by unfold findI; rw [hf]
    have HE : Hid (delE xs s = (delM xs i, 0)) := hid (by unfold delE; rw [hf])
    rw [hfi]
    have hi0 : ¬ (i : Int) < 0 := by omega
    have HC := hid (rwithout_any K A n c xs i w1 h1 (by omega) hok hn)
    have HB := hid hb1
    clear hf hfi HF h1 hb1
    go_wp2_with fail
    refine HC.out.mono ?_
    rintro e w2 ⟨A2, n2, c2, ys, rfl, o2, d2, hc2, hs2, hb2⟩
    go_wp2_with fail
    exact bodyPost_ret (v := .tuple #[.slice A2 n2 c2, .int .i64 0]) (by simp [results, Try.results17, asAddr]) rfl ⟨A2, n2, c2, ys, by rw [HE.out], o2.more k1, fun y hy => (d2 y hy).more k1, by rw [HE.out]; exact hc2, hs2, HB.out.trans (hb2.mono k1)⟩

set_option linter.unusedSimpArgs false in
set_option maxRecDepth 100000 in
set_option maxHeartbeats 2000000 in
theorem rappend_any (K : Nat) (A : Option Addr) (n c : Nat) (xs : List Mem) (m : Mem) (w : World) (h : RdM w K A n xs) (hK : K ≤ w.heap.size) (hok : ∀ x ∈ xs, MOk x) (hn : n ≤ 300) (hm : MOk m) (hmr : Byt.Rd w K m.ptr m.len m.data) :
    Calls Try.prog 15 #[.slice A n c, m.val] w (CopiesO (insM xs n m) w) := by
  have hb1 := (Below.refl w.heap.size w).alloc (Nat.le_refl _) (.cells #[.string m.name, .int .i64 m.time, .int .i64 m.uid, .int .i64 m.gid, .int .i64 m.mode, .slice m.ptr m.len m.cap] 25)
  have hrow := heap_alloc_new w (.cells #[.string m.name, .int .i64 m.time, .int .i64 m.uid, .int .i64 m.gid, .int .i64 m.mode, .slice m.ptr m.len m.cap] 25)
  have HI := hid (rinsert_any K A n c xs n m _ (h.below (hb1.mono hK)) (Nat.le_trans hK hb1.size) hok hn (Nat.le_refl _) hm (hmr.below (hb1.mono hK)))
  have k1 := hb1.size
  obtain ⟨m0, m1, m2, m3, m4, m5, m6, m7, m8⟩ := m
  simp only [Mem.val] at HI ⊢
  simp only at hb1 hrow HI k1
  clear h hm hmr
  go_enter Try.func15, Try.ntmps15
  go_upto_region 1 with fail
  generalize w.alloc (.cells #[.string m0, .int .i64 m1, .int .i64 m2, .int .i64 m3, .int .i64 m4, .slice m5 m6 m7] 25) = w1 at *
  have d0 := cell_of_row _ w.heap.size 0 _ _ _ hrow
  have d1 := cell_of_row _ w.heap.size 1 _ _ _ hrow
  have d2 := cell_of_row _ w.heap.size 2 _ _ _ hrow
  have d3 := cell_of_row _ w.heap.size 3 _ _ _ hrow
  have d4 := cell_of_row _ w.heap.size 4 _ _ _ hrow
  have d5 := cell_of_row _ w.heap.size 5 _ _ _ hrow
  have HB := hid hb1
  clear hrow hb1
  go_wp2_with fail
  refine HI.out.mono ?_
  rintro e w2 ⟨A2, n2, c2, ys, rfl, o2, dd2, hc2, hs2, hb2⟩
  go_wp2_with fail
  go_ret
  exact ⟨A2, n2, c2, ys, rfl, o2.more k1, fun y hy => (dd2 y hy).more k1, hc2, hs2, HB.out.trans (hb2.mono k1)⟩
end Go.Proofs.Ytijggpahijhpeaa.Edt

namespace Go.Proofs.Ytijggpahijhpeaa.Edt
open Go.RowKit Go.Proofs Go.Proofs.Ytijggpahijhpeaa.Byt
open Go.Proofs.Ytijggpahijhpeaa.Arp (Mem RdM OwnM mcells)
open Go.Proofs.Ytijggpahijhpeaa.Arw (core MOk rdM_own)

theorem insM_core (xs : List Mem) (k : Nat) (m : Mem) : (insM xs k m).map core = insM (xs.map core) k (core m) := by
  unfold insM
  rw [List.map_append, List.map_cons, List.map_take, List.map_drop]
theorem delM_core (xs : List Mem) (k : Nat) : (delM xs k).map core = delM (xs.map core) k := by
  unfold delM
  rw [List.map_append, List.map_take, List.map_drop]
theorem delM_length {xs : List Mem} {k : Nat} (h : k < xs.length) : (delM xs k).length = xs.length - 1 := by
  unfold delM
  rw [List.length_append, List.length_take, List.length_drop]
  omega
/-- What Replace gives. -/
def repE (xs : List Mem) (m : Mem) (mode : Int) (a : ByteArray) : List Mem × Int :=
  if (plN xs mode a).2 ≠ 0 then (xs, (plN xs mode a).2) else match findN xs m.name with
    | some i => (insM (delM xs i) i m, 0)
    | none => (insM xs (plN xs mode a).1 m, 0)
theorem repE_bad {xs : List Mem} {m : Mem} {mode : Int} {a : ByteArray} (h : (plN xs mode a).2 ≠ 0) : repE xs m mode a = (xs, (plN xs mode a).2) := by unfold repE; rw [if_pos h]
theorem repE_some {xs : List Mem} {m : Mem} {mode : Int} {a : ByteArray} {i : Nat} (h : (plN xs mode a).2 = 0) (hf : findN xs m.name = some i) : repE xs m mode a = (insM (delM xs i) i m, 0) := by unfold repE; rw [if_neg (by simp [h]), hf]
theorem repE_none {xs : List Mem} {m : Mem} {mode : Int} {a : ByteArray} (h : (plN xs mode a).2 = 0) (hf : findN xs m.name = none) : repE xs m mode a = (insM xs (plN xs mode a).1 m, 0) := by unfold repE; rw [if_neg (by simp [h]), hf]

set_option linter.unusedSimpArgs false in
set_option maxRecDepth 100000 in
set_option maxHeartbeats 4000000 in
theorem rreplace_any (K : Nat) (A : Option Addr) (n c : Nat) (xs : List Mem) (m : Mem) (mode : Int) (a : ByteArray) (w : World) (h : RdM w K A n xs) (hK : K ≤ w.heap.size) (hok : ∀ x ∈ xs, MOk x) (hn : n ≤ 300) (hm : MOk m) (hmr : Byt.Rd w K m.ptr m.len m.data) :
    Calls Try.prog 12 #[.slice A n c, m.val, plaV mode a] w (CopiesE (repE xs m mode a).1 (repE xs m mode a).2 w) := by
  have Hl := hid h.1
  have hbm := (Below.refl w.heap.size w).alloc (Nat.le_refl _) (.cells #[.string m.name, .int .i64 m.time, .int .i64 m.uid, .int .i64 m.gid, .int .i64 m.mode, .slice m.ptr m.len m.cap] 25)
  have hrm := heap_alloc_new w (.cells #[.string m.name, .int .i64 m.time, .int .i64 m.uid, .int .i64 m.gid, .int .i64 m.mode, .slice m.ptr m.len m.cap] 25)
  have hsm := World.size_alloc w (.cells #[.string m.name, .int .i64 m.time, .int .i64 m.uid, .int .i64 m.gid, .int .i64 m.mode, .slice m.ptr m.len m.cap] 25)
  have HP := hid fun (W : World) (hW : Below w.heap.size w W) => rplace_any K A n c xs mode a W (h.below (hW.mono hK)) (Nat.le_trans hK hW.size) (by omega)
  have HF := hid fun (W : World) (hW : Below w.heap.size w W) => rfind_any K A n c xs m.name W (h.below (hW.mono hK)) (Nat.le_trans hK hW.size) (by omega)
  have HC := hid fun (W : World) (hW : Below w.heap.size w W) => rcopyL_any K A n c xs W (h.below (hW.mono hK)) (Nat.le_trans hK hW.size) hok (by omega)
  have HD := hid fun (W : World) (hW : Below w.heap.size w W) (i : Nat) => rwithout_any K A n c xs i W (h.below (hW.mono hK)) (Nat.le_trans hK hW.size) hok hn
  have HI := hid fun (W : World) (hW : Below w.heap.size w W) (i : Nat) (hi : i ≤ n) => rinsert_any K A n c xs i m W (h.below (hW.mono hK)) (Nat.le_trans hK hW.size) hok hn hi hm (hmr.below (hW.mono hK))
  have HMr := hid fun (W : World) (hW : Below w.heap.size w W) => hmr.below (hW.mono hK)
  have Hm := hid hm
  have HE1 := hid (repE_bad (xs := xs) (m := m) (mode := mode) (a := a))
  have HE2 := hid fun (i : Nat) => repE_some (xs := xs) (m := m) (mode := mode) (a := a) (i := i)
  have HE3 := hid (repE_none (xs := xs) (m := m) (mode := mode) (a := a))
  obtain ⟨m0, m1, m2, m3, m4, m5, m6, m7, m8⟩ := m
  simp only [Mem.val] at HI ⊢
  simp only at hbm hrm hsm HI HF HMr
  unfold plaV at HP ⊢
  clear h hm hmr
  go_enter Try.func12, Try.ntmps12
  have hrp := heap_alloc_new (w.alloc (.cells #[.string m0, .int .i64 m1, .int .i64 m2, .int .i64 m3, .int .i64 m4, .slice m5 m6 m7] 25)) (.cells #[.int .i64 mode, .string a] 27)
  have hbp := (Below.refl (w.alloc (.cells #[.string m0, .int .i64 m1, .int .i64 m2, .int .i64 m3, .int .i64 m4, .slice m5 m6 m7] 25)).heap.size (w.alloc (.cells #[.string m0, .int .i64 m1, .int .i64 m2, .int .i64 m3, .int .i64 m4, .slice m5 m6 m7] 25))).alloc (Nat.le_refl _) (.cells #[.int .i64 mode, .string a] 27)
  have hsp := World.size_alloc (w.alloc (.cells #[.string m0, .int .i64 m1, .int .i64 m2, .int .i64 m3, .int .i64 m4, .slice m5 m6 m7] 25)) (.cells #[.int .i64 mode, .string a] 27)
  go_upto_region 1 with fail
  rw [hsm] at hrp hsp
  have hB2 := hbm.trans (hbp.mono hbm.size)
  have hrm2 := (hbp.block w.heap.size (by omega)).trans hrm
  generalize (w.alloc (.cells #[.string m0, .int .i64 m1, .int .i64 m2, .int .i64 m3, .int .i64 m4, .slice m5 m6 m7] 25)).alloc (.cells #[.int .i64 mode, .string a] 27) = w2 at *
  have HB2 := hid hB2
  obtain ⟨g, hg⟩ : ∃ g, w.heap.size = g := ⟨_, rfl⟩
  have hg2 : g + 1 < w2.heap.size := by omega
  rw [hg] at hrm2 hrp
  try rw [hg]
  have HRm := hid hrm2
  have d0 := cell_of_row _ (g + 1) 0 _ _ _ hrp
  have d1 := cell_of_row _ (g + 1) 1 _ _ _ hrp
  clear hbm hrm hsm hrp hbp hsp hB2 hrm2
  go_wp2_with fail
  refine (HP.out w2 HB2.out).mono ?_
  rintro e w3 ⟨rfl, hb3⟩
  have HB3 := hid (HB2.out.trans (hb3.mono HB2.out.size))
  have HRm3 := hid ((hb3.block g (by omega)).trans HRm.out)
  have hg3 : g < w3.heap.size := by have := hb3.size; omega
  have hple : (plN xs mode a).1 ≤ n := by have := plN_le (xs := xs) (mode := mode) (a := a); have := Hl.out; omega
  clear hb3 d0 d1 HRm
  generalize (plN xs mode a).1 = pk at *
  generalize (plN xs mode a).2 = pz at *
  by_cases hz : ¬ pz = 0
  · have hzb : (pz != 0) = true := by simpa using hz
    have HE := hid (HE1.out hz)
    have HC3 := hid (HC.out w3 HB3.out)
    clear hz HE1 HE2 HE3
    go_wp2_with fail
    refine HC3.out.mono ?_
    rintro e w4 ⟨A2, n2, c2, ys, rfl, o2, dd2, hc2, hs2, hb4⟩
    have k3 := HB3.out.size
    go_wp2_with fail
    exact bodyPost_ret (v := .tuple #[.slice A2 n2 c2, .int .i64 pz]) (by simp [results, Try.results12, asAddr]) rfl ⟨A2, n2, c2, ys, by rw [HE.out], o2.more k3, fun y hy => (dd2 y hy).more k3, by rw [HE.out]; exact hc2, hs2, HB3.out.trans (hb4.mono k3)⟩
  have hz0 := Decidable.not_not.1 hz
  have hzb : (pz != 0) = false := by rw [hz0]; rfl
  have HE2' := hid fun (i : Nat) (q : findN xs m0 = some i) => HE2.out i hz0 q
  have HE3' := hid fun (q : findN xs m0 = none) => HE3.out hz0 q
  clear hz hz0 HE1 HE2 HE3
  have d0 := cell_of_row _ g 0 _ _ _ HRm3.out
  go_wp2_with fail
  refine (HF.out w3 HB3.out).mono ?_
  rintro e w4 ⟨rfl, hb4⟩
  have HB4 := hid (HB3.out.trans (hb4.mono HB3.out.size))
  have HRm4 := hid ((hb4.block g hg3).trans HRm3.out)
  have hg4 : g < w4.heap.size := by have := hb4.size; omega
  have k4 := HB4.out.size
  clear hb4 d0 HRm3
  have d0 := cell_of_row _ g 0 _ _ _ HRm4.out
  have d1 := cell_of_row _ g 1 _ _ _ HRm4.out
  have d2 := cell_of_row _ g 2 _ _ _ HRm4.out
  have d3 := cell_of_row _ g 3 _ _ _ HRm4.out
  have d4 := cell_of_row _ g 4 _ _ _ HRm4.out
  have d5 := cell_of_row _ g 5 _ _ _ HRm4.out
  cases hf : findN xs m0 with
  | none =>
    have hfi : findI xs m0 = -1 := by unfold findI; rw [hf]
    have HE := hid (HE3'.out hf)
    rw [hfi]
    have HI4 := hid (HI.out w4 HB4.out pk hple)
    clear hf hfi HE2' HE3'
    go_wp2_with fail
    refine HI4.out.mono ?_
    rintro e w5 ⟨A2, n2, c2, ys, rfl, o2, dd2, hc2, hs2, hb5⟩
    go_wp2_with fail
    exact bodyPost_ret (v := .tuple #[.slice A2 n2 c2, .int .i64 0]) (by simp [results, Try.results12, asAddr]) rfl ⟨A2, n2, c2, ys, by rw [HE.out], o2.more k4, fun y hy => (dd2 y hy).more k4, by rw [HE.out]; exact hc2, hs2, HB4.out.trans (hb5.mono k4)⟩
  | some i =>
    have hfi : findI xs m0 = (i : Int) := by unfold findI; rw [hf]
    have HE := hid (HE2'.out i hf)
    rw [hfi]
    have hil : i < n := by have := (findN_lt hf).1; have := Hl.out; omega
    have hi0 : (0 : Int) ≤ (i : Int) := by omega
    have hbd : Below w4.heap.size w4 w4.drew := (Below.refl _ _).drew
    clear hf hfi HE2' HE3'
    go_wp2_with fail
    clear d0 d1 d2 d3 d4 d5
    have hS : (fun W' => W'.cell? ⟨g, 0, none⟩ = some (.string m0) ∧ W'.cell? ⟨g, 1, none⟩ = some (.int .i64 m1) ∧ W'.cell? ⟨g, 2, none⟩ = some (.int .i64 m2) ∧ W'.cell? ⟨g, 3, none⟩ = some (.int .i64 m3) ∧ W'.cell? ⟨g, 4, none⟩ = some (.int .i64 m4) ∧ W'.cell? ⟨g, 5, none⟩ = some (.slice m5 m6 m7)) w4.drew := ⟨cell_of_row _ g 0 _ _ _ ((hbd.block g hg4).trans HRm4.out), cell_of_row _ g 1 _ _ _ ((hbd.block g hg4).trans HRm4.out), cell_of_row _ g 2 _ _ _ ((hbd.block g hg4).trans HRm4.out), cell_of_row _ g 3 _ _ _ ((hbd.block g hg4).trans HRm4.out), cell_of_row _ g 4 _ _ _ ((hbd.block g hg4).trans HRm4.out), cell_of_row _ g 5 _ _ _ ((hbd.block g hg4).trans HRm4.out)⟩
    refine Ord.Till.begin (fun W' => W'.cell? ⟨g, 0, none⟩ = some (.string m0) ∧ W'.cell? ⟨g, 1, none⟩ = some (.int .i64 m1) ∧ W'.cell? ⟨g, 2, none⟩ = some (.int .i64 m2) ∧ W'.cell? ⟨g, 3, none⟩ = some (.int .i64 m3) ∧ W'.cell? ⟨g, 4, none⟩ = some (.int .i64 m4) ∧ W'.cell? ⟨g, 5, none⟩ = some (.slice m5 m6 m7)) 60 (by kernel_rfl) ?_
    generalize w4.drew = wd at *
    refine Ord.Till.take' 0 (some 28) (oi := _) (x := ?_) rfl rfl (by kernel_rfl) (by kernel_rfl) (by kernel_rfl) (by kernel_rfl) (fun _ _ _ h => h) (by kernel_rfl) ?_ hS ?_
    rotate_left 1
    · intro v hv; obtain ⟨z0, z1, z2, z3, z4, z5⟩ := hv; go_simp; first | done | with_reducible rfl
    try simp only [List.getElem_toArray, List.getElem_cons_zero, List.getElem_cons_succ, Act.put, List.setIfInBounds_toArray, List.set_cons_zero, List.set_cons_succ]
    refine Ord.Till.take' 1 (some 29) (oi := _) (x := ?_) rfl rfl (by kernel_rfl) (by kernel_rfl) (by kernel_rfl) (by kernel_rfl) (fun _ _ _ h => h) (by kernel_rfl) ?_ hS ?_
    rotate_left 1
    · intro v hv; obtain ⟨z0, z1, z2, z3, z4, z5⟩ := hv; go_simp; first | done | with_reducible rfl
    try simp only [List.getElem_toArray, List.getElem_cons_zero, List.getElem_cons_succ, Act.put, List.setIfInBounds_toArray, List.set_cons_zero, List.set_cons_succ]
    refine Ord.Till.take' 3 (some 31) (oi := _) (x := ?_) rfl rfl (by kernel_rfl) (by kernel_rfl) (by kernel_rfl) (by kernel_rfl) (fun _ _ _ h => h) (by kernel_rfl) ?_ hS ?_
    rotate_left 1
    · intro v hv; obtain ⟨z0, z1, z2, z3, z4, z5⟩ := hv; go_simp; first | done | with_reducible rfl
    try simp only [List.getElem_toArray, List.getElem_cons_zero, List.getElem_cons_succ, Act.put, List.setIfInBounds_toArray, List.set_cons_zero, List.set_cons_succ]
    refine Ord.Till.take' 4 (some 32) (oi := _) (x := ?_) rfl rfl (by kernel_rfl) (by kernel_rfl) (by kernel_rfl) (by kernel_rfl) (fun _ _ _ h => h) (by kernel_rfl) ?_ hS ?_
    rotate_left 1
    · intro v hv; obtain ⟨z0, z1, z2, z3, z4, z5⟩ := hv; go_simp; first | done | with_reducible rfl
    try simp only [List.getElem_toArray, List.getElem_cons_zero, List.getElem_cons_succ, Act.put, List.setIfInBounds_toArray, List.set_cons_zero, List.set_cons_succ]
    refine Ord.Till.step 2 (by kernel_rfl) rfl (fun C hC => ?_)
    go_simp
    go_at_call 36
    refine (HD.out _ (HB4.out.trans (hbd.mono k4)) i).mono ?_
    rintro e w5 ⟨A2, n2, c2, ys, rfl, o2, dd2, hc2, hs2, hb5⟩
    have hb45 := hbd.trans (hb5.mono hbd.size)
    have hR5 := rdM_own o2 dd2 hs2
    obtain ⟨_, _, e5, _, h5a, h5b⟩ := o2.reads
    injection e5 with e51 _ e53
    subst e51 e53
    have k5 := hb45.size
    clear hS hb5 hbd o2 dd2
    have hS : (fun W' => W'.cell? ⟨g, 0, none⟩ = some (.string m0) ∧ W'.cell? ⟨g, 1, none⟩ = some (.int .i64 m1) ∧ W'.cell? ⟨g, 2, none⟩ = some (.int .i64 m2) ∧ W'.cell? ⟨g, 3, none⟩ = some (.int .i64 m3) ∧ W'.cell? ⟨g, 4, none⟩ = some (.int .i64 m4) ∧ W'.cell? ⟨g, 5, none⟩ = some (.slice m5 m6 m7)) w5 := ⟨cell_of_row _ g 0 _ _ _ ((hb45.block g hg4).trans HRm4.out), cell_of_row _ g 1 _ _ _ ((hb45.block g hg4).trans HRm4.out), cell_of_row _ g 2 _ _ _ ((hb45.block g hg4).trans HRm4.out), cell_of_row _ g 3 _ _ _ ((hb45.block g hg4).trans HRm4.out), cell_of_row _ g 4 _ _ _ ((hb45.block g hg4).trans HRm4.out), cell_of_row _ g 5 _ _ _ ((hb45.block g hg4).trans HRm4.out)⟩
    go_wp2_with fail
    refine hC.out _ _ (fun _ => hS) ?_
    clear hC C
    try simp only [List.getElem_toArray, List.getElem_cons_zero, List.getElem_cons_succ, Act.put, List.setIfInBounds_toArray, List.set_cons_zero, List.set_cons_succ]
    refine Ord.Till.step 5 (by kernel_rfl) rfl (fun C hC => ?_)
    go_simp
    go_at_call 35
    refine ((rinsert_any w5.heap.size A2 n2 c2 ys i ⟨m0, m1, m2, m3, m4, m5, m6, m7, m8⟩ w5 hR5 (Nat.le_refl _) (Arw.core_mok hc2 (fun x hx => hok x (delM_sub hx))) (by have h1 := Arw.core_len hc2; have h2 := hR5.1; have h3 := delM_len (xs := xs) (at_ := i); have := Hl.out; omega) (by have h1 := Arw.core_len hc2; have h2 := hR5.1; have h3 := delM_length (xs := xs) (k := i) (by rw [Hl.out]; exact hil); have := Hl.out; omega) Hm.out ((HMr.out w5 (HB4.out.trans (hb45.mono k4))).more (by omega)))).mono ?_
    rintro e w6 ⟨A3, n3, c3, zs, rfl, o3, dd3, hc3, hs3, hb6⟩
    have hb46 := hb45.trans (hb6.mono k5)
    have HO3 := hid o3
    have HD3 := hid dd3
    have HC3 : Hid (zs.map core = (insM (delM xs i) i ⟨m0, m1, m2, m3, m4, m5, m6, m7, m8⟩).map core) := hid (by rw [hc3, insM_core, insM_core, hc2])
    have HS3 := hid hs3
    clear hS hb6 hb45 o3 dd3 hc3 hs3 hR5
    have hS : (fun W' => W'.cell? ⟨g, 0, none⟩ = some (.string m0) ∧ W'.cell? ⟨g, 1, none⟩ = some (.int .i64 m1) ∧ W'.cell? ⟨g, 2, none⟩ = some (.int .i64 m2) ∧ W'.cell? ⟨g, 3, none⟩ = some (.int .i64 m3) ∧ W'.cell? ⟨g, 4, none⟩ = some (.int .i64 m4) ∧ W'.cell? ⟨g, 5, none⟩ = some (.slice m5 m6 m7)) w6 := ⟨cell_of_row _ g 0 _ _ _ ((hb46.block g hg4).trans HRm4.out), cell_of_row _ g 1 _ _ _ ((hb46.block g hg4).trans HRm4.out), cell_of_row _ g 2 _ _ _ ((hb46.block g hg4).trans HRm4.out), cell_of_row _ g 3 _ _ _ ((hb46.block g hg4).trans HRm4.out), cell_of_row _ g 4 _ _ _ ((hb46.block g hg4).trans HRm4.out), cell_of_row _ g 5 _ _ _ ((hb46.block g hg4).trans HRm4.out)⟩
    go_wp2_with fail
    refine hC.out _ _ (fun _ => hS) ?_
    clear hC C
    try simp only [List.getElem_toArray, List.getElem_cons_zero, List.getElem_cons_succ, Act.put, List.setIfInBounds_toArray, List.set_cons_zero, List.set_cons_succ]
    refine Ord.Till.step 6 (by kernel_rfl) rfl (fun C hC => ?_)
    go_simp
    refine hC.out _ _ (fun _ => hS) ?_
    clear hC C
    try simp only [List.getElem_toArray, List.getElem_cons_zero, List.getElem_cons_succ, Act.put, List.setIfInBounds_toArray, List.set_cons_zero, List.set_cons_succ]
    refine Ord.Till.step 7 (by kernel_rfl) rfl (fun C hC => ?_)
    go_simp
    refine hC.out _ _ (fun _ => hS) ?_
    clear hC C
    try simp only [List.getElem_toArray, List.getElem_cons_zero, List.getElem_cons_succ, Act.put, List.setIfInBounds_toArray, List.set_cons_zero, List.set_cons_succ]
    refine Ord.Till.done (by kernel_rfl) ?_ _
    clear hS
    go_wp2_with fail
    exact bodyPost_ret (v := .tuple #[.slice A3 n3 c3, .int .i64 0]) (by simp [results, Try.results12, asAddr]) rfl ⟨A3, n3, c3, zs, by rw [HE.out], HO3.out.more (by omega), fun y hy => (HD3.out y hy).more (by omega), by rw [HE.out]; exact HC3.out, HS3.out, HB4.out.trans (hb46.mono k4)⟩
end Go.Proofs.Ytijggpahijhpeaa.Edt

namespace Go.Proofs.Ytijggpahijhpeaa.Edt
open Go.RowKit Go.Proofs Go.Proofs.Ytijggpahijhpeaa.Byt
open Go.Proofs.Ytijggpahijhpeaa.Arp (Mem RdM OwnM mcells)
open Go.Proofs.Ytijggpahijhpeaa.Arw (core MOk rdM_own)

/-- What Move gives. -/
def movE (xs : List Mem) (s : ByteArray) (mode : Int) (a : ByteArray) : List Mem × Int :=
  if mode < 0 ∨ 2 < mode then (xs, 13) else match findN xs s with
    | none => (xs, 10)
    | some i => if (plN (delM xs i) mode a).2 ≠ 0 then (xs, (plN (delM xs i) mode a).2) else match xs[i]? with
      | some x => (insM (delM xs i) (plN (delM xs i) mode a).1 x, 0)
      | none => (xs, 10)
theorem movE_13 {xs : List Mem} {s : ByteArray} {mode : Int} {a : ByteArray} (h : mode < 0 ∨ 2 < mode) : movE xs s mode a = (xs, 13) := by unfold movE; rw [if_pos h]
theorem movE_10 {xs : List Mem} {s : ByteArray} {mode : Int} {a : ByteArray} (h : ¬ (mode < 0 ∨ 2 < mode)) (hf : findN xs s = none) : movE xs s mode a = (xs, 10) := by unfold movE; rw [if_neg h, hf]
theorem movE_pl {xs : List Mem} {s : ByteArray} {mode : Int} {a : ByteArray} {i : Nat} (h : ¬ (mode < 0 ∨ 2 < mode)) (hf : findN xs s = some i) (hz : (plN (delM xs i) mode a).2 ≠ 0) : movE xs s mode a = (xs, (plN (delM xs i) mode a).2) := by
  unfold movE; rw [if_neg h, hf]; exact if_pos hz
theorem movE_ok {xs : List Mem} {s : ByteArray} {mode : Int} {a : ByteArray} {i : Nat} (h : ¬ (mode < 0 ∨ 2 < mode)) (hf : findN xs s = some i) (hz : (plN (delM xs i) mode a).2 = 0) (hi : i < xs.length) : movE xs s mode a = (insM (delM xs i) (plN (delM xs i) mode a).1 xs[i], 0) := by
  unfold movE
  rw [if_neg h, hf]
  show (if _ then _ else _) = _
  rw [if_neg (by simp [hz]), List.getElem?_eq_getElem hi]

set_option linter.unusedSimpArgs false in
set_option maxRecDepth 100000 in
set_option maxHeartbeats 4000000 in
theorem rmove_any (K : Nat) (A : Option Addr) (n c : Nat) (xs : List Mem) (s : ByteArray) (mode : Int) (a : ByteArray) (w : World) (h : RdM w K A n xs) (hK : K ≤ w.heap.size) (hok : ∀ x ∈ xs, MOk x) (hn : n ≤ 300) :
    Calls Try.prog 19 #[.slice A n c, .string s, plaV mode a] w (CopiesE (movE xs s mode a).1 (movE xs s mode a).2 w) := by
  have Hl := hid h.1
  have H := hid h
  have hrp := heap_alloc_new w (.cells #[.int .i64 mode, .string a] 27)
  have hbp := (Below.refl w.heap.size w).alloc (Nat.le_refl _) (.cells #[.int .i64 mode, .string a] 27)
  have hsp := World.size_alloc w (.cells #[.int .i64 mode, .string a] 27)
  have HF := hid fun (W : World) (hW : Below w.heap.size w W) => rfind_any K A n c xs s W (h.below (hW.mono hK)) (Nat.le_trans hK hW.size) (by omega)
  have HC := hid fun (W : World) (hW : Below w.heap.size w W) => rcopyL_any K A n c xs W (h.below (hW.mono hK)) (Nat.le_trans hK hW.size) hok (by omega)
  have HD := hid fun (W : World) (hW : Below w.heap.size w W) (i : Nat) => rwithout_any K A n c xs i W (h.below (hW.mono hK)) (Nat.le_trans hK hW.size) hok hn
  unfold plaV
  clear h
  go_enter Try.func19, Try.ntmps19
  go_upto_region 1 with fail
  generalize w.alloc (.cells #[.int .i64 mode, .string a] 27) = w1 at *
  have HB1 := hid hbp
  obtain ⟨g, hg⟩ : ∃ g, w.heap.size = g := ⟨_, rfl⟩
  have hg1 : g < w1.heap.size := by omega
  rw [hg] at hrp
  rw [hg]
  have HR := hid hrp
  have d0 := cell_of_row _ g 0 _ _ _ hrp
  have hk1 := hbp.size
  clear hrp hbp hsp
  by_cases hm : mode < 0 ∨ 2 < mode
  · have HE := hid (movE_13 (xs := xs) (s := s) (a := a) hm)
    have HC1 := hid (HC.out w1 HB1.out)
    rcases hm with hm | hm
    · go_wp2_with fail
      refine HC1.out.mono ?_
      rintro e w4 ⟨A2, n2, c2, ys, rfl, o2, dd2, hc2, hs2, hb4⟩
      go_wp2_with fail
      exact bodyPost_ret (v := .tuple #[.slice A2 n2 c2, .int .i64 13]) (by simp [results, Try.results19, asAddr]) rfl ⟨A2, n2, c2, ys, by rw [HE.out], o2.more hk1, fun y hy => (dd2 y hy).more hk1, by rw [HE.out]; exact hc2, hs2, HB1.out.trans (hb4.mono hk1)⟩
    · have hm0 : ¬ mode < 0 := by omega
      go_wp2_with fail
      refine HC1.out.mono ?_
      rintro e w4 ⟨A2, n2, c2, ys, rfl, o2, dd2, hc2, hs2, hb4⟩
      go_wp2_with fail
      exact bodyPost_ret (v := .tuple #[.slice A2 n2 c2, .int .i64 13]) (by simp [results, Try.results19, asAddr]) rfl ⟨A2, n2, c2, ys, by rw [HE.out], o2.more hk1, fun y hy => (dd2 y hy).more hk1, by rw [HE.out]; exact hc2, hs2, HB1.out.trans (hb4.mono hk1)⟩
  have Hm := hid hm
  have hm0 : ¬ mode < 0 := fun q => hm (.inl q)
  have hm2 : ¬ 2 < mode := fun q => hm (.inr q)
  clear hm
  go_wp2_with fail
  refine (HF.out w1 HB1.out).mono ?_
  rintro e w2 ⟨rfl, hb2⟩
  have HB2 := hid (HB1.out.trans (hb2.mono hk1))
  have HR2 := hid ((hb2.block g hg1).trans HR.out)
  have hg2 : g < w2.heap.size := by have := hb2.size; omega
  have hk2 := HB2.out.size
  clear hb2 d0 HR
  cases hf : findN xs s with
  | none =>
    have hfi : findI xs s = -1 := by unfold findI; rw [hf]
    have HE := hid (movE_10 (a := a) Hm.out hf)
    rw [hfi]
    have HC2 := hid (HC.out w2 HB2.out)
    clear hf hfi
    go_wp2_with fail
    refine HC2.out.mono ?_
    rintro e w4 ⟨A2, n2, c2, ys, rfl, o2, dd2, hc2, hs2, hb4⟩
    go_wp2_with fail
    exact bodyPost_ret (v := .tuple #[.slice A2 n2 c2, .int .i64 10]) (by simp [results, Try.results19, asAddr]) rfl ⟨A2, n2, c2, ys, by rw [HE.out], o2.more hk2, fun y hy => (dd2 y hy).more hk2, by rw [HE.out]; exact hc2, hs2, HB2.out.trans (hb4.mono hk2)⟩
  | some i =>
    have hfi : findI xs s = (i : Int) := by unfold findI; rw [hf]
    have Hf := hid hf
    rw [hfi]
    have hil : i < n := by have := (findN_lt hf).1; have := Hl.out; omega
    have hixs : i < xs.length := by have := Hl.out; omega
    have hi0 : ¬ (i : Int) < 0 := by omega
    have hii : (i : Int) < (n : Int) := by omega
    have HD2 := hid (HD.out w2 HB2.out i)
    clear hf hfi
    go_wp2_with fail
    refine HD2.out.mono ?_
    rintro e w3 ⟨A2, n2, c2, ys, rfl, o2, dd2, hc2, hs2, hb3⟩
    have HB3 := hid (HB2.out.trans (hb3.mono hk2))
    have HR3 := hid ((hb3.block g hg2).trans HR2.out)
    have hg3 : g < w3.heap.size := by have := hb3.size; omega
    have hk3 := HB3.out.size
    have hRy := rdM_own o2 dd2 hs2
    have hyl : n2 = n - 1 := by
      have h1 := Arw.core_len hc2
      have h2 := hRy.1
      have h3 := delM_length hixs
      have := Hl.out
      omega
    have hyok := Arw.core_mok hc2 (fun x hx => hok x (delM_sub hx))
    have hpl : plN ys mode a = plN (delM xs i) mode a := by rw [← plN_core ys, hc2, plN_core]
    have HPl := hid (rplace_any w3.heap.size A2 n2 c2 ys mode a w3 hRy (Nat.le_refl _) (by omega))
    rw [hpl] at HPl
    unfold plaV at HPl
    have d0 := cell_of_row _ g 0 _ _ _ HR3.out
    have d1 := cell_of_row _ g 1 _ _ _ HR3.out
    have hple : (plN (delM xs i) mode a).1 ≤ n2 := by rw [← hpl]; have := plN_le (xs := ys) (mode := mode) (a := a); have := hRy.1; omega
    have HE1 := hid (movE_pl (xs := xs) (s := s) (a := a) Hm.out Hf.out)
    have HE2 := hid fun q => movE_ok (xs := xs) (s := s) (a := a) Hm.out Hf.out q hixs
    obtain ⟨pk, hpk⟩ : ∃ pk, (plN (delM xs i) mode a).1 = pk := ⟨_, rfl⟩
    obtain ⟨pz, hpz⟩ : ∃ pz, (plN (delM xs i) mode a).2 = pz := ⟨_, rfl⟩
    rw [hpk, hpz] at HPl
    rw [hpk] at HE2 hple
    rw [hpz] at HE1 HE2
    have HRy := hid hRy
    have Hc2 := hid hc2
    clear hb3 HR2 HD2 hpl hpk hpz o2 dd2 hRy hc2 hyl
    go_wp2_with fail
    refine HPl.out.mono ?_
    rintro e w4 ⟨rfl, hb4⟩
    have HB4 := hid (HB3.out.trans (hb4.mono hk3))
    have hk4 := HB4.out.size
    have HRy4 := hid ((HRy.out.below hb4).more hb4.size)
    clear hb4 d0 d1 HPl HRy
    by_cases hz : ¬ pz = 0
    · have hzb : (pz != 0) = true := by simpa using hz
      have HE := hid (HE1.out hz)
      have HC4 := hid (HC.out w4 HB4.out)
      clear hz HE1 HE2
      go_wp2_with fail
      refine HC4.out.mono ?_
      rintro e w5 ⟨A3, n3, c3, zs, rfl, o3, dd3, hc3, hs3, hb5⟩
      go_wp2_with fail
      exact bodyPost_ret (v := .tuple #[.slice A3 n3 c3, .int .i64 pz]) (by simp [results, Try.results19, asAddr]) rfl ⟨A3, n3, c3, zs, by rw [HE.out], o3.more hk4, fun y hy => (dd3 y hy).more hk4, by rw [HE.out]; exact hc3, hs3, HB4.out.trans (hb5.mono hk4)⟩
    have hz0 := Decidable.not_not.1 hz
    have hzb : (pz != 0) = false := by rw [hz0]; rfl
    have HE := hid (HE2.out hz0)
    obtain ⟨⟨b, o, rfl, hbK, hcell⟩, hxd, _⟩ := (H.out.below (HB4.out.mono hK)).2 i hixs
    have hxo := hok _ (List.getElem_mem hixs)
    have HI := hid (rinsert_any w4.heap.size A2 n2 c2 ys pk xs[i] w4 HRy4.out (Nat.le_refl _) hyok (by have h1 := Arw.core_len Hc2.out; have h2 := HRy4.out.1; have h3 := delM_len (xs := xs) (at_ := i); have := Hl.out; omega) hple hxo (hxd.more (by omega)))
    clear hz hz0 HE1 HE2 hxd hxo hyok
    have Hcc : Hid (∀ zs : List Mem, zs.map core = (insM ys pk xs[i]).map core → zs.map core = (insM (delM xs i) pk xs[i]).map core) := hid fun zs q => by rw [q, insM_core, insM_core, Hc2.out]
    generalize xs[i] = x at *
    obtain ⟨x0, x1, x2, x3, x4, x5, x6, x7, x8⟩ := x
    obtain ⟨p0, p1, p2, p3, p4, p5⟩ := hcell
    simp only [Mem.val] at HI
    simp only at p0 p1 p2 p3 p4 p5
    go_wp2_with fail
    refine HI.out.mono ?_
    rintro e w5 ⟨A3, n3, c3, zs, rfl, o3, dd3, hc3, hs3, hb5⟩
    go_wp2_with fail
    exact bodyPost_ret (v := .tuple #[.slice A3 n3 c3, .int .i64 0]) (by simp [results, Try.results19, asAddr]) rfl ⟨A3, n3, c3, zs, by rw [HE.out], o3.more hk4, fun y hy => (dd3 y hy).more hk4, by rw [HE.out]; exact Hcc.out zs hc3, hs3, HB4.out.trans (hb5.mono hk4)⟩
end Go.Proofs.Ytijggpahijhpeaa.Edt

namespace Go.Proofs.Ytijggpahijhpeaa.Edt
open Go.RowKit Go.Proofs Go.Proofs.Ytijggpahijhpeaa.Byt
open Go.Proofs.Ytijggpahijhpeaa.Arp (Mem RdM OwnM mcells)

def namesL (xs : List Mem) : List ByteArray := xs.map (·.name)
/-- Names that the call has made a list of. -/
def ListP (xs : List Mem) (w : World) (e : Ending) (w' : World) : Prop :=
  ∃ A n c, e = .returned (.slice A n c) ∧ Sls.Own w' w.heap.size (.slice A n c) n (namesL xs) ∧ Below w.heap.size w w'

set_option linter.unusedSimpArgs false in
set_option maxRecDepth 100000 in
set_option maxHeartbeats 2000000 in
theorem rlist_any (K : Nat) (A : Option Addr) (n c : Nat) (xs : List Mem) (w : World) (h : RdM w K A n xs) (hK : K ≤ w.heap.size) (hn : n ≤ 1000) :
    Calls Try.prog 25 #[.slice A n c] w (ListP xs w) := by
  have Hl := hid h.1
  go_enter Try.func25, Try.ntmps25
  go_wp2_with fail
  go_loopw [3, 4] (fun v iv W => ∃ (k : Nat) (A1 : Option Addr) (c1 : Nat), iv = .int .i64 (k : Int) ∧ k ≤ n ∧ v = .slice A1 k c1 ∧ Sls.Own W w.heap.size (.slice A1 k c1) k (namesL (xs.take k)) ∧ Below w.heap.size w W) (fun _ iv _ => n - (intOf iv).toNat)
  case atStart => exact ⟨0, none, 0, rfl, by omega, rfl, Sls.Own.nil _ _, Below.refl _ _⟩
  case round =>
    obtain ⟨k, A1, c1, rfl, hk, rfl, hO, hb⟩ := hrel
    by_cases hlt : k < n
    · have hkl : k < xs.length := by have := Hl.out; omega
      have hki : (k : Int) < (n : Int) := by omega
      obtain ⟨⟨b, o, rfl, hbK, hcell⟩, _, _⟩ := (h.below (hb.mono hK)).2 k hkl
      have c0 := hcell.1
      have HT : Hid (namesL (xs.take (k + 1)) = namesL (xs.take k) ++ [xs[k].name]) := hid (by unfold namesL; rw [List.take_succ_eq_append_getElem hkl, List.map_append]; rfl)
      have hbs := hb.size
      generalize xs[k].name = nm at *
      clear hcell
      go_wp2_with (at_builtin; refine Sls.wpList_push wr w.heap.size (.slice A1 k c1) k (namesL (xs.take k)) nm hO hbs (by omega) rfl (.tmp 11) (.tmp 17) rfl rfl rfl ?_; intro v4 w4 ho4 hb4 _ _; obtain ⟨A4, c4, rfl, _⟩ := ho4.reads)
      have ho4' : Sls.Own w4 w.heap.size (.slice A4 (k + 1) c4) (k + 1) (namesL (xs.take (k + 1))) := by rw [HT.out]; exact ho4
      have hb04 := hb.trans hb4
      clear ho4 hb4 hO hb c0
      go_roundw
      · exact ⟨k + 1, A4, c4, by go_num, by omega, rfl, ho4', hb04⟩
      · simp [intOf]; omega
    · obtain rfl : k = n := by omega
      have hki : ¬ (k : Int) < (k : Int) := by omega
      have hT : xs.take k = xs := List.take_of_length_le (by have := Hl.out; omega)
      rw [hT] at hO
      clear hT
      go_wp2_with fail
      go_ret
      exact ⟨A1, k, c1, rfl, hO, hb⟩
end Go.Proofs.Ytijggpahijhpeaa.Edt
