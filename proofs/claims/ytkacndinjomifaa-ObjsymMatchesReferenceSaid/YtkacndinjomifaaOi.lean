/-
  objsym: Decode.
-/
import Derived.Test.YtkacndinjomifaaOh
namespace Go.Proofs.Ytkacndinjomifaa.Obj
open Go.RowKit Go.Proofs Go.Proofs.Ytkacndinjomifaa.Byt
open Go.Proofs.Ytkacndinjomifaa.Sls (Oth)

theorem decO_eq (l : List UInt8) : decO l = if l.length < 4 then (2, [], []) else if l.take 4 ≠ magic then (1, [], []) else decS (l.drop 4) := by
  unfold decO decS
  rw [List.length_drop, List.drop_drop]
  by_cases h4 : l.length < 4
  · rw [if_pos h4, if_pos h4]
  · rw [if_neg h4, if_neg h4]
    by_cases h8 : l.length < 8
    · rw [if_pos h8, if_pos (show l.length - 4 < 4 by omega)]
    · rw [if_neg h8, if_neg (show ¬ l.length - 4 < 4 by omega)]

theorem assert_yes (k : Int) (w : World) : (Instr.typeAssert (.iface 28 (.int .i64 k)) 20 28 true).run Try.prog w = .ok (.tuple #[.int .i64 k, .bool true]) w := by kernel_rfl
theorem assert_no (w : World) : (Instr.typeAssert .nilIface 20 28 true).run Try.prog w = .ok (.tuple #[.int .i64 0, .bool false]) w := by kernel_rfl

set_option maxRecDepth 100000 in
set_option maxHeartbeats 1000000 in
theorem catch_panicking (p : Addr) (x k : Int) (older : List PanicEntry) (w : World) (hc : w.cell? p = some (.int .i64 x)) (hz : w.frozen? p = false) :
    CallsD Try.prog 22 #[.pointer (some p)] (.panicking ({ v := .iface 28 (.int .i64 k), recovered := false } :: older)) w fun e u' w' =>
      e = .returned (.tuple #[]) ∧ u' = .panicking ({ v := .iface 28 (.int .i64 k), recovered := true } :: older) ∧ w' = w.setCell p (.int .i64 k) := by
  refine callsD_of_wpS Try.func22 rfl fun c₀ cs hu => ?_
  apply wpS_seq
  apply wpS_region
  simp [wpOpsS, go_sem, recoverD, hu, assert_yes, Try.ntmps22, Exit.thenS]
  apply wpS_seq
  apply wpS_region
  simp [wpOpsS, go_sem, Exit.thenS]
  refine wpS_cond (t := true) (by simp [Act.eval, Array.replicate]) ?_
  simp only [if_true]
  apply wpS_region
  simp [wpOpsS, go_sem, hc, hz, bodyPostS, results, Try.results22]

set_option maxRecDepth 100000 in
set_option maxHeartbeats 1000000 in
theorem catch_idle (p : Addr) (w : World) :
    CallsD Try.prog 22 #[.pointer (some p)] .returning w fun e u' w' => e = .returned (.tuple #[]) ∧ u' = .returning ∧ w' = w := by
  refine callsD_of_wpS Try.func22 rfl fun c₀ cs hu => ?_
  apply wpS_seq
  apply wpS_region
  simp [wpOpsS, go_sem, recoverD, hu, assert_no, Try.ntmps22, Exit.thenS]
  apply wpS_seq
  apply wpS_region
  simp [wpOpsS, go_sem, Exit.thenS]
  refine wpS_cond (t := false) (by simp [Act.eval, Array.replicate]) ?_
  simp only [Bool.false_eq_true, if_false]
  refine wpS_of_wp (wp_skip ?_)
  cases c₀
  simp_all [bodyPostS, results, Try.results22]

theorem take_fail0 (w : World) (R n : Nat) (A : Option Addr) (m c : Nat) (hrow : w.heap[R]? = some (.cells #[.slice A m c] 53 (0, 0))) (hn : m < n) :
    Calls Try.prog 30 #[.pointer (some ⟨R, 0, none⟩), .int .i64 (n : Int)] w fun e w' => e = fails 2 ∧ w' = w := by
  have hni : (m : Int) < (n : Int) := by omega
  have c0 := cell_of_row _ R 0 _ _ _ hrow
  unfold fails
  go_enter Try.func30, Try.ntmps30
  go_wp2_with fail
  exact ⟨rfl, rfl, rfl⟩
set_option maxRecDepth 100000 in
theorem magic_fail0 (w : World) (R : Nat) (A : Option Addr) (m c : Nat) (hrow : w.heap[R]? = some (.cells #[.slice A m c] 53 (0, 0))) (hn : m < 4) :
    Calls Try.prog 23 #[.pointer (some ⟨R, 0, none⟩)] w fun e w' => e = fails 2 ∧ w' = w := by
  have H := hid (take_fail0 w R 4 A m c hrow hn)
  go_enter Try.func23, Try.ntmps23
  go_wp2_with fail
  refine H.out.mono ?_
  rintro e w1 ⟨rfl, rfl⟩
  exact ⟨rfl, rfl, rfl⟩

def nums (l : List UInt8) : List Int := l.map fun c => (c.toNat : Int)
theorem nums_length (l : List UInt8) : (nums l).length = l.length := by simp [nums]
theorem nums_at {l : List UInt8} {i : Nat} (h : i < l.length) : (nums l).getD i 0 = (l[i].toNat : Int) := by
  unfold nums
  simp [List.getD_eq_getElem?_getD, List.getElem?_eq_getElem h]
theorem bclone_any (K : Nat) (a : Addr) (n c : Nat) (l : List UInt8) (w : World) (hr : Rd w K (some a) n l) (hn : n ≤ 140737488355328) :
    Calls Try.prog 25 #[.slice (some a) n c] w fun e w' => ∃ D k, e = .returned (.slice D n k) ∧ Byt.Own w' w.heap.size (.slice D n k) n l ∧ Below w.heap.size w w' := by
  refine (Try.bytes_Clone_at a n c (nums l) w (by rw [nums_length]; exact hr.1) hn fun i hi => ?_).mono fun e w' ⟨v, he, ho, _, hb⟩ => ?_
  · have hi' : i < l.length := by have := hr.1; omega
    obtain ⟨b, o, e, _, hc⟩ := hr.2 i hi'
    injection e with e
    subst e
    have ha : (⟨b, o, none⟩ : Addr).add i = ⟨b, o + i, none⟩ := by unfold Addr.add; split <;> simp_all
    rw [ha, hc, nums_at hi']
  · have ho' : Byt.Own w' w.heap.size v n l := by
      refine Byt.Own.of_row ?_
      rw [show enc l = (nums l).map (Value.int .u8) from by simp [enc, nums]]
      exact ho
    obtain ⟨D, k, e1, _⟩ := ho'.reads
    exact ⟨D, k, by rw [he, e1], by rw [← e1]; exact ho', hb⟩

/-- What Decode gives. -/
def Decodes (l : List UInt8) (w : World) (e : Ending) (w' : World) : Prop :=
  ∃ A n c B m d, e = .returned (.tuple #[.agg #[.slice A n c, .slice B m d], .int .i64 (decO l).1]) ∧ Cel.Own 38 4 w' w.heap.size (.slice A n c) n (scells (decO l).2.1) ∧ Byt.Own w' w.heap.size (.slice B m d) m (decO l).2.2 ∧ Below w.heap.size w w'
theorem Decodes.bad {l : List UInt8} {w w' : World} {z : Int} (h : decO l = (z, [], [])) (hb : Below w.heap.size w w') :
    Decodes l w (.returned (.tuple #[.agg #[.slice none 0 0, .slice none 0 0], .int .i64 z])) w' :=
  ⟨none, 0, 0, none, 0, 0, by rw [h], by rw [h]; exact Cel.Own.nil _ _ _ _, by rw [h]; exact Byt.Own.nil _ _, hb⟩

theorem load2 (w : World) (B : Nat) (cs : Array Value) (h : w.heap[B]? = some (.cells cs 25 (0, 0))) (hs : cs.size = 2) :
    (loadVar 25 ⟨B, 0, none⟩).run Try.prog w = .ok (.agg cs) w :=
  run_loadVar_row w B 25 25 cs (0, 0) _ h Try.underlying25 rfl (by rw [hs]; kernel_rfl)

/-- What stands in memory when the reader is made. -/
structure Door (w W : World) : Prop where
  res : W.heap[w.heap.size]? = some (.cells #[.slice none 0 0, .slice none 0 0] 25 (0, 0))
  err : W.heap[w.heap.size + 1]? = some (.cells #[.int .i64 0] 28 (0, 0))
  below : Below w.heap.size w W
theorem Door.grown {w W W' : World} (h : Door w W) (hg : W.grownBy W' (some (w.heap.size + 1 + 1))) : Door w W' :=
  ⟨(hg.block _ (Array.getElem?_eq_some_iff.1 h.res).1 (fun e => by injection e with e; omega)).trans h.res, (hg.block _ (Array.getElem?_eq_some_iff.1 h.err).1 (fun e => by injection e with e; omega)).trans h.err,
    h.below.grown hg h.below.size fun k hk => by injection hk with hk; omega⟩
theorem Door.on {w W W' : World} (h : Door w W) (hb : Below W.heap.size W W') : Door w W' :=
  ⟨(hb.block _ (Array.getElem?_eq_some_iff.1 h.res).1).trans h.res, (hb.block _ (Array.getElem?_eq_some_iff.1 h.err).1).trans h.err, h.below.trans (hb.mono h.below.size)⟩
theorem Door.start (w : World) (v : Value) : Door w (((w.alloc (.cells #[.slice none 0 0, .slice none 0 0] 25)).alloc (.cells #[.int .i64 0] 28)).alloc (.cells #[v] 53)) ∧
    (((w.alloc (.cells #[.slice none 0 0, .slice none 0 0] 25)).alloc (.cells #[.int .i64 0] 28)).alloc (.cells #[v] 53)).heap[w.heap.size + 1 + 1]? = some (.cells #[v] 53 (0, 0)) := by
  have h1 := heap_alloc_new w (.cells #[.slice none 0 0, .slice none 0 0] 25)
  have h2 := heap_alloc_new (w.alloc (.cells #[.slice none 0 0, .slice none 0 0] 25)) (.cells #[.int .i64 0] 28)
  have h3 := heap_alloc_new ((w.alloc (.cells #[.slice none 0 0, .slice none 0 0] 25)).alloc (.cells #[.int .i64 0] 28)) (.cells #[v] 53)
  rw [World.size_alloc] at h2
  rw [World.size_alloc, World.size_alloc] at h3
  refine ⟨⟨?_, ?_, ?_⟩, h3⟩
  · exact (Below.heap_alloc _ _ _ (by simp; omega)).trans ((Below.heap_alloc _ _ _ (by simp)).trans h1)
  · exact (Below.heap_alloc _ _ _ (by simp)).trans h2
  · exact (((Below.refl w.heap.size w).alloc (Nat.le_refl _) _).alloc (by simp) _).alloc (by simp; omega) _

set_option maxRecDepth 100000 in
set_option maxHeartbeats 1000000 in
theorem leave_panic {l : List UInt8} {w W : World} {k : Int} (h : Door w W) (hd : decO l = (k, [], [])) (tmps : Array Value) (h2 : tmps[2]? = some (.pointer (some ⟨w.heap.size, 0, none⟩))) (h3 : tmps[3]? = some (.pointer (some ⟨w.heap.size + 1, 0, none⟩))) :
    bodyPostD Try.prog Try.f12 (Decodes l w) (Exit.panic [{ v := .iface 28 (.int .i64 k), recovered := false }])
      { tmps := tmps, defers := [{ target := Target.fn (Fn.func 22) #[.pointer (some ⟨w.heap.size + 1, 0, none⟩)], args := #[] }] } W := by
  have e0 := cell_of_row W (w.heap.size + 1) 0 _ _ _ h.err
  have hl := load2 (W.setCell ⟨w.heap.size + 1, 0, none⟩ (.int .i64 k)) w.heap.size _ ((Below.heap_setCell W ⟨w.heap.size + 1, 0, none⟩ (.int .i64 k) w.heap.size (by show w.heap.size ≠ w.heap.size + 1; omega)).trans h.res) rfl
  refine leaves_cons (f := 22) (args := #[.pointer (some ⟨w.heap.size + 1, 0, none⟩)]) (by simp) (by simp [go_sem]) ?_
  refine (catch_panicking ⟨w.heap.size + 1, 0, none⟩ 0 k [] W e0 (frozen_of_row W _ 0 _ _ h.err)).mono ?_
  rintro e u' w'' ⟨rfl, rfl, rfl⟩
  have hB := Decodes.bad hd (h.below.setCell (p := ⟨w.heap.size + 1, 0, none⟩) (by show w.heap.size ≤ w.heap.size + 1; omega) (.int .i64 k))
  have e1 : (W.setCell ⟨w.heap.size + 1, 0, none⟩ (.int .i64 k)).cell? ⟨w.heap.size + 1, 0, none⟩ = some (.int .i64 k) := cell_of_row _ _ 0 _ _ _ (heap_setCell_same W (w.heap.size + 1) 0 _ _ (.int .i64 k) h.err)
  simp [Leaves, settle, results, Try.results12, asAddr, h2, h3, hl]
  refine ⟨_, ?_, hB⟩
  simp [go_sem, e1]

set_option maxRecDepth 100000 in
set_option maxHeartbeats 4000000 in
theorem decode_2 (w : World) (A : Option Addr) (n c : Nat) (l : List UInt8) (hl : l.length = n) (h4 : n < 4) :
    Calls Try.prog 12 #[.slice A n c] w (Decodes l w) := by
  have hmf : ∀ (fn : Fn) (first cap : Array Value) (w : World), (Instr.makeFunc fn first cap).run Try.prog w = .ok (.func fn first cap) w := fun _ _ _ _ => rfl
  have Hd : Hid (decO l = (2, [], [])) := hid (by unfold decO; rw [if_pos (by omega)])
  obtain ⟨hD, hrow⟩ := Door.start w (.slice A n c)
  go_enter_defers Try.func12, Try.ntmps12
  go_wp2_with fail
  refine (magic_fail0 _ _ A n c hrow h4).mono ?_
  rintro e w1 ⟨rfl, rfl⟩
  exact leave_panic hD Hd.out _ rfl rfl

theorem retn_defer (w W : World) {l : List UInt8} (v : Value) (tmps : Array Value) (p : Addr) (h : (results Try.f12 tmps).run Try.prog W = .ok v W) (hq : Decodes l w (.returned v) W) :
    bodyPostD Try.prog Try.f12 (Decodes l w) Exit.ret
      { tmps := tmps, defers := [{ target := Target.fn (Fn.func 22) #[.pointer (some p)], args := #[] }] } W := by
  refine leaves_cons (f := 22) (args := #[.pointer (some p)]) (by simp) (by simp [go_sem]) ?_
  refine (catch_idle p W).mono ?_
  rintro e u' w'' ⟨rfl, rfl, rfl⟩
  simp [Leaves, settle, h]
  exact hq

set_option maxRecDepth 100000 in
set_option maxHeartbeats 4000000 in
theorem decode_go (w : World) (K b o : Nat) (n c : Nat) (l : List UInt8) (hr : Byt.Rd w K (some ⟨b, o, none⟩) n l) (hK : K ≤ w.heap.size) (hnc : n ≤ c) (hc : c ≤ maxLen) (h4 : 4 ≤ n) (hn : n ≤ 140737488355328) :
    Calls Try.prog 12 #[.slice (some ⟨b, o, none⟩) n c] w (Decodes l w) := by
  have hmf : ∀ (fn : Fn) (first cap : Array Value) (w : World), (Instr.makeFunc fn first cap).run Try.prog w = .ok (.func fn first cap) w := fun _ _ _ _ => rfl
  have hl := hr.1
  have Hd : Hid (decO l = if l.take 4 ≠ magic then (1, [], []) else decS (l.drop 4)) := hid (by rw [decO_eq, if_neg (by omega)])
  obtain ⟨hD, hrow⟩ := Door.start w (.slice (some ⟨b, o, none⟩) n c)
  go_enter_defers Try.func12, Try.ntmps12
  go_wp2_with fail
  generalize ((w.alloc (.cells #[.slice none 0 0, .slice none 0 0] 25)).alloc (.cells #[.int .i64 0] 28)).alloc (.cells #[.slice (some ⟨b, o, none⟩) n c] 53) = w0 at *
  have hR : Rdr w0 (w.heap.size + 1 + 1) K l := ⟨b, o, n, c, hrow, hr.below (hD.below.mono hK), hnc, hc⟩
  clear hrow
  refine (readMagic_any w0 _ K l hR (by omega)).mono ?_
  rintro e w1 ⟨hg1, hcase⟩
  have hD1 := hD.grown hg1
  rcases hcase with ⟨q, _⟩ | ⟨_, hm, rfl⟩ | ⟨_, hm, rfl, hR1⟩
  · omega
  · exact leave_panic hD1 (by rw [Hd.out, if_pos hm]) _ rfl rfl
  · have Hd1 : Hid (decO l = decS (l.drop 4)) := hid (by rw [Hd.out, if_neg (fun q => q hm)])
    clear Hd hm hR hg1 hD
    go_wp2_with fail
    refine (readSyms_any w1 _ K (l.drop 4) hR1 (by omega)).mono ?_
    rintro e w2 ⟨hg2, hcase⟩
    have hD2 := hD1.grown hg2
    rcases hcase with ⟨hz, rfl⟩ | ⟨hz, A, cs, rfl, hO, hR2⟩
    · refine leave_panic hD2 ?_ _ rfl rfl
      rw [Hd1.out]
      have h0 := decO_bad l (by rw [Hd1.out]; exact hz)
      rw [Hd1.out] at h0
      rw [← h0]
    · have hd2 : decO l = (0, (decS (l.drop 4)).2.1, (decS (l.drop 4)).2.2) := by rw [Hd1.out]; exact Prod.ext hz rfl
      have Hd2 := hid hd2
      clear hd2 Hd1 hz
      generalize (decS (l.drop 4)).2.1 = xs at *
      generalize (decS (l.drop 4)).2.2 = body at *
      obtain ⟨b2, o2, m, d, hrow2, hr2, hmd, hdm⟩ := hR2
      have e0 := cell_of_row _ (w.heap.size + 1 + 1) 0 _ _ _ hrow2
      have hbl : m ≤ 140737488355328 := by
        have h1 := (enc_decO l xs body Hd2.out).2
        have h2 := congrArg List.length h1
        have h3 := hr2.1
        unfold encO at h2
        simp only [List.length_append] at h2
        omega
      have hwz : w.heap.size ≤ w1.heap.size := hD1.below.size
      clear hrow2
      go_wp2_with fail
      refine (bclone_any K ⟨b2, o2, none⟩ m d body w2 hr2 hbl).mono ?_
      rintro e w3 ⟨D, kd, rfl, hB, hb3⟩
      have hD3 := hD2.on hb3
      have hO3 := (hO.more hwz).below hb3
      have hB3 := hB.more hD2.below.size
      obtain ⟨hres, herr, hbel⟩ := hD3
      have q0 := cell_of_row _ w.heap.size 0 _ _ _ hres
      have q1 := cell_of_row _ w.heap.size 1 _ _ _ hres
      have qf := fun o => frozen_of_row _ w.heap.size o _ _ hres
      have p0 := cell_of_row _ (w.heap.size + 1) 0 _ _ _ herr
      have pf := fun o => frozen_of_row _ (w.heap.size + 1) o _ _ herr
      have hres0 := heap_setCell_same w3 w.heap.size 0 _ _ (.slice A xs.length cs) hres
      have hres1 := heap_setCell_same _ w.heap.size 1 _ _ (.slice D m kd) hres0
      have herr1 := (Below.heap_setCell _ ⟨w.heap.size, 1, none⟩ (.slice D m kd) (w.heap.size + 1) (by show w.heap.size + 1 ≠ w.heap.size; omega)).trans ((Below.heap_setCell w3 ⟨w.heap.size, 0, none⟩ (.slice A xs.length cs) (w.heap.size + 1) (by show w.heap.size + 1 ≠ w.heap.size; omega)).trans herr)
      have hres2 := (Below.heap_setCell _ ⟨w.heap.size + 1, 0, none⟩ (.int .i64 0) w.heap.size (by show w.heap.size ≠ w.heap.size + 1; omega)).trans hres1
      have herr2 := heap_setCell_same _ (w.heap.size + 1) 0 _ _ (.int .i64 0) herr1
      have hl2 := load2 _ _ _ hres2 rfl
      have e9 := cell_of_row _ (w.heap.size + 1) 0 _ _ _ herr2
      have hbz := ((hbel.setCell (p := ⟨w.heap.size, 0, none⟩) (Nat.le_refl _) (.slice A xs.length cs)).setCell (p := ⟨w.heap.size, 1, none⟩) (Nat.le_refl _) (.slice D m kd)).setCell (p := ⟨w.heap.size + 1, 0, none⟩) (by show w.heap.size ≤ w.heap.size + 1; omega) (.int .i64 0)
      have hOz := ((hO3.setc hres (by decide) 0 (.slice A xs.length cs)).setc hres0 (by decide) 1 (.slice D m kd)).setc herr1 (by decide) 0 (.int .i64 0)
      have hBz := ((hB3.oth (Sls.Oth.put hres (fun k hk => Below.heap_setCell w3 ⟨w.heap.size, 0, none⟩ (.slice A xs.length cs) k hk)) (by decide)).oth (Sls.Oth.put hres0 (fun k hk => Below.heap_setCell _ ⟨w.heap.size, 1, none⟩ (.slice D m kd) k hk)) (by decide)).oth (Sls.Oth.put herr1 (fun k hk => Below.heap_setCell _ ⟨w.heap.size + 1, 0, none⟩ (.int .i64 0) k hk)) (by decide)
      have HO := hid hOz
      have HB := hid hBz
      clear hOz hBz hB3 hO3 hB hO hres hres0 hres1 hres2 herr herr1 herr2 hD1 hD2 hb3
      go_wp2_with fail
      refine retn_defer w _ (.tuple #[.agg #[.slice A xs.length cs, .slice D m kd], .int .i64 0]) _ _ ?_ ?_
      · simp [results, Try.results12, asAddr, hl2]
        simp [go_sem, e9]
      · exact ⟨A, xs.length, cs, D, m, kd, by rw [Hd2.out], by rw [Hd2.out]; exact HO.out, by rw [Hd2.out]; exact HB.out, hbz⟩
end Go.Proofs.Ytkacndinjomifaa.Obj
