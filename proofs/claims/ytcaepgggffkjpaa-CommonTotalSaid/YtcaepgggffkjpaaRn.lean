/-
  common: Swap, Pop, Push of the heap's list.
-/
import Derived.Test.YtcaepgggffkjpaaRl
import Derived.Test.YtcaepgggffkjpaaRm
namespace Go.Proofs.Ytcaepgggffkjpaa.Cmn
open Go.RowKit Go.Proofs Go.Proofs.Ytcaepgggffkjpaa.Byt
open Go.Proofs.Ytcaepgggffkjpaa.Bnd (Us)

theorem OwH.blk {w : World} {K n c : Nat} {A : Option Addr} {l : List Us} (h : OwH w K (.slice A n c) n l) (hn : 0 < n) : ∃ g, A = some ⟨g, 0, none⟩ ∧ K ≤ g := by
  rcases h.2.2 with ⟨e, e2⟩ | ⟨g, cap, cur, m, e, hg, _⟩
  · omega
  · injection e with e1 _ _
    exact ⟨g, e1, hg⟩

set_option linter.unusedSimpArgs false in
set_option maxRecDepth 100000 in
set_option maxHeartbeats 2000000 in
theorem pswap_any (K : Nat) (A : Option Addr) (n c : Nat) (l : List Us) (w : World) (h : OwH w K (.slice A n c) n l) {i j : Nat} (hi : i < n) (hj : j < n) : Calls Try.prog 43 #[.slice A n c, .int .i64 (i : Int), .int .i64 (j : Int)] w fun e w' => e = .returned (.tuple #[]) ∧ OwH w' K (.slice A n c) n (swp l i j) ∧ Below K w w' ∧ Sls.Fr (.slice A n c) w (.slice A n c) w' := by
  obtain ⟨g, rfl, hgK⟩ := h.blk (by omega)
  have h0 : OwH w.drew K (.slice (some ⟨g, 0, none⟩) n c) n l := h
  obtain ⟨ri, ti, O1⟩ := h0.put hi (nth l j)
  obtain ⟨rj, _, _⟩ := h0.put hj (nth l j)
  obtain ⟨_, tj, O2⟩ := O1.put hj (nth l i)
  have HO : Hid (OwH (((w.drew.setCells g (i * 5) (rcell (nth l j))).setCells g (j * 5) (rcell (nth l i)))) K (.slice (some ⟨g, 0, none⟩) n c) n (swp l i j)) := hid O2
  have HB := hid (below_cells hgK (rcell (nth l i)) (j * 5) _ _ (below_cells hgK (rcell (nth l j)) (i * 5) _ _ (Below.refl K w).drew))
  have HF := hid (fun (q : Nat) (hq : q ≠ g) => (other_cells hq (rcell (nth l i)) (j * 5) (w.drew.setCells g (i * 5) (rcell (nth l j)))).trans (other_cells hq (rcell (nth l j)) (i * 5) w.drew))
  have hii : (i : Int) < (n : Int) := by omega
  have hjj : (j : Int) < (n : Int) := by omega
  clear O1 O2 h h0
  generalize nth l i = x at *
  generalize nth l j = y at *
  go_enter Try.func43, Try.ntmps43
  go_wp2_with fail
  refine Ord.Tz.begin (fun V => V.rangeAt g (i * 5) (rcell x) ∧ V.rangeAt g (j * 5) (rcell y)) 13 (by kernel_rfl) ?_
  have hS : (fun V : World => V.rangeAt g (i * 5) (rcell x) ∧ V.rangeAt g (j * 5) (rcell y)) w.drew := ⟨ri, rj⟩
  refine Ord.Tz.take0 0 (some 6) (oi := _) (x := ?_) rfl rfl (by kernel_rfl) (by kernel_rfl) (by kernel_rfl) (by kernel_rfl) (by kernel_rfl) (by kernel_rfl) (fun _ _ _ h => h) (by kernel_rfl) ?_ (fun _ => hS) ?_
  rotate_left 1
  · intro V; go_simp; first | done | with_reducible rfl
  try simp only [List.getElem_toArray, List.getElem_cons_zero, List.getElem_cons_succ, Act.put, List.setIfInBounds_toArray, List.set_cons_zero, List.set_cons_succ]
  refine Ord.Tz.take0 1 (some 7) (oi := _) (x := ?_) rfl rfl (by kernel_rfl) (by kernel_rfl) (by kernel_rfl) (by kernel_rfl) (by kernel_rfl) (by kernel_rfl) (fun _ _ _ h => h) (by kernel_rfl) ?_ (fun _ => hS) ?_
  rotate_left 1
  · intro V; go_simp; first | done | with_reducible rfl
  try simp only [List.getElem_toArray, List.getElem_cons_zero, List.getElem_cons_succ, Act.put, List.setIfInBounds_toArray, List.set_cons_zero, List.set_cons_succ]
  refine Ord.Tz.take0 2 (some 8) (oi := _) (x := ?_) rfl rfl (by kernel_rfl) (by kernel_rfl) (by kernel_rfl) (by kernel_rfl) (by kernel_rfl) (by kernel_rfl) (fun _ _ _ h => h) (by kernel_rfl) ?_ (fun _ => hS) ?_
  rotate_left 1
  · intro V; go_simp; first | done | with_reducible rfl
  try simp only [List.getElem_toArray, List.getElem_cons_zero, List.getElem_cons_succ, Act.put, List.setIfInBounds_toArray, List.set_cons_zero, List.set_cons_succ]
  refine Ord.Tz.take0 3 (some 9) (oi := _) (x := ?_) rfl rfl (by kernel_rfl) (by kernel_rfl) (by kernel_rfl) (by kernel_rfl) (by kernel_rfl) (by kernel_rfl) (fun _ _ _ h => h) (by kernel_rfl) ?_ (fun _ => hS) ?_
  rotate_left 1
  · intro V; go_simp; first | done | with_reducible rfl
  try simp only [List.getElem_toArray, List.getElem_cons_zero, List.getElem_cons_succ, Act.put, List.setIfInBounds_toArray, List.set_cons_zero, List.set_cons_succ]
  refine Ord.Tz.take0 4 (some 10) (oi := _) (x := ?_) rfl rfl (by kernel_rfl) (by kernel_rfl) (by kernel_rfl) (by kernel_rfl) (by kernel_rfl) (by kernel_rfl) (fun _ _ _ h => h) (by kernel_rfl) ?_ (fun _ => hS) ?_
  rotate_left 1
  · intro V; go_simp; first | done | with_reducible rfl
  try simp only [List.getElem_toArray, List.getElem_cons_zero, List.getElem_cons_succ, Act.put, List.setIfInBounds_toArray, List.set_cons_zero, List.set_cons_succ]
  refine Ord.Tz.take0 5 (some 11) (oi := _) (x := ?_) rfl rfl (by kernel_rfl) (by kernel_rfl) (by kernel_rfl) (by kernel_rfl) (by kernel_rfl) (by kernel_rfl) (fun _ _ _ h => h) (by kernel_rfl) ?_ (fun _ => hS) ?_
  rotate_left 1
  · intro V; go_simp; first | done | with_reducible rfl
  try simp only [List.getElem_toArray, List.getElem_cons_zero, List.getElem_cons_succ, Act.put, List.setIfInBounds_toArray, List.set_cons_zero, List.set_cons_succ]
  refine Ord.Tz.take0 6 (some 12) (oi := _) (x := ?_) rfl rfl (by kernel_rfl) (by kernel_rfl) (by kernel_rfl) (by kernel_rfl) (by kernel_rfl) (by kernel_rfl) (fun _ _ _ h => h) (by kernel_rfl) ?_ (fun _ => hS) ?_
  rotate_left 1
  · intro V; go_simp; first | done | with_reducible rfl
  try simp only [List.getElem_toArray, List.getElem_cons_zero, List.getElem_cons_succ, Act.put, List.setIfInBounds_toArray, List.set_cons_zero, List.set_cons_succ]
  refine Ord.Tz.take 7 (some 13) (oi := _) (x := .agg (rcell y).toArray) rfl rfl (by kernel_rfl) (by kernel_rfl) (by kernel_rfl) (by kernel_rfl) (by kernel_rfl) (fun _ _ _ h => h) (by kernel_rfl) (fun v hv => exec_ld 40 _ Try.underlying40 rfl _ rfl g (j * 5) rfl (rcell y) (by kernel_rfl) hv.2) hS ?_
  try simp only [List.getElem_toArray, List.getElem_cons_zero, List.getElem_cons_succ, Act.put, List.setIfInBounds_toArray, List.set_cons_zero, List.set_cons_succ]
  refine Ord.Tz.take0 8 (some 14) (oi := _) (x := ?_) rfl rfl (by kernel_rfl) (by kernel_rfl) (by kernel_rfl) (by kernel_rfl) (by kernel_rfl) (by kernel_rfl) (fun _ _ _ h => h) (by kernel_rfl) ?_ (fun _ => hS) ?_
  rotate_left 1
  · intro V; go_simp; first | done | with_reducible rfl
  try simp only [List.getElem_toArray, List.getElem_cons_zero, List.getElem_cons_succ, Act.put, List.setIfInBounds_toArray, List.set_cons_zero, List.set_cons_succ]
  refine Ord.Tz.take0 9 (some 15) (oi := _) (x := ?_) rfl rfl (by kernel_rfl) (by kernel_rfl) (by kernel_rfl) (by kernel_rfl) (by kernel_rfl) (by kernel_rfl) (fun _ _ _ h => h) (by kernel_rfl) ?_ (fun _ => hS) ?_
  rotate_left 1
  · intro V; go_simp; first | done | with_reducible rfl
  try simp only [List.getElem_toArray, List.getElem_cons_zero, List.getElem_cons_succ, Act.put, List.setIfInBounds_toArray, List.set_cons_zero, List.set_cons_succ]
  refine Ord.Tz.take0 10 (some 16) (oi := _) (x := ?_) rfl rfl (by kernel_rfl) (by kernel_rfl) (by kernel_rfl) (by kernel_rfl) (by kernel_rfl) (by kernel_rfl) (fun _ _ _ h => h) (by kernel_rfl) ?_ (fun _ => hS) ?_
  rotate_left 1
  · intro V; go_simp; first | done | with_reducible rfl
  try simp only [List.getElem_toArray, List.getElem_cons_zero, List.getElem_cons_succ, Act.put, List.setIfInBounds_toArray, List.set_cons_zero, List.set_cons_succ]
  refine Ord.Tz.take 11 (some 17) (oi := _) (x := .agg (rcell x).toArray) rfl rfl (by kernel_rfl) (by kernel_rfl) (by kernel_rfl) (by kernel_rfl) (by kernel_rfl) (fun _ _ _ h => h) (by kernel_rfl) (fun v hv => exec_ld 40 _ Try.underlying40 rfl _ rfl g (i * 5) rfl (rcell x) (by kernel_rfl) hv.1) hS ?_
  try simp only [List.getElem_toArray, List.getElem_cons_zero, List.getElem_cons_succ, Act.put, List.setIfInBounds_toArray, List.set_cons_zero, List.set_cons_succ]
  refine Ord.Tz.take0 12 (some 18) (oi := _) (x := ?_) rfl rfl (by kernel_rfl) (by kernel_rfl) (by kernel_rfl) (by kernel_rfl) (by kernel_rfl) (by kernel_rfl) (fun _ _ _ h => h) (by kernel_rfl) ?_ (fun _ => hS) ?_
  rotate_left 1
  · intro V; go_simp; first | done | with_reducible rfl
  try simp only [List.getElem_toArray, List.getElem_cons_zero, List.getElem_cons_succ, Act.put, List.setIfInBounds_toArray, List.set_cons_zero, List.set_cons_succ]
  refine Ord.Tz.step 13 (by kernel_rfl) rfl (fun C hC => ?_)
  rw [if_pos (by kernel_rfl)]
  refine wp_store_mid 40 _ _ rfl g (i * 5) (rcell y).toArray rfl rfl ti (by kernel_rfl) (rcell_one y) ?_
  refine hC.out _ _ (fun hz => absurd rfl hz) ?_
  clear hC C
  try simp only [List.getElem_toArray, List.getElem_cons_zero, List.getElem_cons_succ, Act.put, List.setIfInBounds_toArray, List.set_cons_zero, List.set_cons_succ]
  refine Ord.Tz.take0 14 (some 19) (oi := _) (x := ?_) rfl rfl (by kernel_rfl) (by kernel_rfl) (by kernel_rfl) (by kernel_rfl) (by kernel_rfl) (by kernel_rfl) (fun _ _ _ h => h) (by kernel_rfl) ?_ (fun h => by cases h) ?_
  rotate_left 1
  · intro V; go_simp; first | done | with_reducible rfl
  try simp only [List.getElem_toArray, List.getElem_cons_zero, List.getElem_cons_succ, Act.put, List.setIfInBounds_toArray, List.set_cons_zero, List.set_cons_succ]
  refine Ord.Tz.step 15 (by kernel_rfl) rfl (fun C hC => ?_)
  rw [if_pos (by kernel_rfl)]
  refine wp_store_mid 40 _ _ rfl g (j * 5) (rcell x).toArray rfl rfl tj (by kernel_rfl) (rcell_one x) ?_
  refine hC.out _ _ (fun _ h => by cases h) ?_
  clear hC C
  try simp only [List.getElem_toArray, List.getElem_cons_zero, List.getElem_cons_succ, Act.put, List.setIfInBounds_toArray, List.set_cons_zero, List.set_cons_succ]
  refine Ord.Tz.done (by kernel_rfl) ?_ _
  refine bodyPost_end (results_none rfl _ _ _) rfl ?_
  exact ⟨rfl, HO.out, HB.out, fun q _ hb => HF.out q fun e => hb (by rw [e]; rfl), fun q e => .inl e⟩

set_option linter.unusedSimpArgs false in
set_option maxRecDepth 100000 in
set_option maxHeartbeats 2000000 in
theorem ppop_any (K T : Nat) (A : Option Addr) (n c : Nat) (l : List Us) (w : World) (hq : Qr w T (.slice A n c)) (h : OwH w K (.slice A n c) n l) (hT : K ≤ T) (hn : 0 < n) :
    Calls Try.prog 44 #[.pointer (some ⟨T, 0, none⟩)] w fun e w' => e = .returned (.iface 40 (rval (nth l (n - 1)))) ∧ Qr w' T (.slice A (n - 1) c) ∧ OwH w' K (.slice A (n - 1) c) (n - 1) (l.take (n - 1)) ∧ Below K w w' ∧ Fq T (.slice A n c) w (.slice A (n - 1) c) w' := by
  obtain ⟨m, rfl⟩ : ∃ m, n = m + 1 := ⟨n - 1, by omega⟩
  simp only [Nat.add_sub_cancel]
  have hl := h.1
  have hil : m < l.length := by omega
  have hKw : K ≤ w.heap.size := Nat.le_trans hT (Nat.le_of_lt hq.lt)
  have hcm : c ≤ maxLen := by
    obtain ⟨A', c', e, _, _, hc⟩ := h.reads
    injection e with _ _ e
    subst e
    exact hc
  have hnc : m + 1 ≤ c := by
    obtain ⟨A', c', e, _, hc, _⟩ := h.reads
    injection e with _ _ e
    subst e
    exact hc
  obtain ⟨g, rfl, hgK⟩ := h.blk hn
  obtain ⟨ri, _, _⟩ := h.put (show m < m + 1 by omega) (nth l (m))
  have c0 : w.cell? ⟨g, (m) * 5, none⟩ = some (.string (nth l (m)).s.name) := ri 0 _ rfl
  have c1 : w.cell? ⟨g, (m) * 5 + 1, none⟩ = some (.int .i64 (nth l (m)).s.bind) := ri 1 _ rfl
  have c2 : w.cell? ⟨g, (m) * 5 + 2, none⟩ = some (.int .i64 (nth l (m)).s.size) := ri 2 _ rfl
  have c3 : w.cell? ⟨g, (m) * 5 + 3, none⟩ = some (.int .i64 (nth l (m)).s.align) := ri 3 _ rfl
  have c4 : w.cell? ⟨g, (m) * 5 + 4, none⟩ = some (.int .i64 (nth l (m)).u) := ri 4 _ rfl
  obtain ⟨x, hx⟩ : ∃ x, nth l (m) = x := ⟨_, rfl⟩
  rw [hx] at c0 c1 c2 c3 c4 ⊢
  obtain ⟨⟨x0, x1, x2, x3⟩, x4⟩ := x
  obtain ⟨W, hW⟩ : ∃ W, w.alloc (.cells #[.string x0, .int .i64 x1, .int .i64 x2, .int .i64 x3, .int .i64 x4] 40) = W := ⟨_, rfl⟩
  have hbW : Below w.heap.size w W := by rw [← hW]; exact (Below.refl _ w).alloc (Nat.le_refl _) _
  have hq1 := hq.below hbW
  have h1 := h.below hbW
  have t0 := hq.c1
  have t1 := hq1.c1
  have t2 := hq1.fz
  have HO : Hid (OwH (W.setCell ⟨T, 0, none⟩ (.slice (some ⟨g, 0, none⟩) (m) c)) K (.slice (some ⟨g, 0, none⟩) (m) c) (m) (l.take (m))) := hid (by
    refine ⟨by rw [List.length_take]; omega, ?_⟩
    have hlen : (rcells (l.take (m))).length = (m) * 5 := by rw [show (rcells (l.take (m))).length = (l.take (m)).length * 5 from flat_len rcell_len _, List.length_take]; congr 1; omega
    refine ⟨hlen, ?_⟩
    rcases h1.2.2 with ⟨e, _⟩ | ⟨g', cap', cur, mm, hv', hg', hh, _, hm, hs, ht, hf⟩
    · cases e
    · injection hv' with e1 _ e3
      injection e1 with e1
      injection e1 with e1
      subst e1 e3
      refine .inr ⟨g, c, cur, mm, rfl, hg', (Below.heap_setCell W ⟨T, 0, none⟩ _ g ?_).trans hh, by omega, hm, hs, ?_, hf⟩
      · show g ≠ T
        rintro rfl
        exact hq1.ne h1 rfl
      · have e2 := congrArg (List.take ((m) * 5)) ht
        rw [List.take_take, Nat.min_eq_left (by omega)] at e2
        rw [e2]
        have e3 : rcells l = rcells (l.take (m)) ++ rcells (l.drop (m)) := by rw [← rcells_app, List.take_append_drop]
        rw [e3, List.take_append_of_le_length (by omega), List.take_of_length_le (by omega)])
  have hrow : (W.setCell ⟨T, 0, none⟩ (.slice (some ⟨g, 0, none⟩) m c)).heap[w.heap.size]? = some (.cells #[.string x0, .int .i64 x1, .int .i64 x2, .int .i64 x3, .int .i64 x4] 40) := (Below.heap_setCell W ⟨T, 0, none⟩ _ w.heap.size (by have := hq.lt; show w.heap.size ≠ T; omega)).trans (by rw [← hW]; exact heap_alloc_new w _)
  have HD := hid hrow
  clear hrow
  have HR : Hid (Qr (W.setCell ⟨T, 0, none⟩ (.slice (some ⟨g, 0, none⟩) (m) c)) T (.slice (some ⟨g, 0, none⟩) (m) c)) := hid (heap_setCell_same W T 0 _ _ _ hq1)
  have HB : Hid (Below K w (W.setCell ⟨T, 0, none⟩ (.slice (some ⟨g, 0, none⟩) (m) c))) := hid ((hbW.mono hKw).setCell (p := ⟨T, 0, none⟩) hT _)
  have HF : Hid (Fq T (.slice (some ⟨g, 0, none⟩) (m + 1) c) w (.slice (some ⟨g, 0, none⟩) (m) c) (W.setCell ⟨T, 0, none⟩ (.slice (some ⟨g, 0, none⟩) (m) c))) := hid ⟨fun q a hne _ => (Below.heap_setCell W ⟨T, 0, none⟩ _ q hne).trans (hbW.block q a), fun q e => .inl e, HB.out.size⟩
  have e0 : ((m + 1 : Nat) : Int) - 1 = (m : Int) := by omega
  have hii : (m : Int) < ((m + 1 : Nat) : Int) := by omega
  have hnn : ((m + 1 : Nat) : Int) < 9223372036854775808 := by unfold maxLen at hcm; omega
  clear hx h h1 ri hil hq hq1 hbW
  go_enter Try.func44, Try.ntmps44
  go_upto_region 4 with fail
  have d0 := cell_of_row _ w.heap.size 0 _ _ _ HD.out
  have d1 := cell_of_row _ w.heap.size 1 _ _ _ HD.out
  have d2 := cell_of_row _ w.heap.size 2 _ _ _ HD.out
  have d3 := cell_of_row _ w.heap.size 3 _ _ _ HD.out
  have d4 := cell_of_row _ w.heap.size 4 _ _ _ HD.out
  clear HD
  generalize W.setCell ⟨T, 0, none⟩ (.slice (some ⟨g, 0, none⟩) m c) = W2 at *
  go_wp2_with fail
  go_ret
  exact ⟨rfl, HR.out, HO.out, HB.out, HF.out⟩

theorem kP : Cel.Kind 43 40 5 48 (.agg #[.string ⟨#[]⟩, .int .i64 0, .int .i64 0, .int .i64 0, .int .i64 0]) := ⟨by kernel_rfl, by kernel_rfl, by kernel_rfl, by decide⟩
theorem assert_res (x : Us) (w : World) : (Instr.typeAssert (.iface 40 (.agg #[.string x.s.name, .int .i64 x.s.bind, .int .i64 x.s.size, .int .i64 x.s.align, .int .i64 x.u])) 20 40 false).run Try.prog w = .ok (.agg #[.string x.s.name, .int .i64 x.s.bind, .int .i64 x.s.size, .int .i64 x.s.align, .int .i64 x.u]) w := by kernel_rfl
set_option linter.unusedSimpArgs false in
set_option maxRecDepth 100000 in
set_option maxHeartbeats 2000000 in
theorem ppush_any (K T : Nat) (v : Value) (n : Nat) (l : List Us) (s : Us) (w : World) (hq : Qr w T v) (h : OwH w K v n l) (hT : K ≤ T) (hn : n < 1000000) :
    Calls Try.prog 45 #[.pointer (some ⟨T, 0, none⟩), .iface 40 (rval s)] w fun e w' => e = .returned (.tuple #[]) ∧ ∃ v', Qr w' T v' ∧ OwH w' K v' (n + 1) (l ++ [s]) ∧ Below K w w' ∧ Fq T v w v' w' := by
  have hK : K ≤ w.heap.size := Nat.le_trans hT (Nat.le_of_lt hq.lt)
  have ha := assert_res s
  unfold rval
  go_enter Try.func45, Try.ntmps45
  go_wp2_with fail
  refine Ord.Till.begin (fun W => W.cell? ⟨T, 0, none⟩ = some v) 9 (by kernel_rfl) ?_
  have hS0 : (fun W : World => W.cell? ⟨T, 0, none⟩ = some v) w.drew := hq.c1
  refine Ord.Till.take' 0 (some 4) (oi := _) (x := ?_) rfl rfl (by kernel_rfl) (by kernel_rfl) (by kernel_rfl) (by kernel_rfl) (fun _ _ _ h => h) (by kernel_rfl) ?_ hS0 ?_
  rotate_left 1
  · intro W hv; have z0 : W.cell? ⟨T, 0, none⟩ = some v := hv; go_simp; first | done | with_reducible rfl
  try simp only [List.getElem_toArray, List.getElem_cons_zero, List.getElem_cons_succ, Act.put, List.setIfInBounds_toArray, List.set_cons_zero, List.set_cons_succ]
  refine Ord.Till.take' 1 (some 5) (oi := _) (x := ?_) rfl rfl (by kernel_rfl) (by kernel_rfl) (by kernel_rfl) (by kernel_rfl) (fun _ _ _ h => h) (by kernel_rfl) ?_ hS0 ?_
  rotate_left 1
  · intro W hv; have z0 : W.cell? ⟨T, 0, none⟩ = some v := hv; go_simp; first | done | with_reducible rfl
  try simp only [List.getElem_toArray, List.getElem_cons_zero, List.getElem_cons_succ, Act.put, List.setIfInBounds_toArray, List.set_cons_zero, List.set_cons_succ]
  refine Ord.Till.take' 2 (some 6) (oi := _) (x := ?_) rfl rfl (by kernel_rfl) (by kernel_rfl) (by kernel_rfl) (by kernel_rfl) (fun _ _ _ h => h) (by kernel_rfl) ?_ hS0 ?_
  rotate_left 1
  · intro W hv; have z0 : W.cell? ⟨T, 0, none⟩ = some v := hv; go_simp; first | done | with_reducible rfl
  try simp only [List.getElem_toArray, List.getElem_cons_zero, List.getElem_cons_succ, Act.put, List.setIfInBounds_toArray, List.set_cons_zero, List.set_cons_succ]
  refine Ord.Till.take' 3 (some 7) (oi := _) (x := ?_) rfl rfl (by kernel_rfl) (by kernel_rfl) (by kernel_rfl) (by kernel_rfl) (fun _ _ _ h => h) (by kernel_rfl) ?_ hS0 ?_
  rotate_left 1
  · intro W hv; have z0 : W.cell? ⟨T, 0, none⟩ = some v := hv; go_simp; first | done | with_reducible rfl
  try simp only [List.getElem_toArray, List.getElem_cons_zero, List.getElem_cons_succ, Act.put, List.setIfInBounds_toArray, List.set_cons_zero, List.set_cons_succ]
  refine Ord.Till.take' 4 (some 8) (oi := _) (x := ?_) rfl rfl (by kernel_rfl) (by kernel_rfl) (by kernel_rfl) (by kernel_rfl) (fun _ _ _ h => h) (by kernel_rfl) ?_ hS0 ?_
  rotate_left 1
  · intro W hv; have z0 : W.cell? ⟨T, 0, none⟩ = some v := hv; go_simp; first | done | with_reducible rfl
  try simp only [List.getElem_toArray, List.getElem_cons_zero, List.getElem_cons_succ, Act.put, List.setIfInBounds_toArray, List.set_cons_zero, List.set_cons_succ]
  refine Ord.Till.take' 5 (some 9) (oi := _) (x := ?_) rfl rfl (by kernel_rfl) (by kernel_rfl) (by kernel_rfl) (by kernel_rfl) (fun _ _ _ h => h) (by kernel_rfl) ?_ hS0 ?_
  rotate_left 1
  · intro W hv; have z0 : W.cell? ⟨T, 0, none⟩ = some v := hv; go_simp; first | done | with_reducible rfl
  try simp only [List.getElem_toArray, List.getElem_cons_zero, List.getElem_cons_succ, Act.put, List.setIfInBounds_toArray, List.set_cons_zero, List.set_cons_succ]
  refine Ord.Till.step 6 (by kernel_rfl) rfl (fun C hC => ?_)
  go_simp
  have hw1 : w.heap.size < (w.alloc (.cells #[.string s.s.name, .int .i64 s.s.bind, .int .i64 s.s.size, .int .i64 s.s.align, .int .i64 s.u] 40)).heap.size := by simp
  have hS1 : (fun W : World => W.cell? ⟨T, 0, none⟩ = some v) (w.alloc (.cells #[.string s.s.name, .int .i64 s.s.bind, .int .i64 s.s.size, .int .i64 s.s.align, .int .i64 s.u] 40)).drew := cell_of_row _ T 0 _ _ _ ((Below.heap_alloc w _ T hq.lt).trans hq)
  have hr1 : (w.alloc (.cells #[.string s.s.name, .int .i64 s.s.bind, .int .i64 s.s.size, .int .i64 s.s.align, .int .i64 s.u] 40)).drew.rangeAt w.heap.size 0 (rcell s) := range_row (w := w.alloc (.cells #[.string s.s.name, .int .i64 s.s.bind, .int .i64 s.s.size, .int .i64 s.s.align, .int .i64 s.u] 40)) (cs := (rcell s).toArray) (heap_alloc_new w _)
  have hB1 : Below K w (w.alloc (.cells #[.string s.s.name, .int .i64 s.s.bind, .int .i64 s.s.size, .int .i64 s.s.align, .int .i64 s.u] 40)).drew := ((Below.refl K w).alloc hK _).drew
  have hBw : Below w.heap.size w (w.alloc (.cells #[.string s.s.name, .int .i64 s.s.bind, .int .i64 s.s.size, .int .i64 s.s.align, .int .i64 s.u] 40)).drew := ((Below.refl _ w).alloc (Nat.le_refl _) _).drew
  have ho1 := (h.below hBw).2
  have hQ1 : Qr (w.alloc (.cells #[.string s.s.name, .int .i64 s.s.bind, .int .i64 s.s.size, .int .i64 s.s.align, .int .i64 s.u] 40)).drew T v := hq.below hBw
  have hF1 : Sls.Fr v w v (w.alloc (.cells #[.string s.s.name, .int .i64 s.s.bind, .int .i64 s.s.size, .int .i64 s.s.align, .int .i64 s.u] 40)).drew := Fr_below hBw
  have hz1 : w.heap.size < (w.alloc (.cells #[.string s.s.name, .int .i64 s.s.bind, .int .i64 s.s.size, .int .i64 s.s.align, .int .i64 s.u] 40)).drew.heap.size := hw1
  refine hC.out _ _ (fun _ => hS1) ?_
  clear hC C hS0
  generalize (w.alloc (.cells #[.string s.s.name, .int .i64 s.s.bind, .int .i64 s.s.size, .int .i64 s.s.align, .int .i64 s.u] 40)).drew = w1 at *
  try simp only [List.getElem_toArray, List.getElem_cons_zero, List.getElem_cons_succ, Act.put, List.setIfInBounds_toArray, List.set_cons_zero, List.set_cons_succ]
  refine Ord.Till.step 7 (by kernel_rfl) rfl (fun C hC => ?_)
  refine Cel.step_app kP w1 K v n (rcells l) ho1 (by omega) ⟨w.heap.size, 0, none⟩ 1 1 (rcell s) rfl (fun u hu => rcells_one (l := [s]) u (by rw [rcells, List.flatMap_cons, List.flatMap_nil, List.append_nil]; exact hu)) (fun j u hj => by rw [Addr.add_mid]; exact hr1 j u hj) (by omega) (by omega) (by rfl) _ _ (by rfl) (by rfl) (by rfl) ?_
  intro v2 w2 ho2 hb2 _ hf2
  have ho2 : OwH w2 K v2 (n + 1) (l ++ [s]) := ⟨by rw [List.length_append, List.length_singleton, h.1], by rw [rcells_app]; exact ho2⟩
  obtain ⟨A2, k2, rfl, _⟩ := ho2.reads
  have hQ2 : Qr w2 T v := hQ1.keep (hf2.1 T hQ1.lt (hq.ne h))
  have hB2 := hB1.trans hb2
  have hF2 : Sls.Fr v w (.slice A2 (n + 1) k2) w2 := Fr_trans hF1 hf2 (by omega)
  have hS2 : (fun W : World => W.cell? ⟨T, 0, none⟩ = some v) w2 := hQ2.c1
  have z2 := hQ2.c1
  have f2 := hQ2.fz
  refine hC.out _ _ (fun _ => hS2) ?_
  clear hC C
  try simp only [List.getElem_toArray, List.getElem_cons_zero, List.getElem_cons_succ, Act.put, List.setIfInBounds_toArray, List.set_cons_zero, List.set_cons_succ]
  refine Ord.Till.step 8 (by kernel_rfl) rfl (fun C hC => ?_)
  go_simp
  refine hC.out _ _ (fun _ => hS2) ?_
  clear hC C
  try simp only [List.getElem_toArray, List.getElem_cons_zero, List.getElem_cons_succ, Act.put, List.setIfInBounds_toArray, List.set_cons_zero, List.set_cons_succ]
  refine Ord.Till.step 9 (by kernel_rfl) rfl (fun C hC => ?_)
  go_simp
  refine hC.out _ _ (fun hz => absurd rfl hz) ?_
  clear hC C
  refine Ord.Till.done (by kernel_rfl) ?_ _
  refine bodyPost_end (results_none rfl _ _ _) rfl ?_
  refine ⟨rfl, _, heap_setCell_same w2 T 0 _ _ _ hQ2, ⟨ho2.1, ho2.2.setc hQ2 (by decide) 0 _⟩, hB2.setCell (p := ⟨T, 0, none⟩) hT _, ?_⟩
  exact ⟨fun q a b c => (Below.heap_setCell w2 ⟨T, 0, none⟩ _ q b).trans (hF2.1 q a c), hF2.2, (hB2.setCell (p := ⟨T, 0, none⟩) hT (.slice A2 (n + 1) k2)).size⟩

end Go.Proofs.Ytcaepgggffkjpaa.Cmn
