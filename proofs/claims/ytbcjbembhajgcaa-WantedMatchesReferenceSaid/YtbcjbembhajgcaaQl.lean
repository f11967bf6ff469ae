/-
  wanted's reference: Take, Few; steps in memory.
-/
import Derived.Test.YtbcjbembhajgcaaQk
namespace Go.Proofs.Ytbcjbembhajgcaa.Wnt
open Go.RowKit Go.Proofs Go.Proofs.Ytbcjbembhajgcaa.Byt
open Go.Proofs.Ytbcjbembhajgcaa.Tab (bl bl_iff bl_irrefl bl_trans bl_total putN mem_put Asc asc_put asc_eq tl_inj)

set_option linter.unusedSimpArgs false in
set_option maxRecDepth 100000 in
theorem rtake_none (A1 : Option Addr) (c1 : Nat) (a2 : Value) (w : World) (A2 : Option Addr) (n2 c2 : Nat) (h2 : a2 = .slice A2 n2 c2) :
    Calls Try.prog 9 #[.agg #[.slice A1 0 c1, a2]] w fun e w' => e = .returned (.tuple #[.agg #[.slice A1 0 c1, a2], .string ⟨#[]⟩, .bool false]) ∧ Below w.heap.size w w' := by
  subst h2
  have hb0 := ((Below.refl w.heap.size w).alloc (Nat.le_refl _) (.cells #[.slice A1 0 c1, .slice A2 n2 c2] 31)).alloc (by simp) (.cells #[.slice none 0 0, .slice none 0 0] 31)
  have hK0 : Hid (Rk w ((w.alloc (.cells #[.slice A1 0 c1, .slice A2 n2 c2] 31)).alloc (.cells #[.slice none 0 0, .slice none 0 0] 31)) (.slice A1 0 c1) (.slice A2 n2 c2)) := hid ⟨(Below.heap_alloc _ _ _ (by simp)).trans (heap_alloc_new w _), by have := heap_alloc_new (w.alloc (.cells #[.slice A1 0 c1, .slice A2 n2 c2] 31)) (.cells #[.slice none 0 0, .slice none 0 0] 31); rw [World.size_alloc] at this; exact this, hb0, by simp⟩
  clear hb0
  go_enter Try.func9, Try.ntmps9
  go_upto_region 1 with fail
  generalize (w.alloc (.cells #[.slice A1 0 c1, .slice A2 n2 c2] 31)).alloc (.cells #[.slice none 0 0, .slice none 0 0] 31) = wr at *
  have q0 := cell_of_row _ w.heap.size 0 _ _ _ hK0.out.1
  have q1 := cell_of_row _ w.heap.size 1 _ _ _ hK0.out.1
  have r0 := cell_of_row _ (w.heap.size + 1) 0 _ _ _ hK0.out.2.1
  have r1 := cell_of_row _ (w.heap.size + 1) 1 _ _ _ hK0.out.2.1
  have fr := fun o => frozen_of_row wr (w.heap.size + 1) o _ _ hK0.out.2.1
  have HAg := hid (load_ag (heap_setCell_same _ (w.heap.size + 1) 1 _ _ (.slice A2 n2 c2) (heap_setCell_same wr (w.heap.size + 1) 0 _ _ (.slice A1 0 c1) hK0.out.2.1)))
  have hB7 := hid ((hK0.out.2.2.1.setCell (p := ⟨w.heap.size + 1, 0, none⟩) (Nat.le_succ _) (.slice A1 0 c1)).setCell (p := ⟨w.heap.size + 1, 1, none⟩) (Nat.le_succ _) (.slice A2 n2 c2))
  go_wp2_with fail
  generalize (wr.setCell ⟨w.heap.size + 1, 0, none⟩ (.slice A1 0 c1)).setCell ⟨w.heap.size + 1, 1, none⟩ (.slice A2 n2 c2) = W7 at *
  have hl := HAg.out
  refine bodyPost_ret (by simp [results, Try.results9, asAddr, hl]; try rfl) rfl ?_
  exact ⟨rfl, hB7.out⟩
theorem rd_tail {w : World} {G : Nat → Prop} {b o n c : Nat} {a : ByteArray} {ws : List ByteArray} (h : RdC w G (some ⟨b, o, none⟩) n c (a :: ws)) : RdC w G (if c = 1 then some ⟨b, o, none⟩ else some ⟨b, o + 1, none⟩) (n - 1) (c - 1) ws := by
  have hl : ws.length + 1 = n := h.1.1
  have hc := h.2.2
  refine ⟨?_, fun b' o' e h0 => ?_, by omega, by omega⟩
  · split
    · have : ws = [] := List.eq_nil_of_length_eq_zero (by omega)
      subst this
      have : n - 1 = 0 := by omega
      rw [this]
      exact Sls.Rd.nil _ _ _
    · exact h.1.cut 1
  · rw [if_neg (by omega)] at e
    injection e with e
    injection e with e _ _
    subst e
    exact h.2.1 b o rfl (by omega)
/-- What the reference's Take gives, where there is a name. -/
def RTk (G : Nat → Prop) (a : ByteArray) (ws : List ByteArray) (a2 : Value) (w : World) (e : Ending) (w' : World) : Prop :=
  ∃ A1 n1 c1, e = .returned (.tuple #[.agg #[.slice A1 n1 c1, a2], .string a, .bool true]) ∧ RdC w' G A1 n1 c1 ws ∧ Below w.heap.size w w'
set_option linter.unusedSimpArgs false in
set_option maxRecDepth 100000 in
theorem rtake_any (G : Nat → Prop) (A1 A2 : Option Addr) (n1 c1 n2 c2 : Nat) (a : ByteArray) (ws : List ByteArray) (w : World) (h1 : RdC w G A1 n1 c1 (a :: ws)) (hn : n1 ≤ 5000) :
    Calls Try.prog 9 #[.agg #[.slice A1 n1 c1, .slice A2 n2 c2]] w (RTk G a ws (.slice A2 n2 c2) w) := by
  have hl1 : ws.length + 1 = n1 := h1.1.1
  obtain ⟨b, o, rfl, hb, hc⟩ := h1.1.2 0 (by simp)
  rw [List.getElem_cons_zero, Nat.add_zero] at hc
  have hb0 := ((Below.refl w.heap.size w).alloc (Nat.le_refl _) (.cells #[.slice (some ⟨b, o, none⟩) n1 c1, .slice A2 n2 c2] 31)).alloc (by simp) (.cells #[.slice none 0 0, .slice none 0 0] 31)
  have hK0 : Hid (Rk w ((w.alloc (.cells #[.slice (some ⟨b, o, none⟩) n1 c1, .slice A2 n2 c2] 31)).alloc (.cells #[.slice none 0 0, .slice none 0 0] 31)) (.slice (some ⟨b, o, none⟩) n1 c1) (.slice A2 n2 c2)) := hid ⟨(Below.heap_alloc _ _ _ (by simp)).trans (heap_alloc_new w _), by have := heap_alloc_new (w.alloc (.cells #[.slice (some ⟨b, o, none⟩) n1 c1, .slice A2 n2 c2] 31)) (.cells #[.slice none 0 0, .slice none 0 0] 31); rw [World.size_alloc] at this; exact this, hb0, by simp⟩
  have H1 := hid h1
  have hx := hid ((hb0.cell (p := ⟨b, o, none⟩) hb).trans hc)
  have hnc := h1.2.2
  have hn0 : (0 : Int) < (n1 : Int) := by omega
  have hn1 : (1 : Int) ≤ (n1 : Int) := by omega
  have hnc' : (n1 : Int) ≤ (c1 : Int) := by omega
  clear hb0 h1
  go_enter Try.func9, Try.ntmps9
  go_upto_region 1 with fail
  generalize (w.alloc (.cells #[.slice (some ⟨b, o, none⟩) n1 c1, .slice A2 n2 c2] 31)).alloc (.cells #[.slice none 0 0, .slice none 0 0] 31) = wr at *
  have q0 := cell_of_row _ w.heap.size 0 _ _ _ hK0.out.1
  have q1 := cell_of_row _ w.heap.size 1 _ _ _ hK0.out.1
  have r0 := cell_of_row _ (w.heap.size + 1) 0 _ _ _ hK0.out.2.1
  have r1 := cell_of_row _ (w.heap.size + 1) 1 _ _ _ hK0.out.2.1
  have fr := fun o => frozen_of_row wr (w.heap.size + 1) o _ _ hK0.out.2.1
  have hxc := hx.out
  go_upto_region 3 with fail
  go_region
  have hT := hid (rd_tail H1.out)
  generalize (if c1 = 1 then some (⟨b, o, none⟩ : Addr) else some ⟨b, o + 1, none⟩) = A3 at *
  have HAg : Hid ((loadVar 31 ⟨w.heap.size + 1, 0, none⟩).run Try.prog ((wr.setCell ⟨w.heap.size + 1, 0, none⟩ (.slice A3 (n1 - 1) (c1 - 1))).setCell ⟨w.heap.size + 1, 1, none⟩ (.slice A2 n2 c2)).drew = _) := hid (load_ag (W := ((wr.setCell ⟨w.heap.size + 1, 0, none⟩ (.slice A3 (n1 - 1) (c1 - 1))).setCell ⟨w.heap.size + 1, 1, none⟩ (.slice A2 n2 c2)).drew) (heap_setCell_same _ (w.heap.size + 1) 1 _ _ (.slice A2 n2 c2) (heap_setCell_same wr (w.heap.size + 1) 0 _ _ (.slice A3 (n1 - 1) (c1 - 1)) hK0.out.2.1)))
  have hB7 := hid ((hK0.out.2.2.1.setCell (p := ⟨w.heap.size + 1, 0, none⟩) (Nat.le_succ _) (.slice A3 (n1 - 1) (c1 - 1))).setCell (p := ⟨w.heap.size + 1, 1, none⟩) (Nat.le_succ _) (.slice A2 n2 c2)).drew
  generalize ((wr.setCell ⟨w.heap.size + 1, 0, none⟩ (.slice A3 (n1 - 1) (c1 - 1))).setCell ⟨w.heap.size + 1, 1, none⟩ (.slice A2 n2 c2)).drew = W7 at *
  clear hxc q0 q1 r0 r1 fr
  go_wp2_with fail
  have hl := HAg.out
  refine bodyPost_ret (by simp [results, Try.results9, asAddr, hl]; try rfl) rfl ?_
  exact ⟨A3, n1 - 1, c1 - 1, rfl, hT.out.below hB7.out, hB7.out⟩

/-- A step. -/
structure Stp where
  tk : Bool
  A : Option Addr
  n : Nat
  c : Nat
  ns : List ByteArray
/-- Steps in memory. -/
def RdSt (w : World) (K : Nat) (A : Option Addr) (n : Nat) (ss : List Stp) : Prop :=
  ss.length = n ∧ ∀ k (h : k < ss.length), ∃ b o : Nat, A = some ⟨b, o, none⟩ ∧ b < K ∧ w.cell? ⟨b, o + k * 2, none⟩ = some (.bool ss[k].tk) ∧ w.cell? ⟨b, o + k * 2 + 1, none⟩ = some (.slice ss[k].A ss[k].n ss[k].c) ∧ Sls.Rd w K ss[k].A ss[k].n ss[k].ns ∧ ss[k].n ≤ ss[k].c ∧ ss[k].c ≤ maxLen
theorem RdSt.below {w w' : World} {K n : Nat} {A : Option Addr} {ss : List Stp} (h : RdSt w K A n ss) (hb : Below K w w') : RdSt w' K A n ss :=
  ⟨h.1, fun k hk => by
    obtain ⟨b, o, e, hl, h1, h2, h3, h4⟩ := h.2 k hk
    exact ⟨b, o, e, hl, by rw [hb.cell (p := ⟨b, o + k * 2, none⟩) hl]; exact h1, by rw [hb.cell (p := ⟨b, o + k * 2 + 1, none⟩) hl]; exact h2, h3.below hb, h4⟩⟩
/-- How many names the steps add. -/
def sumN (ss : List Stp) : Nat := (ss.map (·.n)).sum
theorem sumN_snoc (ss : List Stp) (x : Stp) : sumN (ss ++ [x]) = sumN ss + x.n := by simp [sumN]
theorem sumN_take (ss : List Stp) (k : Nat) : sumN (ss.take k) ≤ sumN ss := by
  conv => rhs; rw [← List.take_append_drop k ss]
  unfold sumN
  rw [List.map_append, List.sum_append]
  omega
def FewP (n s : Nat) (w : World) (e : Ending) (w' : World) : Prop := ∃ b : Bool, e = .returned (.bool b) ∧ w' = w ∧ (b = true → n ≤ 60 ∧ s ≤ 200)
set_option linter.unusedSimpArgs false in
set_option maxRecDepth 100000 in
set_option maxHeartbeats 1600000 in
theorem rfew_any (K : Nat) (A : Option Addr) (n c : Nat) (ss : List Stp) (w : World) (h : RdSt w K A n ss) (hs : sumN (ss.take 61) ≤ maxLen) :
    Calls Try.prog 7 #[.slice A n c] w (FewP n (sumN ss) w) := by
  have H := hid h
  have Hl : ss.length = n := h.1
  have HS := hid hs
  clear h hs
  go_enter Try.func7, Try.ntmps7
  go_wp2_with fail
  go_loopw [3, 4] (fun mv iv W => ∃ k : Nat, mv = .int .i64 ((sumN (ss.take k) : Nat) : Int) ∧ iv = .int .i64 (k : Int) ∧ k ≤ n ∧ k ≤ 61 ∧ W = w) (fun _ iv _ => 61 - (intOf iv).toNat)
  case atStart => exact ⟨0, rfl, rfl, by omega, by omega, rfl⟩
  case round =>
    obtain ⟨k, rfl, rfl, hk, hk2, rfl⟩ := hrel
    by_cases hlt : k < n ∧ k ≤ 60
    · obtain ⟨hlt, hk6⟩ := hlt
      have hkl : k < ss.length := by omega
      have hki : (k : Int) < (n : Int) := by omega
      have hk6i : (k : Int) ≤ 60 := by omega
      obtain ⟨b, o, rfl, _, c0, c1, hr, hx⟩ := H.out.2 k hkl
      have e1 : sumN (ss.take (k + 1)) = sumN (ss.take k) + ss[k].n := by rw [List.take_succ_eq_append_getElem hkl, sumN_snoc]
      have e2 : sumN (ss.take (k + 1)) ≤ 9223372036854775807 := by
        have h1 := sumN_take (ss.take 61) (k + 1)
        rw [List.take_take, Nat.min_eq_left (by omega)] at h1
        have h2 := HS.out
        unfold maxLen at h2
        omega
      have hsn : ((sumN (ss.take k) : Nat) : Int) + (ss[k].n : Int) = ((sumN (ss.take (k + 1)) : Nat) : Int) := by omega
      have e3 : ((sumN (ss.take (k + 1)) : Nat) : Int) ≤ 9223372036854775807 := by omega
      clear e1 e2
      generalize ss[k] = x at *
      obtain ⟨tk, A', n', c', ns⟩ := x
      simp only at hsn c1 hr hx
      have hxm : n' ≤ 9223372036854775807 := by unfold maxLen at hx; omega
      have HR := hid hr
      have HX := hid hxm
      have HK := hid (show sumN (ss.take k) = sumN (ss.take k) from rfl)
      clear hr hx hxm
      generalize sumN (ss.take k) = s at *
      go_wp2_with fail
      go_loopw [5] (fun qv W => ∃ q : Nat, qv = .int .i64 (q : Int) ∧ q ≤ n' ∧ q ≤ 201 ∧ W = wr) (fun qv _ => 201 - (intOf qv).toNat)
      case atStart => exact ⟨0, rfl, by omega, by omega, rfl⟩
      case round =>
        obtain ⟨q, rfl, hq, hq2, rfl⟩ := hrel
        by_cases hqt : q < n' ∧ q ≤ 200
        · obtain ⟨hqt, hq6⟩ := hqt
          have hql : q < ns.length := by have := HR.out.1; omega
          have hqi : (q : Int) < (n' : Int) := by omega
          have hq6i : (q : Int) ≤ 200 := by omega
          obtain ⟨b', o', rfl, _, p0⟩ := HR.out.2 q hql
          generalize ns[q] = y at *
          by_cases hy : (100 : Int) < (y.size : Int)
          · go_wp2_with fail
            go_ret
            exact ⟨false, rfl, rfl, fun h => by cases h⟩
          · go_wp2_with fail
            go_roundw
            · exact ⟨q + 1, by go_num, by omega, by omega, trivial⟩
            · simp [intOf]; omega
        · by_cases hqn : q < n'
          · have hqi : (q : Int) < (n' : Int) := by omega
            have hq6i : ¬ (q : Int) ≤ 200 := by omega
            go_wp2_with fail
            go_roundw
            · exact ⟨k + 1, rfl, by go_num, by omega, by omega, trivial⟩
            · simp [intOf]; omega
          · have hqi : ¬ (q : Int) < (n' : Int) := by omega
            go_wp2_with fail
            go_roundw
            · exact ⟨k + 1, rfl, by go_num, by omega, by omega, trivial⟩
            · simp [intOf]; omega
    · by_cases hkn : k < n
      · have hki : (k : Int) < (n : Int) := by omega
        have hk6i : ¬ (k : Int) ≤ 60 := by omega
        have hn6 : ¬ (n : Int) ≤ 60 := by omega
        generalize sumN (ss.take k) = s at *
        go_wp2_with fail
        go_ret
        exact ⟨false, rfl, rfl, fun h => by cases h⟩
      · have hki : ¬ (k : Int) < (n : Int) := by omega
        have hst : sumN (ss.take k) = sumN ss := by rw [List.take_of_length_le (by omega)]
        rw [hst]
        generalize hS : sumN ss = s at *
        have HSS := hid hS
        clear hst hS
        by_cases hn6 : (n : Int) ≤ 60
        · by_cases hs2 : ((s : Nat) : Int) ≤ 200
          · go_wp2_with fail
            go_ret
            exact ⟨true, rfl, rfl, fun _ => by have := HSS.out; omega⟩
          · go_wp2_with fail
            go_ret
            exact ⟨false, rfl, rfl, fun h => by cases h⟩
        · go_wp2_with fail
          go_ret
          exact ⟨false, rfl, rfl, fun h => by cases h⟩
end Go.Proofs.Ytbcjbembhajgcaa.Wnt
