/-
  objsym's reference: powers, symbols, lists of symbols, numbers.
  objsym's reference: Valid, Word, Number.
  objsym's reference: Word, Number, Few.
-/
import Derived.Test.YtbcjbembhajgcaaDoorZOg
import Derived.Deep.CutRange
import Derived.BigQuiet
import Derived.Laws.StructEq
namespace Go.Proofs.YtbcjbembhajgcaaDoor.Obj
open Go.RowKit Go.Proofs Go.Proofs.YtbcjbembhajgcaaDoor.Byt
open Go.Proofs.YtbcjbembhajgcaaDoor.Sls (Oth)

theorem pow2_iff (z : Int) : pow2 z = true ↔ ∃ i, i ≤ 16 ∧ z = ((2 ^ i : Nat) : Int) := by
  unfold pow2 pows
  simp only [List.contains_eq_mem, List.mem_cons, List.not_mem_nil, or_false, decide_eq_true_eq]
  constructor
  · intro h
    rcases h with h | h | h | h | h | h | h | h | h | h | h | h | h | h | h | h | h
    all_goals first | exact ⟨0, by omega, by rw [h]; rfl⟩ | exact ⟨1, by omega, by rw [h]; rfl⟩ | exact ⟨2, by omega, by rw [h]; rfl⟩ | exact ⟨3, by omega, by rw [h]; rfl⟩ | exact ⟨4, by omega, by rw [h]; rfl⟩ | exact ⟨5, by omega, by rw [h]; rfl⟩ | exact ⟨6, by omega, by rw [h]; rfl⟩ | exact ⟨7, by omega, by rw [h]; rfl⟩ | exact ⟨8, by omega, by rw [h]; rfl⟩ | exact ⟨9, by omega, by rw [h]; rfl⟩ | exact ⟨10, by omega, by rw [h]; rfl⟩ | exact ⟨11, by omega, by rw [h]; rfl⟩ | exact ⟨12, by omega, by rw [h]; rfl⟩ | exact ⟨13, by omega, by rw [h]; rfl⟩ | exact ⟨14, by omega, by rw [h]; rfl⟩ | exact ⟨15, by omega, by rw [h]; rfl⟩ | exact ⟨16, by omega, by rw [h]; rfl⟩
  · rintro ⟨i, hi, hz⟩
    have : i = 0 ∨ i = 1 ∨ i = 2 ∨ i = 3 ∨ i = 4 ∨ i = 5 ∨ i = 6 ∨ i = 7 ∨ i = 8 ∨ i = 9 ∨ i = 10 ∨ i = 11 ∨ i = 12 ∨ i = 13 ∨ i = 14 ∨ i = 15 ∨ i = 16 := by omega
    rcases this with h | h | h | h | h | h | h | h | h | h | h | h | h | h | h | h | h
    all_goals subst h
    all_goals simp at hz
    all_goals omega

set_option maxRecDepth 100000 in
set_option maxHeartbeats 1000000 in
theorem rpower_any (z : Int) (w : World) :
    Calls Tryd.prog 38 #[.int .i64 z] w fun e w' => e = .returned (.bool (pow2 z)) ∧ w' = w := by
  go_enter Tryd.func38, Tryd.ntmps38
  go_wp2_with fail
  go_loopw [3] (fun v W => ∃ j p : Nat, v = .int .i64 (p : Int) ∧ j ≤ 17 ∧ Hid (p = 2 ^ j) ∧ 1 ≤ p ∧ p ≤ 131072 ∧ Hid (∀ i, i < j → z ≠ ((2 ^ i : Nat) : Int)) ∧ Hid (W = w)) (fun v _ => 131073 - (intOf v).toNat)
  case atStart => exact ⟨0, 1, rfl, by omega, hid rfl, by omega, by omega, hid (fun i hi => by omega), hid rfl⟩
  case round =>
    obtain ⟨j, p, rfl, hj, hp, h1, h2, hz, hw⟩ := hrel
    by_cases hlt : p ≤ 65536
    · have hj16 : j ≤ 16 := by
        rcases Nat.lt_or_ge 16 j with h | h
        · have := Nat.pow_le_pow_right (n := 2) (by omega) h
          have e : (2 : Nat) ^ (16 + 1) = 131072 := rfl
          have := hp.out
          omega
        · exact h
      have hli : (p : Int) ≤ 65536 := by omega
      by_cases hq : (p : Int) = z
      · have hqb : ((p : Int) == z) = true := by rw [beq_iff_eq]; exact hq
        have HR : Hid (pow2 z = true) := hid ((pow2_iff z).2 ⟨j, hj16, by rw [← hq, hp.out]⟩)
        clear hq
        go_wp2_with fail
        go_ret
        exact ⟨ret_bool HR.out.symm, hw.out⟩
      · have hqb : ((p : Int) == z) = false := by rw [beq_eq_false_iff_ne]; exact hq
        have HZ : Hid (∀ i, i < j + 1 → z ≠ ((2 ^ i : Nat) : Int)) := hid fun i hi => by
          by_cases e : i = j
          · subst e; rw [← hp.out]; exact fun h => hq h.symm
          · exact hz.out i (by omega)
        have HP : Hid (2 * p = 2 ^ (j + 1)) := hid (by rw [hp.out, Nat.pow_succ]; omega)
        clear hq hp hz
        go_wp2_with fail
        go_roundw
        · exact ⟨j + 1, 2 * p, by go_num, by omega, HP, by omega, by omega, HZ, hw⟩
        · simp [intOf]; omega
    · have hli : ¬ (p : Int) ≤ 65536 := by omega
      have hj17 : 17 ≤ j := by
        rcases Nat.lt_or_ge j 17 with h | h
        · have := Nat.pow_le_pow_right (n := 2) (by omega) (show j ≤ 16 by omega)
          have e : (2 : Nat) ^ 16 = 65536 := rfl
          have := hp.out
          omega
        · exact h
      have HR : Hid (pow2 z = false) := hid (by
        cases h : pow2 z with
        | false => rfl
        | true => obtain ⟨i, hi, e⟩ := (pow2_iff z).1 h; exact absurd e (hz.out i (by omega)))
      clear hp hz
      go_wp2_with fail
      go_ret
      exact ⟨ret_bool HR.out.symm, hw.out⟩

theorem at_str (s : ByteArray) (i : Nat) (h : i < s.size) : s.data.toList[i]? = some (s[i]'h) := by
  show s.data.toList[i]? = some (s.data[i]'h)
  rw [Array.getElem?_toList]
  exact Array.getElem?_eq_getElem h

set_option maxRecDepth 100000 in
set_option maxHeartbeats 2000000 in
theorem rsym_any (x : Sy) (w : World) :
    Calls Tryd.prog 27 #[x.val] w fun e w' => e = .returned (.bool (symOk x)) ∧ Below w.heap.size w w' := by
  obtain ⟨s, b, z, a⟩ := x
  have hb0 := (Below.refl w.heap.size w).alloc (Nat.le_refl _) (.cells #[.string s, .int .i64 b, .int .i64 z, .int .i64 a] 54)
  have hrow := heap_alloc_new w (.cells #[.string s, .int .i64 b, .int .i64 z, .int .i64 a] 54)
  have c0 := cell_of_row _ w.heap.size 0 _ _ _ hrow
  have c1 := cell_of_row _ w.heap.size 1 _ _ _ hrow
  have c2 := cell_of_row _ w.heap.size 2 _ _ _ hrow
  have c3 := cell_of_row _ w.heap.size 3 _ _ _ hrow
  unfold Sy.val
  clear hrow
  by_cases h0 : s.size = 0
  · have h0b : ((s.size : Int) == 0) = true := by simp only [beq_iff_eq]; omega
    have hS : Hid (symOk ⟨s, b, z, a⟩ = false) := hid (by simp [symOk, nameOk, h0])
    clear h0
    go_enter Tryd.func27, Tryd.ntmps27
    go_wp2_with fail
    go_ret
    exact ⟨ret_bool hS.out.symm, hb0⟩
  have h0b : ((s.size : Int) == 0) = false := by simp only [beq_eq_false_iff_ne]; omega
  by_cases h1 : 255 < s.size
  · have hS : Hid (symOk ⟨s, b, z, a⟩ = false) := hid (by unfold symOk nameOk; rw [show decide (s.size ≤ 255) = false from by simp; omega]; simp)
    have h1i : decide ((255 : Int) < (s.size : Int)) = true := by simp; omega
    clear h0
    go_enter Tryd.func27, Tryd.ntmps27
    go_wp2_with fail
    go_ret
    exact ⟨ret_bool hS.out.symm, hb0⟩
  have h1i : decide ((255 : Int) < (s.size : Int)) = false := by simp; omega
  by_cases h2 : z < 0
  · have hS : Hid (symOk ⟨s, b, z, a⟩ = false) := hid (by
      cases h : symOk ⟨s, b, z, a⟩ with
      | false => rfl
      | true => unfold symOk at h; rw [Bool.and_eq_true] at h; have := bindOk_range h.2; simp only at this; omega)
    have h2i : decide (z < 0) = true := by simpa using h2
    clear h0
    go_enter Tryd.func27, Tryd.ntmps27
    go_wp2_with fail
    go_ret
    exact ⟨ret_bool hS.out.symm, hb0⟩
  have h2i : decide (z < 0) = false := by simpa using h2
  by_cases h3 : 4294967295 < z
  · have hS : Hid (symOk ⟨s, b, z, a⟩ = false) := hid (by
      cases h : symOk ⟨s, b, z, a⟩ with
      | false => rfl
      | true => unfold symOk at h; rw [Bool.and_eq_true] at h; have := bindOk_range h.2; simp only at this; omega)
    have h3i : decide (4294967295 < z) = true := by simpa using h3
    clear h0 h2
    go_enter Tryd.func27, Tryd.ntmps27
    go_wp2_with fail
    go_ret
    exact ⟨ret_bool hS.out.symm, hb0⟩
  have h3i : decide (4294967295 < z) = false := by simpa using h3
  have hsz : sizeOk z = true := by unfold sizeOk; simp; omega
  have Hsz := hid hsz
  have hs255 : s.size ≤ 255 := by omega
  have HN : Hid (nameOk s = !(s.data.toList.contains 0)) := hid (by unfold nameOk; simp [h0, hs255])
  clear hsz h0 h2 h3 h1
  go_enter Tryd.func27, Tryd.ntmps27
  go_wp2_with fail
  go_loopw [3] (fun v W => ∃ k : Nat, v = .int .i64 (k : Int) ∧ k ≤ s.size ∧ Hid (∀ i, i < k → s.data.toList[i]? ≠ some 0) ∧ Hid (W = w.alloc (.cells #[.string s, .int .i64 b, .int .i64 z, .int .i64 a] 54))) (fun v _ => s.size - (intOf v).toNat)
  case atStart => exact ⟨0, rfl, by omega, hid (fun i hi => by omega), hid rfl⟩
  case round =>
    obtain ⟨k, rfl, hk, hno, hw⟩ := hrel
    have hw' := hw.out
    subst hw'
    by_cases hlt : k < s.size
    · have hli : (k : Int) < (s.size : Int) := by omega
      have hat := at_str s k hlt
      by_cases hq : (s[k]'hlt) = 0
      · have hqb : (((s[k]'hlt).toNat : Int) == 0) = true := by rw [hq]; rfl
        have hS : Hid (symOk ⟨s, b, z, a⟩ = false) := hid (by
          unfold symOk
          rw [show nameOk s = false from by rw [HN.out, Bool.not_eq_false', List.contains_eq_mem, decide_eq_true_eq]; exact List.mem_of_getElem? (by rw [hat, hq])]
          rfl)
        clear hat hno
        go_wp2_with fail
        go_ret
        exact ⟨ret_bool hS.out.symm, hb0⟩
      · have hqb : (((s[k]'hlt).toNat : Int) == 0) = false := by
          rw [beq_eq_false_iff_ne]; intro e; apply hq; rw [← UInt8.toNat_inj]; show (s[k]'hlt).toNat = 0; omega
        have HZ : Hid (∀ i, i < k + 1 → s.data.toList[i]? ≠ some 0) := hid fun i hi => by
          by_cases e : i = k
          · subst e; rw [hat]; intro q; injection q with q; exact hq q
          · exact hno.out i (by omega)
        clear hat hno hq
        go_wp2_with fail
        go_roundw
        · exact ⟨k + 1, by go_num, by omega, HZ, hid trivial⟩
        · simp [intOf]; omega
    · have hli : ¬ (k : Int) < (s.size : Int) := by omega
      have hN : nameOk s = true := by
        rw [HN.out, Bool.not_eq_true', List.contains_eq_mem, decide_eq_false_iff_not]
        intro hm
        obtain ⟨i, hi⟩ := List.getElem?_of_mem hm
        have := (List.getElem?_eq_some_iff.1 hi).1
        rw [len_list] at this
        exact hno.out i (by omega) hi
      have hS : symOk ⟨s, b, z, a⟩ = bindOk b z a := by unfold symOk; rw [hN]; rfl
      have HS := hid hS
      clear hN hS hno
      by_cases b3 : b = 3
      · have b3b : (b == 3) = true := by simpa using b3
        have HS' : Hid (symOk ⟨s, b, z, a⟩ = pow2 a) := hid (by rw [HS.out]; unfold bindOk; rw [if_neg (by omega), if_pos b3, Hsz.out]; rfl)
        clear b3
        go_wp2_with (go_at_call 38; refine (rpower_any a _).mono ?_; rintro e w1 ⟨rfl, rfl⟩)
        go_ret
        exact ⟨ret_bool HS'.out.symm, hb0⟩
      have b3b : (b == 3) = false := by simpa using b3
      by_cases b4 : b = 4
      · have b4b : (b == 4) = true := by simpa using b4
        have HS' : Hid (symOk ⟨s, b, z, a⟩ = (decide (z = 0) && decide (a = 0))) := hid (by rw [HS.out]; unfold bindOk; rw [if_neg (by omega), if_neg b3, if_pos (.inl b4)])
        clear b3 b4
        by_cases hz : z = 0
        · have hzb : (z == 0) = true := by simpa using hz
          clear hz
          go_wp2_with fail
          go_ret
          exact ⟨ret_bool (by rw [HS'.out, show decide (z = 0) = true from hzb]; rfl), hb0⟩
        · have hzb : (z == 0) = false := by simpa using hz
          go_wp2_with fail
          go_ret
          exact ⟨ret_bool (by rw [HS'.out, show decide (z = 0) = false from hzb]; rfl), hb0⟩
      have b4b : (b == 4) = false := by simpa using b4
      by_cases b5 : b = 5
      · have b5b : (b == 5) = true := by simpa using b5
        have HS' : Hid (symOk ⟨s, b, z, a⟩ = (decide (z = 0) && decide (a = 0))) := hid (by rw [HS.out]; unfold bindOk; rw [if_neg (by omega), if_neg b3, if_pos (.inr b5)])
        clear b3 b4 b5
        by_cases hz : z = 0
        · have hzb : (z == 0) = true := by simpa using hz
          clear hz
          go_wp2_with fail
          go_ret
          exact ⟨ret_bool (by rw [HS'.out, show decide (z = 0) = true from hzb]; rfl), hb0⟩
        · have hzb : (z == 0) = false := by simpa using hz
          go_wp2_with fail
          go_ret
          exact ⟨ret_bool (by rw [HS'.out, show decide (z = 0) = false from hzb]; rfl), hb0⟩
      have b5b : (b == 5) = false := by simpa using b5
      by_cases b1 : b = 1
      · have b1b : (b == 1) = true := by simpa using b1
        have HS' : Hid (symOk ⟨s, b, z, a⟩ = decide (a = 0)) := hid (by rw [HS.out]; unfold bindOk; rw [if_pos (.inl b1), Hsz.out]; rfl)
        clear b1 b3 b4 b5
        go_wp2_with fail
        go_ret
        exact ⟨ret_bool (by rw [HS'.out]; rfl), hb0⟩
      have b1b : (b == 1) = false := by simpa using b1
      by_cases b2 : b = 2
      · have b2b : (b == 2) = true := by simpa using b2
        have HS' : Hid (symOk ⟨s, b, z, a⟩ = decide (a = 0)) := hid (by rw [HS.out]; unfold bindOk; rw [if_pos (.inr b2), Hsz.out]; rfl)
        clear b1 b2 b3 b4 b5
        go_wp2_with fail
        go_ret
        exact ⟨ret_bool (by rw [HS'.out]; rfl), hb0⟩
      have b2b : (b == 2) = false := by simpa using b2
      have HS' : Hid (symOk ⟨s, b, z, a⟩ = false) := hid (by rw [HS.out]; unfold bindOk; rw [if_neg (by omega), if_neg b3, if_neg (by omega)])
      clear b1 b2 b3 b4 b5
      go_wp2_with fail
      go_ret
      exact ⟨ret_bool HS'.out.symm, hb0⟩

set_option maxRecDepth 100000 in
set_option maxHeartbeats 1000000 in
theorem rhas_any (K : Nat) (A : Option Addr) (n c : Nat) (xs : List Sy) (s : ByteArray) (w : World) (h : RdS w K A n xs) (hn : n ≤ 140737488355328) :
    Calls Tryd.prog 28 #[.slice A n c, .string s] w fun e w' => e = .returned (.bool (has xs s)) ∧ w' = w := by
  have Hl := hid h.1
  go_enter Tryd.func28, Tryd.ntmps28
  go_wp2_with fail
  go_loopw [5] (fun i W => ∃ k : Nat, i = .int .i64 (k : Int) ∧ k ≤ n ∧ Hid (has xs s = has (xs.drop k) s) ∧ Hid (W = w)) (fun i _ => n - (intOf i).toNat)
  case atStart => exact ⟨0, rfl, by omega, hid rfl, hid rfl⟩
  case round =>
    obtain ⟨k, rfl, hk, hG, hw⟩ := hrel
    have hw' := hw.out
    subst hw'
    by_cases hlt : k < n
    · have hkl : k < xs.length := by have := Hl.out; omega
      obtain ⟨⟨b, o, rfl, hbK, hcell⟩, hsz⟩ := h.2 k hkl
      have Hstep := hid (find_step hkl s)
      generalize xs[k] = x at *
      obtain ⟨x0, x1, x2, x3⟩ := x
      obtain ⟨p0, p1, p2, p3⟩ := hcell
      by_cases hq : x0 = s
      · have hqb : (x0.toList == s.toList) = true := by rw [beq_iff_eq, str_eq]; exact hq
        have HR : Hid (has xs s = true) := hid (hG.out.trans (Hstep.out.1 hq).1)
        clear hq
        go_wp2_with fail
        go_ret
        exact ⟨ret_bool HR.out.symm, rfl⟩
      · have hqb : (x0.toList == s.toList) = false := by rw [beq_eq_false_iff_ne, ne_eq, str_eq]; exact hq
        have HR : Hid (has xs s = has (xs.drop (k + 1)) s) := hid (hG.out.trans (Hstep.out.2 hq).1)
        clear hq
        go_wp2_with fail
        go_roundw
        · exact ⟨k + 1, by go_num, by omega, HR, hid trivial⟩
        · simp [intOf]; omega
    · obtain rfl : k = n := by omega
      have HR : Hid (has xs s = false) := hid (by rw [hG.out, List.drop_eq_nil_of_le (by have := Hl.out; omega)]; rfl)
      go_wp2_with fail
      go_ret
      exact ⟨ret_bool HR.out.symm, rfl⟩
end Go.Proofs.YtbcjbembhajgcaaDoor.Obj

namespace Go.Proofs.YtbcjbembhajgcaaDoor.Obj
open Go.RowKit Go.Proofs Go.Proofs.YtbcjbembhajgcaaDoor.Byt
open Go.Proofs.YtbcjbembhajgcaaDoor.Sls (Oth)

theorem cell_keep {W W1 : World} {p : Addr} {v : Value} (hb : Below W.heap.size W W1) (h : W.cell? p = some v) : W1.cell? p = some v := by
  rw [hb.cell (World.block_lt_of_cell? W p h)]; exact h
theorem keep_v {V W W1 : World} {B C q : Nat} {v0 u0 u1 u2 u3 : Value} (h : W.cell? ⟨B, 0, none⟩ = some v0 ∧ W.cell? ⟨C, q, none⟩ = some u0 ∧ W.cell? ⟨C, q + 1, none⟩ = some u1 ∧ W.cell? ⟨C, q + 2, none⟩ = some u2 ∧ W.cell? ⟨C, q + 3, none⟩ = some u3 ∧ Below V.heap.size V W) (hb : Below W.heap.size W W1) :
    W1.cell? ⟨B, 0, none⟩ = some v0 ∧ W1.cell? ⟨C, q, none⟩ = some u0 ∧ W1.cell? ⟨C, q + 1, none⟩ = some u1 ∧ W1.cell? ⟨C, q + 2, none⟩ = some u2 ∧ W1.cell? ⟨C, q + 3, none⟩ = some u3 ∧ Below V.heap.size V W1 := by
  obtain ⟨h0, h4, h5, h6, h7, h8⟩ := h
  exact ⟨cell_keep hb h0, cell_keep hb h4, cell_keep hb h5, cell_keep hb h6, cell_keep hb h7, h8.trans (hb.mono h8.size)⟩
theorem held_v {V W : World} {B C q : Nat} {v0 u0 u1 u2 u3 : Value} (h : W.cell? ⟨B, 0, none⟩ = some v0 ∧ W.cell? ⟨C, q, none⟩ = some u0 ∧ W.cell? ⟨C, q + 1, none⟩ = some u1 ∧ W.cell? ⟨C, q + 2, none⟩ = some u2 ∧ W.cell? ⟨C, q + 3, none⟩ = some u3 ∧ Below V.heap.size V W) : Below V.heap.size V W := by
  obtain ⟨_, _, _, _, _, h8⟩ := h
  exact h8

set_option linter.unusedSimpArgs false in
set_option maxRecDepth 100000 in
set_option maxHeartbeats 6000000 in
theorem rvalid_any (K : Nat) (A B : Option Addr) (n c m d : Nat) (xs : List Sy) (w : World) (h : RdS w K A n xs) (hK : K ≤ w.heap.size) (hn : n ≤ 140737488355328) (hnc : n ≤ c) :
    Calls Tryd.prog 16 #[.agg #[.slice A n c, .slice B m d]] w fun e w' => e = .returned (.bool (validO xs)) ∧ Below w.heap.size w w' := by
  have Hl := hid h.1
  have hb0 := (Below.refl w.heap.size w).alloc (Nat.le_refl _) (.cells #[.slice A n c, .slice B m d] 35)
  have hrow0 := heap_alloc_new w (.cells #[.slice A n c, .slice B m d] 35)
  have hsz0 : (w.alloc (.cells #[.slice A n c, .slice B m d] 35)).heap.size = w.heap.size + 1 := World.size_alloc _ _
  have h0 := h.below (hb0.mono hK)
  go_enter Tryd.func16, Tryd.ntmps16
  go_wp2_with fail
  generalize w.alloc (.cells #[.slice A n c, .slice B m d] 35) = w0 at *
  go_loopw [3] (fun i W => ∃ k : Nat, i = .int .i64 (k : Int) ∧ k ≤ n ∧ Hid (goodL [] xs = goodL (xs.take k) (xs.drop k)) ∧ Below (w.heap.size + 1) w0 W) (fun i _ => n - (intOf i).toNat)
  case atStart => exact ⟨0, rfl, by omega, hid rfl, Below.refl _ _⟩
  case round =>
    obtain ⟨k, rfl, hk, hG, hb⟩ := hrel
    have hrow := (hb.block w.heap.size (by omega)).trans hrow0
    have q0 := cell_of_row _ w.heap.size 0 _ _ _ hrow
    have hwr : w.heap.size + 1 ≤ wr.heap.size := by have := hb.size; omega
    by_cases hlt : k < n
    · have hkl : k < xs.length := by have := Hl.out; omega
      have hkc : (k : Int) ≤ (c : Int) := by omega
      have hk0 : ¬ (k : Int) < 0 := by omega
      have hR := h0.below (hb.mono (by omega))
      obtain ⟨⟨b, o, rfl, hbK, hcell⟩, hsz⟩ := hR.2 k hkl
      have Hstep := hid (goodL_step hkl)
      have HC : Hid (∀ W, Below wr.heap.size wr W → Calls Tryd.prog 27 #[xs[k].val] W fun e W' => e = .returned (.bool (symOk xs[k])) ∧ Below W.heap.size W W') := hid fun W hW => rsym_any _ W
      have HH : Hid (∀ W, Below wr.heap.size wr W → Calls Tryd.prog 28 #[.slice (some ⟨b, o, none⟩) k c, .string xs[k].name] W fun e W' => e = .returned (.bool (has (xs.take k) xs[k].name)) ∧ Below W.heap.size W W') := hid fun W hW =>
        (rhas_any K _ k c (xs.take k) _ W ((hR.below (hW.mono (by omega))).pre hk) (by omega)).mono fun e W' ⟨h1, h2⟩ => ⟨h1, by rw [h2]; exact Below.refl _ _⟩
      have hb1 : b < wr.heap.size := by omega
      have HX : Hid (∀ W, Below wr.heap.size wr W → W.cell? ⟨w.heap.size, 0, none⟩ = some (.slice (some ⟨b, o, none⟩) n c) ∧ SCells W b (o + k * 4) xs[k]) := hid fun W hW => ⟨(hW.cell (p := ⟨w.heap.size, 0, none⟩) (by show w.heap.size < _; omega)).trans q0, hcell.below hW hb1⟩
      generalize xs[k] = x at *
      obtain ⟨x0, x1, x2, x3⟩ := x
      obtain ⟨p0, p1, p2, p3⟩ := hcell
      simp only [Sy.val] at HC
      clear hR hk0
      cases hsy : symOk ⟨x0, x1, x2, x3⟩
      · rw [hsy] at HC
        have Hr : Hid (validO xs = false) := hid (by unfold validO; rw [hG.out, Hstep.out, hsy]; simp)
        have hbX0 : Below wr.heap.size wr wr.drew := (Below.refl _ _).drew
        go_upto_region 4 with fail
        go_cut [30] from 11 to 30 (fun s30 wx => s30 = .bool true ∧ Below wr.heap.size wr wx)
        case first =>
          refine Ord.Till.begin (fun W' => W'.cell? ⟨w.heap.size, 0, none⟩ = some (.slice (some ⟨b, o, none⟩) n c) ∧ W'.cell? ⟨b, o + k * 4, none⟩ = some (.string x0) ∧ W'.cell? ⟨b, o + k * 4 + 1, none⟩ = some (.int .i64 x1) ∧ W'.cell? ⟨b, o + k * 4 + 2, none⟩ = some (.int .i64 x2) ∧ W'.cell? ⟨b, o + k * 4 + 3, none⟩ = some (.int .i64 x3) ∧ Below wr.heap.size wr W') 20 (by kernel_rfl) ?_
          have hS0 : (fun W' => W'.cell? ⟨w.heap.size, 0, none⟩ = some (.slice (some ⟨b, o, none⟩) n c) ∧ W'.cell? ⟨b, o + k * 4, none⟩ = some (.string x0) ∧ W'.cell? ⟨b, o + k * 4 + 1, none⟩ = some (.int .i64 x1) ∧ W'.cell? ⟨b, o + k * 4 + 2, none⟩ = some (.int .i64 x2) ∧ W'.cell? ⟨b, o + k * 4 + 3, none⟩ = some (.int .i64 x3) ∧ Below wr.heap.size wr W') wr.drew := ⟨q0, p0, p1, p2, p3, hbX0⟩
          refine Ord.Till.take 0 (oi := _) (x := ?_) rfl (by kernel_rfl) (by kernel_rfl) (by kernel_rfl) (by kernel_rfl) (fun _ _ _ h => h) (by rfl) ?_ hS0 ?_
          rotate_left 1
          · intro v hv; obtain ⟨z1, z2, z3, z4, z5, z6⟩ := hv; go_simp; first | done | with_reducible rfl
          try simp only [Act.put, List.setIfInBounds_toArray, List.set_cons_zero, List.set_cons_succ]
          refine Ord.Till.take 1 (oi := _) (x := ?_) rfl (by kernel_rfl) (by kernel_rfl) (by kernel_rfl) (by kernel_rfl) (fun _ _ _ h => h) (by rfl) ?_ hS0 ?_
          rotate_left 1
          · intro v hv; obtain ⟨z1, z2, z3, z4, z5, z6⟩ := hv; go_simp; first | done | with_reducible rfl
          try simp only [Act.put, List.setIfInBounds_toArray, List.set_cons_zero, List.set_cons_succ]
          refine Ord.Till.take 2 (oi := _) (x := ?_) rfl (by kernel_rfl) (by kernel_rfl) (by kernel_rfl) (by kernel_rfl) (fun _ _ _ h => h) (by rfl) ?_ hS0 ?_
          rotate_left 1
          · intro v hv; obtain ⟨z1, z2, z3, z4, z5, z6⟩ := hv; go_simp; first | done | with_reducible rfl
          try simp only [Act.put, List.setIfInBounds_toArray, List.set_cons_zero, List.set_cons_succ]
          refine Ord.Till.take 3 (oi := _) (x := ?_) rfl (by kernel_rfl) (by kernel_rfl) (by kernel_rfl) (by kernel_rfl) (fun _ _ _ h => h) (by rfl) ?_ hS0 ?_
          rotate_left 1
          · intro v hv; obtain ⟨z1, z2, z3, z4, z5, z6⟩ := hv; go_simp; first | done | with_reducible rfl
          try simp only [Act.put, List.setIfInBounds_toArray, List.set_cons_zero, List.set_cons_succ]
          refine Ord.Till.take 4 (oi := _) (x := ?_) rfl (by kernel_rfl) (by kernel_rfl) (by kernel_rfl) (by kernel_rfl) (fun _ _ _ h => h) (by rfl) ?_ hS0 ?_
          rotate_left 1
          · intro v hv; obtain ⟨z1, z2, z3, z4, z5, z6⟩ := hv; go_simp; first | done | with_reducible rfl
          try simp only [Act.put, List.setIfInBounds_toArray, List.set_cons_zero, List.set_cons_succ]
          refine Ord.Till.step 5 (by kernel_rfl) rfl (fun C hC => ?_)
          go_simp
          go_at_call 27
          refine (HC.out _ hbX0).mono ?_
          rintro e w' ⟨rfl, hbX⟩
          have hS1 := keep_v hS0 hbX
          refine hC.out _ _ (fun _ => hS1) ?_
          clear hC C
          try simp only [Act.put, List.setIfInBounds_toArray, List.set_cons_zero, List.set_cons_succ]
          refine Ord.Till.take 6 (oi := _) (x := ?_) rfl (by kernel_rfl) (by kernel_rfl) (by kernel_rfl) (by kernel_rfl) (fun _ _ _ h => h) (by rfl) ?_ hS1 ?_
          rotate_left 1
          · intro v hv; obtain ⟨z1, z2, z3, z4, z5, z6⟩ := hv; go_simp; first | done | with_reducible rfl
          try simp only [Act.put, List.setIfInBounds_toArray, List.set_cons_zero, List.set_cons_succ]
          refine Ord.Till.take 7 (oi := _) (x := ?_) rfl (by kernel_rfl) (by kernel_rfl) (by kernel_rfl) (by kernel_rfl) (fun _ _ _ h => h) (by rfl) ?_ hS1 ?_
          rotate_left 1
          · intro v hv; obtain ⟨z1, z2, z3, z4, z5, z6⟩ := hv; go_simp; first | done | with_reducible rfl
          try simp only [Act.put, List.setIfInBounds_toArray, List.set_cons_zero, List.set_cons_succ]
          refine Ord.Till.skip 8 (oi := _) rfl (by kernel_rfl) (by kernel_rfl) (by kernel_rfl) (by kernel_rfl) (fun _ _ _ h => h) (by kernel_rfl) hS1 ?_
          try simp only [Act.put, List.setIfInBounds_toArray, List.set_cons_zero, List.set_cons_succ]
          refine Ord.Till.skip 9 (oi := _) rfl (by kernel_rfl) (by kernel_rfl) (by kernel_rfl) (by kernel_rfl) (fun _ _ _ h => h) (by kernel_rfl) hS1 ?_
          try simp only [Act.put, List.setIfInBounds_toArray, List.set_cons_zero, List.set_cons_succ]
          refine Ord.Till.skip 10 (oi := _) rfl (by kernel_rfl) (by kernel_rfl) (by kernel_rfl) (by kernel_rfl) (fun _ _ _ h => h) (by kernel_rfl) hS1 ?_
          try simp only [Act.put, List.setIfInBounds_toArray, List.set_cons_zero, List.set_cons_succ]
          refine Ord.Till.skip 11 (oi := _) rfl (by kernel_rfl) (by kernel_rfl) (by kernel_rfl) (by kernel_rfl) (fun _ _ _ h => h) (by kernel_rfl) hS1 ?_
          try simp only [Act.put, List.setIfInBounds_toArray, List.set_cons_zero, List.set_cons_succ]
          refine Ord.Till.skip 12 (oi := _) rfl (by kernel_rfl) (by kernel_rfl) (by kernel_rfl) (by kernel_rfl) (fun _ _ _ h => h) (by kernel_rfl) hS1 ?_
          try simp only [Act.put, List.setIfInBounds_toArray, List.set_cons_zero, List.set_cons_succ]
          refine Ord.Till.skip 13 (oi := _) rfl (by kernel_rfl) (by kernel_rfl) (by kernel_rfl) (by kernel_rfl) (fun _ _ _ h => h) (by kernel_rfl) hS1 ?_
          try simp only [Act.put, List.setIfInBounds_toArray, List.set_cons_zero, List.set_cons_succ]
          refine Ord.Till.skip 14 (oi := _) rfl (by kernel_rfl) (by kernel_rfl) (by kernel_rfl) (by kernel_rfl) (fun _ _ _ h => h) (by kernel_rfl) hS1 ?_
          try simp only [Act.put, List.setIfInBounds_toArray, List.set_cons_zero, List.set_cons_succ]
          refine Ord.Till.skip 15 (oi := _) rfl (by kernel_rfl) (by kernel_rfl) (by kernel_rfl) (by kernel_rfl) (fun _ _ _ h => h) (by kernel_rfl) hS1 ?_
          try simp only [Act.put, List.setIfInBounds_toArray, List.set_cons_zero, List.set_cons_succ]
          refine Ord.Till.skip 16 (oi := _) rfl (by kernel_rfl) (by kernel_rfl) (by kernel_rfl) (by kernel_rfl) (fun _ _ _ h => h) (by kernel_rfl) hS1 ?_
          try simp only [Act.put, List.setIfInBounds_toArray, List.set_cons_zero, List.set_cons_succ]
          refine Ord.Till.skip 17 (oi := _) rfl (by kernel_rfl) (by kernel_rfl) (by kernel_rfl) (by kernel_rfl) (fun _ _ _ h => h) (by kernel_rfl) hS1 ?_
          try simp only [Act.put, List.setIfInBounds_toArray, List.set_cons_zero, List.set_cons_succ]
          refine Ord.Till.skip 18 (oi := _) rfl (by kernel_rfl) (by kernel_rfl) (by kernel_rfl) (by kernel_rfl) (fun _ _ _ h => h) (by kernel_rfl) hS1 ?_
          try simp only [Act.put, List.setIfInBounds_toArray, List.set_cons_zero, List.set_cons_succ]
          refine Ord.Till.take 19 (oi := _) (x := ?_) rfl (by kernel_rfl) (by kernel_rfl) (by kernel_rfl) (by kernel_rfl) (fun _ _ _ h => h) (by rfl) ?_ hS1 ?_
          rotate_left 1
          · intro v hv; obtain ⟨z1, z2, z3, z4, z5, z6⟩ := hv; go_simp; first | done | with_reducible rfl
          try simp only [Act.put, List.setIfInBounds_toArray, List.set_cons_zero, List.set_cons_succ]
          refine Ord.Till.done (by kernel_rfl) ?_ _
          have hZ := held_v hS1
          go_wp2_with fail
          go_meet
          exact ⟨rfl, hZ⟩
        case rest =>
          obtain ⟨rfl, hbc⟩ := hcut
          go_wp2_with fail
          go_ret
          exact ⟨ret_bool Hr.out.symm, (hb0.trans (hb.mono (by omega))).trans (hbc.mono (by omega))⟩
      · rw [hsy] at HC
        have hbX0 : Below wr.heap.size wr wr.drew := (Below.refl _ _).drew
        obtain ⟨v, hv⟩ : ∃ v, v = has (xs.take k) x0 := ⟨_, rfl⟩
        simp only at HH
        rw [← hv] at HH
        have Hv := hid hv
        clear hv
        go_upto_region 4 with fail
        go_cut [30] from 11 to 30 (fun s30 wx => s30 = .bool v ∧ Below wr.heap.size wr wx)
        case first =>
          go_region_held3 (fun W' => W'.cell? ⟨w.heap.size, 0, none⟩ = some (.slice (some ⟨b, o, none⟩) n c) ∧ W'.cell? ⟨b, o + k * 4, none⟩ = some (.string x0) ∧ W'.cell? ⟨b, o + k * 4 + 1, none⟩ = some (.int .i64 x1) ∧ W'.cell? ⟨b, o + k * 4 + 2, none⟩ = some (.int .i64 x2) ∧ W'.cell? ⟨b, o + k * 4 + 3, none⟩ = some (.int .i64 x3) ∧ Below wr.heap.size wr W')
            (first | exact ⟨q0, p0, p1, p2, p3, hbX0⟩ | exact keep_v (by assumption) hbX)
            (first
              | (go_at_call 27; refine (HC.out _ (by first | assumption | exact held_v (by assumption))).mono ?_; rintro e w' ⟨rfl, hbX⟩)
              | (go_at_call 28; refine (HH.out _ (by first | assumption | exact held_v (by assumption))).mono ?_; rintro e w' ⟨rfl, hbX⟩)
              | fail)
          rename_i hh
          have hZ := held_v hh
          clear hh
          go_wp2_with fail
          go_meet
          exact ⟨by first | rfl | simp, hZ⟩
        case rest =>
          obtain ⟨rfl, hbc⟩ := hcut
          cases v
          · have Hr : Hid (goodL [] xs = goodL (xs.take (k + 1)) (xs.drop (k + 1))) := hid (by rw [hG.out, Hstep.out, hsy]; simp only; rw [← Hv.out]; rfl)
            have hbb := hb.trans (hbc.mono (by omega))
            clear hbc hb Hstep hG
            go_wp2_with fail
            go_roundw
            · exact ⟨k + 1, by go_num, by omega, Hr, hbb⟩
            · simp [intOf]; omega
          · have Hr : Hid (validO xs = false) := hid (by unfold validO; rw [hG.out, Hstep.out, hsy]; simp only; rw [← Hv.out]; simp)
            go_wp2_with fail
            go_ret
            exact ⟨ret_bool Hr.out.symm, (hb0.trans (hb.mono (by omega))).trans (hbc.mono (by omega))⟩
    · obtain rfl : k = n := by omega
      have Hr : Hid (goodL [] xs = true) := hid (by rw [hG.out, List.drop_eq_nil_of_le (by have := Hl.out; omega)]; rfl)
      have HV : Hid (validO xs = decide ((k : Int) ≤ 65536)) := hid (by
        unfold validO
        rw [Hr.out, Hl.out, Bool.and_true]
        by_cases q : k ≤ 65536
        · rw [decide_eq_true q, decide_eq_true (by omega)]
        · rw [decide_eq_false q, decide_eq_false (by omega)])
      go_wp2_with fail
      go_ret
      exact ⟨ret_bool HV.out.symm, hb0.trans (hb.mono (by omega))⟩
end Go.Proofs.YtbcjbembhajgcaaDoor.Obj

namespace Go.Proofs.YtbcjbembhajgcaaDoor.Obj
open Go.RowKit Go.Proofs Go.Proofs.YtbcjbembhajgcaaDoor.Byt
open Go.Proofs.YtbcjbembhajgcaaDoor.Sls (Oth)

/-- Whether an object is small. -/
def fewO (xs : List Sy) (m : Nat) : Bool := (xs.take 61).all (fun x => decide (x.name.size ≤ 300)) && (decide (xs.length ≤ 60) && decide (m ≤ 1000))
theorem fewO_iff {xs : List Sy} {m : Nat} : fewO xs m = true ↔ xs.length ≤ 60 ∧ m ≤ 1000 ∧ ∀ x ∈ xs, x.name.size ≤ 300 := by
  unfold fewO
  rw [Bool.and_eq_true, Bool.and_eq_true, decide_eq_true_eq, decide_eq_true_eq, List.all_eq_true]
  constructor
  · rintro ⟨h1, h2, h3⟩
    rw [List.take_of_length_le (by omega)] at h1
    exact ⟨h2, h3, fun x hx => by simpa using h1 x hx⟩
  · rintro ⟨h2, h3, h1⟩
    exact ⟨fun x hx => by simpa using h1 x (List.mem_of_mem_take hx), h2, h3⟩

set_option maxRecDepth 100000 in
set_option maxHeartbeats 2000000 in
theorem rfew_any (K : Nat) (A B : Option Addr) (n c m d : Nat) (xs : List Sy) (w : World) (h : RdS w K A n xs) (hK : K ≤ w.heap.size) :
    Calls Tryd.prog 15 #[.agg #[.slice A n c, .slice B m d]] w fun e w' => e = .returned (.bool (fewO xs m)) ∧ Below w.heap.size w w' := by
  have Hl := hid h.1
  have hb0 := (Below.refl w.heap.size w).alloc (Nat.le_refl _) (.cells #[.slice A n c, .slice B m d] 35)
  have hrow0 := heap_alloc_new w (.cells #[.slice A n c, .slice B m d] 35)
  have h0 := h.below (hb0.mono hK)
  go_enter Tryd.func15, Tryd.ntmps15
  go_wp2_with fail
  generalize w.alloc (.cells #[.slice A n c, .slice B m d] 35) = w0 at *
  go_loopw [3] (fun i W => ∃ k : Nat, i = .int .i64 (k : Int) ∧ k ≤ n ∧ k ≤ 61 ∧ Hid (∀ i (hi : i < xs.length), i < k → xs[i].name.size ≤ 300) ∧ Hid (W = w0)) (fun i _ => 61 - (intOf i).toNat)
  case atStart => exact ⟨0, rfl, by omega, by omega, hid (fun i hi hk => by omega), hid rfl⟩
  case round =>
    obtain ⟨k, rfl, hk, hk61, hG, hw⟩ := hrel
    have hw' := hw.out
    subst hw'
    have q0 := cell_of_row _ w.heap.size 0 _ _ _ hrow0
    have q1 := cell_of_row _ w.heap.size 1 _ _ _ hrow0
    by_cases hlt : k < n
    · have hli : decide ((k : Int) < (n : Int)) = true := by simp; omega
      by_cases h60 : k ≤ 60
      · have h6i : decide ((k : Int) ≤ 60) = true := by simp; omega
        have hkl : k < xs.length := by have := Hl.out; omega
        obtain ⟨⟨b, o, rfl, hbK, hcell⟩, hsz⟩ := h0.2 k hkl
        have HG2 : Hid (xs[k].name.size ≤ 300 → ∀ i (hi : i < xs.length), i < k + 1 → xs[i].name.size ≤ 300) := hid fun hx i hi hk1 => by
          by_cases e : i = k
          · subst e; exact hx
          · exact hG.out i hi (by omega)
        have HF : Hid (300 < xs[k].name.size → fewO xs m = false) := hid fun hx => by
          cases h : fewO xs m with
          | false => rfl
          | true => have := (fewO_iff.1 h).2.2 _ (List.getElem_mem hkl); omega
        generalize xs[k] = x at *
        obtain ⟨x0, x1, x2, x3⟩ := x
        obtain ⟨p0, p1, p2, p3⟩ := hcell
        simp only at HG2 HF
        have hki : (k : Int) < (n : Int) := by omega
        by_cases hx : 300 < x0.size
        · have hxi : (300 : Int) < (x0.size : Int) := by omega
          have HR := hid (HF.out hx)
          go_wp2_with fail
          go_ret
          exact ⟨ret_bool HR.out.symm, hb0⟩
        · have hxi : ¬ (300 : Int) < (x0.size : Int) := by omega
          have HR := hid (HG2.out (by omega))
          go_wp2_with fail
          go_roundw
          · exact ⟨k + 1, by go_num, by omega, by omega, HR, hid trivial⟩
          · simp [intOf]; omega
      · have h6i : decide ((k : Int) ≤ 60) = false := by simp; omega
        have HR : Hid (fewO xs m = false) := hid (by
          cases h : fewO xs m with
          | false => rfl
          | true => have := (fewO_iff.1 h).1; have := Hl.out; omega)
        have hn6 : decide ((n : Int) ≤ 60) = false := by simp; omega
        go_wp2_with fail
        go_ret
        exact ⟨ret_bool HR.out.symm, hb0⟩
    · have hli : decide ((k : Int) < (n : Int)) = false := by simp; omega
      by_cases h60 : n ≤ 60
      · have hn6 : decide ((n : Int) ≤ 60) = true := by simp; omega
        have HR : Hid (fewO xs m = decide ((m : Int) ≤ 1000)) := hid (by
          by_cases q : m ≤ 1000
          · rw [decide_eq_true (show (m : Int) ≤ 1000 by omega), fewO_iff]
            refine ⟨by have := Hl.out; omega, q, fun x hx => ?_⟩
            obtain ⟨i, hi, rfl⟩ := List.getElem_of_mem hx
            exact hG.out i hi (by have := Hl.out; omega)
          · rw [decide_eq_false (show ¬ (m : Int) ≤ 1000 by omega)]
            cases h : fewO xs m with
            | false => rfl
            | true => exact absurd (fewO_iff.1 h).2.1 q)
        go_wp2_with fail
        go_ret
        exact ⟨ret_bool HR.out.symm, hb0⟩
      · have HR : Hid (fewO xs m = false) := hid (by
          cases h : fewO xs m with
          | false => rfl
          | true => have := (fewO_iff.1 h).1; have := Hl.out; omega)
        have hn6 : decide ((n : Int) ≤ 60) = false := by simp; omega
        go_wp2_with fail
        go_ret
        exact ⟨ret_bool HR.out.symm, hb0⟩

/-- Whether two symbols are one. -/
def Sy.eq (x y : Sy) : Bool := (x.name.toList == y.name.toList) && ((x.bind == y.bind) && ((x.size == y.size) && (x.align == y.align)))
end Go.Proofs.YtbcjbembhajgcaaDoor.Obj
