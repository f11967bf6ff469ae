/-
  objsym's reference: powers, symbols, lists of symbols, numbers.
-/
import Derived.Test.YtkacndinjomifaaOi
namespace Go.Proofs.Ytkacndinjomifaa.Obj
open Go.RowKit Go.Proofs Go.Proofs.Ytkacndinjomifaa.Byt
open Go.Proofs.Ytkacndinjomifaa.Sls (Oth)

theorem pow2_iff (z : Int) : pow2 z = true ↔ ∃ i, i ≤ 16 ∧ z = ((2 ^ i : Nat) : Int) := by
  unfold pow2 pows
  simp only [List.contains_eq_mem, List.mem_cons, List.not_mem_nil, or_false, decide_eq_true_eq]
  constructor
  · intro h
    rcases h with h | h | h | h | h | h | h | h | h | h | h | h | h | h | h | h | h
    all_goals first | exact ⟨0, by omega, by rw [h]; rfl⟩ | exact ⟨1, by omega, by rw [h]; rfl⟩ | exact ⟨2, by omega, by rw [h]; rfl⟩ | exact ⟨3, by omega, by rw [h]; rfl⟩ | exact ⟨4, by omega, by rw [h]; rfl⟩ | exact ⟨5, by omega, by rw [h]; rfl⟩ | exact ⟨6, by omega, by rw [h]; rfl⟩ | exact ⟨7, by omega, by rw [h]; rfl⟩ | exact ⟨8, by omega, by rw [h]; rfl⟩ | exact ⟨9, by omega, by rw [h]; rfl⟩ | exact ⟨10, by omega, by rw [h]; rfl⟩ | exact ⟨11, by omega, by rw [h]; rfl⟩ | exact ⟨12, by omega, by rw [h]; rfl⟩ | exact ⟨13, by omega, by rw [h]; rfl⟩ | exact ⟨14, by omega, by rw [h]; rfl⟩ | exact ⟨15, by omega, by rw [h]; rfl⟩ | exact ⟨16, by omega, by rw [h]; rfl⟩
  · rintro ⟨i, hi, hz⟩
    have : i = 0 ∨ i = 1 ∨ i = 2 ∨ i = 3 ∨ i = 4 ∨ i = 5 ∨ i = 6 ∨ i = 7 ∨ i = 8 ∨ i = 9 ∨ i = 10 ∨ i = 11 ∨ i = 12 ∨ i = 13 ∨ i = 14 ∨ i = 15 ∨ i = 16 := by omega
    rcases this with h | h | h | h | h | h | h | h | h | h | h | h | h | h | h | h | h
    all_goals subst h
    all_goals simp at hz
    all_goals omega

set_option maxRecDepth 100000 in
set_option maxHeartbeats 1000000 in
theorem rpower_any (z : Int) (w : World) :
    Calls Try.prog 33 #[.int .i64 z] w fun e w' => e = .returned (.bool (pow2 z)) ∧ w' = w := by
  go_enter Try.func33, Try.ntmps33
  go_wp2_with fail
  go_loopw [3] (fun v W => ∃ j p : Nat, v = .int .i64 (p : Int) ∧ j ≤ 17 ∧ Hid (p = 2 ^ j) ∧ 1 ≤ p ∧ p ≤ 131072 ∧ Hid (∀ i, i < j → z ≠ ((2 ^ i : Nat) : Int)) ∧ Hid (W = w)) (fun v _ => 131073 - (intOf v).toNat)
  case atStart => exact ⟨0, 1, rfl, by omega, hid rfl, by omega, by omega, hid (fun i hi => by omega), hid rfl⟩
  case round =>
    obtain ⟨j, p, rfl, hj, hp, h1, h2, hz, hw⟩ := hrel
    by_cases hlt : p ≤ 65536
    · have hj16 : j ≤ 16 := by
        rcases Nat.lt_or_ge 16 j with h | h
        · have := Nat.pow_le_pow_right (n := 2) (by omega) h
          have e : (2 : Nat) ^ (16 + 1) = 131072 := rfl
          have := hp.out
          omega
        · exact h
      have hli : (p : Int) ≤ 65536 := by omega
      by_cases hq : (p : Int) = z
      · have hqb : ((p : Int) == z) = true := by rw [beq_iff_eq]; exact hq
        have HR : Hid (pow2 z = true) := hid ((pow2_iff z).2 ⟨j, hj16, by rw [← hq, hp.out]⟩)
        clear hq
        go_wp2_with fail
        go_ret
        exact ⟨ret_bool HR.out.symm, hw.out⟩
      · have hqb : ((p : Int) == z) = false := by rw [beq_eq_false_iff_ne]; exact hq
        have HZ : Hid (∀ i, i < j + 1 → z ≠ ((2 ^ i : Nat) : Int)) := hid fun i hi => by
          by_cases e : i = j
          · subst e; rw [← hp.out]; exact fun h => hq h.symm
          · exact hz.out i (by omega)
        have HP : Hid (2 * p = 2 ^ (j + 1)) := hid (by rw [hp.out, Nat.pow_succ]; omega)
        clear hq hp hz
        go_wp2_with fail
        go_roundw
        · exact ⟨j + 1, 2 * p, by go_num, by omega, HP, by omega, by omega, HZ, hw⟩
        · simp [intOf]; omega
    · have hli : ¬ (p : Int) ≤ 65536 := by omega
      have hj17 : 17 ≤ j := by
        rcases Nat.lt_or_ge j 17 with h | h
        · have := Nat.pow_le_pow_right (n := 2) (by omega) (show j ≤ 16 by omega)
          have e : (2 : Nat) ^ 16 = 65536 := rfl
          have := hp.out
          omega
        · exact h
      have HR : Hid (pow2 z = false) := hid (by
        cases h : pow2 z with
        | false => rfl
        | true => obtain ⟨i, hi, e⟩ := (pow2_iff z).1 h; exact absurd e (hz.out i (by omega)))
      clear hp hz
      go_wp2_with fail
      go_ret
      exact ⟨ret_bool HR.out.symm, hw.out⟩

theorem at_str (s : ByteArray) (i : Nat) (h : i < s.size) : s.data.toList[i]? = some (s[i]'h) := by
  show s.data.toList[i]? = some (s.data[i]'h)
  rw [Array.getElem?_toList]
  exact Array.getElem?_eq_getElem h

set_option maxRecDepth 100000 in
set_option maxHeartbeats 2000000 in
theorem rsym_any (x : Sy) (w : World) :
    Calls Try.prog 27 #[x.val] w fun e w' => e = .returned (.bool (symOk x)) ∧ Below w.heap.size w w' := by
  obtain ⟨s, b, z, a⟩ := x
  have hb0 := (Below.refl w.heap.size w).alloc (Nat.le_refl _) (.cells #[.string s, .int .i64 b, .int .i64 z, .int .i64 a] 38)
  have hrow := heap_alloc_new w (.cells #[.string s, .int .i64 b, .int .i64 z, .int .i64 a] 38)
  have c0 := cell_of_row _ w.heap.size 0 _ _ _ hrow
  have c1 := cell_of_row _ w.heap.size 1 _ _ _ hrow
  have c2 := cell_of_row _ w.heap.size 2 _ _ _ hrow
  have c3 := cell_of_row _ w.heap.size 3 _ _ _ hrow
  unfold Sy.val
  clear hrow
  by_cases h0 : s.size = 0
  · have h0b : ((s.size : Int) == 0) = true := by simp only [beq_iff_eq]; omega
    have hS : Hid (symOk ⟨s, b, z, a⟩ = false) := hid (by simp [symOk, nameOk, h0])
    clear h0
    go_enter Try.func27, Try.ntmps27
    go_wp2_with fail
    go_ret
    exact ⟨ret_bool hS.out.symm, hb0⟩
  have h0b : ((s.size : Int) == 0) = false := by simp only [beq_eq_false_iff_ne]; omega
  by_cases h1 : 255 < s.size
  · have hS : Hid (symOk ⟨s, b, z, a⟩ = false) := hid (by unfold symOk nameOk; rw [show decide (s.size ≤ 255) = false from by simp; omega]; simp)
    have h1i : decide ((255 : Int) < (s.size : Int)) = true := by simp; omega
    clear h0
    go_enter Try.func27, Try.ntmps27
    go_wp2_with fail
    go_ret
    exact ⟨ret_bool hS.out.symm, hb0⟩
  have h1i : decide ((255 : Int) < (s.size : Int)) = false := by simp; omega
  by_cases h2 : z < 0
  · have hS : Hid (symOk ⟨s, b, z, a⟩ = false) := hid (by
      cases h : symOk ⟨s, b, z, a⟩ with
      | false => rfl
      | true => unfold symOk at h; rw [Bool.and_eq_true] at h; have := bindOk_range h.2; simp only at this; omega)
    have h2i : decide (z < 0) = true := by simpa using h2
    clear h0
    go_enter Try.func27, Try.ntmps27
    go_wp2_with fail
    go_ret
    exact ⟨ret_bool hS.out.symm, hb0⟩
  have h2i : decide (z < 0) = false := by simpa using h2
  by_cases h3 : 4294967295 < z
  · have hS : Hid (symOk ⟨s, b, z, a⟩ = false) := hid (by
      cases h : symOk ⟨s, b, z, a⟩ with
      | false => rfl
      | true => unfold symOk at h; rw [Bool.and_eq_true] at h; have := bindOk_range h.2; simp only at this; omega)
    have h3i : decide (4294967295 < z) = true := by simpa using h3
    clear h0 h2
    go_enter Try.func27, Try.ntmps27
    go_wp2_with fail
    go_ret
    exact ⟨ret_bool hS.out.symm, hb0⟩
  have h3i : decide (4294967295 < z) = false := by simpa using h3
  have hsz : sizeOk z = true := by unfold sizeOk; simp; omega
  have Hsz := hid hsz
  have hs255 : s.size ≤ 255 := by omega
  have HN : Hid (nameOk s = !(s.data.toList.contains 0)) := hid (by unfold nameOk; simp [h0, hs255])
  clear hsz h0 h2 h3 h1
  go_enter Try.func27, Try.ntmps27
  go_wp2_with fail
  go_loopw [3] (fun v W => ∃ k : Nat, v = .int .i64 (k : Int) ∧ k ≤ s.size ∧ Hid (∀ i, i < k → s.data.toList[i]? ≠ some 0) ∧ Hid (W = w.alloc (.cells #[.string s, .int .i64 b, .int .i64 z, .int .i64 a] 38))) (fun v _ => s.size - (intOf v).toNat)
  case atStart => exact ⟨0, rfl, by omega, hid (fun i hi => by omega), hid rfl⟩
  case round =>
    obtain ⟨k, rfl, hk, hno, hw⟩ := hrel
    have hw' := hw.out
    subst hw'
    by_cases hlt : k < s.size
    · have hli : (k : Int) < (s.size : Int) := by omega
      have hat := at_str s k hlt
      by_cases hq : (s[k]'hlt) = 0
      · have hqb : (((s[k]'hlt).toNat : Int) == 0) = true := by rw [hq]; rfl
        have hS : Hid (symOk ⟨s, b, z, a⟩ = false) := hid (by
          unfold symOk
          rw [show nameOk s = false from by rw [HN.out, Bool.not_eq_false', List.contains_eq_mem, decide_eq_true_eq]; exact List.mem_of_getElem? (by rw [hat, hq])]
          rfl)
        clear hat hno
        go_wp2_with fail
        go_ret
        exact ⟨ret_bool hS.out.symm, hb0⟩
      · have hqb : (((s[k]'hlt).toNat : Int) == 0) = false := by
          rw [beq_eq_false_iff_ne]; intro e; apply hq; rw [← UInt8.toNat_inj]; show (s[k]'hlt).toNat = 0; omega
        have HZ : Hid (∀ i, i < k + 1 → s.data.toList[i]? ≠ some 0) := hid fun i hi => by
          by_cases e : i = k
          · subst e; rw [hat]; intro q; injection q with q; exact hq q
          · exact hno.out i (by omega)
        clear hat hno hq
        go_wp2_with fail
        go_roundw
        · exact ⟨k + 1, by go_num, by omega, HZ, hid trivial⟩
        · simp [intOf]; omega
    · have hli : ¬ (k : Int) < (s.size : Int) := by omega
      have hN : nameOk s = true := by
        rw [HN.out, Bool.not_eq_true', List.contains_eq_mem, decide_eq_false_iff_not]
        intro hm
        obtain ⟨i, hi⟩ := List.getElem?_of_mem hm
        have := (List.getElem?_eq_some_iff.1 hi).1
        rw [len_list] at this
        exact hno.out i (by omega) hi
      have hS : symOk ⟨s, b, z, a⟩ = bindOk b z a := by unfold symOk; rw [hN]; rfl
      have HS := hid hS
      clear hN hS hno
      by_cases b3 : b = 3
      · have b3b : (b == 3) = true := by simpa using b3
        have HS' : Hid (symOk ⟨s, b, z, a⟩ = pow2 a) := hid (by rw [HS.out]; unfold bindOk; rw [if_neg (by omega), if_pos b3, Hsz.out]; rfl)
        clear b3
        go_wp2_with (go_at_call 33; refine (rpower_any a _).mono ?_; rintro e w1 ⟨rfl, rfl⟩)
        go_ret
        exact ⟨ret_bool HS'.out.symm, hb0⟩
      have b3b : (b == 3) = false := by simpa using b3
      by_cases b4 : b = 4
      · have b4b : (b == 4) = true := by simpa using b4
        have HS' : Hid (symOk ⟨s, b, z, a⟩ = (decide (z = 0) && decide (a = 0))) := hid (by rw [HS.out]; unfold bindOk; rw [if_neg (by omega), if_neg b3, if_pos (.inl b4)])
        clear b3 b4
        by_cases hz : z = 0
        · have hzb : (z == 0) = true := by simpa using hz
          clear hz
          go_wp2_with fail
          go_ret
          exact ⟨ret_bool (by rw [HS'.out, show decide (z = 0) = true from hzb]; rfl), hb0⟩
        · have hzb : (z == 0) = false := by simpa using hz
          go_wp2_with fail
          go_ret
          exact ⟨ret_bool (by rw [HS'.out, show decide (z = 0) = false from hzb]; rfl), hb0⟩
      have b4b : (b == 4) = false := by simpa using b4
      by_cases b5 : b = 5
      · have b5b : (b == 5) = true := by simpa using b5
        have HS' : Hid (symOk ⟨s, b, z, a⟩ = (decide (z = 0) && decide (a = 0))) := hid (by rw [HS.out]; unfold bindOk; rw [if_neg (by omega), if_neg b3, if_pos (.inr b5)])
        clear b3 b4 b5
        by_cases hz : z = 0
        · have hzb : (z == 0) = true := by simpa using hz
          clear hz
          go_wp2_with fail
          go_ret
          exact ⟨ret_bool (by rw [HS'.out, show decide (z = 0) = true from hzb]; rfl), hb0⟩
        · have hzb : (z == 0) = false := by simpa using hz
          go_wp2_with fail
          go_ret
          exact ⟨ret_bool (by rw [HS'.out, show decide (z = 0) = false from hzb]; rfl), hb0⟩
      have b5b : (b == 5) = false := by simpa using b5
      by_cases b1 : b = 1
      · have b1b : (b == 1) = true := by simpa using b1
        have HS' : Hid (symOk ⟨s, b, z, a⟩ = decide (a = 0)) := hid (by rw [HS.out]; unfold bindOk; rw [if_pos (.inl b1), Hsz.out]; rfl)
        clear b1 b3 b4 b5
        go_wp2_with fail
        go_ret
        exact ⟨ret_bool (by rw [HS'.out]; rfl), hb0⟩
      have b1b : (b == 1) = false := by simpa using b1
      by_cases b2 : b = 2
      · have b2b : (b == 2) = true := by simpa using b2
        have HS' : Hid (symOk ⟨s, b, z, a⟩ = decide (a = 0)) := hid (by rw [HS.out]; unfold bindOk; rw [if_pos (.inr b2), Hsz.out]; rfl)
        clear b1 b2 b3 b4 b5
        go_wp2_with fail
        go_ret
        exact ⟨ret_bool (by rw [HS'.out]; rfl), hb0⟩
      have b2b : (b == 2) = false := by simpa using b2
      have HS' : Hid (symOk ⟨s, b, z, a⟩ = false) := hid (by rw [HS.out]; unfold bindOk; rw [if_neg (by omega), if_neg b3, if_neg (by omega)])
      clear b1 b2 b3 b4 b5
      go_wp2_with fail
      go_ret
      exact ⟨ret_bool HS'.out.symm, hb0⟩

set_option maxRecDepth 100000 in
set_option maxHeartbeats 1000000 in
theorem rhas_any (K : Nat) (A : Option Addr) (n c : Nat) (xs : List Sy) (s : ByteArray) (w : World) (h : RdS w K A n xs) (hn : n ≤ 140737488355328) :
    Calls Try.prog 28 #[.slice A n c, .string s] w fun e w' => e = .returned (.bool (has xs s)) ∧ w' = w := by
  have Hl := hid h.1
  go_enter Try.func28, Try.ntmps28
  go_wp2_with fail
  go_loopw [5] (fun i W => ∃ k : Nat, i = .int .i64 (k : Int) ∧ k ≤ n ∧ Hid (has xs s = has (xs.drop k) s) ∧ Hid (W = w)) (fun i _ => n - (intOf i).toNat)
  case atStart => exact ⟨0, rfl, by omega, hid rfl, hid rfl⟩
  case round =>
    obtain ⟨k, rfl, hk, hG, hw⟩ := hrel
    have hw' := hw.out
    subst hw'
    by_cases hlt : k < n
    · have hkl : k < xs.length := by have := Hl.out; omega
      obtain ⟨⟨b, o, rfl, hbK, hcell⟩, hsz⟩ := h.2 k hkl
      have Hstep := hid (find_step hkl s)
      generalize xs[k] = x at *
      obtain ⟨x0, x1, x2, x3⟩ := x
      obtain ⟨p0, p1, p2, p3⟩ := hcell
      by_cases hq : x0 = s
      · have hqb : (x0.toList == s.toList) = true := by rw [beq_iff_eq, str_eq]; exact hq
        have HR : Hid (has xs s = true) := hid (hG.out.trans (Hstep.out.1 hq).1)
        clear hq
        go_wp2_with fail
        go_ret
        exact ⟨ret_bool HR.out.symm, rfl⟩
      · have hqb : (x0.toList == s.toList) = false := by rw [beq_eq_false_iff_ne, ne_eq, str_eq]; exact hq
        have HR : Hid (has xs s = has (xs.drop (k + 1)) s) := hid (hG.out.trans (Hstep.out.2 hq).1)
        clear hq
        go_wp2_with fail
        go_roundw
        · exact ⟨k + 1, by go_num, by omega, HR, hid trivial⟩
        · simp [intOf]; omega
    · obtain rfl : k = n := by omega
      have HR : Hid (has xs s = false) := hid (by rw [hG.out, List.drop_eq_nil_of_le (by have := Hl.out; omega)]; rfl)
      go_wp2_with fail
      go_ret
      exact ⟨ret_bool HR.out.symm, rfl⟩
end Go.Proofs.Ytkacndinjomifaa.Obj
