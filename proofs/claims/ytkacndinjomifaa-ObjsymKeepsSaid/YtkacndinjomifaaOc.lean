/-
  objsym: sizes, alignments, symbols that are valid; the names so far.
-/
import Derived.Test.YtkacndinjomifaaOb
import Derived.Test.YtkacndinjomifaaShelf
import Derived.Deep.Cut
import Derived.Deep.CutRange
import Derived.Maps.OwnOps
import Derived.Maps.Views
namespace Go.Proofs.Ytkacndinjomifaa.Obj
open Go.RowKit Go.Proofs Go.Proofs.Ytkacndinjomifaa.Byt

/-! ### powers of two -/
theorem and_pred : ∀ n : Nat, 0 < n → (n &&& (n - 1) = 0 ↔ ∃ k, n = 2 ^ k) := by
  intro n
  induction n using Nat.strongRecOn with
  | _ n ih =>
    intro hn
    have hd : (n &&& (n - 1)) / 2 = n / 2 &&& (n - 1) / 2 := Nat.and_div_two
    have hm : ¬ (n &&& (n - 1)) % 2 = 1 := by rw [Nat.and_mod_two_eq_one]; omega
    have hz : n &&& (n - 1) = 0 ↔ n / 2 &&& (n - 1) / 2 = 0 := by rw [← hd]; omega
    rw [hz]
    rcases Nat.mod_two_eq_zero_or_one n with h | h
    · have e : (n - 1) / 2 = n / 2 - 1 := by omega
      rw [e, ih (n / 2) (by omega) (by omega)]
      constructor
      · rintro ⟨k, hk⟩
        exact ⟨k + 1, by rw [Nat.pow_succ]; omega⟩
      · rintro ⟨k, hk⟩
        cases k with
        | zero => rw [hk] at h; simp at h
        | succ k => exact ⟨k, by rw [hk, Nat.pow_succ]; omega⟩
    · have e : (n - 1) / 2 = n / 2 := by omega
      rw [e, Nat.and_self]
      constructor
      · intro h0
        exact ⟨0, by rw [Nat.pow_zero]; omega⟩
      · rintro ⟨k, hk⟩
        cases k with
        | zero => rw [hk]
        | succ k => rw [hk, Nat.pow_succ] at h; omega
theorem pow2_and (n : Nat) (h0 : 0 < n) (h1 : n ≤ 65536) : pow2 (n : Int) = decide (n &&& (n - 1) = 0) := by
  rw [Bool.eq_iff_iff, decide_eq_true_eq, and_pred n h0]
  unfold pow2 pows
  simp only [List.contains_eq_mem, List.mem_cons, List.not_mem_nil, or_false, decide_eq_true_eq]
  constructor
  · intro h
    have : n = 1 ∨ n = 2 ∨ n = 4 ∨ n = 8 ∨ n = 16 ∨ n = 32 ∨ n = 64 ∨ n = 128 ∨ n = 256 ∨ n = 512 ∨ n = 1024 ∨ n = 2048 ∨ n = 4096 ∨ n = 8192 ∨ n = 16384 ∨ n = 32768 ∨ n = 65536 := by omega
    rcases this with h | h | h | h | h | h | h | h | h | h | h | h | h | h | h | h | h
    all_goals first | exact ⟨0, h⟩ | exact ⟨1, h⟩ | exact ⟨2, h⟩ | exact ⟨3, h⟩ | exact ⟨4, h⟩ | exact ⟨5, h⟩ | exact ⟨6, h⟩ | exact ⟨7, h⟩ | exact ⟨8, h⟩ | exact ⟨9, h⟩ | exact ⟨10, h⟩ | exact ⟨11, h⟩ | exact ⟨12, h⟩ | exact ⟨13, h⟩ | exact ⟨14, h⟩ | exact ⟨15, h⟩ | exact ⟨16, h⟩
  · rintro ⟨k, hk⟩
    have hk16 : k ≤ 16 := by
      rcases Nat.lt_or_ge 16 k with h | h
      · have := Nat.pow_le_pow_right (n := 2) (by omega) (show 17 ≤ k from h)
        have e : (2 : Nat) ^ 17 = 131072 := rfl
        omega
      · exact h
    have : k = 0 ∨ k = 1 ∨ k = 2 ∨ k = 3 ∨ k = 4 ∨ k = 5 ∨ k = 6 ∨ k = 7 ∨ k = 8 ∨ k = 9 ∨ k = 10 ∨ k = 11 ∨ k = 12 ∨ k = 13 ∨ k = 14 ∨ k = 15 ∨ k = 16 := by omega
    rcases this with h | h | h | h | h | h | h | h | h | h | h | h | h | h | h | h | h
    all_goals subst h
    all_goals simp at hk
    all_goals omega
theorem bits_and_nat (a b : Nat) (ha : a < 9223372036854775808) (hb : b < 9223372036854775808) : bits .and .i64 (a : Int) (b : Int) = ((a &&& b : Nat) : Int) := by
  have hx : a &&& b < 2 ^ 63 := Nat.and_lt_two_pow _ (by omega)
  have h1 : (BitVec.ofInt 64 (a : Int)).toNat = a := by
    rw [BitVec.ofInt_natCast, BitVec.toNat_ofNat]; exact Nat.mod_eq_of_lt (by omega)
  have h2 : (BitVec.ofInt 64 (b : Int)).toNat = b := by
    rw [BitVec.ofInt_natCast, BitVec.toNat_ofNat]; exact Nat.mod_eq_of_lt (by omega)
  show IntKind.i64.wrap ((BitVec.ofInt 64 (a : Int) &&& BitVec.ofInt 64 (b : Int)).toNat : Int) = _
  rw [BitVec.toNat_and, h1, h2]
  rw [IntKind.wrap_i64]
  omega
theorem bits_or_nat (a b : Nat) (ha : a < 9223372036854775808) (hb : b < 9223372036854775808) : bits .or .i64 (a : Int) (b : Int) = ((a ||| b : Nat) : Int) := by
  have hx : a ||| b < 2 ^ 63 := Nat.or_lt_two_pow (by omega) (by omega)
  have h1 : (BitVec.ofInt 64 (a : Int)).toNat = a := by
    rw [BitVec.ofInt_natCast, BitVec.toNat_ofNat]; exact Nat.mod_eq_of_lt (by omega)
  have h2 : (BitVec.ofInt 64 (b : Int)).toNat = b := by
    rw [BitVec.ofInt_natCast, BitVec.toNat_ofNat]; exact Nat.mod_eq_of_lt (by omega)
  show IntKind.i64.wrap ((BitVec.ofInt 64 (a : Int) ||| BitVec.ofInt 64 (b : Int)).toNat : Int) = _
  rw [BitVec.toNat_or, h1, h2]
  rw [IntKind.wrap_i64]
  omega

set_option maxRecDepth 100000 in
theorem sizeValid_any (z : Int) (w : World) :
    Calls Try.prog 37 #[.int .i64 z] w fun e w' => e = .returned (.bool (sizeOk z)) ∧ w' = w := by
  by_cases h0 : 0 ≤ z
  · have h0d : decide (0 ≤ z) = true := by simpa using h0
    by_cases h1 : z ≤ 4294967295
    all_goals go_enter Try.func37, Try.ntmps37
    all_goals go_wp2_with fail
    all_goals go_ret
    all_goals exact ⟨ret_bool (by unfold sizeOk; rw [h0d]; simp [h1]), rfl⟩
  · have h0d : decide (0 ≤ z) = false := by simpa using h0
    go_enter Try.func37, Try.ntmps37
    go_wp2_with fail
    go_ret
    exact ⟨ret_bool (by unfold sizeOk; rw [h0d]; rfl), rfl⟩

set_option maxRecDepth 100000 in
theorem alignValid_any (z : Int) (w : World) :
    Calls Try.prog 38 #[.int .i64 z] w fun e w' => e = .returned (.bool (pow2 z)) ∧ w' = w := by
  by_cases h0 : 1 ≤ z
  · have h0d : decide (1 ≤ z) = true := by simpa using h0
    by_cases h1 : z ≤ 65536
    · have h1d : decide (z ≤ 65536) = true := by simpa using h1
      obtain ⟨n, rfl⟩ := Int.eq_ofNat_of_zero_le (show 0 ≤ z by omega)
      have hb : bits .and .i64 (n : Int) ((n : Int) - 1) = ((n &&& (n - 1) : Nat) : Int) := by
        rw [show ((n : Int) - 1) = ((n - 1 : Nat) : Int) by omega]
        exact bits_and_nat _ _ (by omega) (by omega)
      have hp := hid (pow2_and n (by omega) (by omega))
      go_enter Try.func38, Try.ntmps38
      go_wp2_with fail
      go_ret
      refine ⟨ret_bool ?_, rfl⟩
      rw [hp.out, Bool.eq_iff_iff]
      simp only [beq_iff_eq, decide_eq_true_eq]
      omega
    · have h1d : decide (z ≤ 65536) = false := by simpa using h1
      have hp : Hid (pow2 z = false) := by
        refine hid ?_
        cases h : pow2 z with
        | false => rfl
        | true => have := pow2_range h; omega
      go_enter Try.func38, Try.ntmps38
      go_wp2_with fail
      go_ret
      exact ⟨ret_bool hp.out.symm, rfl⟩
  · have h0d : decide (1 ≤ z) = false := by simpa using h0
    have hp : Hid (pow2 z = false) := by
      refine hid ?_
      cases h : pow2 z with
      | false => rfl
      | true => have := pow2_range h; omega
    go_enter Try.func38, Try.ntmps38
    go_wp2_with fail
    go_ret
    exact ⟨ret_bool hp.out.symm, rfl⟩

theorem index_has (l : List UInt8) (c : UInt8) : decide (0 ≤ Lib.indexByte l c) = l.contains c := by
  rw [Bool.eq_iff_iff, decide_eq_true_eq, List.contains_eq_mem, decide_eq_true_eq]
  have hge := Lib.indexByte_ge l c
  constructor
  · intro h
    obtain ⟨o, ho⟩ := Int.eq_ofNat_of_zero_le h
    exact List.mem_of_getElem? (Lib.indexByte_some ho).1
  · intro h
    rcases (by omega : Lib.indexByte l c < 0 ∨ 0 ≤ Lib.indexByte l c) with q | q
    · obtain ⟨k, hk⟩ := List.getElem?_of_mem h
      exact absurd hk (Lib.indexByte_none (show Lib.indexByte l c = -1 by omega) k)
    · exact q

set_option maxRecDepth 100000 in
set_option maxHeartbeats 1000000 in
theorem symValid_any (x : Sy) (w : World) :
    Calls Try.prog 34 #[x.val] w fun e w' => e = .returned (.bool (symOk x)) ∧ Below w.heap.size w w' := by
  obtain ⟨s, b, z, a⟩ := x
  have hb0 := (Below.refl w.heap.size w).alloc (Nat.le_refl _) (.cells #[.string s, .int .i64 b, .int .i64 z, .int .i64 a] 38)
  have hrow := heap_alloc_new w (.cells #[.string s, .int .i64 b, .int .i64 z, .int .i64 a] 38)
  have c0 := cell_of_row _ w.heap.size 0 _ _ _ hrow
  have c1 := cell_of_row _ w.heap.size 1 _ _ _ hrow
  have c2 := cell_of_row _ w.heap.size 2 _ _ _ hrow
  have c3 := cell_of_row _ w.heap.size 3 _ _ _ hrow
  unfold Sy.val
  clear hrow
  by_cases h0 : s.size = 0
  · have hE : s.toList.isEmpty = true := by rw [Lib.toList_data, List.isEmpty_iff, ← List.length_eq_zero_iff]; exact h0
    have hS : Hid (symOk ⟨s, b, z, a⟩ = false) := hid (by simp [symOk, nameOk, h0])
    clear h0
    go_enter Try.func34, Try.ntmps34
    go_wp2_with fail
    go_ret
    exact ⟨ret_bool hS.out.symm, hb0⟩
  · have hE : s.toList.isEmpty = false := by
      cases h : s.toList.isEmpty with
      | false => rfl
      | true => rw [Lib.toList_data, List.isEmpty_iff, ← List.length_eq_zero_iff] at h; exact absurd h h0
    by_cases h1 : 255 < s.size
    · have hS : Hid (symOk ⟨s, b, z, a⟩ = false) := hid (by unfold symOk nameOk; rw [show decide (s.size ≤ 255) = false from by simp; omega]; simp)
      have h1i : decide ((255 : Int) < (s.size : Int)) = true := by simp; omega
      go_enter Try.func34, Try.ntmps34
      go_wp2_with fail
      go_ret
      exact ⟨ret_bool hS.out.symm, hb0⟩
    · have h1i : decide ((255 : Int) < (s.size : Int)) = false := by simp; omega
      have hI := index_has s.data.toList 0
      by_cases h2 : s.data.toList.contains 0 = true
      · rw [h2] at hI
        have hS : Hid (symOk ⟨s, b, z, a⟩ = false) := hid (by unfold symOk nameOk; rw [h2]; simp)
        clear h2
        go_enter Try.func34, Try.ntmps34
        go_wp2_with (go_at_call 36; refine (Try.strings_IndexByte s 0 _).mono ?_; rintro e w1 ⟨rfl, rfl⟩)
        go_ret
        exact ⟨ret_bool hS.out.symm, hb0⟩
      · have h2f : s.data.toList.contains 0 = false := by simpa using h2
        rw [h2f] at hI
        have hN : Hid (nameOk s = true) := hid (by unfold nameOk; rw [h2f]; simp [h0]; omega)
        clear h2 h2f h0
        have hS : symOk ⟨s, b, z, a⟩ = bindOk b z a := by unfold symOk; rw [hN.out]; rfl
        have HS := hid hS
        clear hS hN
        by_cases b1 : b = 1
        · have b1b : (b == 1) = true := by simpa using b1
          have HS' : Hid (symOk ⟨s, b, z, a⟩ = (sizeOk z && decide (a = 0))) := hid (by rw [HS.out]; unfold bindOk; rw [if_pos (.inl b1)])
          clear b1
          cases hz : sizeOk z
          · go_enter Try.func34, Try.ntmps34
            go_wp2_with (first
              | (go_at_call 36; refine (Try.strings_IndexByte s 0 _).mono ?_; rintro e w1 ⟨rfl, rfl⟩)
              | (go_at_call 37; refine (sizeValid_any z _).mono ?_; rintro e w1 ⟨rfl, rfl⟩; rw [hz])
              | (go_at_call 38; refine (alignValid_any a _).mono ?_; rintro e w1 ⟨rfl, rfl⟩))
            go_ret
            exact ⟨ret_bool (by rw [HS'.out, hz]; rfl), hb0⟩
          · go_enter Try.func34, Try.ntmps34
            go_wp2_with (first
              | (go_at_call 36; refine (Try.strings_IndexByte s 0 _).mono ?_; rintro e w1 ⟨rfl, rfl⟩)
              | (go_at_call 37; refine (sizeValid_any z _).mono ?_; rintro e w1 ⟨rfl, rfl⟩; rw [hz])
              | (go_at_call 38; refine (alignValid_any a _).mono ?_; rintro e w1 ⟨rfl, rfl⟩))
            go_ret
            exact ⟨ret_bool (by rw [HS'.out, hz]; rfl), hb0⟩
        · have b1b : (b == 1) = false := by simpa using b1
          by_cases b2 : b = 2
          · have b2b : (b == 2) = true := by simpa using b2
            have HS' : Hid (symOk ⟨s, b, z, a⟩ = (sizeOk z && decide (a = 0))) := hid (by rw [HS.out]; unfold bindOk; rw [if_pos (.inr b2)])
            clear b1 b2
            cases hz : sizeOk z
            · go_enter Try.func34, Try.ntmps34
              go_wp2_with (first
                | (go_at_call 36; refine (Try.strings_IndexByte s 0 _).mono ?_; rintro e w1 ⟨rfl, rfl⟩)
                | (go_at_call 37; refine (sizeValid_any z _).mono ?_; rintro e w1 ⟨rfl, rfl⟩; rw [hz])
                | (go_at_call 38; refine (alignValid_any a _).mono ?_; rintro e w1 ⟨rfl, rfl⟩))
              go_ret
              exact ⟨ret_bool (by rw [HS'.out, hz]; rfl), hb0⟩
            · go_enter Try.func34, Try.ntmps34
              go_wp2_with (first
                | (go_at_call 36; refine (Try.strings_IndexByte s 0 _).mono ?_; rintro e w1 ⟨rfl, rfl⟩)
                | (go_at_call 37; refine (sizeValid_any z _).mono ?_; rintro e w1 ⟨rfl, rfl⟩; rw [hz])
                | (go_at_call 38; refine (alignValid_any a _).mono ?_; rintro e w1 ⟨rfl, rfl⟩))
              go_ret
              exact ⟨ret_bool (by rw [HS'.out, hz]; rfl), hb0⟩
          · have b2b : (b == 2) = false := by simpa using b2
            have b12 : ¬ (b = 1 ∨ b = 2) := by omega
            by_cases b3 : b = 3
            · have b3b : (b == 3) = true := by simpa using b3
              have HS' : Hid (symOk ⟨s, b, z, a⟩ = (sizeOk z && pow2 a)) := hid (by rw [HS.out]; unfold bindOk; rw [if_neg b12, if_pos b3])
              clear b1 b2 b3 b12
              cases hz : sizeOk z
              · go_enter Try.func34, Try.ntmps34
                go_wp2_with (first
                  | (go_at_call 36; refine (Try.strings_IndexByte s 0 _).mono ?_; rintro e w1 ⟨rfl, rfl⟩)
                  | (go_at_call 37; refine (sizeValid_any z _).mono ?_; rintro e w1 ⟨rfl, rfl⟩; rw [hz])
                  | (go_at_call 38; refine (alignValid_any a _).mono ?_; rintro e w1 ⟨rfl, rfl⟩))
                go_ret
                exact ⟨ret_bool (by rw [HS'.out, hz]; rfl), hb0⟩
              · go_enter Try.func34, Try.ntmps34
                go_wp2_with (first
                  | (go_at_call 36; refine (Try.strings_IndexByte s 0 _).mono ?_; rintro e w1 ⟨rfl, rfl⟩)
                  | (go_at_call 37; refine (sizeValid_any z _).mono ?_; rintro e w1 ⟨rfl, rfl⟩; rw [hz])
                  | (go_at_call 38; refine (alignValid_any a _).mono ?_; rintro e w1 ⟨rfl, rfl⟩))
                go_ret
                exact ⟨ret_bool (by rw [HS'.out, hz]; rfl), hb0⟩
            · have b3b : (b == 3) = false := by simpa using b3
              by_cases b4 : b = 4
              · have b4b : (b == 4) = true := by simpa using b4
                have HS' : Hid (symOk ⟨s, b, z, a⟩ = (decide (z = 0) && decide (a = 0))) := hid (by rw [HS.out]; unfold bindOk; rw [if_neg b12, if_neg b3, if_pos (.inl b4)])
                clear b1 b2 b3 b12 b4
                by_cases hz : z = 0
                · have hzb : (z == 0) = true := by simpa using hz
                  clear hz
                  go_enter Try.func34, Try.ntmps34
                  go_wp2_with (first
                    | (go_at_call 36; refine (Try.strings_IndexByte s 0 _).mono ?_; rintro e w1 ⟨rfl, rfl⟩)
                    | (go_at_call 38; refine (alignValid_any a _).mono ?_; rintro e w1 ⟨rfl, rfl⟩))
                  go_ret
                  exact ⟨ret_bool (by rw [HS'.out, show decide (z = 0) = true from hzb]; rfl), hb0⟩
                · have hzb : (z == 0) = false := by simpa using hz
                  go_enter Try.func34, Try.ntmps34
                  go_wp2_with (first
                    | (go_at_call 36; refine (Try.strings_IndexByte s 0 _).mono ?_; rintro e w1 ⟨rfl, rfl⟩)
                    | (go_at_call 38; refine (alignValid_any a _).mono ?_; rintro e w1 ⟨rfl, rfl⟩))
                  go_ret
                  exact ⟨ret_bool (by rw [HS'.out, show decide (z = 0) = false from hzb]; rfl), hb0⟩
              · have b4b : (b == 4) = false := by simpa using b4
                by_cases b5 : b = 5
                · have b5b : (b == 5) = true := by simpa using b5
                  have HS' : Hid (symOk ⟨s, b, z, a⟩ = (decide (z = 0) && decide (a = 0))) := hid (by rw [HS.out]; unfold bindOk; rw [if_neg b12, if_neg b3, if_pos (.inr b5)])
                  clear b1 b2 b3 b12 b4 b5
                  by_cases hz : z = 0
                  · have hzb : (z == 0) = true := by simpa using hz
                    clear hz
                    go_enter Try.func34, Try.ntmps34
                    go_wp2_with (first
                      | (go_at_call 36; refine (Try.strings_IndexByte s 0 _).mono ?_; rintro e w1 ⟨rfl, rfl⟩)
                      | (go_at_call 38; refine (alignValid_any a _).mono ?_; rintro e w1 ⟨rfl, rfl⟩))
                    go_ret
                    exact ⟨ret_bool (by rw [HS'.out, show decide (z = 0) = true from hzb]; rfl), hb0⟩
                  · have hzb : (z == 0) = false := by simpa using hz
                    go_enter Try.func34, Try.ntmps34
                    go_wp2_with (first
                      | (go_at_call 36; refine (Try.strings_IndexByte s 0 _).mono ?_; rintro e w1 ⟨rfl, rfl⟩)
                      | (go_at_call 38; refine (alignValid_any a _).mono ?_; rintro e w1 ⟨rfl, rfl⟩))
                    go_ret
                    exact ⟨ret_bool (by rw [HS'.out, show decide (z = 0) = false from hzb]; rfl), hb0⟩
                · have b5b : (b == 5) = false := by simpa using b5
                  have HS' : Hid (symOk ⟨s, b, z, a⟩ = false) := hid (by rw [HS.out]; unfold bindOk; rw [if_neg b12, if_neg b3, if_neg (by omega)])
                  clear b1 b2 b3 b12 b4 b5
                  go_enter Try.func34, Try.ntmps34
                  go_wp2_with (first
                    | (go_at_call 36; refine (Try.strings_IndexByte s 0 _).mono ?_; rintro e w1 ⟨rfl, rfl⟩)
                    | (go_at_call 38; refine (alignValid_any a _).mono ?_; rintro e w1 ⟨rfl, rfl⟩))
                  go_ret
                  exact ⟨ret_bool HS'.out.symm, hb0⟩

/-! ### the names so far -/
theorem lawK : Go.Maps.Keyed Try.prog 9 := Go.Maps.string_keyed Try.underlying9
theorem zeroB (w : World) : (zeroValue 4).run Try.prog w = .ok (.bool false) w := by kernel_rfl
theorem underN : Try.prog.underlying 60 = some (.map 9 4) := by kernel_rfl
theorem plainB (x : Bool) : plainElem (H := Unit) Try.prog 4 (.bool x) = some (.lit (.bool x), []) := plainElem_bool Try.underlying4 x
theorem plainB_inv {v : Value} {z : DataW Unit × List MemPlace} (h : plainElem (H := Unit) Try.prog 4 v = some z) : ∃ x, v = .bool x ∧ z = (.lit (.bool x), []) := by
  unfold plainElem at h
  rw [Try.underlying4] at h
  cases v <;> simp at h
  subst h
  exact ⟨_, rfl, rfl⟩
/-- Block b is a map that holds true at the names of the symbols, and nothing else. -/
def Nms (w : World) (b n : Nat) (xs : List Sy) : Prop :=
  ∃ D : DataW Unit, w.ownsMap Try.prog 9 (plainElem Try.prog 4) b n D ∧ ∀ s : ByteArray, D.atKey (.string s.data.toList) (.lit (.bool false)) = .lit (.bool (has xs s))
theorem Nms.start (w : World) : Nms (w.alloc (.map #[] 0)) w.heap.size 0 [] :=
  ⟨_, World.ownsMap_made w _ _ _, fun s => by simp [DataW.atKey, has]⟩
theorem Nms.kept {w w' : World} {b n : Nat} {xs : List Sy} (h : Nms w b n xs) {row : Option Nat} (hg : w.grownBy w' row) (hne : some b ≠ row) : Nms w' b n xs := by
  obtain ⟨D, h1, h2⟩ := h
  exact ⟨D, h1.kept hg hne, h2⟩
theorem Nms.alloc {w : World} {b n : Nat} {xs : List Sy} (h : Nms w b n xs) (o : Obj) : Nms (w.alloc o) b n xs := by
  obtain ⟨D, h1, h2⟩ := h
  exact ⟨D, h1.alloc o, h2⟩
theorem Nms.below {w w' : World} {b n : Nat} {xs : List Sy} (h : Nms w b n xs) (hb : Below w.heap.size w w') : Nms w' b n xs :=
  h.kept (row := none) ⟨hb.os, hb.tape, hb.output, hb.size, fun k hk _ => hb.block k hk⟩ (by simp)
theorem Nms.look {w : World} {b n : Nat} {xs : List Sy} (h : Nms w b n xs) (s : ByteArray) (hs : s.size ≤ maxLen) :
    (Instr.lookup 60 (.map (some b)) (.string s) false).run Try.prog w = .ok (.bool (has xs s)) w := by
  obtain ⟨D, h1, h2⟩ := h
  obtain ⟨v, ps, hrun, hv⟩ := h1.lookup lawK underN (zeroB w) (plainB false) (Go.WideMaps.keyOf_string_mk Try.underlying9 hs)
  obtain ⟨x, rfl, hx⟩ := plainB_inv hv
  rw [h2 s] at hx
  injection hx with hx _
  injection hx with hx
  injection hx with hx
  rw [hrun, ← hx]
theorem Nms.put {w : World} {b n : Nat} {xs : List Sy} (h : Nms w b n xs) (x : Sy) (hs : x.name.size ≤ maxLen) (hn : n < maxLen) :
    ∃ w', (Instr.mapUpdate 60 (.map (some b)) (.string x.name) (.bool true)).run Try.prog w = .ok () w' ∧ Nms w' b (n + 1) (xs ++ [x]) ∧ w.grownBy w' (some b) := by
  obtain ⟨D, h1, h2⟩ := h
  obtain ⟨w', hrun, ho, hg⟩ := h1.update lawK underN hn (Go.WideMaps.keyOf_string_mk Try.underlying9 hs) (plainB true)
  refine ⟨w', hrun, ⟨_, ho, fun s => ?_⟩, hg⟩
  obtain ⟨es, clock, _, _, _, hD⟩ := h1
  by_cases e : s = x.name
  · subst e
    rw [Go.Maps.atKey_put_same ⟨_, hD⟩ (by trivial), has_append]
    simp [has]
  · have hne : (Lit.string s.data.toList) ≠ .string x.name.data.toList := by
      intro q
      injection q with q
      apply e
      rw [← str_of s, ← str_of x.name, q]
    rw [Go.Maps.atKey_put_other hne, h2 s, has_append]
    simp [has, Ne.symm e]

set_option maxRecDepth 100000 in
set_option maxHeartbeats 1000000 in
theorem admit_any (x : Sy) (b n : Nat) (xs : List Sy) (w : World) (h : Nms w b n xs) (hs : x.name.size ≤ maxLen) (hn : n < maxLen) :
    Calls Try.prog 29 #[.map (some b), x.val] w fun e w' => e = .returned (.bool (!has xs x.name && symOk x)) ∧ w.grownBy w' (some b) ∧ ((!has xs x.name && symOk x) = true → Nms w' b (n + 1) (xs ++ [x])) := by
  obtain ⟨s, bd, z, a⟩ := x
  have Hv := hid (symValid_any ⟨s, bd, z, a⟩ (w.alloc (.cells #[.string s, .int .i64 bd, .int .i64 z, .int .i64 a] 38)))
  have hg0 := World.grownBy_alloc w (.cells #[.string s, .int .i64 bd, .int .i64 z, .int .i64 a] 38) (some b)
  have h1 := h.alloc (.cells #[.string s, .int .i64 bd, .int .i64 z, .int .i64 a] 38)
  have hlk := h1.look s hs
  have hrow := heap_alloc_new w (.cells #[.string s, .int .i64 bd, .int .i64 z, .int .i64 a] 38)
  have c0 := cell_of_row _ w.heap.size 0 _ _ _ hrow
  have c1 := cell_of_row _ w.heap.size 1 _ _ _ hrow
  have c2 := cell_of_row _ w.heap.size 2 _ _ _ hrow
  have c3 := cell_of_row _ w.heap.size 3 _ _ _ hrow
  unfold Sy.val
  cases hh : has xs s
  · rw [hh] at hlk
    cases hq : symOk ⟨s, bd, z, a⟩
    all_goals rw [hq] at Hv
    · go_enter Try.func29, Try.ntmps29
      go_wp2_with fail
      refine Hv.out.mono ?_
      rintro e w1 ⟨rfl, hb1⟩
      go_wp2_with fail
      go_ret
      exact ⟨rfl, hg0.trans ⟨hb1.os, hb1.tape, hb1.output, hb1.size, fun k hk _ => hb1.block k hk⟩, fun q => by cases q⟩
    · go_enter Try.func29, Try.ntmps29
      go_wp2_with fail
      refine Hv.out.mono ?_
      rintro e w1 ⟨rfl, hb1⟩
      obtain ⟨w2, hrun, hN2, hg2⟩ := (h1.below hb1).put ⟨s, bd, z, a⟩ hs hn
      have c0' := cell_of_row _ w.heap.size 0 _ _ _ ((hb1.block w.heap.size (by simp)).trans hrow)
      clear c0 c1 c2 c3 hlk Hv
      go_wp2_with fail
      go_ret
      exact ⟨rfl, (hg0.trans ⟨hb1.os, hb1.tape, hb1.output, hb1.size, fun k hk _ => hb1.block k hk⟩).trans hg2, fun _ => hN2⟩
  · rw [hh] at hlk
    go_enter Try.func29, Try.ntmps29
    go_wp2_with fail
    go_ret
    exact ⟨rfl, hg0⟩
end Go.Proofs.Ytkacndinjomifaa.Obj
