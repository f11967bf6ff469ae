/-
  The fixed examples of layer 1: they come out as the document says.
-/
import Derived.Test.YtnkaclaeogdndaaDech
namespace Go.Proofs.Ytnkaclaeogdndaa.Dec
open Go.RowKit Go.Proofs Go.Proofs.Ytnkaclaeogdndaa.Byt

theorem ex1 : ferr 420 8 8 = 0 ∧ fout 420 8 8 = [54, 52, 52, 32, 32, 32, 32, 32] := by decide +kernel
theorem ex2 : perr [54, 52, 52, 32, 32, 32, 32, 32] 8 = 0 ∧ pval [54, 52, 52, 32, 32, 32, 32, 32] 8 = 420 := by decide +kernel
theorem ex3 : perr [48, 55, 32] 10 = 3 ∧ perr [32, 55] 10 = 3 := by decide +kernel
theorem ex3b : pval [48, 55, 32] 10 = 0 ∧ pval [32, 55] 10 = 0 := by decide +kernel
theorem ex4 : ferr 10 10 1 = 9 := by decide +kernel
theorem ex5 : nd 8 420 = 3 := by decide +kernel

theorem digits_420 (w : World) : Calls Try.prog 17 #[.int .i64 420, .int .i64 8] w fun e w' => e = .returned (.int .i64 3) ∧ w = w' := by
  have := digits_some 420 8 rfl (by omega) w
  rw [ex5] at this
  exact this

theorem format_420 (w : World) : Calls Try.prog 10 #[.int .i64 420, .int .i64 8, .int .i64 8] w fun e w' =>
    ∃ v, e = .returned (.tuple #[v, .int .i64 0]) ∧ Own w' w.heap.size v 8 [54, 52, 52, 32, 32, 32, 32, 32] ∧ Below w.heap.size w w' := by
  refine (format_any 420 8 8 w (by omega)).mono fun e w' ⟨v, he, ho, hb⟩ => ⟨v, ?_, ?_, hb⟩
  · rw [he, ex1.1]
  · rw [ex1.2] at ho; exact ho

theorem format_10 (w : World) : Calls Try.prog 10 #[.int .i64 10, .int .i64 10, .int .i64 1] w fun e w' =>
    ∃ v, e = .returned (.tuple #[v, .int .i64 9]) ∧ Below w.heap.size w w' := by
  refine (format_any 10 10 1 w (by omega)).mono fun e w' ⟨v, he, ho, hb⟩ => ⟨v, ?_, hb⟩
  rw [he, ex4]

theorem parse_lit (l : List UInt8) (n : Nat) (b r k : Int) (cs : Array Value) (h : cs = (enc l).toArray) (hn : l.length = n) (h1 : pval l b = r) (h2 : perr l b = k) (m : Nat × Nat) (w : World) :
    Calls Try.prog 12 #[.slice (some ⟨w.heap.size, 0, none⟩) n n, .int .i64 b] (w.alloc (.cells cs 5 m)) fun e w' => e = .returned (.tuple #[.int .i64 r, .int .i64 k]) ∧ Below w.heap.size w w' := by
  subst h1
  subst h2
  refine (parse_any _ _ n n l b _ (Rd.lit w l cs h n hn m) (Nat.le_refl _)).mono fun e w' ⟨he, hw⟩ => ⟨he, ?_⟩
  subst hw
  exact (Below.refl _ _).alloc (Nat.le_refl _) _
theorem blank_lit (l : List UInt8) (n : Nat) (r : Bool) (cs : Array Value) (h : cs = (enc l).toArray) (hn : l.length = n) (h1 : spaces l = r) (hm : n ≤ 140737488355328) (m : Nat × Nat) (w : World) :
    Calls Try.prog 18 #[.slice (some ⟨w.heap.size, 0, none⟩) n n] (w.alloc (.cells cs 5 m)) fun e w' => e = .returned (.bool r) ∧ Below w.heap.size w w' := by
  subst h1
  refine (blank_any _ _ n n l _ (Rd.lit w l cs h n hn m) hm).mono fun e w' ⟨he, hw⟩ => ⟨he, ?_⟩
  subst hw
  exact (Below.refl _ _).alloc (Nat.le_refl _) _

set_option maxHeartbeats 1000000 in
theorem awake_any (w : World) : Calls Try.prog 9 #[] w fun e w' => e = .returned (.bool true) ∧ Below w.heap.size w w' := by
  have kc := fun (w : World) (C : Array Value) (n c : Nat) => Lib.run_convert_bytes_const (P := Try.prog) w 22 5 C n c Try.underlying22 Try.underlying5
  go_enter Try.func9, Try.ntmps9
  go_wp2_with fail
  refine (format_420 _).mono ?_
  rintro e w1 ⟨v1, rfl, hown1, hb1⟩
  obtain ⟨A1, c1, rfl, hrd1, _, _⟩ := hown1.reads
  have hrd1' := hid hrd1
  clear hrd1
  go_wp2_with fail
  refine (parse_lit [54, 52, 52, 32, 32, 32, 32, 32] 8 8 420 0 _ rfl rfl ex2.2 ex2.1 _ w1).mono ?_
  rintro e w2 ⟨rfl, hb2⟩
  go_wp2_with fail
  refine (parse_lit [48, 55, 32] 3 10 0 3 _ rfl rfl ex3b.1 ex3.1 _ w2).mono ?_
  rintro e w3 ⟨rfl, hb3⟩
  go_wp2_with fail
  refine (parse_lit [32, 55] 2 10 0 3 _ rfl rfl ex3b.2 ex3.2 _ w3).mono ?_
  rintro e w4 ⟨rfl, hb4⟩
  go_wp2_with fail
  refine (format_10 _).mono ?_
  rintro e w5 ⟨v5, rfl, hb5⟩
  have hb12 := hb2.mono (Nat.le_refl _)
  have hb13 := hb12.trans (hb3.mono hb12.size)
  have hb14 := hb13.trans (hb4.mono hb13.size)
  have hb15 := hb14.trans (hb5.mono hb14.size)
  have hrd5 := hid (hrd1'.out.below hb15)
  go_wp2_with (first | (refine wpList_str w5 _ _ 8 c1 _ hrd5.out rfl _ rfl rfl ?_) | (go_at_call 17; refine (digits_420 _).mono ?_; rintro e w6 ⟨rfl, rfl⟩))
  refine (blank_lit [32, 32] 2 true _ rfl rfl rfl (by omega) _ w5).mono ?_
  rintro e w6 ⟨rfl, hb6⟩
  go_wp2_with fail
  refine (blank_lit [32, 120] 2 false _ rfl rfl rfl (by omega) _ w6).mono ?_
  rintro e w7 ⟨rfl, hb7⟩
  go_wp2_with fail
  go_ret
  have hb16 := hb15.trans (hb6.mono hb15.size)
  have hb17 := hb16.trans (hb7.mono hb16.size)
  exact ⟨rfl, hb1.trans (hb17.mono hb1.size)⟩

/-- Format where the number fits: the field, ready to be read. -/
theorem format_fit (n b wd : Nat) (hn : n < 9223372036854775808) (hb : vb (b : Int) = true) (hw : 1 ≤ wd ∧ wd ≤ 18) (h2 : nd b n ≤ wd) (w : World) :
    Calls Try.prog 10 #[.int .i64 (n : Int), .int .i64 (b : Int), .int .i64 (wd : Int)] w fun e w' =>
      ∃ A c, e = .returned (.tuple #[.slice A wd c, .int .i64 0]) ∧ Own w' w.heap.size (.slice A wd c) wd (field b n wd) ∧ Rd w' w'.heap.size A wd (field b n wd) ∧ wd ≤ c ∧ Below w.heap.size w w' := by
  refine (format_0 n b wd w hn hb (vw_iff.2 (by omega)) h2).mono fun e w' ⟨v, he, ho, hbl⟩ => ?_
  obtain ⟨A, c, rfl, hr, hc, _⟩ := ho.reads
  exact ⟨A, c, he, ho, hr, hc, hbl⟩

/-- Format where the number does not fit: no field. -/
theorem format_unfit (n b wd : Int) (hn : n < 9223372036854775808) (hb : vb b = true) (hw : 1 ≤ wd ∧ wd ≤ 18) (h2 : ¬(0 ≤ n ∧ (nd b.toNat n.toNat : Int) ≤ wd)) (w : World) :
    Calls Try.prog 10 #[.int .i64 n, .int .i64 b, .int .i64 wd] w fun e w' =>
      ∃ A c, e = .returned (.tuple #[.slice A 0 c, .int .i64 9]) ∧ Own w' w.heap.size (.slice A 0 c) 0 [] ∧ Below w.heap.size w w' := by
  refine (format_9 n b wd w hn ⟨hb, vw_iff.2 hw⟩ h2).mono fun e w' ⟨v, he, ho, hbl⟩ => ?_
  have h9 := ferr_9 ⟨hb, vw_iff.2 hw⟩ h2
  rw [h9.2] at ho
  rw [h9.1] at he
  obtain ⟨A, c, rfl, _⟩ := ho.reads
  exact ⟨A, c, he, ho, hbl⟩

/-- Parse of a field. -/
theorem parse_fit (n b wd : Nat) (hb : vb (b : Int) = true) (hw : 1 ≤ wd ∧ wd ≤ 18) (h2 : nd b n ≤ wd) (K : Nat) (A : Option Addr) (c : Nat) (w : World) (hr : Rd w K A wd (field b n wd)) (hc : wd ≤ c) :
    Calls Try.prog 12 #[.slice A wd c, .int .i64 (b : Int)] w fun e w' => e = .returned (.tuple #[.int .i64 (n : Int), .int .i64 0]) ∧ w = w' := by
  have hb2 : 2 ≤ b := by have := vb_iff.1 hb; omega
  have hb3 : b ≤ 10 := by have := vb_iff.1 hb; omega
  have h0 := perr_0 (l := field b n wd) (b := b) ⟨hb, by rw [field_length hb2 h2]; exact vw_iff.2 (by omega)⟩ (n := n) (by rw [Int.toNat_natCast]; exact parse_field hb2 hb3 _ _)
  refine (parse_any K A wd c (field b n wd) b w hr hc).mono fun e w' ⟨he, hw'⟩ => ⟨?_, hw'⟩
  rw [he, h0.1, h0.2]

theorem digits_any (n b : Int) (hn : n < 9223372036854775808) (w : World) : Calls Try.prog 17 #[.int .i64 n, .int .i64 b] w fun e w' => e = .returned (.int .i64 (dgs n b)) ∧ w = w' := by
  by_cases h : 0 ≤ n ∧ vb b = true
  · obtain ⟨b', rfl⟩ := Int.eq_ofNat_of_zero_le (a := b) (by have := vb_iff.1 h.2; omega)
    obtain ⟨n', rfl⟩ := Int.eq_ofNat_of_zero_le h.1
    refine (digits_some n' b' h.2 (by omega) w).mono fun e w' ⟨he, hw⟩ => ⟨?_, hw⟩
    rw [he]
    unfold dgs
    rw [if_pos h, Int.toNat_natCast, Int.toNat_natCast]
  · refine (digits_none n b h w).mono fun e w' ⟨he, hw⟩ => ⟨?_, hw⟩
    rw [he]
    unfold dgs
    rw [if_neg h]
end Go.Proofs.Ytnkaclaeogdndaa.Dec
