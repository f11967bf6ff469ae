/-
  decfield.Parse, at every argument.
-/
import Derived.Test.YtnkdcecpbjhdmaaDoorDecf
namespace Go.Proofs.YtnkdcecpbjhdmaaDoor.Dec
open Go.RowKit Go.Proofs Go.Proofs.YtnkdcecpbjhdmaaDoor.Byt

/-- The error number of Parse. -/
def perr (l : List UInt8) (b : Int) : Int := if vb b = true ∧ vw (l.length : Int) = true then (if (parse b.toNat l).isSome = true then 0 else 3) else 13
/-- The number of Parse. -/
def pval (l : List UInt8) (b : Int) : Int := if vb b = true ∧ vw (l.length : Int) = true then (((parse b.toNat l).getD 0 : Nat) : Int) else 0

theorem perr_13 {l : List UInt8} {b : Int} (h : ¬(vb b = true ∧ vw (l.length : Int) = true)) : perr l b = 13 ∧ pval l b = 0 := ⟨if_neg h, if_neg h⟩
theorem perr_3 {l : List UInt8} {b : Int} (h : vb b = true ∧ vw (l.length : Int) = true) (h2 : parse b.toNat l = none) : perr l b = 3 ∧ pval l b = 0 := by
  unfold perr pval
  rw [if_pos h, if_pos h, h2]
  exact ⟨rfl, rfl⟩
theorem perr_0 {l : List UInt8} {b : Int} (h : vb b = true ∧ vw (l.length : Int) = true) {n : Nat} (h2 : parse b.toNat l = some n) : perr l b = 0 ∧ pval l b = (n : Int) := by
  unfold perr pval
  rw [if_pos h, if_pos h, h2]
  exact ⟨rfl, rfl⟩

theorem ret_ints {k : IntKind} {a b c d : Int} (h : a = c) (h2 : b = d) : Ending.returned (.tuple #[.int k a, .int k b]) = .returned (.tuple #[.int k c, .int k d]) := by rw [h, h2]

theorem parse_13 (K : Nat) (A : Option Addr) (n c : Nat) (l : List UInt8) (b : Int) (w : World) (hr : Rd w K A n l) (h : ¬(vb b = true ∧ vw (n : Int) = true)) :
    Calls Tryd.prog 42 #[.slice A n c, .int .i64 b] w fun e w' => e = .returned (.tuple #[.int .i64 (pval l b), .int .i64 (perr l b)]) ∧ w = w' := by
  have hf := hid (perr_13 (l := l) (b := b) (by rw [hr.1]; exact h))
  cases hb : vb b
  · clear h
    go_enter Tryd.func42, Tryd.ntmps42
    go_wp2
    go_step3
    go_wp2_with (go_at_call 51; refine (validBase_any _ _).mono ?_; rintro e w' ⟨rfl, rfl⟩)
    rw [Exit.noGoto_ret]
    go_ret2
    exact ⟨ret_ints hf.out.2.symm hf.out.1.symm, rfl⟩
  · have hw : vw (n : Int) = false := by
      cases hh : vw (n : Int)
      · rfl
      · exact absurd ⟨hb, hh⟩ h
    clear h
    go_enter Tryd.func42, Tryd.ntmps42
    go_wp2
    go_step3
    go_wp2_with (first | (go_at_call 51; refine (validBase_any _ _).mono ?_; rintro e w' ⟨rfl, rfl⟩) | (go_at_call 52; refine (validWidth_any _ _).mono ?_; rintro e w' ⟨rfl, rfl⟩))
    rw [Exit.noGoto_ret]
    go_ret2
    exact ⟨ret_ints hf.out.2.symm hf.out.1.symm, rfl⟩


/-- After k digits. -/
def PRel (b n : Nat) (l : List UInt8) (v c i : Value) : Prop :=
  ∃ k x : Nat, v = .int .i64 (x : Int) ∧ c = .int .i64 (k : Int) ∧ i = .int .i64 (k : Int) ∧ k ≤ n ∧ x < 1000000000000000000 ∧ Hid (x = val b (l.take k) ∧ ∀ u ∈ l.take k, isD b u = true)

theorem PRel.step {b n : Nat} {l : List UInt8} {k x : Nat} (hb3 : b ≤ 10) (hl : l.length = n) (hn : n ≤ 18) (hk : k < n) (h : x = val b (l.take k) ∧ ∀ u ∈ l.take k, isD b u = true) (hd : isD b (l[k]'(by omega)) = true) :
    x * b + ((l[k]'(by omega)).toNat - 48) < 1000000000000000000 ∧ (x * b + ((l[k]'(by omega)).toNat - 48) = val b (l.take (k + 1)) ∧ ∀ u ∈ l.take (k + 1), isD b u = true) := by
  have ht : l.take (k + 1) = l.take k ++ [l[k]'(by omega)] := List.take_succ_eq_append_getElem (by omega)
  have h2 : ∀ u ∈ l.take (k + 1), isD b u = true := by
    rw [ht]
    intro u hu
    rw [List.mem_append, List.mem_singleton] at hu
    rcases hu with hu | rfl
    · exact h.2 u hu
    · exact hd
  have hv : x * b + ((l[k]'(by omega)).toNat - 48) = val b (l.take (k + 1)) := by rw [ht, val_snoc, h.1]
  refine ⟨?_, hv, h2⟩
  rw [hv]
  exact val_small hb3 h2 (by rw [List.length_take]; omega)

set_option maxHeartbeats 1000000 in
theorem parse_ok (K : Nat) (A : Option Addr) (n c : Nat) (l : List UInt8) (b : Nat) (w : World) (hr : Rd w K A n l) (hc : n ≤ c) (hb : vb (b : Int) = true) (hw : vw (n : Int) = true) :
    Calls Tryd.prog 42 #[.slice A n c, .int .i64 (b : Int)] w fun e w' => e = .returned (.tuple #[.int .i64 (pval l b), .int .i64 (perr l b)]) ∧ w = w' := by
  have hf0 := hid fun m => perr_0 (l := l) (b := b) ⟨hb, by rw [hr.1]; exact hw⟩ (n := m)
  have hf3 := hid (perr_3 (l := l) (b := b) ⟨hb, by rw [hr.1]; exact hw⟩)
  obtain ⟨hw1, hw2⟩ := vw_iff.1 hw
  have hb8 : b = 8 ∨ b = 10 := by have := vb_iff.1 hb; omega
  have hb2 : 8 ≤ b := by omega
  have hb3 : b ≤ 10 := by omega
  have Hb8 := hid hb8
  clear hb8
  go_enter Tryd.func42, Tryd.ntmps42
  go_wp2
  go_step3
  go_wp2_with (first | (go_at_call 51; refine (validBase_any _ _).mono ?_; rintro e w' ⟨rfl, rfl⟩) | (go_at_call 52; refine (validWidth_any _ _).mono ?_; rintro e w' ⟨rfl, rfl⟩))
  go_step3
  go_wp2
  go_loop [6, 7, 21] (fun v c i => PRel b n l v c i) (fun _ _ i => n - (intOf i).toNat)
  case atStart => exact ⟨0, 0, rfl, rfl, rfl, by omega, by omega, hid ⟨rfl, by simp⟩⟩
  case round =>
    obtain ⟨k, x, rfl, rfl, rfl, hk, hx, hv⟩ := hrel
    by_cases hlt : k < n
    · have hkl : k < l.length := by have := hr.1; omega
      obtain ⟨b0, o, rfl, hbK, hcell⟩ := hr.2 k hkl
      have hst := hid (PRel.step (x := x) hb3 hr.1 (by omega) hlt hv.out)
      have hbad := hid fun h1 h2 => parse_bad (B := b) (l := l) (k := k) hv.out.2 h1 (by omega) h2
      have hat := hid fun h1 => parse_at (B := b) (l := l) (k := k) hv.out.2 h1 (by omega)
      have hnext : Hid (isD b l[k] = false → ∀ c, l[k]? = some c → isD b c = false) := hid (fun h c hc => by
        rw [List.getElem?_eq_getElem hkl] at hc
        injection hc with hc
        rwa [← hc])
      generalize l[k] = u at *
      have hu := u.toNat_lt
      cases hd : isD b u
      · have Hcut := hid (blank_any K _ (n - k) (c - k) (l.drop k) w (hr.cut k) (by omega))
        have hnx := hnext.out hd
        cases hs : spaces (l.drop k)
        · have Hr := hid (hf3.out (hbad.out hnx hs))
          clear hst hbad hat hnext hnx hf0 hf3
          go_wp2_with (first | (go_at_call 53; refine (isDigit_any _ _ Hb8.out _).mono ?_; rintro e w' ⟨rfl, rfl⟩) | (go_at_call 54; refine Hcut.out.mono ?_; rintro e w' ⟨rfl, rfl⟩))
          rw [Exit.noGoto_ret]
          go_ret2
          exact ⟨ret_ints Hr.out.2.symm Hr.out.1.symm, rfl⟩
        · have Hdig := hid (digits_some x b hb (by omega))
          have Hp := hid (hat.out hnx)
          by_cases hcnt : k = nd b x
          · have Hr := hid (hf0.out x (by rw [Int.toNat_natCast, Hp.out, if_pos ⟨hs, by rw [← hv.out.1]; exact hcnt⟩, ← hv.out.1]))
            have hne : ((k : Int) != (nd b x : Int)) = false := by rw [← hcnt]; simp
            clear hst hbad hat hnext hnx hf0 hf3 Hp hcnt
            go_wp2_with (first | (go_at_call 53; refine (isDigit_any _ _ Hb8.out _).mono ?_; rintro e w' ⟨rfl, rfl⟩) | (go_at_call 54; refine Hcut.out.mono ?_; rintro e w' ⟨rfl, rfl⟩) | (go_at_call 43; refine (Hdig.out _).mono ?_; rintro e w' ⟨rfl, rfl⟩))
            rw [Exit.noGoto_ret]
            go_ret2
            exact ⟨ret_ints Hr.out.2.symm Hr.out.1.symm, rfl⟩
          · have Hr := hid (hf3.out (by rw [Int.toNat_natCast, Hp.out, if_neg (by rintro ⟨_, h⟩; rw [← hv.out.1] at h; exact hcnt h)]))
            have hne : ((k : Int) != (nd b x : Int)) = true := by simp; omega
            clear hst hbad hat hnext hnx hf0 hf3 Hp hcnt
            go_wp2_with (first | (go_at_call 53; refine (isDigit_any _ _ Hb8.out _).mono ?_; rintro e w' ⟨rfl, rfl⟩) | (go_at_call 54; refine Hcut.out.mono ?_; rintro e w' ⟨rfl, rfl⟩) | (go_at_call 43; refine (Hdig.out _).mono ?_; rintro e w' ⟨rfl, rfl⟩))
            rw [Exit.noGoto_ret]
            go_ret2
            exact ⟨ret_ints Hr.out.2.symm Hr.out.1.symm, rfl⟩
      · obtain ⟨h48, h58⟩ := isD_iff.1 hd
        obtain ⟨hs1, hs2⟩ := hst.out hd
        have hp : (x : Int) * (b : Int) = ((x * b : Nat) : Int) := by simp
        have Hs2 := hid hs2
        clear hst hs2 hbad hat hnext
        generalize x * b = p at *
        go_wp2_with (go_at_call 53; refine (isDigit_any _ _ Hb8.out _).mono ?_; rintro e w' ⟨rfl, rfl⟩)
        go_round
        case rel => exact ⟨k + 1, _, by go_num, by go_num, by go_num, by omega, hs1, Hs2⟩
        case measure => simp [intOf]; omega
    · obtain rfl : k = n := by omega
      have Hdig := hid (digits_some x b hb (by omega))
      have hend : ∀ c, l[k]? = some c → isD b c = false := fun c hc => by
        rw [List.getElem?_eq_none (by have := hr.1; omega)] at hc; cases hc
      have Hp := hid (parse_at (B := b) (l := l) (k := k) hv.out.2 hend (by have := hr.1; omega))
      have hs : ((l.drop k).all (· == 32)) = true := by rw [List.drop_eq_nil_of_le (by have := hr.1; omega)]; rfl
      clear hend
      by_cases hcnt : k = nd b x
      · have Hr := hid (hf0.out x (by rw [Int.toNat_natCast, Hp.out, if_pos ⟨hs, by rw [← hv.out.1]; exact hcnt⟩, ← hv.out.1]))
        have hne : ((k : Int) != (nd b x : Int)) = false := by rw [← hcnt]; simp
        clear hf0 hf3 Hp hcnt hs
        go_wp2_with (go_at_call 43; refine (Hdig.out _).mono ?_; rintro e w' ⟨rfl, rfl⟩)
        rw [Exit.noGoto_ret]
        go_ret2
        exact ⟨ret_ints Hr.out.2.symm Hr.out.1.symm, rfl⟩
      · have Hr := hid (hf3.out (by rw [Int.toNat_natCast, Hp.out, if_neg (by rintro ⟨_, h⟩; rw [← hv.out.1] at h; exact hcnt h)]))
        have hne : ((k : Int) != (nd b x : Int)) = true := by simp; omega
        clear hf0 hf3 Hp hcnt hs
        go_wp2_with (go_at_call 43; refine (Hdig.out _).mono ?_; rintro e w' ⟨rfl, rfl⟩)
        rw [Exit.noGoto_ret]
        go_ret2
        exact ⟨ret_ints Hr.out.2.symm Hr.out.1.symm, rfl⟩

theorem parse_any (K : Nat) (A : Option Addr) (n c : Nat) (l : List UInt8) (b : Int) (w : World) (hr : Rd w K A n l) (hc : n ≤ c) :
    Calls Tryd.prog 42 #[.slice A n c, .int .i64 b] w fun e w' => e = .returned (.tuple #[.int .i64 (pval l b), .int .i64 (perr l b)]) ∧ w = w' := by
  by_cases h : vb b = true ∧ vw (n : Int) = true
  · obtain ⟨b', rfl⟩ := Int.eq_ofNat_of_zero_le (a := b) (by have := vb_iff.1 h.1; omega)
    exact parse_ok K A n c l b' w hr hc h.1 h.2
  · exact parse_13 K A n c l b w hr h
end Go.Proofs.YtnkdcecpbjhdmaaDoor.Dec
