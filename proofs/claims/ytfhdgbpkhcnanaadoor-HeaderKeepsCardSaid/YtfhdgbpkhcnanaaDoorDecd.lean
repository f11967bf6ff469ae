/-
  decfield.Format: the field and the error number, at every argument.
-/
import Derived.Test.YtfhdgbpkhcnanaaDoorDecc
namespace Go.Proofs.YtfhdgbpkhcnanaaDoor.Dec
open Go.RowKit Go.Proofs Go.Proofs.YtfhdgbpkhcnanaaDoor.Byt

/-- The error number of Format. -/
def ferr (n b w : Int) : Int := if vb b = true ∧ vw w = true then (if 0 ≤ n ∧ (nd b.toNat n.toNat : Int) ≤ w then 0 else 9) else 13
/-- The bytes of Format. -/
def fout (n b w : Int) : List UInt8 := if ferr n b w = 0 then field b.toNat n.toNat w.toNat else []

theorem ferr_13 {n b w : Int} (h : ¬(vb b = true ∧ vw w = true)) : ferr n b w = 13 ∧ fout n b w = [] := by
  have : ferr n b w = 13 := if_neg h
  exact ⟨this, by unfold fout; rw [this]; rfl⟩
theorem ferr_9 {n b w : Int} (h : vb b = true ∧ vw w = true) (h2 : ¬(0 ≤ n ∧ (nd b.toNat n.toNat : Int) ≤ w)) : ferr n b w = 9 ∧ fout n b w = [] := by
  have : ferr n b w = 9 := by unfold ferr; rw [if_pos h, if_neg h2]
  exact ⟨this, by unfold fout; rw [this]; rfl⟩
theorem ferr_0 {n b w : Int} (h : vb b = true ∧ vw w = true) (h2 : 0 ≤ n ∧ (nd b.toNat n.toNat : Int) ≤ w) : ferr n b w = 0 ∧ fout n b w = field b.toNat n.toNat w.toNat := by
  have : ferr n b w = 0 := by unfold ferr; rw [if_pos h, if_pos h2]
  exact ⟨this, by unfold fout; rw [this]; rfl⟩

/-- What Format gives. -/
def Formats (n b wd : Int) (w : World) (e : Ending) (w' : World) : Prop :=
  ∃ v, e = .returned (.tuple #[v, .int .i64 (ferr n b wd)]) ∧ Own w' w.heap.size v (fout n b wd).length (fout n b wd) ∧ Below w.heap.size w w'

theorem Formats.empty {n b wd : Int} {w : World} {k : Int} (h : ferr n b wd = k ∧ fout n b wd = []) : Formats n b wd w (.returned (.tuple #[.slice none 0 0, .int .i64 k])) w := by
  refine ⟨_, by rw [h.1], ?_, Below.refl _ _⟩
  rw [h.2]; exact Own.nil _ _

theorem format_13 (n b wd : Int) (w : World) (h : ¬(vb b = true ∧ vw wd = true)) :
    Calls Tryd.prog 21 #[.int .i64 n, .int .i64 b, .int .i64 wd] w (Formats n b wd w) := by
  have hf := hid (Formats.empty (w := w) (ferr_13 (n := n) h))
  cases hb : vb b
  · clear h
    go_enter Tryd.func21, Tryd.ntmps21
    go_wp2_with (go_at_call 36; refine (validBase_any _ _).mono ?_; rintro e w' ⟨rfl, rfl⟩)
    go_ret2
    exact hf.out
  · have hw : vw wd = false := by
      cases hh : vw wd
      · rfl
      · exact absurd ⟨hb, hh⟩ h
    clear h
    go_enter Tryd.func21, Tryd.ntmps21
    go_wp2_with (first | (go_at_call 36; refine (validBase_any _ _).mono ?_; rintro e w' ⟨rfl, rfl⟩) | (go_at_call 37; refine (validWidth_any _ _).mono ?_; rintro e w' ⟨rfl, rfl⟩))
    go_ret2
    exact hf.out

theorem format_9 (n b wd : Int) (w : World) (hn : n < 9223372036854775808) (h : vb b = true ∧ vw wd = true) (h2 : ¬(0 ≤ n ∧ (nd b.toNat n.toNat : Int) ≤ wd)) :
    Calls Tryd.prog 21 #[.int .i64 n, .int .i64 b, .int .i64 wd] w (Formats n b wd w) := by
  have hf := hid (Formats.empty (w := w) (ferr_9 (n := n) h h2))
  obtain ⟨hb, hw⟩ := h
  obtain ⟨b', rfl⟩ := Int.eq_ofNat_of_zero_le (a := b) (by have := vb_iff.1 hb; omega)
  by_cases h0 : n < 0
  · clear h2
    go_enter Tryd.func21, Tryd.ntmps21
    go_wp2_with (first | (go_at_call 36; refine (validBase_any _ _).mono ?_; rintro e w' ⟨rfl, rfl⟩) | (go_at_call 37; refine (validWidth_any _ _).mono ?_; rintro e w' ⟨rfl, rfl⟩))
    go_ret2
    exact hf.out
  · obtain ⟨m, rfl⟩ := Int.eq_ofNat_of_zero_le (a := n) (by omega)
    have hd := hid (digits_some m b' hb (by omega))
    have hlt : wd < (nd b' m : Int) := by
      have h3 : ¬((nd b' m : Int) ≤ wd) := fun hh => h2 ⟨by omega, by simpa using hh⟩
      omega
    clear h2
    go_enter Tryd.func21, Tryd.ntmps21
    go_wp2_with (first | (go_at_call 36; refine (validBase_any _ _).mono ?_; rintro e w' ⟨rfl, rfl⟩) | (go_at_call 37; refine (validWidth_any _ _).mono ?_; rintro e w' ⟨rfl, rfl⟩) | (go_at_call 38; refine (hd.out _).mono ?_; rintro e w' ⟨rfl, rfl⟩))
    go_ret2
    exact hf.out

/-- The length in a slot. -/
def lenOf : Value → Nat | .slice _ n _ => n | _ => 0

set_option maxHeartbeats 1000000 in
theorem format_0 (n b wd : Nat) (w : World) (hn : n < 9223372036854775808) (hb : vb (b : Int) = true) (hw : vw (wd : Int) = true) (h2 : nd b n ≤ wd) :
    Calls Tryd.prog 21 #[.int .i64 (n : Int), .int .i64 (b : Int), .int .i64 (wd : Int)] w fun e w' =>
      ∃ v, e = .returned (.tuple #[v, .int .i64 0]) ∧ Own w' w.heap.size v wd (field b n wd) ∧ Below w.heap.size w w' := by
  have hd := hid (digits_some n b hb (by omega))
  have hwd : wd ≤ 18 := by have := vw_iff.1 hw; omega
  have hle : (nd b n : Int) ≤ wd := by omega
  have hb2 : 2 ≤ b := by have := vb_iff.1 hb; omega
  go_enter Tryd.func21, Tryd.ntmps21
  go_wp2_with (first | (go_at_call 36; refine (validBase_any _ _).mono ?_; rintro e w' ⟨rfl, rfl⟩) | (go_at_call 37; refine (validWidth_any _ _).mono ?_; rintro e w' ⟨rfl, rfl⟩) | (go_at_call 38; refine (hd.out _).mono ?_; rintro e w' ⟨rfl, rfl⟩) | (at_make; refine wpList_make0 _ wd (by omega) w.heap.size (Nat.le_refl _) rfl _ _ rfl _ _ rfl rfl ?_; intro v1 w1 hown1 hbel1) | (go_at_call 39; refine (appendDigits_any w.heap.size _ 0 n b [] w1 hown1 hbel1.size (by omega) hb hn).mono ?_; rintro e w2 ⟨v2, rfl, hown2, hbel2⟩))
  have hbel3 := hbel1.trans hbel2
  rw [Nat.zero_add, List.nil_append] at hown2
  clear hbel1 hbel2 hown1
  go_loopw [8] (fun v W => ∃ k : Nat, k ≤ wd - nd b n ∧ Own W w.heap.size v (nd b n + k) (tx b n ++ List.replicate k 32) ∧ Below w.heap.size w W) (fun v _ => wd - lenOf v)
  case atStart => exact ⟨0, by omega, by simpa using hown2, hbel3⟩
  case round =>
    clear hown2 hbel3
    obtain ⟨k, hk, hown, hbel⟩ := hrel
    obtain ⟨A, c, rfl, _, _⟩ := hown.reads
    by_cases hlt : k < wd - nd b n
    · go_wp2_with (at_builtin; refine wpList_push wr w.heap.size _ _ _ 32 32 rfl hown hbel.size (by omega) rfl (.tmp 35) (.tmp 36) rfl rfl rfl ?_; intro v1 w1' hown1 hb1)
      obtain ⟨A1, c1, rfl, _, _⟩ := hown1.reads
      go_roundw
      case rel =>
        refine ⟨k + 1, by omega, ?_, hbel.trans hb1⟩
        rw [List.append_assoc, ← List.replicate_succ'] at hown1
        exact hown1
      case measure => simp [lenOf]; omega
    · obtain rfl : k = wd - nd b n := by omega
      have hfull : Hid (Own wr w.heap.size (.slice A (nd b n + (wd - nd b n)) c) wd (field b n wd)) := by
        have h1 : nd b n + (wd - nd b n) = wd := by omega
        unfold field
        unfold Hid
        rw [h1] at hown ⊢
        exact hown
      clear hown
      go_wp2
      go_ret2
      exact ⟨_, rfl, hfull.out, hbel⟩

theorem format_any (n b wd : Int) (w : World) (hn : n < 9223372036854775808) :
    Calls Tryd.prog 21 #[.int .i64 n, .int .i64 b, .int .i64 wd] w (Formats n b wd w) := by
  by_cases h : vb b = true ∧ vw wd = true
  · by_cases h2 : 0 ≤ n ∧ (nd b.toNat n.toNat : Int) ≤ wd
    · obtain ⟨b', rfl⟩ := Int.eq_ofNat_of_zero_le (a := b) (by have := vb_iff.1 h.1; omega)
      obtain ⟨n', rfl⟩ := Int.eq_ofNat_of_zero_le h2.1
      obtain ⟨wd', rfl⟩ := Int.eq_ofNat_of_zero_le (a := wd) (by have := vw_iff.1 h.2; omega)
      have hle : nd b' n' ≤ wd' := by have := h2.2; simp only [Int.toNat_natCast] at this; omega
      refine (format_0 n' b' wd' w (by omega) h.1 h.2 hle).mono fun e w' ⟨v, he, ho, hb⟩ => ?_
      have h0 := ferr_0 h h2
      simp only [Int.toNat_natCast] at h0
      refine ⟨v, by rw [h0.1]; exact he, ?_, hb⟩
      rw [h0.2, field_length (by have := vb_iff.1 h.1; omega) hle]
      exact ho
    · exact format_9 n b wd w hn h h2
  · exact format_13 n b wd w h
end Go.Proofs.YtfhdgbpkhcnanaaDoor.Dec
