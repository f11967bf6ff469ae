/-
  The reference's Format and Parse, at every argument.
-/
import Derived.Test.YtfhdgbpkhcnanaaDoorDece
namespace Go.Proofs.YtfhdgbpkhcnanaaDoor.Dec
open Go.RowKit Go.Proofs Go.Proofs.YtfhdgbpkhcnanaaDoor.Byt

theorem rformat_13 (n b wd : Int) (w : World) (h : ¬(vb b = true ∧ vw wd = true)) :
    Calls Tryd.prog 40 #[.int .i64 n, .int .i64 b, .int .i64 wd] w (Formats n b wd w) := by
  have hf := hid (Formats.empty (w := w) (ferr_13 (n := n) h))
  cases hb : vb b
  · clear h
    go_enter Tryd.func40, Tryd.ntmps40
    go_wp2_with (go_at_call 49; refine (based_any _ _).mono ?_; rintro e w' ⟨rfl, rfl⟩)
    go_ret2
    exact hf.out
  · have hw : ¬(1 ≤ wd ∧ wd ≤ 18) := fun hh => h ⟨hb, vw_iff.2 hh⟩
    clear h
    by_cases h1 : wd < 1
    · clear hw
      go_enter Tryd.func40, Tryd.ntmps40
      go_wp2_with (go_at_call 49; refine (based_any _ _).mono ?_; rintro e w' ⟨rfl, rfl⟩)
      go_ret2
      exact hf.out
    · have h2 : 18 < wd := by omega
      clear hw
      go_enter Tryd.func40, Tryd.ntmps40
      go_wp2_with (go_at_call 49; refine (based_any _ _).mono ?_; rintro e w' ⟨rfl, rfl⟩)
      go_ret2
      exact hf.out

theorem below_drewN {K : Nat} (w : World) (m : Nat) : Below K w (w.drewN m) := ⟨rfl, rfl, rfl, Nat.le_refl _, fun _ _ => rfl⟩

theorem Formats.drewN {n b wd : Int} {w : World} {k : Int} (m : Nat) (h : ferr n b wd = k ∧ fout n b wd = []) : Formats n b wd w (.returned (.tuple #[.slice none 0 0, .int .i64 k])) (w.drewN m) := by
  refine ⟨_, by rw [h.1], ?_, below_drewN _ _⟩
  rw [h.2]; exact Own.nil _ _

theorem rformat_9 (n b wd : Int) (w : World) (hn : n < 9223372036854775808) (h : vb b = true ∧ vw wd = true) (h2 : ¬(0 ≤ n ∧ (nd b.toNat n.toNat : Int) ≤ wd)) :
    Calls Tryd.prog 40 #[.int .i64 n, .int .i64 b, .int .i64 wd] w (Formats n b wd w) := by
  have hf := hid fun m => Formats.drewN (w := w) m (ferr_9 (n := n) h h2)
  obtain ⟨hb, hw⟩ := h
  obtain ⟨hw1, hw2⟩ := vw_iff.1 hw
  obtain ⟨b', rfl⟩ := Int.eq_ofNat_of_zero_le (a := b) (by have := vb_iff.1 hb; omega)
  clear hw
  by_cases h0 : n < 0
  · clear h2
    go_enter Tryd.func40, Tryd.ntmps40
    go_wp2_with (go_at_call 49; refine (based_any _ _).mono ?_; rintro e w' ⟨rfl, rfl⟩)
    go_ret2
    exact hf.out 0
  · obtain ⟨m, rfl⟩ := Int.eq_ofNat_of_zero_le (a := n) (by omega)
    have hd := hid (text_any b' hb m (by omega))
    have hlt : wd < ((tx b' m).length : Int) := by
      have h3 : ¬((nd b' m : Int) ≤ wd) := fun hh => h2 ⟨by omega, by simpa using hh⟩
      rw [tx_length (by have := vb_iff.1 hb; omega)]
      omega
    clear h2 h0 hn
    go_enter Tryd.func40, Tryd.ntmps40
    go_wp2_with (first | (go_at_call 49; refine (based_any _ _).mono ?_; rintro e w' ⟨rfl, rfl⟩) | (go_at_call 50; refine (hd.out _).mono ?_; rintro e w' ⟨rfl, k, rfl⟩))
    go_ret2
    exact hf.out k

set_option maxHeartbeats 1000000 in
theorem rformat_0 (n b wd : Nat) (w : World) (hn : n < 9223372036854775808) (hb : vb (b : Int) = true) (hw : vw (wd : Int) = true) (h2 : nd b n ≤ wd) :
    Calls Tryd.prog 40 #[.int .i64 (n : Int), .int .i64 (b : Int), .int .i64 (wd : Int)] w fun e w' =>
      ∃ v, e = .returned (.tuple #[v, .int .i64 0]) ∧ Own w' w.heap.size v wd (field b n wd) ∧ Below w.heap.size w w' := by
  have hd := hid (text_any b hb n (by omega))
  have hb2 : 2 ≤ b := by have := vb_iff.1 hb; omega
  obtain ⟨hw1, hw2⟩ := vw_iff.1 hw
  have hlen := tx_length hb2 n
  have hle : ((tx b n).length : Int) ≤ wd := by omega
  have Hlen := hid hlen
  clear hlen hw
  go_enter Tryd.func40, Tryd.ntmps40
  go_wp2_with (first | (go_at_call 49; refine (based_any _ _).mono ?_; rintro e w' ⟨rfl, rfl⟩) | (go_at_call 50; refine (hd.out _).mono ?_; rintro e w' ⟨rfl, k, rfl⟩) | (refine wpList_bytes _ (tx b n) (by omega) w.heap.size (by simp) rfl _ rfl rfl ?_; intro v2 w2 hown2 hbel2))
  have hbel3 : Below w.heap.size w w2 := (below_drewN w _).trans hbel2
  clear hbel2
  go_loopw [8] (fun v W => ∃ j : Nat, j ≤ wd - nd b n ∧ Own W w.heap.size v (nd b n + j) (tx b n ++ List.replicate j 32) ∧ Below w.heap.size w W) (fun v _ => wd - lenOf v)
  case atStart => exact ⟨0, by omega, by rw [Hlen.out] at hown2; simpa using hown2, hbel3⟩
  case round =>
    clear hown2 hbel3
    obtain ⟨j, hj, hown, hbel⟩ := hrel
    obtain ⟨A, c, rfl, _, _⟩ := hown.reads
    by_cases hlt : j < wd - nd b n
    · go_wp2_with (at_builtin; refine wpList_push wr w.heap.size _ _ _ 32 32 rfl hown hbel.size (by omega) rfl (.tmp 38) (.tmp 39) rfl rfl rfl ?_; intro v1 w1' hown1 hb1)
      obtain ⟨A1, c1, rfl, _, _⟩ := hown1.reads
      go_roundw
      case rel =>
        refine ⟨j + 1, by omega, ?_, hbel.trans hb1⟩
        rw [List.append_assoc, ← List.replicate_succ'] at hown1
        exact hown1
      case measure => simp [lenOf]; omega
    · obtain rfl : j = wd - nd b n := by omega
      have hfull : Hid (Own wr w.heap.size (.slice A (nd b n + (wd - nd b n)) c) wd (field b n wd)) := by
        have h1 : nd b n + (wd - nd b n) = wd := by omega
        unfold field
        unfold Hid
        rw [h1] at hown ⊢
        exact hown
      clear hown
      go_wp2
      go_ret2
      exact ⟨_, rfl, hfull.out, hbel⟩

theorem rformat_any (n b wd : Int) (w : World) (hn : n < 9223372036854775808) :
    Calls Tryd.prog 40 #[.int .i64 n, .int .i64 b, .int .i64 wd] w (Formats n b wd w) := by
  by_cases h : vb b = true ∧ vw wd = true
  · by_cases h2 : 0 ≤ n ∧ (nd b.toNat n.toNat : Int) ≤ wd
    · obtain ⟨b', rfl⟩ := Int.eq_ofNat_of_zero_le (a := b) (by have := vb_iff.1 h.1; omega)
      obtain ⟨n', rfl⟩ := Int.eq_ofNat_of_zero_le h2.1
      obtain ⟨wd', rfl⟩ := Int.eq_ofNat_of_zero_le (a := wd) (by have := vw_iff.1 h.2; omega)
      have hle : nd b' n' ≤ wd' := by have := h2.2; simp only [Int.toNat_natCast] at this; omega
      refine (rformat_0 n' b' wd' w (by omega) h.1 h.2 hle).mono fun e w' ⟨v, he, ho, hb⟩ => ?_
      have h0 := ferr_0 h h2
      simp only [Int.toNat_natCast] at h0
      refine ⟨v, by rw [h0.1]; exact he, ?_, hb⟩
      rw [h0.2, field_length (by have := vb_iff.1 h.1; omega) hle]
      exact ho
    · exact rformat_9 n b wd w hn h h2
  · exact rformat_13 n b wd w h
end Go.Proofs.YtfhdgbpkhcnanaaDoor.Dec
