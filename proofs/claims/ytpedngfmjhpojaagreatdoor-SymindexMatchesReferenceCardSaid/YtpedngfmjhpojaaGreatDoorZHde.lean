/-
  header.Encode at every header: a Name that does not fit; the table of long names.
-/
import Derived.Test.YtpedngfmjhpojaaGreatDoorZMb
import Derived.Laws.EntriesVeiled
import Derived.Deep.LoopGhost
namespace Go.Proofs.YtpedngfmjhpojaaGreatDoor.Hdr
open Go.RowKit Go.Proofs Go.Proofs.YtpedngfmjhpojaaGreatDoor.Byt Go.Proofs.YtpedngfmjhpojaaGreatDoor.Str Go.Proofs.YtpedngfmjhpojaaGreatDoor.Dec

set_option maxRecDepth 100000 in
theorem encode_name (s : ByteArray) (t u g m z : Int) (w : World) (hs : s.size ≤ 140737488355328) (h : nameOk s = false) :
    Calls Tryz.prog 87 #[.agg #[.string s, .int .i64 t, .int .i64 u, .int .i64 g, .int .i64 m, .int .i64 z]] w (Encodes s (num t u g m z) w) := by
  have Hf := hid fun w' (hb : Below w.heap.size w w') => Encodes.empty (eerr_6 (f := num t u g m z) h) hb
  go_enter Tryz.func87, Tryz.ntmps87
  go_wp2_with (go_at_call 106; refine (nameFits_any s _ hs).mono ?_; rintro e w1 ⟨rfl, hb1⟩; rw [h])
  go_ret2
  exact Hf.out _ (((Below.refl _ _).alloc (Nat.le_refl _) _).trans (hb1.mono (by simp)))

set_option maxRecDepth 100000 in
set_option maxHeartbeats 4000000 in
theorem encode_tab (s : ByteArray) (t u g m z : Int) (w : World) (h : nameOk s = true) (htab : isTab s = true) (_l0 : t < 9223372036854775808) (_l1 : u < 9223372036854775808) (_l2 : g < 9223372036854775808) (_l3 : m < 9223372036854775808) (l4 : z < 9223372036854775808) :
    Calls Tryz.prog 87 #[.agg #[.string s, .int .i64 t, .int .i64 u, .int .i64 g, .int .i64 m, .int .i64 z]] w (Encodes s (num t u g m z) w) := by
  obtain ⟨s1, s2, _, _⟩ := nameOk_iff.1 h
  have H9 := hid fun (h2 : allOk s (num t u g m z) 5 = false) w' (hb : Below w.heap.size w w') => Encodes.empty (eerr_9 h h2) hb
  have H0 := hid fun h2 => eerr_0 (f := num t u g m z) h h2
  have Hat := hid (HAt.new w s t u g m z 87)
  have HbA := hid (show Below w.heap.size w (w.alloc (.cells #[.string s, .int .i64 t, .int .i64 u, .int .i64 g, .int .i64 m, .int .i64 z] 87)) from (Below.refl _ _).alloc (Nat.le_refl _) _)
  go_enter Tryz.func87, Tryz.ntmps87
  go_wp2_with fail
  refine (nameFits_any s _ (by omega)).mono ?_
  rintro e w1 ⟨rfl, hb1⟩
  rw [h]
  have hat1 := Hat.out.below hb1 (by simp)
  have HbA1 := hid (HbA.out.trans (hb1.mono (by simp)))
  have hB : w.heap.size < w1.heap.size := hat1.2.2.2.2.2.2
  clear hb1 Hat HbA
  obtain ⟨c0, c1, c2, c3, c4, c5, _⟩ := hat1
  have e16 := two_sub s2
  go_wp2_with (first
    | (at_make; refine wpList_make0 _ 60 (by omega) w1.heap.size (Nat.le_refl _) rfl _ _ rfl _ _ rfl rfl ?_; intro v2 w2 hown2 hb2; have k2 := stays hb2 hB)
    | (at_builtin; refine wpList_apps w2 w1.heap.size _ 0 [] hown2 hb2.size s (by omega) rfl (.tmp 15) (.tmp 17) rfl rfl rfl ?_; intro v3 w3 hown3 hb3; have hb13 := hb2.trans hb3; have k3 := stays hb13 hB)
    | (go_at_call 107; refine (appendSpaces_any w1.heap.size v3 _ _ (16 - s.size) _ hown3 hb13.size (by omega) (by omega)).mono ?_; rintro e w4 ⟨v4, rfl, hown4, hb4⟩; have hb14 := hb13.trans hb4; have k4 := stays hb14 hB)
    | (go_at_call 108; refine (fields_any _).mono ?_; rintro e w5 ⟨rfl, hb5⟩; have hb15 := hb14.trans (hb5.mono hb14.size); have k5 := stays hb15 hB))
  have hown5 := (hown4.below (hb5.mono (Nat.le_refl _)))
  have hown5' : Own w5 w1.heap.size v4 (off 0) (pre s (num t u g m z) 0) := by
    have e1 : 0 + s.size + (16 - s.size) = off 0 := by show _ = 16; omega
    rw [e1, List.nil_append] at hown5
    exact hown5
  clear hown2 hown3 hown4 hown5 hb2 hb3 hb13 hb4 hb14 hb5 k2 k3 k4 k5 e16
  go_loopw [4, 26] (fun v i W => ∃ k : Nat, i = .int .i64 (k : Int) ∧ k ≤ 5 ∧ allOk s (num t u g m z) k = true ∧ Own W w1.heap.size v (off k) (pre s (num t u g m z) k) ∧ Below w1.heap.size w1 W) (fun _ i _ => 5 - numOf i)
  case atStart => exact ⟨0, rfl, by omega, rfl, hown5', hb15⟩
  case round =>
    clear hown5' hb15
    obtain ⟨k, rfl, hk, hok, hown, hbel⟩ := hrel
    have kr := stays hbel hB
    have hsz := hbel.size
    have hBr : w.heap.size < wr.heap.size := by omega
    have Hok := hid hok
    clear hok
    by_cases hlt : k < 5
    · have h5 : k = 0 ∨ k = 1 ∨ k = 2 ∨ k = 3 ∨ k = 4 := by omega
      clear hlt hk
      rcases h5 with rfl | rfl | rfl | rfl | rfl
      · have ik := at0
        simp only [row0] at ik
        by_cases hn : t = 0
        · have Hn : Hid (allOk s (num t u g m z) 1 = true) := hid (by show (allOk s _ 0 && okF (isTab s) 0 t) = true; rw [Hok.out, htab, hn]; rfl)
          have hne : ((t : Int) != 0) = false := by rw [hn]; rfl
          have Hp : Hid (pre s (num t u g m z) 1 = pre s (num t u g m z) 0 ++ List.replicate 12 32) := hid (by show _ ++ fldF (isTab s) 0 t = _; rw [htab]; rfl)
          clear hn
          go_wp2_with (first | (go_at_call 130; refine (var1 _ _).mono ?_; rintro e w' ⟨rfl, rfl⟩) | (go_at_call 109; refine (absent_any _ _ _ _ s _).mono ?_; rintro e w6 ⟨rfl, hb6⟩; rw [htab]; have hb16 := (hbel.alloc hbel.size _).trans (hb6.mono (by simp; omega)); have k6 := stays hb16 hB; have kf := stays (B := wr.heap.size) hb6 (by simp); have hown6 := (hown.alloc _).below hb6) | (go_at_call 107; refine (appendSpaces_any w1.heap.size u4 (off 0) _ 12 _ hown6 hb16.size (by decide) (by omega)).mono ?_; rintro e w7 ⟨v7, rfl, hown7, hb7⟩; have hb17 := hb16.trans hb7))
          go_roundw
          case rel => exact ⟨1, rfl, by omega, Hn.out, by rw [Hp.out]; exact hown7, hb17⟩
          case measure => decide
        · have hok1 : okF (isTab s) 0 t = false := by rw [htab]; show (t == 0) = false; simpa using hn
          have hne : ((t : Int) != 0) = true := by simpa using hn
          have Hx := hid (H9.out (allOk_false hok1 5 (by omega)))
          clear hn hok1
          go_wp2_with (first | (go_at_call 130; refine (var1 _ _).mono ?_; rintro e w' ⟨rfl, rfl⟩) | (go_at_call 109; refine (absent_any _ _ _ _ s _).mono ?_; rintro e w6 ⟨rfl, hb6⟩; rw [htab]; have hb16 := (hbel.alloc hbel.size _).trans (hb6.mono (by simp; omega)); have k6 := stays hb16 hB; have kf := stays (B := wr.heap.size) hb6 (by simp); have hown6 := (hown.alloc _).below hb6))
          go_ret2
          exact Hx.out _ (HbA1.out.trans (hb16.mono (by omega)))
      · have ik := at1
        simp only [row1] at ik
        by_cases hn : u = 0
        · have Hn : Hid (allOk s (num t u g m z) 2 = true) := hid (by show (allOk s _ 1 && okF (isTab s) 1 u) = true; rw [Hok.out, htab, hn]; rfl)
          have hne : ((u : Int) != 0) = false := by rw [hn]; rfl
          have Hp : Hid (pre s (num t u g m z) 2 = pre s (num t u g m z) 1 ++ List.replicate 6 32) := hid (by show _ ++ fldF (isTab s) 1 u = _; rw [htab]; rfl)
          clear hn
          go_wp2_with (first | (go_at_call 131; refine (var2 _ _).mono ?_; rintro e w' ⟨rfl, rfl⟩) | (go_at_call 109; refine (absent_any _ _ _ _ s _).mono ?_; rintro e w6 ⟨rfl, hb6⟩; rw [htab]; have hb16 := (hbel.alloc hbel.size _).trans (hb6.mono (by simp; omega)); have k6 := stays hb16 hB; have kf := stays (B := wr.heap.size) hb6 (by simp); have hown6 := (hown.alloc _).below hb6) | (go_at_call 107; refine (appendSpaces_any w1.heap.size u4 (off 1) _ 6 _ hown6 hb16.size (by decide) (by omega)).mono ?_; rintro e w7 ⟨v7, rfl, hown7, hb7⟩; have hb17 := hb16.trans hb7))
          go_roundw
          case rel => exact ⟨2, rfl, by omega, Hn.out, by rw [Hp.out]; exact hown7, hb17⟩
          case measure => decide
        · have hok1 : okF (isTab s) 1 u = false := by rw [htab]; show (u == 0) = false; simpa using hn
          have hne : ((u : Int) != 0) = true := by simpa using hn
          have Hx := hid (H9.out (allOk_false hok1 5 (by omega)))
          clear hn hok1
          go_wp2_with (first | (go_at_call 131; refine (var2 _ _).mono ?_; rintro e w' ⟨rfl, rfl⟩) | (go_at_call 109; refine (absent_any _ _ _ _ s _).mono ?_; rintro e w6 ⟨rfl, hb6⟩; rw [htab]; have hb16 := (hbel.alloc hbel.size _).trans (hb6.mono (by simp; omega)); have k6 := stays hb16 hB; have kf := stays (B := wr.heap.size) hb6 (by simp); have hown6 := (hown.alloc _).below hb6))
          go_ret2
          exact Hx.out _ (HbA1.out.trans (hb16.mono (by omega)))
      · have ik := at2
        simp only [row2] at ik
        by_cases hn : g = 0
        · have Hn : Hid (allOk s (num t u g m z) 3 = true) := hid (by show (allOk s _ 2 && okF (isTab s) 2 g) = true; rw [Hok.out, htab, hn]; rfl)
          have hne : ((g : Int) != 0) = false := by rw [hn]; rfl
          have Hp : Hid (pre s (num t u g m z) 3 = pre s (num t u g m z) 2 ++ List.replicate 6 32) := hid (by show _ ++ fldF (isTab s) 2 g = _; rw [htab]; rfl)
          clear hn
          go_wp2_with (first | (go_at_call 132; refine (var3 _ _).mono ?_; rintro e w' ⟨rfl, rfl⟩) | (go_at_call 109; refine (absent_any _ _ _ _ s _).mono ?_; rintro e w6 ⟨rfl, hb6⟩; rw [htab]; have hb16 := (hbel.alloc hbel.size _).trans (hb6.mono (by simp; omega)); have k6 := stays hb16 hB; have kf := stays (B := wr.heap.size) hb6 (by simp); have hown6 := (hown.alloc _).below hb6) | (go_at_call 107; refine (appendSpaces_any w1.heap.size u4 (off 2) _ 6 _ hown6 hb16.size (by decide) (by omega)).mono ?_; rintro e w7 ⟨v7, rfl, hown7, hb7⟩; have hb17 := hb16.trans hb7))
          go_roundw
          case rel => exact ⟨3, rfl, by omega, Hn.out, by rw [Hp.out]; exact hown7, hb17⟩
          case measure => decide
        · have hok1 : okF (isTab s) 2 g = false := by rw [htab]; show (g == 0) = false; simpa using hn
          have hne : ((g : Int) != 0) = true := by simpa using hn
          have Hx := hid (H9.out (allOk_false hok1 5 (by omega)))
          clear hn hok1
          go_wp2_with (first | (go_at_call 132; refine (var3 _ _).mono ?_; rintro e w' ⟨rfl, rfl⟩) | (go_at_call 109; refine (absent_any _ _ _ _ s _).mono ?_; rintro e w6 ⟨rfl, hb6⟩; rw [htab]; have hb16 := (hbel.alloc hbel.size _).trans (hb6.mono (by simp; omega)); have k6 := stays hb16 hB; have kf := stays (B := wr.heap.size) hb6 (by simp); have hown6 := (hown.alloc _).below hb6))
          go_ret2
          exact Hx.out _ (HbA1.out.trans (hb16.mono (by omega)))
      · have ik := at3
        simp only [row3] at ik
        by_cases hn : m = 0
        · have Hn : Hid (allOk s (num t u g m z) 4 = true) := hid (by show (allOk s _ 3 && okF (isTab s) 3 m) = true; rw [Hok.out, htab, hn]; rfl)
          have hne : ((m : Int) != 0) = false := by rw [hn]; rfl
          have Hp : Hid (pre s (num t u g m z) 4 = pre s (num t u g m z) 3 ++ List.replicate 8 32) := hid (by show _ ++ fldF (isTab s) 3 m = _; rw [htab]; rfl)
          clear hn
          go_wp2_with (first | (go_at_call 133; refine (var4 _ _).mono ?_; rintro e w' ⟨rfl, rfl⟩) | (go_at_call 109; refine (absent_any _ _ _ _ s _).mono ?_; rintro e w6 ⟨rfl, hb6⟩; rw [htab]; have hb16 := (hbel.alloc hbel.size _).trans (hb6.mono (by simp; omega)); have k6 := stays hb16 hB; have kf := stays (B := wr.heap.size) hb6 (by simp); have hown6 := (hown.alloc _).below hb6) | (go_at_call 107; refine (appendSpaces_any w1.heap.size u4 (off 3) _ 8 _ hown6 hb16.size (by decide) (by omega)).mono ?_; rintro e w7 ⟨v7, rfl, hown7, hb7⟩; have hb17 := hb16.trans hb7))
          go_roundw
          case rel => exact ⟨4, rfl, by omega, Hn.out, by rw [Hp.out]; exact hown7, hb17⟩
          case measure => decide
        · have hok1 : okF (isTab s) 3 m = false := by rw [htab]; show (m == 0) = false; simpa using hn
          have hne : ((m : Int) != 0) = true := by simpa using hn
          have Hx := hid (H9.out (allOk_false hok1 5 (by omega)))
          clear hn hok1
          go_wp2_with (first | (go_at_call 133; refine (var4 _ _).mono ?_; rintro e w' ⟨rfl, rfl⟩) | (go_at_call 109; refine (absent_any _ _ _ _ s _).mono ?_; rintro e w6 ⟨rfl, hb6⟩; rw [htab]; have hb16 := (hbel.alloc hbel.size _).trans (hb6.mono (by simp; omega)); have k6 := stays hb16 hB; have kf := stays (B := wr.heap.size) hb6 (by simp); have hown6 := (hown.alloc _).below hb6))
          go_ret2
          exact Hx.out _ (HbA1.out.trans (hb16.mono (by omega)))
      · have ik := at4
        simp only [row4] at ik
        by_cases hn : 0 ≤ z ∧ (nd 10 z.toNat : Int) ≤ 10
        · obtain ⟨n0, hn0⟩ := Int.eq_ofNat_of_zero_le hn.1
          have hnd : nd 10 n0 ≤ 10 := by have := hn.2; rw [hn0, Int.toNat_natCast] at this; omega
          have Hn : Hid (allOk s (num t u g m z) 5 = true) := hid (by show (allOk s _ 4 && okF (isTab s) 4 z) = true; rw [Hok.out, htab, hn0]; show (decide (0 ≤ (n0 : Int)) && decide (nd 10 (n0 : Int).toNat ≤ 10)) = true; rw [Int.toNat_natCast]; simp [hnd])
          have Hp : Hid (pre s (num t u g m z) 5 = pre s (num t u g m z) 4 ++ field 10 n0 10) := hid (by show _ ++ fldF (isTab s) 4 z = _; rw [htab, hn0]; rfl)
          have hl0 : n0 < 9223372036854775808 := by omega
          have HF := hid (format_fit n0 10 10 hl0 (by decide) (by omega) hnd)
          have Hn0 := hid hn0
          have ck := c5
          rw [hn0] at ck
          clear hn hn0 hnd c5 hl0
          go_wp2_with (first | (go_at_call 134; refine (var5 _ _).mono ?_; rintro e w' ⟨rfl, rfl⟩) | (go_at_call 109; refine (absent_any _ _ _ _ s _).mono ?_; rintro e w6 ⟨rfl, hb6⟩; rw [htab]; have hb16 := (hbel.alloc hbel.size _).trans (hb6.mono (by simp; omega)); have k6 := stays hb16 hB; have kf := stays (B := wr.heap.size) hb6 (by simp); have hown6 := (hown.alloc _).below hb6) | (go_at_call 110; refine (HF.out _).mono ?_; rintro e w7 ⟨A7, cp7, rfl, _, hr7, hc7, hb7⟩; have hb17 := hb16.trans (hb7.mono hb16.size); have hown7 := hown6.below hb7) | (at_builtin; refine wpList_app _ w1.heap.size u4 (off 4) _ hown7 hb17.size A7 10 cp7 _ _ hr7 (by decide) rfl (.tmp 56) (.tmp 57) rfl rfl rfl ?_; intro v8 w8 hown8 hb8; have hb18 := hb17.trans hb8))
          go_roundw
          case rel => exact ⟨5, rfl, by omega, Hn.out, by rw [Hp.out]; exact hown8, hb18⟩
          case measure => decide
        · have hok1 : okF (isTab s) 4 z = false := by rw [htab]; show (decide (0 ≤ z) && decide (nd 10 z.toNat ≤ 10)) = false; rw [Bool.and_eq_false_iff, decide_eq_false_iff_not, decide_eq_false_iff_not]; omega
          have Hx := hid (H9.out (allOk_false hok1 5 (by omega)))
          have HF := hid (format_unfit z 10 10 l4 (by decide) (by omega) hn)
          clear hn hok1
          go_wp2_with (first | (go_at_call 134; refine (var5 _ _).mono ?_; rintro e w' ⟨rfl, rfl⟩) | (go_at_call 109; refine (absent_any _ _ _ _ s _).mono ?_; rintro e w6 ⟨rfl, hb6⟩; rw [htab]; have hb16 := (hbel.alloc hbel.size _).trans (hb6.mono (by simp; omega)); have k6 := stays hb16 hB; have kf := stays (B := wr.heap.size) hb6 (by simp); have hown6 := (hown.alloc _).below hb6) | (go_at_call 110; refine (HF.out _).mono ?_; rintro e w7 ⟨A7, cp7, rfl, _, hb7⟩; have hb17 := hb16.trans (hb7.mono hb16.size)))
          go_ret2
          exact Hx.out _ (HbA1.out.trans (hb17.mono (by omega)))
    · obtain rfl : k = 5 := by omega
      go_wp2_with (at_builtin; refine wpList_apps wr w1.heap.size u4 (off 5) _ hown hsz ⟨#[96, 10]⟩ (by decide) rfl (.tmp 60) (.const (.string ⟨#[96, 10]⟩)) rfl rfl rfl ?_; intro v8 w8 hown8 hb8)
      go_ret2
      have e0 := H0.out Hok.out
      refine ⟨_, by rw [e0.1]; rfl, ?_, HbA1.out.trans ((hbel.trans hb8).mono (by omega))⟩
      have e1 : (eout s (num t u g m z)).length = off 5 + 2 := by rw [e0.2, List.length_append, pre_length s2 5 Hok.out]; rfl
      rw [e1, e0.2]
      exact hown8.more (by omega)
end Go.Proofs.YtpedngfmjhpojaaGreatDoor.Hdr
