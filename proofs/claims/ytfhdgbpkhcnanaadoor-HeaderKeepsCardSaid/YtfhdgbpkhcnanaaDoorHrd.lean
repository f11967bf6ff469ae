/-
  The reference's Encode at every header.
-/
import Derived.Test.YtfhdgbpkhcnanaaDoorHrb
import Derived.Test.YtfhdgbpkhcnanaaDoorHrc
import Derived.Deep.Cut
namespace Go.Proofs.YtfhdgbpkhcnanaaDoor.Hdr
open Go.RowKit Go.Proofs Go.Proofs.YtfhdgbpkhcnanaaDoor.Byt Go.Proofs.YtfhdgbpkhcnanaaDoor.Str Go.Proofs.YtfhdgbpkhcnanaaDoor.Dec

theorem rf_ok (tab : Bool) (k : Nat) (n : Int) : rfOk n (bs k) (wd k) (mo k && tab) = okF tab k n := rfl
theorem rf_out {tab : Bool} {k : Nat} {n : Int} (h : okF tab k n = true) : rfOut n (bs k) (wd k) (mo k && tab) = fldF tab k n := by
  unfold rfOut fldF
  unfold okF at h
  split
  · rfl
  · rename_i hm
    rw [if_neg hm, Bool.and_eq_true, decide_eq_true_eq, decide_eq_true_eq] at h
    have hw := wd_18 k
    rw [(ferr_0 (n := n) (b := bs k) (w := wd k) ⟨bs_vb k, vw_iff.2 (by omega)⟩ ⟨h.1, by rw [Int.toNat_natCast]; omega⟩).2, Int.toNat_natCast, Int.toNat_natCast]
theorem allOk_of_eerr {s : ByteArray} {f : Nat → Int} (h : eerr s f = 0) : allOk s f 5 = true := by
  unfold eerr at h
  split at h
  · split at h
    · assumption
    · omega
  · omega
def IfOk (c : Bool) (P : Prop) : Prop := c = true → P
/-- A field by the reference, in the header's words. -/
theorem rfield_at (tab : Bool) (k : Nat) (n : Int) (w : World) (hn : n < 9223372036854775808) (c : Bool) (hc : okF tab k n = c) :
    Calls Tryd.prog 23 #[.int .i64 n, .int .i64 (bs k : Int), .int .i64 (wd k : Int), .bool (mo k && tab)] w fun e w' =>
      ∃ v, e = .returned (.tuple #[v, .bool c]) ∧ IfOk c (Own w' w.heap.size v (wd k) (fldF tab k n)) ∧ Below w.heap.size w w' := by
  refine (rfield_any n (bs k) (wd k) (mo k && tab) w hn (bs_vb k) (vw_iff.2 (by have := wd_18 k; omega))).mono fun e w' ⟨v, h1, h2, h3⟩ => ⟨v, ?_, fun ht => ?_, h3⟩
  · rw [h1, rf_ok, hc]
  · rw [rf_out (hc.trans ht), fldF_length (hc.trans ht)] at h2
    exact h2

set_option maxRecDepth 100000 in
theorem rencode_name (s : ByteArray) (t u g m z : Int) (w : World) (hs : s.size ≤ 140737488355328) (h : nameOk s = false) :
    Calls Tryd.prog 11 #[.agg #[.string s, .int .i64 t, .int .i64 u, .int .i64 g, .int .i64 m, .int .i64 z]] w (Encodes s (num t u g m z) w) := by
  have Hf := hid fun w' (hb : Below w.heap.size w w') => Encodes.empty (eerr_6 (f := num t u g m z) h) hb
  go_enter Tryd.func11, Tryd.ntmps11
  go_wp2_with (go_at_call 22; refine (rfits_any s _ hs).mono ?_; rintro e w1 ⟨rfl, m1, hw1⟩; rw [h, hw1])
  go_ret2
  exact Hf.out _ (((Below.refl _ _).alloc (Nat.le_refl _) _).trans (below_drewN _ _))

set_option maxRecDepth 100000 in
set_option maxHeartbeats 4000000 in
theorem rencode_bad (s : ByteArray) (t u g m z : Int) (w : World) (h : nameOk s = true) (x0 x1 x2 x3 x4 : Bool) (e0 : okF (isTab s) 0 t = x0) (e1 : okF (isTab s) 1 u = x1) (e2 : okF (isTab s) 2 g = x2) (e3 : okF (isTab s) 3 m = x3) (e4 : okF (isTab s) 4 z = x4) (hx : (x0 && x1 && x2 && x3 && x4) = false) (l0 : t < 9223372036854775808) (l1 : u < 9223372036854775808) (l2 : g < 9223372036854775808) (l3 : m < 9223372036854775808) (l4 : z < 9223372036854775808) :
    Calls Tryd.prog 11 #[.agg #[.string s, .int .i64 t, .int .i64 u, .int .i64 g, .int .i64 m, .int .i64 z]] w (Encodes s (num t u g m z) w) := by
  obtain ⟨s1, s2, _, _⟩ := nameOk_iff.1 h
  have hall : allOk s (num t u g m z) 5 = false := by
    show (((((true && okF (isTab s) 0 t) && okF (isTab s) 1 u) && okF (isTab s) 2 g) && okF (isTab s) 3 m) && okF (isTab s) 4 z) = false
    rw [e0, e1, e2, e3, e4, Bool.true_and]; exact hx
  have H9 := hid fun w' (hb : Below w.heap.size w w') => Encodes.empty (eerr_9 h hall) hb
  have H0 := hid fun w' => rfield_at (isTab s) 0 t w' l0 x0 e0
  have H1 := hid fun w' => rfield_at (isTab s) 1 u w' l1 x1 e1
  have H2 := hid fun w' => rfield_at (isTab s) 2 g w' l2 x2 e2
  have H3 := hid fun w' => rfield_at (isTab s) 3 m w' l3 x3 e3
  have H4 := hid fun w' => rfield_at (isTab s) 4 z w' l4 x4 e4
  clear hall e0 e1 e2 e3 e4 l0 l1 l2 l3 l4
  have HbA := hid (show Below w.heap.size w (w.alloc (.cells #[.string s, .int .i64 t, .int .i64 u, .int .i64 g, .int .i64 m, .int .i64 z] 23)) from (Below.refl _ _).alloc (Nat.le_refl _) _)
  go_enter Tryd.func11, Tryd.ntmps11
  go_wp2_with fail
  refine (rfits_any s _ (by omega)).mono ?_
  rintro e w1 ⟨rfl, m1, hw1⟩
  rw [h]
  have hat1 : HAt w1 w.heap.size s t u g m z := by rw [hw1]; exact HAt.new w s t u g m z 23
  have Hb1 := hid (show Below w.heap.size w w1 by rw [hw1]; exact HbA.out.trans (below_drewN _ _))
  have hz1 : w.heap.size < w1.heap.size := hat1.2.2.2.2.2.2
  clear hw1 HbA
  obtain ⟨c0, c1, c2, c3, c4, c5, _⟩ := hat1
  go_wp2_with fail
  refine (H0.out _).mono ?_
  rintro e w2 ⟨v0, rfl, ho0, hb2⟩
  have g2 := hb2
  have k2 := stays g2 hz1
  go_wp2_with fail
  refine (H1.out _).mono ?_
  rintro e w3 ⟨v1, rfl, ho1, hb3⟩
  have g3 := g2.trans (hb3.mono g2.size)
  have k3 := stays g3 hz1
  go_wp2_with fail
  refine (H2.out _).mono ?_
  rintro e w4 ⟨v2, rfl, ho2, hb4⟩
  have g4 := g3.trans (hb4.mono g3.size)
  have k4 := stays g4 hz1
  go_wp2_with fail
  refine (H3.out _).mono ?_
  rintro e w5 ⟨v3, rfl, ho3, hb5⟩
  have g5 := g4.trans (hb5.mono g4.size)
  have k5 := stays g5 hz1
  go_wp2_with fail
  refine (H4.out _).mono ?_
  rintro e w6 ⟨v4, rfl, ho4, hb6⟩
  have g6 := g5.trans (hb6.mono g5.size)
  have k6 := stays g6 hz1
  have HbF := hid (Hb1.out.trans (g6.mono (Nat.le_of_lt hz1)))
  clear hb2 hb3 hb4 hb5 hb6 g2 g3 g4 g5 g6 ho0 ho1 ho2 ho3 ho4 k2 k3 k4 k5
  cases x0
  · clear hx
    go_wp2_with fail
    go_ret2
    exact H9.out _ HbF.out
  · cases x1
    · clear hx
      go_wp2_with fail
      go_ret2
      exact H9.out _ HbF.out
    · cases x2
      · clear hx
        go_wp2_with fail
        go_ret2
        exact H9.out _ HbF.out
      · cases x3
        · clear hx
          go_wp2_with fail
          go_ret2
          exact H9.out _ HbF.out
        · cases x4
          · clear hx
            go_wp2_with fail
            go_ret2
            exact H9.out _ HbF.out
          · cases hx

set_option maxRecDepth 100000 in
set_option maxHeartbeats 4000000 in
theorem rencode_ok (s : ByteArray) (t u g m z : Int) (w : World) (h : nameOk s = true) (e0 : okF (isTab s) 0 t = true) (e1 : okF (isTab s) 1 u = true) (e2 : okF (isTab s) 2 g = true) (e3 : okF (isTab s) 3 m = true) (e4 : okF (isTab s) 4 z = true) (l0 : t < 9223372036854775808) (l1 : u < 9223372036854775808) (l2 : g < 9223372036854775808) (l3 : m < 9223372036854775808) (l4 : z < 9223372036854775808) :
    Calls Tryd.prog 11 #[.agg #[.string s, .int .i64 t, .int .i64 u, .int .i64 g, .int .i64 m, .int .i64 z]] w (Encodes s (num t u g m z) w) := by
  obtain ⟨s1, s2, _, _⟩ := nameOk_iff.1 h
  have hall : allOk s (num t u g m z) 5 = true := by
    show (((((true && okF (isTab s) 0 t) && okF (isTab s) 1 u) && okF (isTab s) 2 g) && okF (isTab s) 3 m) && okF (isTab s) 4 z) = true
    rw [e0, e1, e2, e3, e4]; rfl
  have E0 := hid (eerr_0 h hall)
  have H0 := hid fun w' => rfield_at (isTab s) 0 t w' l0 true e0
  have H1 := hid fun w' => rfield_at (isTab s) 1 u w' l1 true e1
  have H2 := hid fun w' => rfield_at (isTab s) 2 g w' l2 true e2
  have H3 := hid fun w' => rfield_at (isTab s) 3 m w' l3 true e3
  have H4 := hid fun w' => rfield_at (isTab s) 4 z w' l4 true e4
  clear hall e0 e1 e2 e3 e4 l0 l1 l2 l3 l4
  have HbA := hid (show Below w.heap.size w (w.alloc (.cells #[.string s, .int .i64 t, .int .i64 u, .int .i64 g, .int .i64 m, .int .i64 z] 23)) from (Below.refl _ _).alloc (Nat.le_refl _) _)
  go_enter Tryd.func11, Tryd.ntmps11
  go_wp2_with fail
  refine (rfits_any s _ (by omega)).mono ?_
  rintro e w1 ⟨rfl, m1, hw1⟩
  rw [h]
  have hat1 : HAt w1 w.heap.size s t u g m z := by rw [hw1]; exact HAt.new w s t u g m z 23
  have Hb1 := hid (show Below w.heap.size w w1 by rw [hw1]; exact HbA.out.trans (below_drewN _ _))
  have hz1 : w.heap.size < w1.heap.size := hat1.2.2.2.2.2.2
  clear hw1 HbA
  obtain ⟨c0, c1, c2, c3, c4, c5, _⟩ := hat1
  go_wp2_with fail
  refine (H0.out _).mono ?_
  rintro e w2 ⟨v0, rfl, ho0, hb2⟩
  have g2 := hb2
  have k2 := stays g2 hz1
  go_wp2_with fail
  refine (H1.out _).mono ?_
  rintro e w3 ⟨v1, rfl, ho1, hb3⟩
  have g3 := g2.trans (hb3.mono g2.size)
  have k3 := stays g3 hz1
  go_wp2_with fail
  refine (H2.out _).mono ?_
  rintro e w4 ⟨v2, rfl, ho2, hb4⟩
  have g4 := g3.trans (hb4.mono g3.size)
  have k4 := stays g4 hz1
  go_wp2_with fail
  refine (H3.out _).mono ?_
  rintro e w5 ⟨v3, rfl, ho3, hb5⟩
  have g5 := g4.trans (hb5.mono g4.size)
  have k5 := stays g5 hz1
  go_wp2_with fail
  refine (H4.out _).mono ?_
  rintro e w6 ⟨v4, rfl, ho4, hb6⟩
  have g6 := g5.trans (hb6.mono g5.size)
  have k6 := stays g6 hz1
  have HbF := hid (Hb1.out.trans (g6.mono (Nat.le_of_lt hz1)))
  have hz6 : w.heap.size < w6.heap.size := Nat.lt_of_lt_of_le hz1 g6.size
  have Hc := hid (show w6.cell? ⟨w.heap.size, 0, none⟩ = some (.string s) by rw [k6]; exact c0)
  obtain ⟨A0, cp0, rfl, r0, _, _⟩ := ((((ho0 rfl).below hb3).below hb4).below hb5).below hb6 |>.reads
  obtain ⟨A1, cp1, rfl, r1, _, _⟩ := (((ho1 rfl).below hb4).below hb5).below hb6 |>.reads
  obtain ⟨A2, cp2, rfl, r2, _, _⟩ := ((ho2 rfl).below hb5).below hb6 |>.reads
  obtain ⟨A3, cp3, rfl, r3, _, _⟩ := (ho3 rfl).below hb6 |>.reads
  obtain ⟨A4, cp4, rfl, r4, _, _⟩ := (ho4 rfl).reads
  have R0 := hid r0
  have R1 := hid r1
  have R2 := hid r2
  have R3 := hid r3
  have R4 := hid r4
  clear hb2 hb3 hb4 hb5 hb6 g2 g3 g4 g5 g6 ho0 ho1 ho2 ho3 ho4 k2 k3 k4 k5 r0 r1 r2 r3 r4
  go_upto_region 11 with (fail)
  refine region11 (K := w6.heap.size) (B := w.heap.size) (s := s) ⟨rfl, rfl, Hc.out, hz6, Nat.le_refl _, s2⟩ ?_
  intro u75 u76 u77 u78 u79 u80 u81 u82 u83 v w7 hown7 hb7
  simp only [built, Act.put]
  go_wp2_with (first
    | (at_builtin; refine wpList_app _ w6.heap.size _ 16 _ hown7 hb7.size A0 (wd 0) cp0 _ _ (R0.out.below hb7) (by decide) rfl (.tmp 84) (.tmp 85) rfl rfl rfl ?_; intro v8 w8 hown8 hb8; have g8 := hb7.trans hb8)
    | (at_builtin; refine wpList_app _ w6.heap.size _ (16 + wd 0) _ hown8 g8.size A1 (wd 1) cp1 _ _ (R1.out.below g8) (by decide) rfl (.tmp 86) (.tmp 87) rfl rfl rfl ?_; intro v9 w9 hown9 hb9; have g9 := g8.trans hb9)
    | (at_builtin; refine wpList_app _ w6.heap.size _ (16 + wd 0 + wd 1) _ hown9 g9.size A2 (wd 2) cp2 _ _ (R2.out.below g9) (by decide) rfl (.tmp 88) (.tmp 89) rfl rfl rfl ?_; intro v10 w10 hown10 hb10; have g10 := g9.trans hb10)
    | (at_builtin; refine wpList_app _ w6.heap.size _ (16 + wd 0 + wd 1 + wd 2) _ hown10 g10.size A3 (wd 3) cp3 _ _ (R3.out.below g10) (by decide) rfl (.tmp 90) (.tmp 91) rfl rfl rfl ?_; intro v11 w11 hown11 hb11; have g11 := g10.trans hb11)
    | (at_builtin; refine wpList_app _ w6.heap.size _ (16 + wd 0 + wd 1 + wd 2 + wd 3) _ hown11 g11.size A4 (wd 4) cp4 _ _ (R4.out.below g11) (by decide) rfl (.tmp 92) (.tmp 93) rfl rfl rfl ?_; intro v12 w12 hown12 hb12; have g12 := g11.trans hb12)
    | (at_builtin; refine wpList_app _ w6.heap.size _ (16 + wd 0 + wd 1 + wd 2 + wd 3 + wd 4) _ (hown12.alloc _) (by simp; exact Nat.le_succ_of_le g12.size) (some ⟨w12.heap.size, 0, none⟩) 2 2 _ [96, 10] (Rd.lit w12 [96, 10] _ rfl 2 rfl) (by decide) rfl (.tmp 95) (.tmp 96) rfl rfl rfl ?_; intro v13 w13 hown13 hb13))
  go_ret2
  refine ⟨_, by rw [E0.out.1]; rfl, ?_, HbF.out.trans (((g12.alloc g12.size _).trans hb13).mono (Nat.le_of_lt hz6))⟩
  have e1 : (eout s (num t u g m z)).length = off 5 + 2 := by rw [E0.out.2, List.length_append, pre_length s2 5 (allOk_of_eerr E0.out.1)]; rfl
  rw [e1, E0.out.2]
  exact hown13.more (Nat.le_of_lt hz6)

theorem rencode_any (s : ByteArray) (t u g m z : Int) (w : World) (hs : s.size ≤ 140737488355328) (l0 : t < 9223372036854775808) (l1 : u < 9223372036854775808) (l2 : g < 9223372036854775808) (l3 : m < 9223372036854775808) (l4 : z < 9223372036854775808) :
    Calls Tryd.prog 11 #[.agg #[.string s, .int .i64 t, .int .i64 u, .int .i64 g, .int .i64 m, .int .i64 z]] w (Encodes s (num t u g m z) w) := by
  cases h : nameOk s
  · exact rencode_name s t u g m z w hs h
  · cases hx : (okF (isTab s) 0 t && okF (isTab s) 1 u && okF (isTab s) 2 g && okF (isTab s) 3 m && okF (isTab s) 4 z)
    · exact rencode_bad s t u g m z w h _ _ _ _ _ rfl rfl rfl rfl rfl hx l0 l1 l2 l3 l4
    · simp only [Bool.and_eq_true] at hx
      obtain ⟨⟨⟨⟨e0, e1⟩, e2⟩, e3⟩, e4⟩ := hx
      exact rencode_ok s t u g m z w h e0 e1 e2 e3 e4 l0 l1 l2 l3 l4
end Go.Proofs.YtfhdgbpkhcnanaaDoor.Hdr
