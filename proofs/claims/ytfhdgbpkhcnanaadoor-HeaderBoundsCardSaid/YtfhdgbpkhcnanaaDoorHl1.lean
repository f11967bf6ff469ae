/-
  HeaderBounds: a number fits exactly if its field has room for its digits. For all five numbers: no condition.
-/
import Derived.Test.YtfhdgbpkhcnanaaDoorHma
import Derived.Test.YtfhdgbpkhcnanaaDoorLwc
import Derived.Test.YtfhdgbpkhcnanaaDoorCards
namespace Go.Proofs.YtfhdgbpkhcnanaaDoor.Bounds
open Go.ChangeShapes Go.WideShapes Go.ChangeAt Go.RowKit Go.Proofs Go.Proofs.YtfhdgbpkhcnanaaDoor.Byt Go.Proofs.YtfhdgbpkhcnanaaDoor.Dec Go.Proofs.YtfhdgbpkhcnanaaDoor.Hdr Go.Proofs.YtfhdgbpkhcnanaaDoor.Frame

/-- What the law asks of the numbers. -/
def within (t u g m z : Int) : Prop := (0 ≤ t ∧ t < 1000000000000) ∧ (0 ≤ u ∧ u < 1000000) ∧ (0 ≤ g ∧ g < 1000000) ∧ (0 ≤ m ∧ m < 16777216) ∧ (0 ≤ z ∧ z < 10000000000)

theorem ok_iff (k : Nat) (n : Int) (lim : Nat) (h : lim = bs k ^ wd k) : okF false k n = true ↔ 0 ≤ n ∧ n < lim := by
  have h2 := (bs_2 k).1
  have hw := wd_18 k
  have e : okF false k n = (decide (0 ≤ n) && decide (nd (bs k) n.toNat ≤ wd k)) := by unfold okF; rw [if_neg (by simp)]
  rw [e, Bool.and_eq_true, decide_eq_true_eq, decide_eq_true_eq, h]
  constructor
  · rintro ⟨h0, h1⟩
    have h3 := lt_pow h2 n.toNat
    have h4 : bs k ^ nd (bs k) n.toNat ≤ bs k ^ wd k := Nat.pow_le_pow_right (by omega) h1
    exact ⟨h0, by omega⟩
  · rintro ⟨h0, h1⟩
    exact ⟨h0, nd_le_of_lt h2 hw.1 (by omega)⟩

theorem all_iff (t u g m z : Int) : allOk ⟨#[120, 47]⟩ (num t u g m z) 5 = true ↔ within t u g m z := by
  have ht : isTab ⟨#[120, 47]⟩ = false := by decide +kernel
  show (((((true && okF (isTab ⟨#[120, 47]⟩) 0 t) && okF (isTab ⟨#[120, 47]⟩) 1 u) && okF (isTab ⟨#[120, 47]⟩) 2 g) && okF (isTab ⟨#[120, 47]⟩) 3 m) && okF (isTab ⟨#[120, 47]⟩) 4 z) = true ↔ _
  rw [ht, Bool.and_eq_true, Bool.and_eq_true, Bool.and_eq_true, Bool.and_eq_true, Bool.true_and, ok_iff 0 t 1000000000000 (by decide +kernel), ok_iff 1 u 1000000 (by decide +kernel), ok_iff 2 g 1000000 (by decide +kernel),
    ok_iff 3 m 16777216 (by decide +kernel), ok_iff 4 z 10000000000 (by decide +kernel)]
  unfold within
  constructor
  · rintro ⟨⟨⟨⟨a, b⟩, c⟩, d⟩, e⟩; exact ⟨a, b, c, d, e⟩
  · rintro ⟨a, b, c, d, e⟩; exact ⟨⟨⟨⟨a, b⟩, c⟩, d⟩, e⟩
theorem name_x : nameOk ⟨#[120, 47]⟩ = true := by decide +kernel
theorem err_in {t u g m z : Int} (h : within t u g m z) : eerr ⟨#[120, 47]⟩ (num t u g m z) = 0 := (eerr_0 name_x ((all_iff t u g m z).2 h)).1
theorem err_out {t u g m z : Int} (h : ¬ within t u g m z) : eerr ⟨#[120, 47]⟩ (num t u g m z) = 9 :=
  (eerr_9 name_x (by rw [← Bool.not_eq_true, all_iff]; exact h)).1

set_option maxRecDepth 100000 in
set_option maxHeartbeats 8000000 in
theorem walk (w : World) (t : Int) (_ : -9223372036854775808 ≤ t) (l0 : t < 9223372036854775808) (u : Int) (_ : -9223372036854775808 ≤ u) (l1 : u < 9223372036854775808) (g : Int) (_ : -9223372036854775808 ≤ g) (l2 : g < 9223372036854775808)
    (m : Int) (_ : -9223372036854775808 ≤ m) (l3 : m < 9223372036854775808) (z : Int) (_ : -9223372036854775808 ≤ z) (l4 : z < 9223372036854775808) :
    Calls Tryd.prog 6 #[.int .i64 t, .int .i64 u, .int .i64 g, .int .i64 m, .int .i64 z] w fun e w' => e = .returned (.bool true) ∧ Below w.heap.size w w' := by
  have HF := hid fun w' => fits_any ⟨#[120, 47]⟩ t u g m z w' (by decide) l0 l1 l2 l3 l4
  clear l0 l1 l2 l3 l4
  have HI := hid (@err_in t u g m z)
  have HO := hid (@err_out t u g m z)
  by_cases h0 : 0 ≤ t
  rotate_left
  · have HX := hid (HO.out (by unfold within; omega))
    clear HI HO
    go_enter Tryd.func6, Tryd.ntmps6
    go_wp2_with (first | (go_at_call 8; refine (awake_any _).mono ?_; rintro e w1 ⟨rfl, hb1⟩) | (go_at_call 15; refine (HF.out _).mono ?_; rintro e w2 ⟨rfl, hb2⟩; rw [HX.out]))
    go_ret
    exact ⟨by first | rfl | exact ret_bool (by simp; omega), hb1.trans (hb2.mono hb1.size)⟩
  by_cases h1 : t < 1000000000000
  rotate_left
  · have HX := hid (HO.out (by unfold within; omega))
    clear HI HO
    go_enter Tryd.func6, Tryd.ntmps6
    go_wp2_with (first | (go_at_call 8; refine (awake_any _).mono ?_; rintro e w1 ⟨rfl, hb1⟩) | (go_at_call 15; refine (HF.out _).mono ?_; rintro e w2 ⟨rfl, hb2⟩; rw [HX.out]))
    go_ret
    exact ⟨by first | rfl | exact ret_bool (by simp; omega), hb1.trans (hb2.mono hb1.size)⟩
  by_cases h2 : 0 ≤ u
  rotate_left
  · have HX := hid (HO.out (by unfold within; omega))
    clear HI HO
    go_enter Tryd.func6, Tryd.ntmps6
    go_wp2_with (first | (go_at_call 8; refine (awake_any _).mono ?_; rintro e w1 ⟨rfl, hb1⟩) | (go_at_call 15; refine (HF.out _).mono ?_; rintro e w2 ⟨rfl, hb2⟩; rw [HX.out]))
    go_ret
    exact ⟨by first | rfl | exact ret_bool (by simp; omega), hb1.trans (hb2.mono hb1.size)⟩
  by_cases h3 : u < 1000000
  rotate_left
  · have HX := hid (HO.out (by unfold within; omega))
    clear HI HO
    go_enter Tryd.func6, Tryd.ntmps6
    go_wp2_with (first | (go_at_call 8; refine (awake_any _).mono ?_; rintro e w1 ⟨rfl, hb1⟩) | (go_at_call 15; refine (HF.out _).mono ?_; rintro e w2 ⟨rfl, hb2⟩; rw [HX.out]))
    go_ret
    exact ⟨by first | rfl | exact ret_bool (by simp; omega), hb1.trans (hb2.mono hb1.size)⟩
  by_cases h4 : 0 ≤ g
  rotate_left
  · have HX := hid (HO.out (by unfold within; omega))
    clear HI HO
    go_enter Tryd.func6, Tryd.ntmps6
    go_wp2_with (first | (go_at_call 8; refine (awake_any _).mono ?_; rintro e w1 ⟨rfl, hb1⟩) | (go_at_call 15; refine (HF.out _).mono ?_; rintro e w2 ⟨rfl, hb2⟩; rw [HX.out]))
    go_ret
    exact ⟨by first | rfl | exact ret_bool (by simp; omega), hb1.trans (hb2.mono hb1.size)⟩
  by_cases h5 : g < 1000000
  rotate_left
  · have HX := hid (HO.out (by unfold within; omega))
    clear HI HO
    go_enter Tryd.func6, Tryd.ntmps6
    go_wp2_with (first | (go_at_call 8; refine (awake_any _).mono ?_; rintro e w1 ⟨rfl, hb1⟩) | (go_at_call 15; refine (HF.out _).mono ?_; rintro e w2 ⟨rfl, hb2⟩; rw [HX.out]))
    go_ret
    exact ⟨by first | rfl | exact ret_bool (by simp; omega), hb1.trans (hb2.mono hb1.size)⟩
  by_cases h6 : 0 ≤ m
  rotate_left
  · have HX := hid (HO.out (by unfold within; omega))
    clear HI HO
    go_enter Tryd.func6, Tryd.ntmps6
    go_wp2_with (first | (go_at_call 8; refine (awake_any _).mono ?_; rintro e w1 ⟨rfl, hb1⟩) | (go_at_call 15; refine (HF.out _).mono ?_; rintro e w2 ⟨rfl, hb2⟩; rw [HX.out]))
    go_ret
    exact ⟨by first | rfl | exact ret_bool (by simp; omega), hb1.trans (hb2.mono hb1.size)⟩
  by_cases h7 : m < 16777216
  rotate_left
  · have HX := hid (HO.out (by unfold within; omega))
    clear HI HO
    go_enter Tryd.func6, Tryd.ntmps6
    go_wp2_with (first | (go_at_call 8; refine (awake_any _).mono ?_; rintro e w1 ⟨rfl, hb1⟩) | (go_at_call 15; refine (HF.out _).mono ?_; rintro e w2 ⟨rfl, hb2⟩; rw [HX.out]))
    go_ret
    exact ⟨by first | rfl | exact ret_bool (by simp; omega), hb1.trans (hb2.mono hb1.size)⟩
  by_cases h8 : 0 ≤ z
  rotate_left
  · have HX := hid (HO.out (by unfold within; omega))
    clear HI HO
    go_enter Tryd.func6, Tryd.ntmps6
    go_wp2_with (first | (go_at_call 8; refine (awake_any _).mono ?_; rintro e w1 ⟨rfl, hb1⟩) | (go_at_call 15; refine (HF.out _).mono ?_; rintro e w2 ⟨rfl, hb2⟩; rw [HX.out]))
    go_ret
    exact ⟨by first | rfl | exact ret_bool (by simp; omega), hb1.trans (hb2.mono hb1.size)⟩
  by_cases h9 : z < 10000000000
  rotate_left
  · have HX := hid (HO.out (by unfold within; omega))
    clear HI HO
    go_enter Tryd.func6, Tryd.ntmps6
    go_wp2_with (first | (go_at_call 8; refine (awake_any _).mono ?_; rintro e w1 ⟨rfl, hb1⟩) | (go_at_call 15; refine (HF.out _).mono ?_; rintro e w2 ⟨rfl, hb2⟩; rw [HX.out]))
    go_ret
    exact ⟨by first | rfl | exact ret_bool (by simp; omega), hb1.trans (hb2.mono hb1.size)⟩
  have HX := hid (HI.out (by unfold within; omega))
  clear HI HO
  go_enter Tryd.func6, Tryd.ntmps6
  go_wp2_with (first | (go_at_call 8; refine (awake_any _).mono ?_; rintro e w1 ⟨rfl, hb1⟩) | (go_at_call 15; refine (HF.out _).mono ?_; rintro e w2 ⟨rfl, hb2⟩; rw [HX.out]))
  go_ret
  exact ⟨by first | rfl | exact ret_bool (by simp; omega), hb1.trans (hb2.mono hb1.size)⟩

set_option maxRecDepth 100000 in
theorem held : Rows.HeaderBoundsSaid :=
  OpenClaim.holds_of_wide 6 Tryd.f6 rfl rfl rfl rfl rfl rfl rfl ⟨rfl, rfl, rfl, rfl, rfl⟩ rfl rfl rfl rfl rfl (by kernel_rfl) Tryd.func6 (by kernel_rfl)
    (of_decide_eq_true (by kernel_rfl)) (by unfold Func.isWrapper; first | (rw [if_pos (by decide +kernel)]; kernel_rfl) | (rw [if_neg (by decide +kernel)]; exact ⟨rfl, rfl⟩))
    (fun os started H enc _ => liftedL (started := started) (s := Rows.headerBoundsSpec) (L := Rows.headerBoundsRow.laid) rfl
      (fun ds h => by match ds, h with | [_, _, _, _, _], _ => rfl) (by kernel_rfl)
      (by kernel_rfl) (by kernel_rfl) Tryd.func6
      (ChangeSpec.witness_shaped (enc := enc) (C := Tryd.checked) (os := os) (X := fun w _ => laidMetH Tryd.prog Rows.headerBoundsRow.laid w) false (World.laidAll Tryd.prog os Rows.headerBoundsRow.laid) #[.int .i64 0, .int .i64 0, .int .i64 0, .int .i64 0, .int .i64 0] 8 (World.laidAll_os _ _ _)
        (World.shaped_of_ZipB (by kernel_rfl) (by kernel_rfl)) (by kernel_rfl) (by kernel_rfl) (by kernel_rfl)
        (by rw [MakeChecks.laidMetH_plain _ _ _ (by kernel_rfl)]; exact laidMet_laidAll _ (by kernel_rfl) (by kernel_rfl)))
      (fun W base args ds p h => by
        obtain ⟨hval, hA, _⟩ := h
        rw [show Tryd.f6.params = #[3, 3, 3, 3, 3] from by kernel_rfl] at hA hval
        obtain ⟨v0, vs0, d0, ds0, p0, q0, hargs, rfl, rfl, k0, r0⟩ := trodAll_cons hA
        obtain ⟨v1, vs1, d1, ds1, p1, q1, rfl, rfl, rfl, k1, r1⟩ := trodAll_cons r0
        obtain ⟨v2, vs2, d2, ds2, p2, q2, rfl, rfl, rfl, k2, r2⟩ := trodAll_cons r1
        obtain ⟨v3, vs3, d3, ds3, p3, q3, rfl, rfl, rfl, k3, r3⟩ := trodAll_cons r2
        obtain ⟨v4, vs4, d4, ds4, p4, q4, rfl, rfl, rfl, k4, r4⟩ := trodAll_cons r3
        obtain ⟨rfl, rfl, rfl⟩ := trodAll_nil r4
        obtain rfl : args = #[v0, v1, v2, v3, v4] := by cases args; simp_all
        obtain ⟨a0, rfl, l0, u0⟩ := open_i64 (hval 0 _ v0 rfl rfl) k0
        obtain ⟨a1, rfl, l1, u1⟩ := open_i64 (hval 1 _ v1 rfl rfl) k1
        obtain ⟨a2, rfl, l2, u2⟩ := open_i64 (hval 2 _ v2 rfl rfl) k2
        obtain ⟨a3, rfl, l3, u3⟩ := open_i64 (hval 3 _ v3 rfl rfl) k3
        obtain ⟨a4, rfl, l4, u4⟩ := open_i64 (hval 4 _ v4 rfl rfl) k4
        exact walk W a0 l0 u0 a1 l1 u1 a2 l2 u2 a3 l3 u3 a4 l4 u4))
theorem proved : Rows.HeaderBoundsCardSaid :=
  Claim7.holds_tied_plain_at .later [] [.data, .pinned] true (true, "d5bb88d666a0ddbc7d8d42f7e1c20e6606744885cb37ad28ad43a1740443c5c0") false held (fun _ h => by cases h) (by kernel_rfl) (fun _ h => by cases h) headerBounds_row_tie rfl ⟨rfl, rfl⟩ (by kernel_rfl) rfl
    (fun f fn hf hfn => by
      obtain rfl : f = 6 := Option.some.inj ((show Tryd.prog.funcNamed "arlink/arlinklaw02.HeaderBounds" = some 6 by kernel_rfl).symm.trans hf) |>.symm
      obtain rfl : fn = Tryd.f6 := (Option.some.inj (Tryd.func6.symm.trans hfn)).symm
      exact ⟨by kernel_rfl, fun j t ht => by
        rw [Tryd.params6] at ht
        have hm : t ∈ [3, 3, 3, 3, 3] := by simpa using Array.mem_of_getElem? ht
        have hall : ([3, 3, 3, 3, 3].all fun u => !Tryd.prog.wantsStandIn u) = true := by kernel_rfl
        exact (show Tryd.prog.wantsStandIn t = false by simpa using List.all_eq_true.1 hall t hm)⟩)
    (by kernel_rfl)
#print axioms proved
end Go.Proofs.YtfhdgbpkhcnanaaDoor.Bounds
