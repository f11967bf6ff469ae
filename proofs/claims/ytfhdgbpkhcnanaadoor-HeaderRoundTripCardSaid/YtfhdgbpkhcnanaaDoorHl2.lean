/-
  HeaderRoundTrip: a header that fits is decoded from its 60 bytes, whatever follows. For every header and every byte slice: no condition.
-/
import Derived.Test.YtfhdgbpkhcnanaaDoorHma
import Derived.Test.YtfhdgbpkhcnanaaDoorHmb
import Derived.Test.YtfhdgbpkhcnanaaDoorHra
import Derived.Test.YtfhdgbpkhcnanaaDoorLwc
import Derived.Test.YtfhdgbpkhcnanaaDoorCards
import Derived.Deep.RegionWith
namespace Go.Proofs.YtfhdgbpkhcnanaaDoor.RoundTrip
open Go.ChangeShapes Go.WideShapes Go.ChangeAt Go.RowKit Go.Proofs Go.Proofs.YtfhdgbpkhcnanaaDoor.Byt Go.Proofs.YtfhdgbpkhcnanaaDoor.Str Go.Proofs.YtfhdgbpkhcnanaaDoor.Dec Go.Proofs.YtfhdgbpkhcnanaaDoor.Hdr Go.Proofs.YtfhdgbpkhcnanaaDoor.Frame

/-- The argument boxed. -/
def hbox (s : ByteArray) (t u g m z : Int) : Obj := .cells #[.string s, .int .i64 t, .int .i64 u, .int .i64 g, .int .i64 m, .int .i64 z] 23

set_option maxRecDepth 100000 in
theorem long (w : World) (s : ByteArray) (t u g m z : Int) (hs : s.size ≤ maxLen) (A : Option Addr) (n c : Nat) (h : 100 < s.size ∨ 1000 < n) :
    Calls Tryd.prog 4 #[.agg #[.string s, .int .i64 t, .int .i64 u, .int .i64 g, .int .i64 m, .int .i64 z], .slice A n c] w fun e w' => e = .returned (.bool true) ∧ Below w.heap.size w w' := by
  unfold maxLen at hs
  have Hb0 := hid ((Below.refl w.heap.size w).alloc (Nat.le_refl _) (hbox s t u g m z))
  unfold hbox at Hb0
  by_cases h1 : 100 < s.size
  · clear h
    go_enter Tryd.func4, Tryd.ntmps4
    go_wp2_with fail
    refine (awake_any _).mono ?_
    rintro e w1 ⟨rfl, hb1⟩
    have k1 := stays (B := w.heap.size) hb1 (by simp)
    go_wp2_with fail
    refine (awake_any _).mono ?_
    rintro e w2 ⟨rfl, hb2⟩
    go_wp2_with fail
    go_ret
    exact ⟨rfl, (Hb0.out.trans (hb1.mono (by simp))).trans (hb2.mono (Nat.le_trans (by simp) hb1.size))⟩
  · have h2 : 1000 < n := by omega
    clear h
    go_enter Tryd.func4, Tryd.ntmps4
    go_wp2_with fail
    refine (awake_any _).mono ?_
    rintro e w1 ⟨rfl, hb1⟩
    have k1 := stays (B := w.heap.size) hb1 (by simp)
    go_wp2_with fail
    refine (awake_any _).mono ?_
    rintro e w2 ⟨rfl, hb2⟩
    go_wp2_with fail
    go_ret
    exact ⟨rfl, (Hb0.out.trans (hb1.mono (by simp))).trans (hb2.mono (Nat.le_trans (by simp) hb1.size))⟩

set_option maxRecDepth 100000 in
set_option maxHeartbeats 2000000 in
theorem unfit (w : World) (s : ByteArray) (t u g m z : Int) (hs : s.size ≤ 100) (l0 : t < 9223372036854775808) (l1 : u < 9223372036854775808) (l2 : g < 9223372036854775808) (l3 : m < 9223372036854775808) (l4 : z < 9223372036854775808) (A : Option Addr) (n c : Nat) (hn : n ≤ 1000)
    (e0 : Int) (h9 : e0 = 6 ∨ e0 = 9) (he : eerr s (num t u g m z) = e0 ∧ eout s (num t u g m z) = []) :
    Calls Tryd.prog 4 #[.agg #[.string s, .int .i64 t, .int .i64 u, .int .i64 g, .int .i64 m, .int .i64 z], .slice A n c] w fun e w' => e = .returned (.bool true) ∧ Below w.heap.size w w' := by
  have Hb0 := hid ((Below.refl w.heap.size w).alloc (Nat.le_refl _) (hbox s t u g m z))
  unfold hbox at Hb0
  have HE := hid fun w' => encode_rd s t u g m z e0 [] he w' (by omega) l0 l1 l2 l3 l4
  clear he l0 l1 l2 l3 l4
  rcases h9 with rfl | rfl
  all_goals
    go_enter Tryd.func4, Tryd.ntmps4
    go_wp2_with fail
    refine (awake_any _).mono ?_
    rintro e w1 ⟨rfl, hb1⟩
    have k1 := stays (B := w.heap.size) hb1 (by simp)
    have Hb1 := hid (Hb0.out.trans (hb1.mono (by simp)))
    clear Hb0
    go_wp2_with fail
    refine (forward_any _ _ _ _ _ _ _).mono ?_
    rintro e w2 ⟨rfl, hb2⟩
    have Hb2 := hid (Hb1.out.trans (hb2.mono Hb1.out.size))
    go_wp2_with fail
    refine (HE.out _).mono ?_
    rintro e w3 ⟨A3, c3, rfl, _, _, _, _, hb3⟩
    have Hb3 := hid (Hb2.out.trans (hb3.mono Hb2.out.size))
    go_wp2_with fail
    go_ret
    exact ⟨rfl, Hb3.out⟩

set_option maxRecDepth 100000 in
set_option maxHeartbeats 2000000 in
theorem fit (w : World) (s : ByteArray) (t u g m z : Int) (hs : s.size ≤ 100) (l0 : t < 9223372036854775808) (l1 : u < 9223372036854775808) (l2 : g < 9223372036854775808) (l3 : m < 9223372036854775808) (l4 : z < 9223372036854775808) (A : Option Addr) (n c : Nat) (r : List UInt8) (hr : Rd w w.heap.size A n r) (hn : n ≤ 1000)
    (h1 : nameOk s = true) (h2 : allOk s (num t u g m z) 5 = true) :
    Calls Tryd.prog 4 #[.agg #[.string s, .int .i64 t, .int .i64 u, .int .i64 g, .int .i64 m, .int .i64 z], .slice A n c] w fun e w' => e = .returned (.bool true) ∧ Below w.heap.size w w' := by
  have Hb0 := hid ((Below.refl w.heap.size w).alloc (Nat.le_refl _) (hbox s t u g m z))
  unfold hbox at Hb0
  have he := eerr_0 h1 h2
  have HE := hid fun w' => encode_rd s t u g m z 0 _ he w' (by omega) l0 l1 l2 l3 l4
  have hlen : (pre s (num t u g m z) 5 ++ [96, 10]).length = 60 := by rw [List.length_append, pre_length (nameOk_iff.1 h1).2.1 5 h2]; rfl
  rw [hlen] at HE
  obtain ⟨d1, d2, d3⟩ := dec_enc h1 h2 r
  have D := hid (And.intro d1 (And.intro d2 (And.intro (d3 0 (by omega)) (And.intro (d3 1 (by omega)) (And.intro (d3 2 (by omega)) (And.intro (d3 3 (by omega)) (d3 4 (by omega))))))))
  have Hr := hid (hr.below Hb0.out)
  clear he l0 l1 l2 l3 l4 h1 h2 hlen d1 d2 d3
  generalize pre s (num t u g m z) 5 ++ [96, 10] = E at *
  go_enter Tryd.func4, Tryd.ntmps4
  go_wp2_with fail
  refine (awake_any _).mono ?_
  rintro e w1 ⟨rfl, hb1⟩
  have k1 := stays (B := w.heap.size) hb1 (by simp)
  have Hb1 := hid (Hb0.out.trans (hb1.mono (by simp)))
  have hz1 : w.heap.size < w1.heap.size := Nat.lt_of_lt_of_le (by simp) hb1.size
  have Hr1 := hid (Hr.out.below (hb1.mono (by simp)))
  clear Hb0 hb1 Hr
  go_wp2_with fail
  refine (forward_any _ _ _ _ _ _ _).mono ?_
  rintro e w2 ⟨rfl, hb2⟩
  go_wp2_with fail
  refine (HE.out _).mono ?_
  rintro e w3 ⟨A3, c3, rfl, _, hr3, hc3, _, hb3⟩
  have hb13 := hb2.trans (hb3.mono hb2.size)
  go_wp2_with fail
  refine (add_any _ w.heap.size A3 A 60 c3 n c _ r w3 hr3 (Hr1.out.below (hb13.mono (Nat.le_of_lt hz1))) (Nat.le_refl _) (Nat.le_trans (Nat.le_of_lt hz1) hb13.size) (by omega) (by omega)).mono ?_
  rintro e w4 ⟨v4, rfl, hown4, hb4⟩
  have hb14 := hb13.trans (hb4.mono hb13.size)
  obtain ⟨A4, c4, rfl, hr4, hc4, _⟩ := hown4.reads
  go_wp2_with fail
  refine (decode_any _ A4 (60 + n) c4 _ w4 hr4 (Nat.le_refl _) hc4).mono ?_
  rintro e w5 ⟨rfl, hb5⟩
  obtain ⟨d1, d2, d3, d4, d5, d6, d7⟩ := D.out
  rw [d1, d2, d3, d4, d5, d6, d7]
  have hb15 := hb14.trans (hb5.mono hb14.size)
  have k5 := stays hb15 hz1
  have hz5 : w.heap.size < w5.heap.size := Nat.lt_of_lt_of_le hz1 hb15.size
  have Hb5 := hid (Hb1.out.trans (hb15.mono (Nat.le_of_lt hz1)))
  clear d1 d2 d3 d4 d5 d6 d7 hb2 hb3 hb13 hb4 hb14 hb5 hb15 hr3 hr4 hown4
  go_wp2_with fail
  simp only [num]
  go_region_with (go_at_call 10; refine (forward_any _ _ _ _ _ _ _).mono ?_; rintro e w6 ⟨rfl, hb6⟩; have k6 := stays (B := w5.heap.size) hb6 (by simp))
  all_goals
    have hbF := (Hb5.out.trans (Below.drew ((Below.refl w.heap.size w5).alloc (Nat.le_of_lt hz5) _))).trans (hb6.mono (by simp; omega))
    go_wp2
    go_ret
    exact ⟨rfl, hbF⟩

theorem walk (w : World) (s : ByteArray) (t u g m z : Int) (hs : s.size ≤ maxLen) (l0 : t < 9223372036854775808) (l1 : u < 9223372036854775808) (l2 : g < 9223372036854775808) (l3 : m < 9223372036854775808) (l4 : z < 9223372036854775808) (A : Option Addr) (n c : Nat) (r : List UInt8) (hr : Rd w w.heap.size A n r) (_ : n ≤ c) (_ : c ≤ maxLen) :
    Calls Tryd.prog 4 #[.agg #[.string s, .int .i64 t, .int .i64 u, .int .i64 g, .int .i64 m, .int .i64 z], .slice A n c] w fun e w' => e = .returned (.bool true) ∧ Below w.heap.size w w' := by
  by_cases h : 100 < s.size ∨ 1000 < n
  · exact long w s t u g m z hs A n c h
  · have hs' : s.size ≤ 100 := by omega
    have hn : n ≤ 1000 := by omega
    cases h1 : nameOk s
    · exact unfit w s t u g m z hs' l0 l1 l2 l3 l4 A n c hn 6 (.inl rfl) (eerr_6 h1)
    · cases h2 : allOk s (num t u g m z) 5
      · exact unfit w s t u g m z hs' l0 l1 l2 l3 l4 A n c hn 9 (.inr rfl) (eerr_9 h1 h2)
      · exact fit w s t u g m z hs' l0 l1 l2 l3 l4 A n c r hr hn h1 h2

set_option maxRecDepth 100000 in
theorem held : Rows.HeaderRoundTripSaid :=
  OpenClaim.holds_of_wide 4 Tryd.f4 rfl rfl rfl rfl rfl rfl rfl ⟨rfl, rfl, rfl, rfl, rfl⟩ rfl rfl rfl rfl rfl (by kernel_rfl) Tryd.func4 (by kernel_rfl)
    (of_decide_eq_true (by kernel_rfl)) (by unfold Func.isWrapper; first | (rw [if_pos (by decide +kernel)]; kernel_rfl) | (rw [if_neg (by decide +kernel)]; exact ⟨rfl, rfl⟩))
    (fun os started H enc _ => liftedL (started := started) (s := Rows.headerRoundTripSpec) (L := Rows.headerRoundTripRow.laid) rfl
      (fun ds h => by match ds, h with | [_, _], _ => rfl) (by kernel_rfl)
      (by kernel_rfl) (by kernel_rfl) Tryd.func4
      (ChangeSpec.witness_shaped (enc := enc) (C := Tryd.checked) (os := os) (X := fun w _ => laidMetH Tryd.prog Rows.headerRoundTripRow.laid w) false (World.laidAll Tryd.prog os Rows.headerRoundTripRow.laid) #[.agg #[.string ⟨#[]⟩, .int .i64 0, .int .i64 0, .int .i64 0, .int .i64 0, .int .i64 0], .slice none 0 0] 8 (World.laidAll_os _ _ _)
        (World.shaped_of_ZipB (by kernel_rfl) (by kernel_rfl)) (by kernel_rfl) (by kernel_rfl) (by kernel_rfl)
        (by rw [MakeChecks.laidMetH_plain _ _ _ (by kernel_rfl)]; exact laidMet_laidAll _ (by kernel_rfl) (by kernel_rfl)))
      (fun W base args ds p h => by
        obtain ⟨hval, hA, _⟩ := h
        rw [show Tryd.f4.params = #[23, 24] from by kernel_rfl] at hA hval
        obtain ⟨v0, vs0, d0, ds0, p0, q0, hargs, rfl, rfl, k0, r0⟩ := trodAll_cons hA
        obtain ⟨v1, vs1, d1, ds1, p1, q1, rfl, rfl, rfl, k1, r1⟩ := trodAll_cons r0
        obtain ⟨rfl, rfl, rfl⟩ := trodAll_nil r1
        obtain rfl : args = #[v0, v1] := by cases args; simp_all
        obtain ⟨s0, a0, b0, c0, d0, e0, rfl, h0, i0, j0, k0, l0, m0⟩ := open_hdr (hval 0 _ v0 rfl rfl) k0
        obtain ⟨A1, n1, c1, l1, rfl, h1, m1, g1⟩ := open_bytes (hval 1 _ v1 rfl rfl) k1
        exact walk W s0 a0 b0 c0 d0 e0 h0 i0 j0 k0 l0 m0 A1 n1 c1 l1 h1 m1 g1))
theorem proved : Rows.HeaderRoundTripCardSaid :=
  Claim7.holds_tied_plain_at .later [] [.data, .pinned] true (true, "d5bb88d666a0ddbc7d8d42f7e1c20e6606744885cb37ad28ad43a1740443c5c0") false held (fun _ h => by cases h) (by kernel_rfl) (fun _ h => by cases h) headerRoundTrip_row_tie rfl ⟨rfl, rfl⟩ (by kernel_rfl) rfl
    (fun f fn hf hfn => by
      obtain rfl : f = 4 := Option.some.inj ((show Tryd.prog.funcNamed "arlink/arlinklaw02.HeaderRoundTrip" = some 4 by kernel_rfl).symm.trans hf) |>.symm
      obtain rfl : fn = Tryd.f4 := (Option.some.inj (Tryd.func4.symm.trans hfn)).symm
      exact ⟨by kernel_rfl, fun j t ht => by
        rw [Tryd.params4] at ht
        have hm : t ∈ [23, 24] := by simpa using Array.mem_of_getElem? ht
        have hall : ([23, 24].all fun u => !Tryd.prog.wantsStandIn u) = true := by kernel_rfl
        exact (show Tryd.prog.wantsStandIn t = false by simpa using List.all_eq_true.1 hall t hm)⟩)
    (by kernel_rfl)
#print axioms proved
end Go.Proofs.YtfhdgbpkhcnanaaDoor.RoundTrip
