/-
  HeaderKeeps: the bytes are not modified, and modifying a result does not change later results. For every header and every byte slice: no condition.
-/
import Derived.Test.YtfhdgbpkhcnanaaDoorHma
import Derived.Test.YtfhdgbpkhcnanaaDoorHrd
import Derived.Test.YtfhdgbpkhcnanaaDoorLwc
import Derived.Test.YtfhdgbpkhcnanaaDoorCards
namespace Go.Proofs.YtfhdgbpkhcnanaaDoor.Keeps
open Go.ChangeShapes Go.WideShapes Go.ChangeAt Go.RowKit Go.Proofs Go.Proofs.YtfhdgbpkhcnanaaDoor.Byt Go.Proofs.YtfhdgbpkhcnanaaDoor.Str Go.Proofs.YtfhdgbpkhcnanaaDoor.Dec Go.Proofs.YtfhdgbpkhcnanaaDoor.Hdr Go.Proofs.YtfhdgbpkhcnanaaDoor.Frame

/-- The argument boxed. -/
def hbox (s : ByteArray) (t u g m z : Int) : Obj := .cells #[.string s, .int .i64 t, .int .i64 u, .int .i64 g, .int .i64 m, .int .i64 z] 23

set_option maxRecDepth 100000 in
theorem long1 (w : World) (s : ByteArray) (t u g m z : Int) (hs : s.size ≤ maxLen) (A : Option Addr) (n c : Nat) (h : 100 < s.size) :
    Calls Tryd.prog 7 #[.agg #[.string s, .int .i64 t, .int .i64 u, .int .i64 g, .int .i64 m, .int .i64 z], .slice A n c] w fun e w' => e = .returned (.bool true) ∧ Below w.heap.size w w' := by
  unfold maxLen at hs
  have Hb0 := hid ((Below.refl w.heap.size w).alloc (Nat.le_refl _) (hbox s t u g m z))
  unfold hbox at Hb0
  go_enter Tryd.func7, Tryd.ntmps7
  go_wp2_with fail
  refine (awake_any _).mono ?_
  rintro e w1 ⟨rfl, hb1⟩
  have k1 := stays (B := w.heap.size) hb1 (by simp)
  go_wp2_with fail
  refine (awake_any _).mono ?_
  rintro e w2 ⟨rfl, hb2⟩
  go_wp2_with fail
  go_ret
  exact ⟨rfl, (Hb0.out.trans (hb1.mono (by simp))).trans (hb2.mono (Nat.le_trans (by simp) hb1.size))⟩

set_option maxRecDepth 100000 in
theorem long2 (w : World) (s : ByteArray) (t u g m z : Int) (hs : s.size ≤ maxLen) (A : Option Addr) (n c : Nat) (h0 : ¬ 100 < s.size) (h : 1000 < n) :
    Calls Tryd.prog 7 #[.agg #[.string s, .int .i64 t, .int .i64 u, .int .i64 g, .int .i64 m, .int .i64 z], .slice A n c] w fun e w' => e = .returned (.bool true) ∧ Below w.heap.size w w' := by
  unfold maxLen at hs
  have Hb0 := hid ((Below.refl w.heap.size w).alloc (Nat.le_refl _) (hbox s t u g m z))
  unfold hbox at Hb0
  go_enter Tryd.func7, Tryd.ntmps7
  go_wp2_with fail
  refine (awake_any _).mono ?_
  rintro e w1 ⟨rfl, hb1⟩
  have k1 := stays (B := w.heap.size) hb1 (by simp)
  go_wp2_with fail
  refine (awake_any _).mono ?_
  rintro e w2 ⟨rfl, hb2⟩
  go_wp2_with fail
  go_ret
  exact ⟨rfl, (Hb0.out.trans (hb1.mono (by simp))).trans (hb2.mono (Nat.le_trans (by simp) hb1.size))⟩

/-- The bytes that were encoded, ready to be read. -/
theorem encodes_rd {s : ByteArray} {f : Nat → Int} {w w' : World} {e : Ending} (h : Encodes s f w e w') :
    ∃ A c, e = .returned (.tuple #[.slice A (eout s f).length c, .int .i64 (eerr s f)]) ∧ Own w' w.heap.size (.slice A (eout s f).length c) (eout s f).length (eout s f) ∧ Below w.heap.size w w' := by
  obtain ⟨v, h1, h2, h3⟩ := h
  obtain ⟨A, c, rfl, _, _, _⟩ := h2.reads
  exact ⟨A, c, h1, h2, h3⟩

set_option maxRecDepth 100000 in
set_option maxHeartbeats 4000000 in
theorem main (w : World) (s : ByteArray) (t u g m z : Int) (hs : s.size ≤ 100) (l0 : t < 9223372036854775808) (l1 : u < 9223372036854775808) (l2 : g < 9223372036854775808) (l3 : m < 9223372036854775808) (l4 : z < 9223372036854775808) (A : Option Addr) (n c : Nat) (l : List UInt8) (hr : Rd w w.heap.size A n l) (hc : n ≤ c) (hn : n ≤ 1000) :
    Calls Tryd.prog 7 #[.agg #[.string s, .int .i64 t, .int .i64 u, .int .i64 g, .int .i64 m, .int .i64 z], .slice A n c] w fun e w' => e = .returned (.bool true) ∧ Below w.heap.size w w' := by
  have Hb0 := hid ((Below.refl w.heap.size w).alloc (Nat.le_refl _) (hbox s t u g m z))
  unfold hbox at Hb0
  have HE := hid fun w' => encode_any s t u g m z w' (by omega) l0 l1 l2 l3 l4
  have HR := hid fun w' => rencode_any s t u g m z w' (by omega) l0 l1 l2 l3 l4
  have hX := eout_length s (num t u g m z)
  have Hr := hid (hr.below Hb0.out)
  clear l0 l1 l2 l3 l4 hr
  go_enter Tryd.func7, Tryd.ntmps7
  go_wp2_with fail
  refine (awake_any _).mono ?_
  rintro e w1 ⟨rfl, hb1⟩
  have k1 := stays (B := w.heap.size) hb1 (by simp)
  have Hb1 := hid (Hb0.out.trans (hb1.mono (by simp)))
  have hz1 : w.heap.size < w1.heap.size := Nat.lt_of_lt_of_le (by simp) hb1.size
  have Hr1 := hid (Hr.out.below (hb1.mono (by simp)))
  clear Hb0 hb1 Hr
  go_wp2_with (at_builtin; refine wpList_app _ w1.heap.size _ 0 [] (Own.lit0 w1 w1.heap.size (Nat.le_refl _)) (by simp) A n c w.heap.size l (Hr1.out.below ((Below.refl _ _).alloc (Nat.le_of_lt hz1) _)) (by omega) rfl (.tmp 27) (.tmp 28) rfl rfl rfl ?_; intro v2 w2 hown2 hb2)
  have g2 : Below w1.heap.size w1 w2 := ((Below.refl _ _).alloc (Nat.le_refl _) _).trans hb2
  refine (decode_any _ A n c l w2 ((Hr1.out.below (g2.mono (Nat.le_of_lt hz1))).more (Nat.le_trans (Nat.le_of_lt hz1) g2.size)) (Nat.le_refl _) hc).mono ?_
  rintro e w3 ⟨rfl, hb3⟩
  have g3 := g2.trans (hb3.mono g2.size)
  have k3 := stays g3 hz1
  go_wp2_with fail
  refine (forward_any _ _ _ _ _ _ _).mono ?_
  rintro e w4 ⟨rfl, hb4⟩
  have g4 := g3.trans (hb4.mono g3.size)
  have h24 := hb3.trans (hb4.mono hb3.size)
  go_wp2_with fail
  refine (HE.out _).mono ?_
  intro e w5 hE
  obtain ⟨A5, c5, rfl, hown5, hb5⟩ := encodes_rd hE
  clear hE
  have Hsm := hid hX
  generalize hN : (eout s (num t u g m z)).length = N at hown5 hX
  generalize eout s (num t u g m z) = X at hown5
  have H24 := hid h24
  have Hg4 := hid g4
  have Hown2 := hid hown2
  clear hN hb2 hb3 hb4 g2 g3 g4 h24 hown2 k3
  go_wp2_with fail
  go_loopw [8] (fun i W => ∃ (k : Nat) (Y : List UInt8), k ≤ N ∧ i = .int .i64 (k : Int) ∧ Own W w4.heap.size (.slice A5 N c5) N Y ∧ Below w4.heap.size w4 W) (fun i _ => N - (intOf i).toNat)
  case atStart => exact ⟨0, X, by omega, rfl, hown5, hb5⟩
  case round =>
    clear hown5 hb5
    obtain ⟨k, Y, hk, rfl, hown, hbel⟩ := hrel
    by_cases hlt : k < N
    · obtain ⟨g', cap, e, hg, hcell, hfz, hset⟩ := hown.at_ (i := k) (by have := hown.1; omega)
      injection e with e1 e2 e3
      subst e1
      subst e3
      have hkl : k < Y.length := by have := hown.1; omega
      obtain ⟨x, hx⟩ := u8_wrap ((Y[k].toNat : Int) + 1)
      have Hset := hid (hset x)
      clear hset
      generalize Y[k] = y at *
      go_wp2
      go_roundw
      case rel => exact ⟨k + 1, _, by omega, by go_num, Hset.out, hbel.setCell hg _⟩
      case measure => simp [intOf]; omega
    · clear hk hown
      have gW := Hg4.out.trans (hbel.mono Hg4.out.size)
      have kW := stays gW hz1
      have hownW := Hown2.out.below (H24.out.trans (hbel.mono H24.out.size))
      rw [Nat.zero_add, List.nil_append] at hownW
      go_wp2_with fail
      refine (forward_any _ _ _ _ _ _ _).mono ?_
      rintro e w6 ⟨rfl, hb6⟩
      have g6 := gW.trans (hb6.mono gW.size)
      go_wp2_with fail
      refine (HE.out _).mono ?_
      intro e w7 hE
      obtain ⟨A7, c7, rfl, hown7, hb7⟩ := encodes_rd hE
      clear hE
      have g7 := g6.trans (hb7.mono g6.size)
      have k7 := stays g7 hz1
      go_wp2_with fail
      refine (HR.out _).mono ?_
      intro e w8 hE
      obtain ⟨A8, c8, rfl, hown8, hb8⟩ := encodes_rd hE
      clear hE
      have g8 := g7.trans (hb8.mono g7.size)
      have hr8 := Hr1.out.below (g8.mono (Nat.le_of_lt hz1))
      obtain ⟨A2, c2, rfl, hrd2, _, _⟩ := ((hownW.below hb6).below hb7).below hb8 |>.reads
      obtain ⟨_, _, e7, hrd7, _, _⟩ := (hown7.below hb8).reads
      injection e7 with e1 e2 e3
      subst e1; subst e3
      obtain ⟨_, _, e8, hrd8, _, _⟩ := hown8.reads
      injection e8 with e1 e2 e3
      subst e1; subst e3
      have HF := hid (Hb1.out.trans (g8.mono (Nat.le_of_lt hz1)))
      have Hs1 := hid (same_any _ rfl _ _ A A2 n c n c2 l l w8 hr8 hrd2 (by omega))
      have Hs2 := hid fun m' => same_any _ rfl _ _ A7 A8 _ c7 _ c8 _ _ (w8.drewN m') (hrd7.drewN m') (hrd8.drewN m') (by have := Hsm.out; omega)
      have hll : (l == l) = true := by simp
      clear hownW hown7 hown8 hb6 hb7 hb8 gW g6 g7 g8 hr8 hrd2 hrd7 hrd8 kW k7 hbel
      go_wp2_with fail
      refine Hs1.out.mono ?_
      rintro e w9 ⟨rfl, m9, rfl⟩
      go_wp2_with fail
      refine (Hs2.out _).mono ?_
      rintro e w10 ⟨rfl, m10, rfl⟩
      go_wp2_with fail
      go_ret
      exact ⟨ret_bool (by simp), HF.out.trans (below_drewN _ _)⟩

theorem walk (w : World) (s : ByteArray) (t u g m z : Int) (hs : s.size ≤ maxLen) (l0 : t < 9223372036854775808) (l1 : u < 9223372036854775808) (l2 : g < 9223372036854775808) (l3 : m < 9223372036854775808) (l4 : z < 9223372036854775808) (A : Option Addr) (n c : Nat) (r : List UInt8) (hr : Rd w w.heap.size A n r) (hc : n ≤ c) (_ : c ≤ maxLen) :
    Calls Tryd.prog 7 #[.agg #[.string s, .int .i64 t, .int .i64 u, .int .i64 g, .int .i64 m, .int .i64 z], .slice A n c] w fun e w' => e = .returned (.bool true) ∧ Below w.heap.size w w' := by
  by_cases h1 : 100 < s.size
  · exact long1 w s t u g m z hs A n c h1
  · by_cases h2 : 1000 < n
    · exact long2 w s t u g m z hs A n c h1 h2
    · exact main w s t u g m z (by omega) l0 l1 l2 l3 l4 A n c r hr hc (by omega)

set_option maxRecDepth 100000 in
theorem held : Rows.HeaderKeepsSaid :=
  OpenClaim.holds_of_wide 7 Tryd.f7 rfl rfl rfl rfl rfl rfl rfl ⟨rfl, rfl, rfl, rfl, rfl⟩ rfl rfl rfl rfl rfl (by kernel_rfl) Tryd.func7 (by kernel_rfl)
    (of_decide_eq_true (by kernel_rfl)) (by unfold Func.isWrapper; first | (rw [if_pos (by decide +kernel)]; kernel_rfl) | (rw [if_neg (by decide +kernel)]; exact ⟨rfl, rfl⟩))
    (fun os started H enc _ => liftedL (started := started) (s := Rows.headerKeepsSpec) (L := Rows.headerKeepsRow.laid) rfl
      (fun ds h => by match ds, h with | [_, _], _ => rfl) (by kernel_rfl)
      (by kernel_rfl) (by kernel_rfl) Tryd.func7
      (ChangeSpec.witness_shaped (enc := enc) (C := Tryd.checked) (os := os) (X := fun w _ => laidMetH Tryd.prog Rows.headerKeepsRow.laid w) false (World.laidAll Tryd.prog os Rows.headerKeepsRow.laid) #[.agg #[.string ⟨#[]⟩, .int .i64 0, .int .i64 0, .int .i64 0, .int .i64 0, .int .i64 0], .slice none 0 0] 8 (World.laidAll_os _ _ _)
        (World.shaped_of_ZipB (by kernel_rfl) (by kernel_rfl)) (by kernel_rfl) (by kernel_rfl) (by kernel_rfl)
        (by rw [MakeChecks.laidMetH_plain _ _ _ (by kernel_rfl)]; exact laidMet_laidAll _ (by kernel_rfl) (by kernel_rfl)))
      (fun W base args ds p h => by
        obtain ⟨hval, hA, _⟩ := h
        rw [show Tryd.f7.params = #[23, 24] from by kernel_rfl] at hA hval
        obtain ⟨v0, vs0, d0, ds0, p0, q0, hargs, rfl, rfl, k0, r0⟩ := trodAll_cons hA
        obtain ⟨v1, vs1, d1, ds1, p1, q1, rfl, rfl, rfl, k1, r1⟩ := trodAll_cons r0
        obtain ⟨rfl, rfl, rfl⟩ := trodAll_nil r1
        obtain rfl : args = #[v0, v1] := by cases args; simp_all
        obtain ⟨s0, a0, b0, c0, d0, e0, rfl, h0, i0, j0, k0, l0, m0⟩ := open_hdr (hval 0 _ v0 rfl rfl) k0
        obtain ⟨A1, n1, c1, l1, rfl, h1, m1, g1⟩ := open_bytes (hval 1 _ v1 rfl rfl) k1
        exact walk W s0 a0 b0 c0 d0 e0 h0 i0 j0 k0 l0 m0 A1 n1 c1 l1 h1 m1 g1))
theorem proved : Rows.HeaderKeepsCardSaid :=
  Claim7.holds_tied_plain_at .later [] [.data, .pinned] true (true, "d5bb88d666a0ddbc7d8d42f7e1c20e6606744885cb37ad28ad43a1740443c5c0") false held (fun _ h => by cases h) (by kernel_rfl) (fun _ h => by cases h) headerKeeps_row_tie rfl ⟨rfl, rfl⟩ (by kernel_rfl) rfl
    (fun f fn hf hfn => by
      obtain rfl : f = 7 := Option.some.inj ((show Tryd.prog.funcNamed "arlink/arlinklaw02.HeaderKeeps" = some 7 by kernel_rfl).symm.trans hf) |>.symm
      obtain rfl : fn = Tryd.f7 := (Option.some.inj (Tryd.func7.symm.trans hfn)).symm
      exact ⟨by kernel_rfl, fun j t ht => by
        rw [Tryd.params7] at ht
        have hm : t ∈ [23, 24] := by simpa using Array.mem_of_getElem? ht
        have hall : ([23, 24].all fun u => !Tryd.prog.wantsStandIn u) = true := by kernel_rfl
        exact (show Tryd.prog.wantsStandIn t = false by simpa using List.all_eq_true.1 hall t hm)⟩)
    (by kernel_rfl)
#print axioms proved
end Go.Proofs.YtfhdgbpkhcnanaaDoor.Keeps
