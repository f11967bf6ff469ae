/-
  HeaderUnique: a header that is decoded fits, and its encoding is the bytes that were read. For every byte slice: no condition.
-/
import Derived.Test.YtfhdgbpkhcnanaaDoorHma
import Derived.Test.YtfhdgbpkhcnanaaDoorHmb
import Derived.Test.YtfhdgbpkhcnanaaDoorLwc
import Derived.Test.YtfhdgbpkhcnanaaDoorCards
import Derived.Deep.RegionWith
namespace Go.Proofs.YtfhdgbpkhcnanaaDoor.Unique
open Go.ChangeShapes Go.WideShapes Go.ChangeAt Go.RowKit Go.Proofs Go.Proofs.YtfhdgbpkhcnanaaDoor.Byt Go.Proofs.YtfhdgbpkhcnanaaDoor.Str Go.Proofs.YtfhdgbpkhcnanaaDoor.Dec Go.Proofs.YtfhdgbpkhcnanaaDoor.Hdr Go.Proofs.YtfhdgbpkhcnanaaDoor.Frame

set_option maxRecDepth 100000 in
theorem long (w : World) (A : Option Addr) (n c : Nat) (h : 1000 < n) :
    Calls Tryd.prog 5 #[.slice A n c] w fun e w' => e = .returned (.bool true) ∧ Below w.heap.size w w' := by
  go_enter Tryd.func5, Tryd.ntmps5
  go_wp2_with fail
  refine (awake_any _).mono ?_
  rintro e w1 ⟨rfl, hb1⟩
  go_wp2_with fail
  refine (awake_any _).mono ?_
  rintro e w2 ⟨rfl, hb2⟩
  go_wp2_with fail
  go_ret
  exact ⟨rfl, hb1.trans (hb2.mono hb1.size)⟩

theorem dnum_lt (l : List UInt8) (k : Nat) (hl : 60 ≤ l.length) (hk : k < 5) : dnum l k < 9223372036854775808 := by
  unfold dnum
  split
  · rename_i h
    obtain ⟨x, hx⟩ := allRd_at 5 hk (derr_ok h).2.2.2
    rw [hx]
    show (x : Int) < _
    unfold rdF at hx
    split at hx
    · split at hx
      · injection hx with hx; omega
      · cases hx
    · obtain ⟨h1, _⟩ := (parse_iff (bs_2 k).1 (bs_2 k).2).1 hx
      rw [part_length hl k hk] at h1
      have h2 := lt_pow (bs_2 k).1 x
      have h3 : bs k ^ nd (bs k) x ≤ 10 ^ 18 := Nat.le_trans (Nat.pow_le_pow_left (bs_2 k).2 _) (Nat.pow_le_pow_right (by omega) (Nat.le_trans h1 (wd_18 k).2))
      have h4 : (10 : Nat) ^ 18 < 9223372036854775808 := by decide +kernel
      omega
  · omega

set_option maxRecDepth 100000 in
set_option maxHeartbeats 2000000 in
theorem bad_ (w : World) (A : Option Addr) (n c : Nat) (l : List UInt8) (hr : Rd w w.heap.size A n l) (hc : n ≤ c) (hn : n ≤ 1000) (h0 : derr l ≠ 0) :
    Calls Tryd.prog 5 #[.slice A n c] w fun e w' => e = .returned (.bool true) ∧ Below w.heap.size w w' := by
  have hne : (derr l != 0) = true := by simpa using h0
  have e1 : dname l = ⟨#[]⟩ := if_neg h0
  have e2 : ∀ k, dnum l k = 0 := fun k => if_neg h0
  have HE := hid (And.intro e1 e2)
  clear h0 e1 e2
  go_enter Tryd.func5, Tryd.ntmps5
  go_wp2_with fail
  refine (awake_any _).mono ?_
  rintro e w1 ⟨rfl, hb1⟩
  go_wp2_with fail
  refine (decode_any _ A n c l w1 (hr.below hb1) hb1.size hc).mono ?_
  rintro e w2 ⟨rfl, hb2⟩
  rw [HE.out.1, HE.out.2, HE.out.2, HE.out.2, HE.out.2, HE.out.2]
  have Hb2 := hid (hb1.trans (hb2.mono hb1.size))
  generalize derr l = E at *
  go_wp2_with fail
  go_ret
  exact ⟨rfl, Hb2.out.trans ((Below.refl _ _).alloc Hb2.out.size _)⟩

set_option maxRecDepth 100000 in
set_option maxHeartbeats 2000000 in
theorem good (w : World) (A : Option Addr) (n c : Nat) (l : List UInt8) (hr : Rd w w.heap.size A n l) (hc : n ≤ c) (hn : n ≤ 1000) (h0 : derr l = 0) :
    Calls Tryd.prog 5 #[.slice A n c] w fun e w' => e = .returned (.bool true) ∧ Below w.heap.size w w' := by
  have hl := (derr_ok h0).1
  have hn60 : 60 ≤ n := by rw [← hr.1]; exact hl
  have hnm := nm_size l
  have e1 : dname l = nm l := if_pos h0
  have he := enc_dec h0 (num (dnum l 0) (dnum l 1) (dnum l 2) (dnum l 3) (dnum l 4)) (fun k hk => by
    have h5 : k = 0 ∨ k = 1 ∨ k = 2 ∨ k = 3 ∨ k = 4 := by omega
    rcases h5 with rfl | rfl | rfl | rfl | rfl <;> rfl)
  have HE := hid fun w' => encode_rd (nm l) (dnum l 0) (dnum l 1) (dnum l 2) (dnum l 3) (dnum l 4) 0 _ he w' (by omega) (dnum_lt l 0 hl (by omega)) (dnum_lt l 1 hl (by omega)) (dnum_lt l 2 hl (by omega)) (dnum_lt l 3 hl (by omega)) (dnum_lt l 4 hl (by omega))
  have hlen : (l.take 60).length = 60 := by rw [List.length_take]; omega
  rw [hlen] at HE
  have H0 := hid (And.intro h0 e1)
  clear h0 e1 he hlen hl
  go_enter Tryd.func5, Tryd.ntmps5
  go_wp2_with fail
  refine (awake_any _).mono ?_
  rintro e w1 ⟨rfl, hb1⟩
  go_wp2_with fail
  refine (decode_any _ A n c l w1 (hr.below hb1) hb1.size hc).mono ?_
  rintro e w2 ⟨rfl, hb2⟩
  rw [H0.out.1, H0.out.2]
  have hb02 := hb1.trans (hb2.mono hb1.size)
  have hb2d := hb02.alloc hb02.size (.cells #[.string (nm l), .int .i64 (dnum l 0), .int .i64 (dnum l 1), .int .i64 (dnum l 2), .int .i64 (dnum l 3), .int .i64 (dnum l 4)] 29)
  have Hb2d := hid hb2d
  clear hb1 hb2 hb02 hb2d
  go_wp2_with fail
  refine (HE.out _).mono ?_
  rintro e w3 ⟨A3, c3, rfl, _, hr3, hc3, _, hb3⟩
  have hbF := Hb2d.out.trans (hb3.mono Hb2d.out.size)
  have hrF := (hr.below hbF).pre hn60
  have Hs := hid (same_any _ rfl _ _ A3 A 60 c3 60 c (l.take 60) (l.take 60) w3 hr3 hrF (by omega))
  have Hbf := hid hbF
  clear hbF hrF hr3 hb3
  have hself : (l.take 60 == l.take 60) = true := by simp
  go_wp2_with fail
  refine Hs.out.mono ?_
  rintro e w4 ⟨rfl, m4, rfl⟩
  go_wp2_with fail
  go_ret
  exact ⟨ret_bool (by simp), Hbf.out.trans (below_drewN _ _)⟩

theorem walk (w : World) (A : Option Addr) (n c : Nat) (l : List UInt8) (hr : Rd w w.heap.size A n l) (hc : n ≤ c) (_ : c ≤ maxLen) :
    Calls Tryd.prog 5 #[.slice A n c] w fun e w' => e = .returned (.bool true) ∧ Below w.heap.size w w' := by
  by_cases h : 1000 < n
  · exact long w A n c h
  · by_cases h0 : derr l = 0
    · exact good w A n c l hr hc (by omega) h0
    · exact bad_ w A n c l hr hc (by omega) h0

set_option maxRecDepth 100000 in
theorem held : Rows.HeaderUniqueSaid :=
  OpenClaim.holds_of_wide 5 Tryd.f5 rfl rfl rfl rfl rfl rfl rfl ⟨rfl, rfl, rfl, rfl, rfl⟩ rfl rfl rfl rfl rfl (by kernel_rfl) Tryd.func5 (by kernel_rfl)
    (of_decide_eq_true (by kernel_rfl)) (by unfold Func.isWrapper; first | (rw [if_pos (by decide +kernel)]; kernel_rfl) | (rw [if_neg (by decide +kernel)]; exact ⟨rfl, rfl⟩))
    (fun os started H enc _ => liftedL (started := started) (s := Rows.headerUniqueSpec) (L := Rows.headerUniqueRow.laid) rfl
      (fun ds h => by match ds, h with | [_], _ => rfl) (by kernel_rfl)
      (by kernel_rfl) (by kernel_rfl) Tryd.func5
      (ChangeSpec.witness_shaped (enc := enc) (C := Tryd.checked) (os := os) (X := fun w _ => laidMetH Tryd.prog Rows.headerUniqueRow.laid w) false (World.laidAll Tryd.prog os Rows.headerUniqueRow.laid) #[.slice none 0 0] 8 (World.laidAll_os _ _ _)
        (World.shaped_of_ZipB (by kernel_rfl) (by kernel_rfl)) (by kernel_rfl) (by kernel_rfl) (by kernel_rfl)
        (by rw [MakeChecks.laidMetH_plain _ _ _ (by kernel_rfl)]; exact laidMet_laidAll _ (by kernel_rfl) (by kernel_rfl)))
      (fun W base args ds p h => by
        obtain ⟨hval, hA, _⟩ := h
        rw [show Tryd.f5.params = #[24] from by kernel_rfl] at hA hval
        obtain ⟨v0, vs0, d0, ds0, p0, q0, hargs, rfl, rfl, k0, r0⟩ := trodAll_cons hA
        obtain ⟨rfl, rfl, rfl⟩ := trodAll_nil r0
        obtain rfl : args = #[v0] := by cases args; simp_all
        obtain ⟨A0, n0, c0, l0, rfl, h0, m0, g0⟩ := open_bytes (hval 0 _ v0 rfl rfl) k0
        exact walk W A0 n0 c0 l0 h0 m0 g0))
theorem proved : Rows.HeaderUniqueCardSaid :=
  Claim7.holds_tied_plain_at .later [] [.data, .pinned] true (true, "d5bb88d666a0ddbc7d8d42f7e1c20e6606744885cb37ad28ad43a1740443c5c0") false held (fun _ h => by cases h) (by kernel_rfl) (fun _ h => by cases h) headerUnique_row_tie rfl ⟨rfl, rfl⟩ (by kernel_rfl) rfl
    (fun f fn hf hfn => by
      obtain rfl : f = 5 := Option.some.inj ((show Tryd.prog.funcNamed "arlink/arlinklaw02.HeaderUnique" = some 5 by kernel_rfl).symm.trans hf) |>.symm
      obtain rfl : fn = Tryd.f5 := (Option.some.inj (Tryd.func5.symm.trans hfn)).symm
      exact ⟨by kernel_rfl, fun j t ht => by
        rw [Tryd.params5] at ht
        have hm : t ∈ [24] := by simpa using Array.mem_of_getElem? ht
        have hall : ([24].all fun u => !Tryd.prog.wantsStandIn u) = true := by kernel_rfl
        exact (show Tryd.prog.wantsStandIn t = false by simpa using List.all_eq_true.1 hall t hm)⟩)
    (by kernel_rfl)
#print axioms proved
end Go.Proofs.YtfhdgbpkhcnanaaDoor.Unique
