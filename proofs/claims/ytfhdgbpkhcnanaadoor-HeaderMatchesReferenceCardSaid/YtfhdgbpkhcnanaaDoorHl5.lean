/-
  HeaderMatchesReference: for every header and every byte slice, all functions return what the reference returns: no condition.
-/
import Derived.Test.YtfhdgbpkhcnanaaDoorHma
import Derived.Test.YtfhdgbpkhcnanaaDoorHrd
import Derived.Test.YtfhdgbpkhcnanaaDoorHrg
import Derived.Test.YtfhdgbpkhcnanaaDoorLwc
import Derived.Test.YtfhdgbpkhcnanaaDoorCards
import Derived.Deep.RegionHeld3
namespace Go.Proofs.YtfhdgbpkhcnanaaDoor.Matches
open Go.ChangeShapes Go.WideShapes Go.ChangeAt Go.RowKit Go.Proofs Go.Proofs.YtfhdgbpkhcnanaaDoor.Byt Go.Proofs.YtfhdgbpkhcnanaaDoor.Str Go.Proofs.YtfhdgbpkhcnanaaDoor.Dec Go.Proofs.YtfhdgbpkhcnanaaDoor.Hdr Go.Proofs.YtfhdgbpkhcnanaaDoor.Frame

/-- A cell behind a call that has turned nothing old. -/
theorem cell_keep {W W1 : World} {p : Addr} {v : Value} (hb : Below W.heap.size W W1) (h : W.cell? p = some v) : W1.cell? p = some v := by
  rw [hb.cell (World.block_lt_of_cell? W p h)]; exact h
theorem same_self (K K' : Nat) (A A' : Option Addr) (n c c' : Nat) (X : List UInt8) (W : World) (h : Rd W K A n X) (h' : Rd W K' A' n X) (hn : n ≤ 140737488355328) :
    Calls Tryd.prog 14 #[.slice A n c, .slice A' n c'] W fun e W' => e = .returned (.bool true) ∧ ∃ m, W' = W.drewN m := by
  refine (same_any _ rfl K K' A A' n c n c' X X W h h' hn).mono ?_
  rintro e W' ⟨he, m, hm⟩
  exact ⟨by rw [he]; simp, m, hm⟩
theorem below_of_drew {W W1 : World} {m : Nat} (h : W1 = W.drewN m) : Below W.heap.size W W1 := by
  subst h; exact below_drewN _ _
theorem below_keep {w0 W W1 : World} (h : Below w0.heap.size w0 W) (hb : Below W.heap.size W W1) : Below w0.heap.size w0 W1 := h.trans (hb.mono h.size)

/-- The argument boxed. -/
def hbox (s : ByteArray) (t u g m z : Int) : Obj := .cells #[.string s, .int .i64 t, .int .i64 u, .int .i64 g, .int .i64 m, .int .i64 z] 23

set_option maxRecDepth 100000 in
theorem long1 (w : World) (s : ByteArray) (t u g m z : Int) (hs : s.size ≤ maxLen) (A : Option Addr) (n c : Nat) (h : 100 < s.size) :
    Calls Tryd.prog 3 #[.agg #[.string s, .int .i64 t, .int .i64 u, .int .i64 g, .int .i64 m, .int .i64 z], .slice A n c] w fun e w' => e = .returned (.bool true) ∧ Below w.heap.size w w' := by
  unfold maxLen at hs
  have Hb0 := hid ((Below.refl w.heap.size w).alloc (Nat.le_refl _) (hbox s t u g m z))
  unfold hbox at Hb0
  go_enter Tryd.func3, Tryd.ntmps3
  go_wp2_with fail
  refine (awake_any _).mono ?_
  rintro e w1 ⟨rfl, hb1⟩
  have k1 := stays (B := w.heap.size) hb1 (by simp)
  go_wp2_with fail
  refine (awake_any _).mono ?_
  rintro e w2 ⟨rfl, hb2⟩
  go_wp2_with fail
  go_ret
  exact ⟨rfl, (Hb0.out.trans (hb1.mono (by simp))).trans (hb2.mono (Nat.le_trans (by simp) hb1.size))⟩

set_option maxRecDepth 100000 in
theorem long2 (w : World) (s : ByteArray) (t u g m z : Int) (hs : s.size ≤ maxLen) (A : Option Addr) (n c : Nat) (h0 : ¬ 100 < s.size) (h : 1000 < n) :
    Calls Tryd.prog 3 #[.agg #[.string s, .int .i64 t, .int .i64 u, .int .i64 g, .int .i64 m, .int .i64 z], .slice A n c] w fun e w' => e = .returned (.bool true) ∧ Below w.heap.size w w' := by
  unfold maxLen at hs
  have Hb0 := hid ((Below.refl w.heap.size w).alloc (Nat.le_refl _) (hbox s t u g m z))
  unfold hbox at Hb0
  go_enter Tryd.func3, Tryd.ntmps3
  go_wp2_with fail
  refine (awake_any _).mono ?_
  rintro e w1 ⟨rfl, hb1⟩
  have k1 := stays (B := w.heap.size) hb1 (by simp)
  go_wp2_with fail
  refine (awake_any _).mono ?_
  rintro e w2 ⟨rfl, hb2⟩
  go_wp2_with fail
  go_ret
  exact ⟨rfl, (Hb0.out.trans (hb1.mono (by simp))).trans (hb2.mono (Nat.le_trans (by simp) hb1.size))⟩

/-- What the loads read, behind a call that has turned nothing old. -/
theorem keep_all {w0 W W1 : World} {B C D : Nat} {s dn : ByteArray} {t u g m z x0 x1 x2 x3 x4 : Int} (h : W.cell? ⟨B, 0, none⟩ = some (.string s) ∧ W.cell? ⟨B, 1, none⟩ = some (.int .i64 t) ∧ W.cell? ⟨B, 2, none⟩ = some (.int .i64 u) ∧ W.cell? ⟨B, 3, none⟩ = some (.int .i64 g) ∧ W.cell? ⟨B, 4, none⟩ = some (.int .i64 m) ∧ W.cell? ⟨B, 5, none⟩ = some (.int .i64 z) ∧ W.cell? ⟨C, 0, none⟩ = some (.string dn) ∧ W.cell? ⟨C, 1, none⟩ = some (.int .i64 x0) ∧ W.cell? ⟨C, 2, none⟩ = some (.int .i64 x1) ∧ W.cell? ⟨C, 3, none⟩ = some (.int .i64 x2) ∧ W.cell? ⟨C, 4, none⟩ = some (.int .i64 x3) ∧ W.cell? ⟨C, 5, none⟩ = some (.int .i64 x4) ∧ W.cell? ⟨D, 0, none⟩ = some (.string dn) ∧ W.cell? ⟨D, 1, none⟩ = some (.int .i64 x0) ∧ W.cell? ⟨D, 2, none⟩ = some (.int .i64 x1) ∧ W.cell? ⟨D, 3, none⟩ = some (.int .i64 x2) ∧ W.cell? ⟨D, 4, none⟩ = some (.int .i64 x3) ∧ W.cell? ⟨D, 5, none⟩ = some (.int .i64 x4) ∧ Below w0.heap.size w0 W) (hb : Below W.heap.size W W1) :
    W1.cell? ⟨B, 0, none⟩ = some (.string s) ∧ W1.cell? ⟨B, 1, none⟩ = some (.int .i64 t) ∧ W1.cell? ⟨B, 2, none⟩ = some (.int .i64 u) ∧ W1.cell? ⟨B, 3, none⟩ = some (.int .i64 g) ∧ W1.cell? ⟨B, 4, none⟩ = some (.int .i64 m) ∧ W1.cell? ⟨B, 5, none⟩ = some (.int .i64 z) ∧ W1.cell? ⟨C, 0, none⟩ = some (.string dn) ∧ W1.cell? ⟨C, 1, none⟩ = some (.int .i64 x0) ∧ W1.cell? ⟨C, 2, none⟩ = some (.int .i64 x1) ∧ W1.cell? ⟨C, 3, none⟩ = some (.int .i64 x2) ∧ W1.cell? ⟨C, 4, none⟩ = some (.int .i64 x3) ∧ W1.cell? ⟨C, 5, none⟩ = some (.int .i64 x4) ∧ W1.cell? ⟨D, 0, none⟩ = some (.string dn) ∧ W1.cell? ⟨D, 1, none⟩ = some (.int .i64 x0) ∧ W1.cell? ⟨D, 2, none⟩ = some (.int .i64 x1) ∧ W1.cell? ⟨D, 3, none⟩ = some (.int .i64 x2) ∧ W1.cell? ⟨D, 4, none⟩ = some (.int .i64 x3) ∧ W1.cell? ⟨D, 5, none⟩ = some (.int .i64 x4) ∧ Below w0.heap.size w0 W1 := by
  obtain ⟨h0, h1, h2, h3, h4, h5, h6, h7, h8, h9, h10, h11, h12, h13, h14, h15, h16, h17, h18⟩ := h
  exact ⟨cell_keep hb h0, cell_keep hb h1, cell_keep hb h2, cell_keep hb h3, cell_keep hb h4, cell_keep hb h5, cell_keep hb h6, cell_keep hb h7, cell_keep hb h8, cell_keep hb h9, cell_keep hb h10, cell_keep hb h11, cell_keep hb h12, cell_keep hb h13, cell_keep hb h14, cell_keep hb h15, cell_keep hb h16, cell_keep hb h17, below_keep h18 hb⟩
theorem held_below {w0 W : World} {B C D : Nat} {s dn : ByteArray} {t u g m z x0 x1 x2 x3 x4 : Int} (h : W.cell? ⟨B, 0, none⟩ = some (.string s) ∧ W.cell? ⟨B, 1, none⟩ = some (.int .i64 t) ∧ W.cell? ⟨B, 2, none⟩ = some (.int .i64 u) ∧ W.cell? ⟨B, 3, none⟩ = some (.int .i64 g) ∧ W.cell? ⟨B, 4, none⟩ = some (.int .i64 m) ∧ W.cell? ⟨B, 5, none⟩ = some (.int .i64 z) ∧ W.cell? ⟨C, 0, none⟩ = some (.string dn) ∧ W.cell? ⟨C, 1, none⟩ = some (.int .i64 x0) ∧ W.cell? ⟨C, 2, none⟩ = some (.int .i64 x1) ∧ W.cell? ⟨C, 3, none⟩ = some (.int .i64 x2) ∧ W.cell? ⟨C, 4, none⟩ = some (.int .i64 x3) ∧ W.cell? ⟨C, 5, none⟩ = some (.int .i64 x4) ∧ W.cell? ⟨D, 0, none⟩ = some (.string dn) ∧ W.cell? ⟨D, 1, none⟩ = some (.int .i64 x0) ∧ W.cell? ⟨D, 2, none⟩ = some (.int .i64 x1) ∧ W.cell? ⟨D, 3, none⟩ = some (.int .i64 x2) ∧ W.cell? ⟨D, 4, none⟩ = some (.int .i64 x3) ∧ W.cell? ⟨D, 5, none⟩ = some (.int .i64 x4) ∧ Below w0.heap.size w0 W) : Below w0.heap.size w0 W := by
  obtain ⟨_, _, _, _, _, _, _, _, _, _, _, _, _, _, _, _, _, _, hZ⟩ := h
  exact hZ

/-- The bytes that were encoded, ready to be read. -/
theorem encodes_rd {s : ByteArray} {f : Nat → Int} {w w' : World} {e : Ending} (h : Encodes s f w e w') :
    ∃ A c, e = .returned (.tuple #[.slice A (eout s f).length c, .int .i64 (eerr s f)]) ∧ Rd w' w'.heap.size A (eout s f).length (eout s f) ∧ Below w.heap.size w w' := by
  obtain ⟨v, h1, h2, h3⟩ := h
  obtain ⟨A, c, rfl, hr, _, _⟩ := h2.reads
  exact ⟨A, c, h1, hr, h3⟩

set_option maxRecDepth 100000 in
set_option maxHeartbeats 8000000 in
theorem main (w : World) (s : ByteArray) (t u g m z : Int) (hs : s.size ≤ 100) (l0 : t < 9223372036854775808) (l1 : u < 9223372036854775808) (l2 : g < 9223372036854775808) (l3 : m < 9223372036854775808) (l4 : z < 9223372036854775808) (A : Option Addr) (n c : Nat) (l : List UInt8) (hr : Rd w w.heap.size A n l) (hc : n ≤ c) (hn : n ≤ 1000) :
    Calls Tryd.prog 3 #[.agg #[.string s, .int .i64 t, .int .i64 u, .int .i64 g, .int .i64 m, .int .i64 z], .slice A n c] w fun e w' => e = .returned (.bool true) ∧ Below w.heap.size w w' := by
  have Hb0 := hid ((Below.refl w.heap.size w).alloc (Nat.le_refl _) (hbox s t u g m z))
  unfold hbox at Hb0
  have HE := hid fun w' => encode_any s t u g m z w' (by omega) l0 l1 l2 l3 l4
  have HR := hid fun w' => rencode_any s t u g m z w' (by omega) l0 l1 l2 l3 l4
  have HF := hid fun w' => fits_any s t u g m z w' (by omega) l0 l1 l2 l3 l4
  have hX := eout_length s (num t u g m z)
  have Hr := hid (hr.below Hb0.out)
  clear l0 l1 l2 l3 l4 hr
  go_enter Tryd.func3, Tryd.ntmps3
  go_wp2_with fail
  refine (awake_any _).mono ?_
  rintro e w1 ⟨rfl, hb1⟩
  have k1 := stays (B := w.heap.size) hb1 (by simp)
  have hat := (HAt.new w s t u g m z 23).below hb1 (by simp)
  have Hb1 := hid (Hb0.out.trans (hb1.mono (by simp)))
  have hz1 : w.heap.size < w1.heap.size := Nat.lt_of_lt_of_le (by simp) hb1.size
  have Hr1 := hid (Hr.out.below (hb1.mono (by simp)))
  have Hat := hid hat
  clear Hb0 hb1 Hr hat
  go_wp2_with fail
  refine (forward_any _ _ _ _ _ _ _).mono ?_
  rintro e w2 ⟨rfl, hb2⟩
  go_wp2_with fail
  refine (HE.out _).mono ?_
  intro e w3 hE
  obtain ⟨A3, c3, rfl, r3, hb3⟩ := encodes_rd hE
  clear hE
  have g3 := hb2.trans (hb3.mono hb2.size)
  have k3 := stays g3 hz1
  go_wp2_with fail
  refine (HR.out _).mono ?_
  intro e w4 hE
  obtain ⟨A4, c4, rfl, r4, hb4⟩ := encodes_rd hE
  clear hE
  have g4 := g3.trans (hb4.mono g3.size)
  go_wp2_with fail
  refine (decode_any _ A n c l w4 ((Hr1.out.below (g4.mono (Nat.le_of_lt hz1))).more (Nat.le_trans (Nat.le_of_lt hz1) g4.size)) (Nat.le_refl _) hc).mono ?_
  rintro e w5 ⟨rfl, hb5⟩
  have g5 := g4.trans (hb5.mono g4.size)
  have hz5 : w.heap.size < w5.heap.size := Nat.lt_of_lt_of_le hz1 g5.size
  have Hd := hid (HAt.new w5 (dname l) (dnum l 0) (dnum l 1) (dnum l 2) (dnum l 3) (dnum l 4) 29)
  go_wp2_with fail
  have g5d := g5.alloc g5.size (.cells #[.string (dname l), .int .i64 (dnum l 0), .int .i64 (dnum l 1), .int .i64 (dnum l 2), .int .i64 (dnum l 3), .int .i64 (dnum l 4)] 29)
  have hb5d := (Below.refl w5.heap.size w5).alloc (Nat.le_refl _) (.cells #[.string (dname l), .int .i64 (dnum l 0), .int .i64 (dnum l 1), .int .i64 (dnum l 2), .int .i64 (dnum l 3), .int .i64 (dnum l 4)] 29)
  refine (rdecode_any _ A n c l _ ((Hr1.out.below (g5d.mono (Nat.le_of_lt hz1))).more (Nat.le_trans (Nat.le_of_lt hz1) g5d.size)) (Nat.le_refl _) hc).mono ?_
  rintro e w6 ⟨rfl, hb6⟩
  have g6 := g5d.trans (hb6.mono g5d.size)
  have hz6 : w.heap.size < w6.heap.size := Nat.lt_of_lt_of_le hz1 g6.size
  have hz56 : w5.heap.size < w6.heap.size := Nat.lt_of_lt_of_le (by simp) hb6.size
  have h46 := (hb5.trans (hb5d.mono hb5.size)).trans (hb6.mono (Nat.le_trans hb5.size hb5d.size))
  have R3 := hid (((r3.below hb4).more hb4.size).below h46 |>.more h46.size)
  have R4 := hid ((r4.below h46).more h46.size)
  obtain ⟨p0, p1, p2, p3, p4, p5, _⟩ := Hat.out.below g6 hz1
  obtain ⟨q0, q1, q2, q3, q4, q5, _⟩ := Hd.out.below hb6 (by simp)
  have HS := hid fun W (hb : Below w6.heap.size w6 W) => same_self _ _ A3 A4 _ c3 c4 _ W (R3.out.below hb) (R4.out.below hb) (by omega)
  have Hb6 := hid (Hb1.out.trans (g6.mono (Nat.le_of_lt hz1)))
  obtain ⟨n0, n1, n2, n3, n4, n5, _⟩ := HAt.new w6 (dname l) (dnum l 0) (dnum l 1) (dnum l 2) (dnum l 3) (dnum l 4) 23
  have hbX0 := ((Below.refl w6.heap.size w6).alloc (Nat.le_refl _) (.cells #[.string (dname l), .int .i64 (dnum l 0), .int .i64 (dnum l 1), .int .i64 (dnum l 2), .int .i64 (dnum l 3), .int .i64 (dnum l 4)] 23)).drew
  clear hb2 hb3 hb4 hb5 hb6 hb5d g3 g4 g5 g5d g6 h46 r3 r4 k1 k3
  go_wp2_with fail
  go_region_held3 (fun W' => W'.cell? ⟨w.heap.size, 0, none⟩ = some (.string s) ∧ W'.cell? ⟨w.heap.size, 1, none⟩ = some (.int .i64 t) ∧ W'.cell? ⟨w.heap.size, 2, none⟩ = some (.int .i64 u) ∧ W'.cell? ⟨w.heap.size, 3, none⟩ = some (.int .i64 g) ∧ W'.cell? ⟨w.heap.size, 4, none⟩ = some (.int .i64 m) ∧ W'.cell? ⟨w.heap.size, 5, none⟩ = some (.int .i64 z) ∧ W'.cell? ⟨w5.heap.size, 0, none⟩ = some (.string (dname l)) ∧ W'.cell? ⟨w5.heap.size, 1, none⟩ = some (.int .i64 (dnum l 0)) ∧ W'.cell? ⟨w5.heap.size, 2, none⟩ = some (.int .i64 (dnum l 1)) ∧ W'.cell? ⟨w5.heap.size, 3, none⟩ = some (.int .i64 (dnum l 2)) ∧ W'.cell? ⟨w5.heap.size, 4, none⟩ = some (.int .i64 (dnum l 3)) ∧ W'.cell? ⟨w5.heap.size, 5, none⟩ = some (.int .i64 (dnum l 4)) ∧ W'.cell? ⟨w6.heap.size, 0, none⟩ = some (.string (dname l)) ∧ W'.cell? ⟨w6.heap.size, 1, none⟩ = some (.int .i64 (dnum l 0)) ∧ W'.cell? ⟨w6.heap.size, 2, none⟩ = some (.int .i64 (dnum l 1)) ∧ W'.cell? ⟨w6.heap.size, 3, none⟩ = some (.int .i64 (dnum l 2)) ∧ W'.cell? ⟨w6.heap.size, 4, none⟩ = some (.int .i64 (dnum l 3)) ∧ W'.cell? ⟨w6.heap.size, 5, none⟩ = some (.int .i64 (dnum l 4)) ∧ Below w6.heap.size w6 W')
    (first | exact ⟨cell_keep hbX0 p0, cell_keep hbX0 p1, cell_keep hbX0 p2, cell_keep hbX0 p3, cell_keep hbX0 p4, cell_keep hbX0 p5, cell_keep hbX0 q0, cell_keep hbX0 q1, cell_keep hbX0 q2, cell_keep hbX0 q3, cell_keep hbX0 q4, cell_keep hbX0 q5, n0, n1, n2, n3, n4, n5, hbX0⟩ | exact keep_all (by assumption) hbX)
    (first
      | (go_at_call 14; refine (HS.out _ (by assumption)).mono ?_; rintro e w' ⟨rfl, m', hm'⟩; have hbX := below_of_drew hm'; clear hm')
      | (go_at_call 10; refine (forward_any _ _ _ _ _ _ _).mono ?_; rintro e w' ⟨rfl, hbX⟩)
      | (go_at_call 15; refine (HF.out _).mono ?_; rintro e w' ⟨rfl, hbX⟩))
  rename_i hh
  have hZ := held_below hh
  have hF := Hb6.out.trans (hZ.mono (Nat.le_of_lt hz6))
  clear hh hZ hbX hbX0 n0 n1 n2 n3 n4 n5 p0 p1 p2 p3 p4 p5 q0 q1 q2 q3 q4 q5
  go_wp2
  go_ret
  exact ⟨by first | rfl | exact ret_bool (by simp), hF⟩

theorem walk (w : World) (s : ByteArray) (t u g m z : Int) (hs : s.size ≤ maxLen) (l0 : t < 9223372036854775808) (l1 : u < 9223372036854775808) (l2 : g < 9223372036854775808) (l3 : m < 9223372036854775808) (l4 : z < 9223372036854775808) (A : Option Addr) (n c : Nat) (r : List UInt8) (hr : Rd w w.heap.size A n r) (hc : n ≤ c) (_ : c ≤ maxLen) :
    Calls Tryd.prog 3 #[.agg #[.string s, .int .i64 t, .int .i64 u, .int .i64 g, .int .i64 m, .int .i64 z], .slice A n c] w fun e w' => e = .returned (.bool true) ∧ Below w.heap.size w w' := by
  by_cases h1 : 100 < s.size
  · exact long1 w s t u g m z hs A n c h1
  · by_cases h2 : 1000 < n
    · exact long2 w s t u g m z hs A n c h1 h2
    · exact main w s t u g m z (by omega) l0 l1 l2 l3 l4 A n c r hr hc (by omega)

set_option maxRecDepth 100000 in
theorem held : Rows.HeaderMatchesReferenceSaid :=
  OpenClaim.holds_of_wide 3 Tryd.f3 rfl rfl rfl rfl rfl rfl rfl ⟨rfl, rfl, rfl, rfl, rfl⟩ rfl rfl rfl rfl rfl (by kernel_rfl) Tryd.func3 (by kernel_rfl)
    (of_decide_eq_true (by kernel_rfl)) (by unfold Func.isWrapper; first | (rw [if_pos (by decide +kernel)]; kernel_rfl) | (rw [if_neg (by decide +kernel)]; exact ⟨rfl, rfl⟩))
    (fun os started H enc _ => liftedL (started := started) (s := Rows.headerMatchesReferenceSpec) (L := Rows.headerMatchesReferenceRow.laid) rfl
      (fun ds h => by match ds, h with | [_, _], _ => rfl) (by kernel_rfl)
      (by kernel_rfl) (by kernel_rfl) Tryd.func3
      (ChangeSpec.witness_shaped (enc := enc) (C := Tryd.checked) (os := os) (X := fun w _ => laidMetH Tryd.prog Rows.headerMatchesReferenceRow.laid w) false (World.laidAll Tryd.prog os Rows.headerMatchesReferenceRow.laid) #[.agg #[.string ⟨#[]⟩, .int .i64 0, .int .i64 0, .int .i64 0, .int .i64 0, .int .i64 0], .slice none 0 0] 8 (World.laidAll_os _ _ _)
        (World.shaped_of_ZipB (by kernel_rfl) (by kernel_rfl)) (by kernel_rfl) (by kernel_rfl) (by kernel_rfl)
        (by rw [MakeChecks.laidMetH_plain _ _ _ (by kernel_rfl)]; exact laidMet_laidAll _ (by kernel_rfl) (by kernel_rfl)))
      (fun W base args ds p h => by
        obtain ⟨hval, hA, _⟩ := h
        rw [show Tryd.f3.params = #[23, 24] from by kernel_rfl] at hA hval
        obtain ⟨v0, vs0, d0, ds0, p0, q0, hargs, rfl, rfl, k0, r0⟩ := trodAll_cons hA
        obtain ⟨v1, vs1, d1, ds1, p1, q1, rfl, rfl, rfl, k1, r1⟩ := trodAll_cons r0
        obtain ⟨rfl, rfl, rfl⟩ := trodAll_nil r1
        obtain rfl : args = #[v0, v1] := by cases args; simp_all
        obtain ⟨s0, a0, b0, c0, d0, e0, rfl, h0, i0, j0, k0, l0, m0⟩ := open_hdr (hval 0 _ v0 rfl rfl) k0
        obtain ⟨A1, n1, c1, l1, rfl, h1, m1, g1⟩ := open_bytes (hval 1 _ v1 rfl rfl) k1
        exact walk W s0 a0 b0 c0 d0 e0 h0 i0 j0 k0 l0 m0 A1 n1 c1 l1 h1 m1 g1))
theorem proved : Rows.HeaderMatchesReferenceCardSaid :=
  Claim7.holds_tied_plain_at .later [] [.data, .pinned] true (true, "d5bb88d666a0ddbc7d8d42f7e1c20e6606744885cb37ad28ad43a1740443c5c0") false held (fun _ h => by cases h) (by kernel_rfl) (fun _ h => by cases h) headerMatchesReference_row_tie rfl ⟨rfl, rfl⟩ (by kernel_rfl) rfl
    (fun f fn hf hfn => by
      obtain rfl : f = 3 := Option.some.inj ((show Tryd.prog.funcNamed "arlink/arlinklaw02.HeaderMatchesReference" = some 3 by kernel_rfl).symm.trans hf) |>.symm
      obtain rfl : fn = Tryd.f3 := (Option.some.inj (Tryd.func3.symm.trans hfn)).symm
      exact ⟨by kernel_rfl, fun j t ht => by
        rw [Tryd.params3] at ht
        have hm : t ∈ [23, 24] := by simpa using Array.mem_of_getElem? ht
        have hall : ([23, 24].all fun u => !Tryd.prog.wantsStandIn u) = true := by kernel_rfl
        exact (show Tryd.prog.wantsStandIn t = false by simpa using List.all_eq_true.1 hall t hm)⟩)
    (by kernel_rfl)
#print axioms proved

end Go.Proofs.YtfhdgbpkhcnanaaDoor.Matches
