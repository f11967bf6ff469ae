/-
  awake of the laws of header: it answers true.
-/
import Derived.Test.YtfhdgbpkhcnanaaDoorHdg
import Derived.Test.YtfhdgbpkhcnanaaDoorHdm
namespace Go.Proofs.YtfhdgbpkhcnanaaDoor.Hdr
open Go.RowKit Go.Proofs Go.Proofs.YtfhdgbpkhcnanaaDoor.Byt Go.Proofs.YtfhdgbpkhcnanaaDoor.Str Go.Proofs.YtfhdgbpkhcnanaaDoor.Dec

/-- The two headers that are written out. -/
def textA : List UInt8 := [97, 47] ++ List.replicate 14 32 ++ [48] ++ List.replicate 11 32 ++ [48] ++ List.replicate 5 32 ++ [48] ++ List.replicate 5 32 ++ [48] ++ List.replicate 7 32 ++ [48] ++ List.replicate 9 32 ++ [96, 10]
def textT : List UInt8 := [47, 47] ++ List.replicate 14 32 ++ List.replicate 32 32 ++ [55] ++ List.replicate 9 32 ++ [96, 10]
theorem encA : eerr ⟨#[97, 47]⟩ (num 0 0 0 0 0) = 0 ∧ eout ⟨#[97, 47]⟩ (num 0 0 0 0 0) = textA := by decide +kernel
theorem encT : eerr ⟨#[47, 47]⟩ (num 0 0 0 0 7) = 0 ∧ eout ⟨#[47, 47]⟩ (num 0 0 0 0 7) = textT := by decide +kernel
theorem encM : eerr ⟨#[47, 47]⟩ (num 0 0 0 7 0) = 9 := by decide +kernel
theorem encE : eerr ⟨#[]⟩ (num 0 0 0 0 0) = 6 := by decide +kernel
theorem decA : derr textA = 0 ∧ dname textA = ⟨#[97, 47]⟩ ∧ dnum textA 0 = 0 ∧ dnum textA 1 = 0 ∧ dnum textA 2 = 0 ∧ dnum textA 3 = 0 ∧ dnum textA 4 = 0 := by decide +kernel

theorem lookA : (textA == [97, 47, 32, 32, 32, 32, 32, 32, 32, 32, 32, 32, 32, 32, 32, 32, 48, 32, 32, 32, 32, 32, 32, 32, 32, 32, 32, 32, 48, 32, 32, 32, 32, 32, 48, 32, 32, 32, 32, 32, 48, 32, 32, 32, 32, 32, 32, 32, 48, 32, 32, 32, 32, 32, 32, 32, 32, 32, 96, 10]) = true := by decide +kernel
theorem lookT : (textT == [47, 47, 32, 32, 32, 32, 32, 32, 32, 32, 32, 32, 32, 32, 32, 32, 32, 32, 32, 32, 32, 32, 32, 32, 32, 32, 32, 32, 32, 32, 32, 32, 32, 32, 32, 32, 32, 32, 32, 32, 32, 32, 32, 32, 32, 32, 32, 32, 55, 32, 32, 32, 32, 32, 32, 32, 32, 32, 96, 10]) = true := by decide +kernel

/-- Encode, its bytes ready to be read. -/
theorem encode_rd (s : ByteArray) (t u g m z : Int) (e0 : Int) (l : List UInt8) (he : eerr s (num t u g m z) = e0 ∧ eout s (num t u g m z) = l) (w : World) (hs : s.size ≤ 140737488355328) (l0 : t < 9223372036854775808) (l1 : u < 9223372036854775808) (l2 : g < 9223372036854775808) (l3 : m < 9223372036854775808) (l4 : z < 9223372036854775808) :
    Calls Tryd.prog 9 #[.agg #[.string s, .int .i64 t, .int .i64 u, .int .i64 g, .int .i64 m, .int .i64 z]] w fun e w' =>
      ∃ A c, e = .returned (.tuple #[.slice A l.length c, .int .i64 e0]) ∧ Own w' w.heap.size (.slice A l.length c) l.length l ∧ Rd w' w'.heap.size A l.length l ∧ l.length ≤ c ∧ l.length ≤ 60 ∧ Below w.heap.size w w' := by
  refine (encode_any s t u g m z w hs l0 l1 l2 l3 l4).mono fun e w' ⟨v, h1, h2, h3⟩ => ?_
  have h60 := eout_length s (num t u g m z)
  rw [he.2] at h2 h60
  rw [he.1] at h1
  obtain ⟨A, c, rfl, hr, hc, _⟩ := h2.reads
  exact ⟨A, c, h1, h2, hr, hc, h60, h3⟩

set_option maxRecDepth 100000 in
set_option maxHeartbeats 4000000 in
theorem awake_any (w : World) : Calls Tryd.prog 8 #[] w fun e w' => e = .returned (.bool true) ∧ Below w.heap.size w w' := by
  have lA : textA.length = 60 := by decide +kernel
  have lT : textT.length = 60 := by decide +kernel
  have HA := hid fun w' => encode_rd ⟨#[97, 47]⟩ 0 0 0 0 0 0 textA encA w' (by decide) (by decide) (by decide) (by decide) (by decide) (by decide)
  have HT := hid fun w' => encode_rd ⟨#[47, 47]⟩ 0 0 0 0 7 0 textT encT w' (by decide) (by decide) (by decide) (by decide) (by decide) (by decide)
  have HM := hid fun w' => encode_rd ⟨#[47, 47]⟩ 0 0 0 7 0 9 _ ⟨encM, rfl⟩ w' (by decide) (by decide) (by decide) (by decide) (by decide) (by decide)
  have HE := hid fun w' => encode_rd ⟨#[]⟩ 0 0 0 0 0 6 _ ⟨encE, rfl⟩ w' (by decide) (by decide) (by decide) (by decide) (by decide) (by decide)
  rw [lA] at HA
  rw [lT] at HT
  go_enter Tryd.func8, Tryd.ntmps8
  go_wp2_with fail
  refine (HA.out _).mono ?_
  rintro e w1 ⟨A1, c1, rfl, _, hr1, hc1, _, hb1⟩
  go_wp2_with fail
  refine (HT.out _).mono ?_
  rintro e w2 ⟨A2, c2, rfl, _, hr2, hc2, _, hb2⟩
  go_wp2_with fail
  refine (HM.out _).mono ?_
  rintro e w3 ⟨A3, c3, rfl, _, hr3, hc3, _, hb3⟩
  go_wp2_with fail
  refine (HE.out _).mono ?_
  rintro e w4 ⟨A4, c4, rfl, _, hr4, hc4, _, hb4⟩
  go_wp2_with fail
  have hb24 := hb3.trans (hb4.mono hb3.size)
  have hb14 := hb2.trans (hb24.mono hb2.size)
  refine (decode_any _ A1 60 c1 textA w4 (hr1.below hb14) hb14.size hc1).mono ?_
  rintro e w5 ⟨rfl, hb5⟩
  obtain ⟨d1, d2, d3, d4, d5, d6, d7⟩ := decA
  rw [d1, d2, d3, d4, d5, d6, d7]
  have hb15 := hb14.trans (hb5.mono hb14.size)
  have hb25 := hb24.trans (hb5.mono hb24.size)
  have hbd := (Below.refl w5.heap.size w5).alloc (Nat.le_refl _) (.cells #[.string ⟨#[97, 47]⟩, .int .i64 0, .int .i64 0, .int .i64 0, .int .i64 0, .int .i64 0] 29)
  have hs1 := run_str _ _ A1 60 c1 textA ((hr1.below hb15).below (hbd.mono hb15.size))
  have hs2 := run_str _ _ A2 60 c2 textT ((hr2.below hb25).below (hbd.mono hb25.size))
  have t1 := lookA
  have t2 := lookT
  have hbE := hid (((hb1.trans (hb15.mono hb1.size))).trans (hbd.mono (Nat.le_trans hb1.size hb15.size)))
  clear hb1 hb2 hb3 hb4 hb5 hb14 hb24 hb15 hb25 hbd hr1 hr2 hr3 hr4
  go_wp2_with fail
  go_ret
  exact ⟨rfl, hbE.out⟩
end Go.Proofs.YtfhdgbpkhcnanaaDoor.Hdr
