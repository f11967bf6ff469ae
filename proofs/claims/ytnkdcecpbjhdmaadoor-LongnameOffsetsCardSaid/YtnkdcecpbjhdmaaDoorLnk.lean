/-
  awake of the laws of longname: it answers true.
-/
import Derived.Test.YtnkdcecpbjhdmaaDoorLnj
namespace Go.Proofs.YtnkdcecpbjhdmaaDoor.Lnm
open Go.RowKit Go.Proofs Go.Proofs.YtnkdcecpbjhdmaaDoor.Byt Go.Proofs.YtnkdcecpbjhdmaaDoor.Str3 Go.Proofs.YtnkdcecpbjhdmaaDoor.Dec

def aN : List ByteArray := [⟨#[97, 46, 111]⟩, ⟨#[97, 45, 118, 101, 114, 121, 45, 108, 111, 110, 103, 45, 110, 97, 109, 101, 46, 111]⟩]
def aL : List ByteArray := [⟨#[97, 45, 118, 101, 114, 121, 45, 108, 111, 110, 103, 45, 110, 97, 109, 101, 46, 111]⟩]
def aT : List UInt8 := [97, 45, 118, 101, 114, 121, 45, 108, 111, 110, 103, 45, 110, 97, 109, 101, 46, 111, 47, 10]
def aF : List ByteArray := [⟨#[97, 46, 111, 47]⟩, ⟨#[47, 48]⟩]
theorem a1 : bo aN = aT := by kernel_rfl
theorem a2 : fo aN = aF := by kernel_rfl
theorem a3 : be aN = 0 := by kernel_rfl
theorem a4 : rs (resv (bts ⟨#[47, 48]⟩) aT) = ⟨#[97, 45, 118, 101, 114, 121, 45, 108, 111, 110, 103, 45, 110, 97, 109, 101, 46, 111]⟩ ∧ re (resv (bts ⟨#[47, 48]⟩) aT) = 0 := ⟨by kernel_rfl, by kernel_rfl⟩
theorem a5 : rs (resv (bts ⟨#[97, 46, 111, 47]⟩) aT) = ⟨#[97, 46, 111]⟩ ∧ re (resv (bts ⟨#[97, 46, 111, 47]⟩) aT) = 0 := ⟨by kernel_rfl, by kernel_rfl⟩
theorem a6 : rs (resv (bts ⟨#[47, 49]⟩) aT) = ⟨#[]⟩ ∧ re (resv (bts ⟨#[47, 49]⟩) aT) = 6 := ⟨by kernel_rfl, by kernel_rfl⟩
theorem a7 : entsO aT = aL ∧ entsE aT = 0 := by
  have h := good_of_tab (ns := aL) (by kernel_rfl)
  have e : tab aL = aT := by kernel_rfl
  rw [e] at h
  exact ⟨by unfold entsO; rw [if_pos h.1]; exact h.2, if_pos h.1⟩
theorem a8 : entsO [120] = [] ∧ entsE [120] = 7 := by
  have h : good [120] = false := by
    unfold good
    rw [seq_bad (by simp) (by decide +kernel)]
    rfl
  exact ⟨if_neg (by rw [h]; simp), if_neg (by rw [h]; simp)⟩
theorem a9 : vld (bts ⟨#[120]⟩) = true ∧ vld (bts ⟨#[]⟩) = false ∧ sht (bts ⟨#[97, 46, 111]⟩) = true ∧ sht (bts ⟨#[97, 32]⟩) = false := by decide +kernel
theorem a10 : eqs aF [⟨#[97, 46, 111, 47]⟩, ⟨#[47, 48]⟩] = true ∧ eqs aL [⟨#[97, 45, 118, 101, 114, 121, 45, 108, 111, 110, 103, 45, 110, 97, 109, 101, 46, 111]⟩] = true := by decide +kernel
theorem a11 : (aT == [97, 45, 118, 101, 114, 121, 45, 108, 111, 110, 103, 45, 110, 97, 109, 101, 46, 111, 47, 10]) = true := by decide +kernel

set_option maxRecDepth 100000 in
set_option maxHeartbeats 4000000 in
theorem awake_any (w : World) (hg : Gnd w) : Calls Tryd.prog 9 #[] w fun e w' => e = .returned (.bool true) ∧ Below w.heap.size w w' := by
  have kc := fun (w : World) (C : Array Value) (n c : Nat) => Lib.run_convert_bytes_const (P := Tryd.prog) w 23 5 C n c Tryd.underlying23 Tryd.underlying5
  have HB := hid fun w' (h : Gnd w') (K : Nat) (A : Option Addr) (c : Nat) (hr : Sls.Rd w' K A 2 aN) (hK : K ≤ w'.heap.size) => build_any K A 2 c aN w' h hr hK (by omega) (by intro s hs; simp [aN] at hs; rcases hs with rfl | rfl <;> decide)
  go_enter Tryd.func9, Tryd.ntmps9
  go_wp2_with fail
  have hb0 := (Below.refl w.heap.size w).alloc (Nat.le_refl _) (.cells #[.string ⟨#[97, 46, 111]⟩, .string ⟨#[97, 45, 118, 101, 114, 121, 45, 108, 111, 110, 103, 45, 110, 97, 109, 101, 46, 111]⟩] 9)
  refine (HB.out _ (hg.on hb0) _ _ _ (Sls.Rd.lit w aN _ rfl 2 rfl) (by simp)).mono ?_
  rintro e w1 ⟨v1, f1, rfl, ho1, hf1, hb1⟩
  rw [a1] at ho1
  rw [a2] at hf1
  rw [a3]
  obtain ⟨A1, c1, rfl, hr1, hc1, _⟩ := ho1.reads
  obtain ⟨A2, c2, rfl, hr2, hc2, _⟩ := hf1.reads
  have hb01 := hb0.trans (hb1.mono hb0.size)
  clear HB ho1 hf1 hb1 hb0
  have hl1 : aT.length = 20 := rfl
  have hl2 : aF.length = 2 := rfl
  rw [hl1] at hr1 hc1 ⊢
  rw [hl2] at hr2 hc2 ⊢
  clear hl1 hl2
  go_wp2_with fail
  refine (resolve_any _ A1 20 c1 aT _ w1 (hg.on hb01) hr1 (Nat.le_refl _) hc1 (by omega) (by decide)).mono ?_
  rintro e w2 ⟨rfl, hb2⟩
  rw [a4.1, a4.2]
  have hg2 := (hg.on hb01).on hb2
  have hr12 := hr1.below hb2
  have hr22 := hr2.below hb2
  have hK2 := hb2.size
  have hb02 := hb01.trans (hb2.mono hb01.size)
  clear hb2 hr1 hr2 hb01
  go_wp2_with fail
  refine (resolve_any _ A1 20 c1 aT _ w2 hg2 hr12 hK2 hc1 (by omega) (by decide)).mono ?_
  rintro e w3 ⟨rfl, hb3⟩
  rw [a5.1, a5.2]
  have hg3 := hg2.on hb3
  have hr13 := (hr12.more hK2).below hb3
  have hr23 := (hr22.more hK2).below hb3
  have hK3 := hb3.size
  have hb03 := hb02.trans (hb3.mono hb02.size)
  clear hb3 hr12 hr22 hb02 hg2 hK2
  go_wp2_with fail
  refine (resolve_any _ A1 20 c1 aT _ w3 hg3 hr13 hK3 hc1 (by omega) (by decide)).mono ?_
  rintro e w4 ⟨rfl, hb4⟩
  rw [a6.1, a6.2]
  have hg4 := hg3.on hb4
  have hr14 := (hr13.more hK3).below hb4
  have hr24 := (hr23.more hK3).below hb4
  have hK4 := hb4.size
  have hb04 := hb03.trans (hb4.mono hb03.size)
  clear hb4 hr13 hr23 hb03 hg3 hK3
  go_wp2_with fail
  refine (entries_any _ A1 20 c1 aT w4 hg4 hr14 hK4 hc1 (by omega)).mono ?_
  rintro e w5 ⟨v5, rfl, ho5, hb5⟩
  rw [a7.1] at ho5
  rw [a7.2]
  obtain ⟨A5, c5, rfl, hr5, hc5, _⟩ := ho5.reads
  have hg5 := hg4.on hb5
  have hr15 := (hr14.more hK4).below hb5
  have hr25 := (hr24.more hK4).below hb5
  have hK5 := hb5.size
  have hb05 := hb04.trans (hb5.mono hb04.size)
  clear hb5 hr14 hr24 hb04 hg4 hK4 ho5
  have hl5 : aL.length = 1 := rfl
  rw [hl5] at hr5 hc5 ⊢
  clear hl5
  go_wp2_with fail
  have hbx := (Below.refl w5.heap.size w5).alloc (Nat.le_refl _) (.cells #[.int .u8 120] 5 (1, 2))
  refine (entries_any _ (some ⟨w5.heap.size, 0, none⟩) 1 1 [120] _ (hg5.on hbx) (Rd.lit w5 [120] _ rfl 1 rfl (1, 2)) (by simp) (by omega) (by omega)).mono ?_
  rintro e w6 ⟨v6, rfl, ho6, hb6⟩
  rw [a8.1] at ho6
  rw [a8.2]
  obtain ⟨A6, c6, rfl, _⟩ := ho6.reads
  have hb56 := hbx.trans (hb6.mono hbx.size)
  have hr16 := (hr15.more hK5).below hb56
  have hr26 := (hr25.more hK5).below hb56
  have hr56 := hr5.below hb56
  have hK6 := hb56.size
  have hb06 := hb05.trans (hb56.mono hb05.size)
  clear hb6 hb56 hbx hr15 hr25 hr5 hb05 hg5 hK5 ho6
  have hl6 : ([] : List ByteArray).length = 0 := rfl
  rw [hl6]
  clear hl6
  have hs1 := run_str w6 _ A1 20 c1 aT hr16
  have t1 := a11
  have H2 := hid hr26
  have H5 := hid hr56
  have HK := hid hK6
  have Hb := hid hb06
  clear hr16 hr26 hr56 hK6 hb06
  go_wp2_with fail
  have hby := (Below.refl w6.heap.size w6).alloc (Nat.le_refl _) (.cells #[.string ⟨#[97, 46, 111, 47]⟩, .string ⟨#[47, 48]⟩] 9)
  refine (texts_any _ _ A2 _ 2 c2 2 2 aF [⟨#[97, 46, 111, 47]⟩, ⟨#[47, 48]⟩] _ (H2.out.below (hby.mono HK.out)) (Sls.Rd.lit w6 [⟨#[97, 46, 111, 47]⟩, ⟨#[47, 48]⟩] _ rfl 2 rfl) (by omega)).mono ?_
  rintro e w7 ⟨rfl, m7, rfl⟩
  rw [a10.1]
  have hb67 := hby.trans (below_drewN (K := w6.heap.size) _ m7)
  clear hby
  generalize (w6.alloc (.cells #[.string ⟨#[97, 46, 111, 47]⟩, .string ⟨#[47, 48]⟩] 9)).drewN m7 = w7 at *
  go_wp2_with fail
  have hby := (Below.refl w7.heap.size w7).alloc (Nat.le_refl _) (.cells #[.string ⟨#[97, 45, 118, 101, 114, 121, 45, 108, 111, 110, 103, 45, 110, 97, 109, 101, 46, 111]⟩] 9)
  have hb68 := hb67.trans (hby.mono hb67.size)
  refine (texts_any _ _ A5 _ 1 c5 1 1 aL [⟨#[97, 45, 118, 101, 114, 121, 45, 108, 111, 110, 103, 45, 110, 97, 109, 101, 46, 111]⟩] _ ((H5.out.more HK.out).below hb68) (Sls.Rd.lit w7 [⟨#[97, 45, 118, 101, 114, 121, 45, 108, 111, 110, 103, 45, 110, 97, 109, 101, 46, 111]⟩] _ rfl 1 rfl) (by omega)).mono ?_
  rintro e w8 ⟨rfl, m8, rfl⟩
  rw [a10.2]
  have hb8 := hb68.trans (below_drewN (K := w6.heap.size) _ m8)
  have Hb8 := hid (Hb.out.trans (hb8.mono Hb.out.size))
  clear hby hb68 hb67 hb8
  generalize (w7.alloc (.cells #[.string ⟨#[97, 45, 118, 101, 114, 121, 45, 108, 111, 110, 103, 45, 110, 97, 109, 101, 46, 111]⟩] 9)).drewN m8 = w8 at *
  go_wp2_with fail
  refine (valid_any _ _ (by decide)).mono ?_
  rintro e w9 ⟨rfl, hb9⟩
  rw [a9.1]
  have Hb9 := hid (Hb8.out.trans (hb9.mono Hb8.out.size))
  clear hb9
  go_wp2_with fail
  refine (valid_any _ _ (by decide)).mono ?_
  rintro e w10 ⟨rfl, hb10⟩
  rw [a9.2.1]
  have Hb10 := hid (Hb9.out.trans (hb10.mono Hb9.out.size))
  clear hb10
  go_wp2_with fail
  refine (short_any _ _ (by decide)).mono ?_
  rintro e w11 ⟨rfl, hb11⟩
  rw [a9.2.2.1]
  have Hb11 := hid (Hb10.out.trans (hb11.mono Hb10.out.size))
  clear hb11
  go_wp2_with fail
  refine (short_any _ _ (by decide)).mono ?_
  rintro e w12 ⟨rfl, hb12⟩
  rw [a9.2.2.2]
  have Hb12 := hid (Hb11.out.trans (hb12.mono Hb11.out.size))
  clear hb12
  go_wp2_with fail
  go_ret
  exact ⟨rfl, Hb12.out⟩
end Go.Proofs.YtnkdcecpbjhdmaaDoor.Lnm
