/-
  SymtabMatchesReference, walked.
-/
import Derived.Test.YtndjnmeblpjlhaaDoorZUa
namespace Go.Proofs.YtndjnmeblpjlhaaDoor.Tab
open Go.RowKit Go.Proofs Go.Proofs.YtndjnmeblpjlhaaDoor.Byt
open Go.Proofs.YtndjnmeblpjlhaaDoor.Obj (Sy RdS SCells)
open Go.Proofs.YtndjnmeblpjlhaaDoor.Bnd

theorem qunits {w : World} {K T k : Nat} {mo : Option Nat} {os : List (List Sy)} (h : Tb w K T mo (os.take (k + 1))) (hk : k < os.length) : Calls Tryd.prog 11 #[.pointer (some ⟨T, 0, none⟩)] w fun e w' => e = .returned (.int .i64 ((k : Int) + 1)) ∧ w' = w :=
  (tunits_any h).mono fun e w' g => ⟨by rw [g.1, List.length_take, Nat.min_eq_left hk]; rfl, g.2⟩
set_option linter.unusedSimpArgs false in
set_option maxRecDepth 100000 in
set_option maxHeartbeats 16000000 in
theorem matches14 (w : World) (hP : Prec w) (A : Option Addr) (n c : Nat) (os : List (List Sy)) (h : RdO w w.heap.size A n os) (hnc : n ≤ c) (nm : ByteArray) :
    Calls Tryd.prog 3 #[.slice A n c, .string nm] w fun e w' => e = .returned (.bool true) ∧ Below w.heap.size w w' := by
  have Hl := hid h.1
  have HA := hid fun (V : World) (hV : Below w.heap.size w V) => awake_any V (hP.on hV)
  go_enter Tryd.func3, Tryd.ntmps3
  go_wp2_with fail
  refine (HA.out w (Below.refl _ _)).mono ?_
  rintro e w1 ⟨rfl, b1⟩
  go_wp2_with fail
  refine (rright_any w.heap.size A n c os w1 (h.below b1) b1.size).mono ?_
  rintro e w2 ⟨b2', hr⟩
  have b2 := b1.trans (b2'.mono b1.size)
  clear b2' b1
  rcases hr with ⟨rfl, hR⟩ | rfl
  case inr =>
    go_wp2_with fail
    refine (HA.out w2 b2).mono ?_
    rintro e w3 ⟨rfl, b3⟩
    go_wp2_with fail
    go_ret
    exact ⟨rfl, b2.trans (b3.mono b2.size)⟩
  case inl =>
  have HK := hid hR.ok
  have hn12 : n ≤ 12 := by have := HK.out.len; have := Hl.out; omega
  clear hR
  by_cases hs : 300 < nm.size
  · have hsi : (300 : Int) < (nm.size : Int) := by omega
    go_wp2_with fail
    refine (HA.out w2 b2).mono ?_
    rintro e w3 ⟨rfl, b3⟩
    go_wp2_with fail
    go_ret
    exact ⟨rfl, b2.trans (b3.mono b2.size)⟩
  have hsi : ¬ (300 : Int) < (nm.size : Int) := by omega
  have hb3 := (Below.refl w2.heap.size w2).alloc (Nat.le_refl _) (.cells #[.int .i64 0, .map none] 29)
  have hn3 := heap_alloc_new w2 (.cells #[.int .i64 0, .map none] 29)
  have hL3 := Ld.start (os := os) (b2.trans (hb3.mono b2.size)) hn3 b2.size
  go_upto_region 4 with fail
  generalize w2.alloc (.cells #[.int .i64 0, .map none] 29) = w3 at *
  obtain ⟨T, hT⟩ : ∃ T, w2.heap.size = T := ⟨_, rfl⟩
  rw [hT] at hL3
  rw [hT]
  clear hb3 hn3 hT b2 HA hsi hs
  go_wp2_with fail
  go_loopw [6, 7] (fun iv _ W => ∃ (k : Nat) (mo : Option Nat), iv = .int .i64 (k : Int) ∧ k ≤ n ∧ Ld w os T mo k W) (fun iv _ _ => n - (intOf iv).toNat)
  case atStart => exact ⟨0, none, rfl, by omega, hL3⟩
  case round =>
    obtain ⟨k, mo, rfl, hk, hL⟩ := hrel
    clear hL3
    by_cases hlt : k < n
    · have hkl : k < os.length := by have := Hl.out; omega
      have hki : (k : Int) < (n : Int) := by omega
      obtain ⟨b, o, rfl, hbK, S, B, p, cs, md, d, q0, q1, hob⟩ := h.2 k hkl
      have c0 := (hL.b.cell (p := ⟨b, o + k * 2, none⟩) hbK).trans q0
      have c1 := (hL.b.cell (p := ⟨b, o + k * 2 + 1, none⟩) hbK).trans q1
      have HR := hid (ld_round hL hP HK.out hkl hob)
      have HO := hid fun (V : World) (hV : Below w.heap.size w V) => (h.below hV).pre (m := k + 1) (by omega)
      have HKk := hid (HK.out.take (k + 1))
      have hkc : (0 : Int) ≤ (k : Int) + 1 ∧ (k : Int) + 1 ≤ (c : Int) := ⟨by omega, by omega⟩
      clear hL q0 q1 hob
      go_wp2_with fail
      refine HR.out.mono ?_
      rintro e w4 ⟨rfl, M, hL4, _⟩
      clear HR c0 c1
      go_wp2_with fail
      refine (qunits hL4.t hkl).mono ?_
      rintro e w5 ⟨rfl, rfl⟩
      have HT := hid fun (V : World) (hV : Below w5.heap.size w5 V) => hL4.on hV
      have b5 : Below w5.heap.size w5 w5 := Below.refl _ _
      clear hL4
      have hne : (((k : Int) + 1) != ((k : Int) + 1)) = false := by simp
      go_wp2_with fail
      refine (tstate_any (HT.out w5 b5).t HKk.out nm).mono ?_
      rintro e w6 ⟨v6, rfl, o6, b6⟩
      go_wp2_with fail
      refine (lstate_any _ v6 w6.heap.size _ w6 o6.pl).mono ?_
      rintro e w7 ⟨rfl, b7⟩
      have P7 := (o6.below b7).pl
      have b57 := b6.trans (b7.mono b6.size)
      clear b6 b7 o6
      go_wp2_with fail
      refine (rstate_any w.heap.size _ (k + 1) c (os.take (k + 1)) nm w7 (HO.out w7 (HT.out w7 b57).b) (HT.out w7 b57).b.size (by omega) HKk.out.few).mono ?_
      rintro e w8 ⟨v8, rfl, o8, b8⟩
      have P8 := (P7.below b8).more b8.size
      have b58 := b57.trans (b8.mono b57.size)
      clear b8 b57 P7
      go_wp2_with fail
      refine (qsame _ v6 v8 w8 P8 o8.pl (by rw [HKk.out.all nm]; have h1 := allL_len (uses (os.take (k + 1)) nm); have h2 := HKk.out.uln nm; omega)).mono ?_
      rintro e w9 ⟨rfl, b9⟩
      have b59 := b58.trans (b9.mono b58.size)
      clear b9 b58 P8 o8
      go_wp2_with fail
      refine (twanted_any (HT.out w9 b59).t HKk.out).mono ?_
      rintro e w10 ⟨A10, c10, rfl, o10, b10⟩
      have b510 := b59.trans (b10.mono b59.size)
      clear b10 b59
      go_wp2_with fail
      refine (rwanted_any w.heap.size _ (k + 1) c (os.take (k + 1)) w10 (HO.out w10 (HT.out w10 b510).b) (HT.out w10 b510).b.size (by omega) HKk.out.few).mono ?_
      rintro e w11 ⟨A11, c11, rfl, o11, b11⟩
      have R11 := ((nowned o10).below b11).more b11.size
      have hwl : (wntL (os.take (k + 1))).length ≤ 100000 := by
        have h1 := HKk.out.nmsl
        have h2 := List.length_filter_le (fun x => wantd (ofL (uses (os.take (k + 1)) x))) (nms (os.take (k + 1)))
        unfold wntL
        omega
      have b511 := b510.trans (b11.mono b510.size)
      clear b11 b510 o10
      go_wp2_with fail
      refine (qtexts R11 (nowned o11) hwl).mono ?_
      rintro e w12 ⟨rfl, b12⟩
      have hL12 := (HT.out w12 (b511.trans (b12.mono b511.size)))
      clear b12 b511 R11 o11 HT
      go_wp2_with fail
      go_roundw
      · exact ⟨k + 1, some M, by go_num, by omega, hL12⟩
      · simp [intOf]; omega
    · obtain rfl : k = n := by omega
      have hki : ¬ (k : Int) < (k : Int) := by omega
      have hos : os.take k = os := List.take_of_length_le (by have := Hl.out; omega)
      have HT := hid fun (V : World) (hV : Below wr.heap.size wr V) => (hos ▸ (hL.on hV).t : Tb V T T mo os)
      have HB := hid fun (V : World) (hV : Below wr.heap.size wr V) => (hL.on hV).b
      have b0 : Below wr.heap.size wr wr := Below.refl _ _
      clear hL hos
      go_wp2_with fail
      refine (tnames_any (HT.out wr b0) HK.out).mono ?_
      rintro e w4 ⟨A4, c4, rfl, o4, b4⟩
      go_wp2_with fail
      refine (rnames_any w.heap.size A k c os w4 (h.below (HB.out w4 b4)) (HB.out w4 b4).size hn12 HK.out.few).mono ?_
      rintro e w5 ⟨A5, c5, rfl, o5, b5⟩
      have R5 := ((nowned o4).below b5).more b5.size
      have hnl : (nms os).length ≤ 100000 := by have := HK.out.nmsl; omega
      have b05 := b4.trans (b5.mono b4.size)
      clear b4 b5 o4
      go_wp2_with fail
      refine (qtexts R5 (nowned o5) hnl).mono ?_
      rintro e w6 ⟨rfl, b6⟩
      have b06 := b05.trans (b6.mono b05.size)
      clear b05 b6 R5 o5
      go_wp2_with fail
      refine (tresolved_any (HT.out w6 b06) HK.out).mono ?_
      rintro e w7 ⟨A7, c7, rfl, o7, b7⟩
      have b07 := b06.trans (b7.mono b06.size)
      clear b06 b7
      go_wp2_with fail
      refine (rresolved_any w.heap.size A k c os w7 (h.below (HB.out w7 b07)) (HB.out w7 b07).size hn12 HK.out.few).mono ?_
      rintro e w8 ⟨A8, c8, rfl, o8, b8⟩
      have R8 := ((rowned o7).below b8).more b8.size
      have hrl : (resL os).length ≤ 100000 := by unfold resL; rw [List.length_map]; exact hnl
      have b08 := b07.trans (b8.mono b07.size)
      clear b07 b8 o7
      go_wp2_with fail
      refine (rsamer_any w8.heap.size A7 A8 _ c7 c8 _ w8 R8 (rowned o8) (Nat.le_refl _) hrl).mono ?_
      rintro e w9 ⟨rfl, b9⟩
      have B9 := HB.out w9 (b08.trans (b9.mono b08.size))
      go_wp2_with fail
      go_ret
      exact ⟨rfl, B9⟩
end Go.Proofs.YtndjnmeblpjlhaaDoor.Tab
