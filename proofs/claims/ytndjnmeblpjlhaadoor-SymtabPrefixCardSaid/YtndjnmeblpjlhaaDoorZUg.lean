/-
  SymtabPrefix, walked.
-/
import Derived.Test.YtndjnmeblpjlhaaDoorZUe
namespace Go.Proofs.YtndjnmeblpjlhaaDoor.Tab
open Go.RowKit Go.Proofs Go.Proofs.YtndjnmeblpjlhaaDoor.Byt
open Go.Proofs.YtndjnmeblpjlhaaDoor.Obj (Sy RdS SCells)
open Go.Proofs.YtndjnmeblpjlhaaDoor.Bnd

set_option linter.unusedSimpArgs false in
set_option maxRecDepth 100000 in
set_option maxHeartbeats 16000000 in
theorem prefix14 (w : World) (hP : Prec w) (A : Option Addr) (n c : Nat) (os : List (List Sy)) (h : RdO w w.heap.size A n os) (cut : Nat) (hcut8 : cut < 256) (nm : ByteArray) :
    Calls Tryd.prog 7 #[.slice A n c, .int .u8 (cut : Int), .string nm] w fun e w' => e = .returned (.bool true) ∧ Below w.heap.size w w' := by
  have Hl := hid h.1
  have HA := hid fun (V : World) (hV : Below w.heap.size w V) => awake_any V (hP.on hV)
  go_enter Tryd.func7, Tryd.ntmps7
  go_wp2_with fail
  refine (HA.out w (Below.refl _ _)).mono ?_
  rintro e w1 ⟨rfl, b1⟩
  go_wp2_with fail
  refine (rright_any w.heap.size A n c os w1 (h.below b1) b1.size).mono ?_
  rintro e w2 ⟨b2', hr⟩
  have b2 := b1.trans (b2'.mono b1.size)
  clear b2' b1
  rcases hr with ⟨rfl, hR⟩ | rfl
  case inr =>
    go_wp2_with fail
    refine (HA.out w2 b2).mono ?_
    rintro e w3 ⟨rfl, b3⟩
    go_wp2_with fail
    go_ret
    exact ⟨rfl, b2.trans (b3.mono b2.size)⟩
  case inl =>
  have HK := hid hR.ok
  have hn12 : n ≤ 12 := by have := HK.out.len; have := Hl.out; omega
  clear hR HA
  go_upto_region 4 with fail
  obtain ⟨kk, hkk, hkn⟩ : ∃ kk : Nat, (cut : Int) % ((n : Int) + 1) = (kk : Int) ∧ kk ≤ n := ⟨cut % (n + 1), (Int.natCast_emod cut (n + 1)).symm, Nat.le_of_lt_succ (Nat.mod_lt cut (Nat.succ_pos n))⟩
  rw [hkk]
  have hb3 := (Below.refl w2.heap.size w2).alloc (Nat.le_refl _) (.cells #[.int .i64 0, .map none] 29)
  obtain ⟨w3, hw3, hbb, hX3, hY3, hz3⟩ := two_new w2 (.cells #[.int .i64 0, .map none] 29) (.cells #[.int .i64 0, .map none] 29)
  go_upto_region 6 with fail
  obtain ⟨X, hX⟩ : ∃ X, w2.heap.size = X := ⟨_, rfl⟩
  rw [hX] at hX3 hY3 hz3
  rw [hX]
  have hL3 : L2 w os X (X + 1) none none 0 0 w3 := ⟨b2.trans (hbb.mono b2.size), Tb.new hX3 (Nat.le_refl _), Tb.new hY3 (Nat.le_succ _), hX ▸ b2.size, by omega, fun M e => by cases e⟩
  clear hb3 hbb hX3 hY3 hz3 hX b2 hkk hcut8
  go_wp2_with fail
  go_loopw [10] (fun iv W => ∃ (i a : Nat) (mx my : Option Nat), iv = .int .i64 (i : Int) ∧ i ≤ n ∧ Hid (a = min i kk) ∧ L2 w os X (X + 1) mx my a i W) (fun iv _ => n - (intOf iv).toNat)
  case atStart => exact ⟨0, 0, none, none, rfl, by omega, hid (by omega), hL3⟩
  case round =>
  obtain ⟨i, a, mx, my, rfl, hi, ha, hL⟩ := hrel
  clear hL3
  by_cases hlt : i < n
  · have hil : i < os.length := by have := Hl.out; omega
    have hii : (i : Int) < (n : Int) := by omega
    obtain ⟨b, o, rfl, hbK, S, B, p, cs, md, d, q0, q1, hob⟩ := h.2 i hil
    have HC := hid fun (V : World) (hV : Below w.heap.size w V) => (⟨(hV.cell (p := ⟨b, o + i * 2, none⟩) hbK).trans q0, (hV.cell (p := ⟨b, o + i * 2 + 1, none⟩) hbK).trans q1⟩ : V.cell? ⟨b, o + i * 2, none⟩ = _ ∧ V.cell? ⟨b, o + i * 2 + 1, none⟩ = _)
    by_cases hik : i < kk
    · obtain rfl : a = i := by have := ha.out; omega
      have hiki : (a : Int) < (kk : Int) := by omega
      have HR := hid (l2_x hL hP HK.out hil hob)
      obtain ⟨c0, c1⟩ := HC.out wr hL.b
      clear hL q0 q1
      go_wp2_with fail
      refine HR.out.mono ?_
      rintro e w4 ⟨⟨z, rfl⟩, mx', hL4⟩
      clear HR c0 c1
      have HR := hid (l2_y hL4 hP HK.out hil hob)
      obtain ⟨c0, c1⟩ := HC.out w4 hL4.b
      clear hL4
      go_wp2_with fail
      refine HR.out.mono ?_
      rintro e w5 ⟨⟨z2, rfl⟩, my', hL5⟩
      clear HR c0 c1
      go_wp2_with fail
      go_roundw
      · exact ⟨a + 1, a + 1, mx', my', by go_num, by omega, hid (by omega), hL5⟩
      · simp [intOf]; omega
    · have hiki : ¬ (i : Int) < (kk : Int) := by omega
      have HR := hid (l2_y hL hP HK.out hil hob)
      obtain ⟨c0, c1⟩ := HC.out wr hL.b
      clear hL q0 q1
      go_wp2_with fail
      refine HR.out.mono ?_
      rintro e w5 ⟨⟨z2, rfl⟩, my', hL5⟩
      clear HR c0 c1
      go_wp2_with fail
      go_roundw
      · exact ⟨i + 1, a, mx, my', by go_num, by omega, hid (by have := ha.out; omega), hL5⟩
      · simp [intOf]; omega
  obtain rfl : i = n := by omega
  have hii : ¬ (i : Int) < (i : Int) := by omega
  generalize wr = V0 at *
  obtain rfl : a = kk := by have := ha.out; omega
  have hos : os.take i = os := List.take_of_length_le (by have := Hl.out; omega)
  have HX := hid fun (V : World) (hV : Below V0.heap.size V0 V) => (hL.on hV).x
  have HY := hid fun (V : World) (hV : Below V0.heap.size V0 V) => (hos ▸ (hL.on hV).y : Tb V X (X + 1) my os)
  have HB := hid fun (V : World) (hV : Below V0.heap.size V0 V) => (hL.on hV).b
  have b0 : Below V0.heap.size V0 V0 := Below.refl _ _
  have HKa := hid (HK.out.take a)
  have HSub := hid (names14 os a)
  have HGr := hid (grow14 HK.out a nm)
  clear hL hos ha
  go_wp2_with fail
  refine (tnames_any (HX.out V0 b0) HKa.out).mono ?_
  rintro e w4 ⟨A4, c4, rfl, o4, b4⟩
  go_wp2_with fail
  refine (tnames_any (HY.out w4 b4) HK.out).mono ?_
  rintro e w5 ⟨A5, c5, rfl, o5, b5⟩
  have R4 := ((nowned o4).below b5).more b5.size
  have R5 := nowned o5
  have b05 := b4.trans (b5.mono b4.size)
  have HRd := hid fun (V : World) (hV : Below w5.heap.size w5 V) => (⟨R4.below hV, R5.below hV⟩ : _ ∧ _)
  have HBd := hid fun (V : World) (hV : Below w5.heap.size w5 V) => b05.trans (hV.mono b05.size)
  have hla : (nms (os.take a)).length ≤ 240 := HKa.out.nmsl
  have hlb : (nms os).length ≤ 240 := HK.out.nmsl
  clear o4 o5 b4 b5 R4 R5 b05 b0
  generalize nms (os.take a) = La at *
  generalize nms os = Lb at *
  obtain ⟨ma, hma⟩ : ∃ m, La.length = m := ⟨_, rfl⟩
  obtain ⟨mb, hmb⟩ : ∃ m, Lb.length = m := ⟨_, rfl⟩
  rw [hma] at HRd hla
  rw [hmb] at HRd hlb
  rw [hma, hmb]
  have HMa := hid hma
  have HMb := hid hmb
  clear hma hmb
  go_wp2_with fail
  go_loopw [13, 14] (fun av iv W => ∃ (i j : Nat), iv = .int .i64 (j : Int) ∧ j ≤ mb ∧ av = .int .i64 (i : Int) ∧ i ≤ ma ∧ Hid (lft (La.drop i) (Lb.drop j) = []) ∧ Below w5.heap.size w5 W) (fun _ jv _ => mb - (intOf jv).toNat)
  case atStart => exact ⟨0, 0, rfl, by omega, rfl, by omega, hid (lft_sub HSub.out), Below.refl _ _⟩
  case round =>
  obtain ⟨x, y, rfl, hy, rfl, hx, hF, hb⟩ := hrel
  by_cases hxy : y < mb ∧ x < ma
  · obtain ⟨hyb, hxa⟩ := hxy
    have hyi : (y : Int) < (mb : Int) := by omega
    have hxi : (x : Int) < (ma : Int) := by omega
    have hxl : x < La.length := by have := HMa.out; omega
    have hyl : y < Lb.length := by have := HMb.out; omega
    obtain ⟨hr4, hr5⟩ := HRd.out wr hb
    obtain ⟨p4, o4, rfl, _, d4⟩ := hr4.2 x hxl
    obtain ⟨p5, o5, rfl, _, d5⟩ := hr5.2 y hyl
    have HYes : Hid (Lb[y] = La[x] → lft (La.drop (x + 1)) (Lb.drop (y + 1)) = []) := hid fun e => lft_yes hxl hyl hF.out e
    have HNo : Hid (Lb[y] ≠ La[x] → lft (La.drop x) (Lb.drop (y + 1)) = []) := hid fun e => lft_no hxl hyl hF.out e
    clear hr4 hr5 hF
    generalize La[x] = u at *
    generalize Lb[y] = v at *
    go_wp2_with fail
    by_cases he : v = u
    · have e1 : (v.toList == u.toList) = true := by rw [he]; simp
      have HF := hid (HYes.out he)
      clear HYes HNo he
      go_upto_region 18 with fail
      go_quiet (fail)
      go_wp2_with fail
      go_roundw
      · exact ⟨x + 1, y + 1, by go_num, by omega, by go_num, by omega, HF, bdr hb _⟩
      · simp [intOf]; omega
    · have e1 : (v.toList == u.toList) = false := by
        simp only [beq_eq_false_iff_ne]
        exact fun e => he (tl_inj e)
      have HF := hid (HNo.out he)
      clear HYes HNo he
      go_upto_region 18 with fail
      go_quiet (fail)
      go_wp2_with fail
      go_roundw
      · exact ⟨x, y + 1, by go_num, by omega, rfl, by omega, HF, bdr hb _⟩
      · simp [intOf]; omega
  have hxm : x = ma := by
    by_cases hyb : y < mb
    · have : ¬ x < ma := fun h => hxy ⟨hyb, h⟩
      omega
    · have := lft_end (by have := HMa.out; omega) (by have := HMb.out; omega) hF.out
      have := HMa.out
      omega
  subst hxm
  have hV := HBd.out wr hb
  have hxi : ¬ (x : Int) < (x : Int) := by omega
  clear hF hb HRd HBd HMa HMb HSub
  by_cases hyb : y < mb
  case' pos => have hyi : (y : Int) < (mb : Int) := by omega
  case' neg => have hyi : ¬ (y : Int) < (mb : Int) := by omega
  all_goals
    clear hxy hyb
    go_wp2_with fail
    refine (tstate_any (HX.out wr hV) HKa.out nm).mono ?_
    rintro e w6 ⟨v6, rfl, o6, b6⟩
    obtain ⟨A6, n6, c6, rfl, h6, _, _⟩ := id o6.pl
    have hg := HGr.out
    have hsl : (ofL (uses (os.take a) nm)).strongs.length ≤ 240 := by
      rw [HKa.out.all nm]
      have h1 := allL_len (uses (os.take a) nm)
      have h2 := HKa.out.uln nm
      omega
    generalize ofL (uses (os.take a) nm) = s at *
    have bT6 := b6.alloc b6.size (.cells (row s (.slice A6 n6 c6)) 41)
    have nT6 := heap_alloc_new w6 (.cells (row s (.slice A6 n6 c6)) 41)
    have hT6 := ((h6.below ((Below.refl w6.heap.size w6).alloc (Nat.le_refl _) (.cells (row s (.slice A6 n6 c6)) 41))).more (K' := (w6.alloc (.cells (row s (.slice A6 n6 c6)) 41)).heap.size) (by simp))
    have hV7 := hV.trans (bT6.mono hV.size)
    clear o6 h6 b6 bT6 hV
    simp only [St.val, row] at *
    go_upto_region 21 with fail
    generalize w6.alloc (.cells #[.int .i64 s.bind, .int .i64 s.size, .int .i64 s.align, .int .i64 s.unit, .bool s.dfd, .bool s.sr, .bool s.wr, .slice A6 n6 c6] 41) = w7 at *
    obtain ⟨bk6, hbk6⟩ : ∃ u, w6.heap.size = u := ⟨_, rfl⟩
    rw [hbk6] at nT6
    rw [hbk6]
    clear hbk6
    go_wp2_with fail
    refine (tstate_any (HY.out w7 hV7) HK.out nm).mono ?_
    rintro e w8 ⟨v8, rfl, o8, b8⟩
    obtain ⟨A8, n8, c8, rfl, h8, _, _⟩ := id o8.pl
    generalize ofL (uses os nm) = t at *
    have bT8 := b8.alloc b8.size (.cells (row t (.slice A8 n8 c8)) 41)
    have nT8 := heap_alloc_new w8 (.cells (row t (.slice A8 n8 c8)) 41)
    have hT8 := ((h8.below ((Below.refl w8.heap.size w8).alloc (Nat.le_refl _) (.cells (row t (.slice A8 n8 c8)) 41))).more (K' := (w8.alloc (.cells (row t (.slice A8 n8 c8)) 41)).heap.size) (by simp))
    have hV9 := hV7.trans (bT8.mono hV7.size)
    have nT6' := (bT8.block bk6 (Array.getElem?_eq_some_iff.1 nT6).1).trans nT6
    have hT6' := (hT6.below bT8).more bT8.size
    clear o8 h8 b8 bT8 hV7 nT6 hT6
    simp only [St.val, row] at *
    go_upto_region 22 with fail
    generalize w8.alloc (.cells #[.int .i64 t.bind, .int .i64 t.size, .int .i64 t.align, .int .i64 t.unit, .bool t.dfd, .bool t.sr, .bool t.wr, .slice A8 n8 c8] 41) = w9 at *
    obtain ⟨bk8, hbk8⟩ : ∃ u, w8.heap.size = u := ⟨_, rfl⟩
    rw [hbk8] at nT8
    rw [hbk8]
    clear hbk8
    obtain ⟨⟨r, hr⟩, hbi⟩ := hg
    have hn68 : ¬ (n8 : Int) < (n6 : Int) := by
      have h1 := hT6'.1
      have h2 := hT8.1
      rw [hr, List.length_append] at h2
      omega
    have HRow := hid fun (V : World) (hV : Below w9.heap.size w9 V) => (⟨(hV.block bk6 (Array.getElem?_eq_some_iff.1 nT6').1).trans nT6', (hV.block bk8 (Array.getElem?_eq_some_iff.1 nT8).1).trans nT8, hT6'.below hV, hT8.below hV⟩ : _ ∧ _ ∧ _ ∧ _)
    have c60 := cell_of_row _ bk6 0 _ _ _ nT6'
    have c67 := cell_of_row _ bk6 7 _ _ _ nT6'
    have c80 := cell_of_row _ bk8 0 _ _ _ nT8
    have c87 := cell_of_row _ bk8 7 _ _ _ nT8
    have HGe := hid hr
    have hn6 : n6 ≤ 240 := by
      have h1 := hT6'.1
      omega
    have hne : ((x : Int) != (x : Int)) = false := by simp
    have HVB := hid (HB.out w9 hV9)
    clear hV9 nT6' nT8 hT6' hT8 hr
    go_cut [102] from 80 to 102 (fun s102 W => s102 = .bool false ∧ W = w9)
    case first =>
      by_cases hs0 : s.bind = 0
      · have hs1 : (s.bind != 0) = false := by simp [hs0]
        clear hs0 hbi
        generalize s.bind = sb at *
        go_wp2_with fail
        go_meet
        exact ⟨rfl, rfl⟩
      · have hs1 : (s.bind != 0) = true := by simpa using hs0
        have ht1 : (t.bind == 0) = false := by simpa using hbi hs0
        clear hs0 hbi
        generalize s.bind = sb at *
        generalize t.bind = tb at *
        go_wp2_with fail
        go_meet
        exact ⟨rfl, rfl⟩
    case rest =>
      obtain ⟨rfl, rfl⟩ := hcut
      clear hbi c60 c67 c80 c87 hne hn68
      go_wp2_with fail
      go_loopw [17] (fun iv W => ∃ g : Nat, iv = .int .i64 (g : Int) ∧ g ≤ n6 ∧ Below wc.heap.size wc W) (fun iv _ => n6 - (intOf iv).toNat)
      case atStart => exact ⟨0, rfl, by omega, Below.refl _ _⟩
      case round =>
      obtain ⟨g, rfl, hg, hb⟩ := hrel
      obtain ⟨nT6, nT8, h6, h8⟩ := HRow.out wr hb
      have c67 := cell_of_row _ bk6 7 _ _ _ nT6
      have c87 := cell_of_row _ bk8 7 _ _ _ nT8
      by_cases hlt3 : g < n6
      · have hgi : (g : Int) < (n6 : Int) := by omega
        have hgl : g < s.strongs.length := by have := h6.1; omega
        have hgt : g < t.strongs.length := by rw [HGe.out, List.length_append]; omega
        have hgi8 : (g : Int) < (n8 : Int) := by have := h8.1; omega
        obtain ⟨p6, o6, rfl, _, d6⟩ := h6.2 g hgl
        obtain ⟨p8, o8, rfl, _, d8⟩ := h8.2 g hgt
        have he : t.strongs[g] = s.strongs[g] := by
          have h1 : t.strongs[g]? = s.strongs[g]? := by rw [HGe.out, List.getElem?_append_left hgl]
          rw [List.getElem?_eq_getElem hgt, List.getElem?_eq_getElem hgl] at h1
          injection h1
        rw [he] at d8
        clear he h6 h8 nT6 nT8
        generalize s.strongs[g] = z at *
        have hz : (z != z) = false := by simp
        go_upto_region 27 with fail
        go_quiet (fail)
        go_wp2_with fail
        go_roundw
        · exact ⟨g + 1, by go_num, by omega, bdr hb _⟩
        · simp [intOf]; omega
      · obtain rfl : g = n6 := by omega
        have hgi : ¬ (g : Int) < (g : Int) := by omega
        have B9 := HVB.out.trans (hb.mono HVB.out.size)
        clear nT6 nT8 h6 h8
        go_wp2_with fail
        go_ret
        exact ⟨rfl, B9⟩
end Go.Proofs.YtndjnmeblpjlhaaDoor.Tab
