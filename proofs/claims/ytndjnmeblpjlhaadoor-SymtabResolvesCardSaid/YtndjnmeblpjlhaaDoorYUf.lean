/-
  SymtabResolves, walked.
-/
import Derived.Test.YtndjnmeblpjlhaaDoorYUb
import Derived.BigQuiet
import Derived.Deep.Cut
import Derived.Deep.CutRange
namespace Go.Proofs.YtndjnmeblpjlhaaDoor.Tab
open Go.RowKit Go.Proofs Go.Proofs.YtndjnmeblpjlhaaDoor.Byt
open Go.Proofs.YtndjnmeblpjlhaaDoor.Obj (Sy RdS SCells)
open Go.Proofs.YtndjnmeblpjlhaaDoor.Bnd

/-- What has been seen of a name: in the objects ahead, and in the first symbols of one. -/
def seenU (os : List (List Sy)) (nm : ByteArray) (k : Nat) (o : List Sy) (j : Nat) : List Us := uses (os.take k) nm ++ us1 nm k (o.take j)
def bstF (l : List Us) : Bst := l.foldl Bst.step ⟨0, 0, 0, -1⟩
theorem bstF_snoc (l : List Us) (x : Us) : bstF (l ++ [x]) = (bstF l).step x := by simp [bstF]
theorem seen_zero (os : List (List Sy)) (nm : ByteArray) (k : Nat) (o : List Sy) : seenU os nm k o 0 = uses (os.take k) nm := by
  unfold seenU
  rw [us1_zero, List.append_nil]
theorem seen_yes {os : List (List Sy)} {nm : ByteArray} {k j : Nat} {o : List Sy} (hj : j < o.length) (h : o[j].name = nm) : seenU os nm k o (j + 1) = seenU os nm k o j ++ [⟨o[j], (k : Int)⟩] := by
  unfold seenU
  rw [us1_step hj, if_pos h, List.append_assoc]
theorem seen_no {os : List (List Sy)} {nm : ByteArray} {k j : Nat} {o : List Sy} (hj : j < o.length) (h : o[j].name ≠ nm) : seenU os nm k o (j + 1) = seenU os nm k o j := by
  unfold seenU
  rw [us1_step hj, if_neg h, List.append_nil]
theorem seen_all {os : List (List Sy)} {nm : ByteArray} {k : Nat} (hk : k < os.length) : seenU os nm k os[k] os[k].length = uses (os.take (k + 1)) nm := by
  unfold seenU
  rw [List.take_of_length_le (Nat.le_refl _), ← uses_take hk]
theorem best_pos {l : List Us} (h : ∀ x ∈ l, uOk x = true) (hne : l ≠ []) : 0 < bstOf (allL l) := by
  revert h hne
  refine Dec.by_snoc (P := fun l => (∀ x ∈ l, uOk x = true) → l ≠ [] → 0 < bstOf (allL l)) (fun _ h => absurd rfl h) (fun l x _ h _ => ?_) l
  rw [allL_snoc]
  have hu := five (h x (by simp))
  have wf := wf_all l
  generalize allL l = S at *
  have e1 : (joi S (sgl x)).bind = (prv S (sgl x)).bind := rfl
  have e2 : (joi S (sgl x)).sr = (S.sr || (sgl x).sr) := rfl
  have e3 : (joi S (sgl x)).wr = (S.wr || (sgl x).wr) := rfl
  unfold bstOf
  rw [e1, e2, e3, prv_bind]
  have r1 : rnk 1 = 3 := rfl
  have r2 : rnk 2 = 1 := rfl
  have r3 : rnk 3 = 2 := rfl
  have r4 : rnk 4 = 0 := rfl
  have r5 : rnk 5 = 0 := rfl
  have r0 : rnk 0 = 0 := rfl
  obtain ⟨⟨nm, xb, xz, xa⟩, xu⟩ := x
  obtain ⟨sb, sz, sa, su, sd, sr, sw, sl⟩ := S
  obtain ⟨wb, _⟩ := wf
  simp only at hu wb
  rcases hu with rfl | rfl | rfl | rfl | rfl <;> rcases wb with rfl | rfl | rfl | rfl <;> simp [sgl, r0, r1, r2, r3, r4, r5] <;> split <;> omega
set_option linter.unusedSimpArgs false in
set_option maxRecDepth 100000 in
set_option maxHeartbeats 16000000 in
theorem resolves14 (w : World) (hP : Prec w) (A : Option Addr) (n c : Nat) (os : List (List Sy)) (h : RdO w w.heap.size A n os) (at_ : Nat) (hat : at_ < 256) :
    Calls Tryd.prog 4 #[.slice A n c, .int .u8 (at_ : Int)] w fun e w' => e = .returned (.bool true) ∧ Below w.heap.size w w' := by
  have Hl := hid h.1
  have HA := hid fun (V : World) (hV : Below w.heap.size w V) => awake_any V (hP.on hV)
  go_enter Tryd.func4, Tryd.ntmps4
  go_wp2_with fail
  refine (HA.out w (Below.refl _ _)).mono ?_
  rintro e w1 ⟨rfl, b1⟩
  go_wp2_with fail
  refine (rright_any w.heap.size A n c os w1 (h.below b1) b1.size).mono ?_
  rintro e w2 ⟨b2', hr⟩
  have b2 := b1.trans (b2'.mono b1.size)
  clear b2' b1
  rcases hr with ⟨rfl, hR⟩ | rfl
  case inr =>
    go_wp2_with fail
    refine (HA.out w2 b2).mono ?_
    rintro e w3 ⟨rfl, b3⟩
    go_wp2_with fail
    go_ret
    exact ⟨rfl, b2.trans (b3.mono b2.size)⟩
  case inl =>
  have HK := hid hR.ok
  have hn12 : n ≤ 12 := by have := HK.out.len; have := Hl.out; omega
  clear hR
  have hb3 := (Below.refl w2.heap.size w2).alloc (Nat.le_refl _) (.cells #[.int .i64 0, .map none] 29)
  have hn3 := heap_alloc_new w2 (.cells #[.int .i64 0, .map none] 29)
  have hL3 := Ld.start (os := os) (b2.trans (hb3.mono b2.size)) hn3 b2.size
  go_upto_region 4 with fail
  generalize w2.alloc (.cells #[.int .i64 0, .map none] 29) = w3 at *
  obtain ⟨T, hT⟩ : ∃ T, w2.heap.size = T := ⟨_, rfl⟩
  rw [hT] at hL3
  rw [hT]
  clear hb3 hn3 hT b2 HA
  go_wp2_with fail
  go_loopw [6] (fun iv W => ∃ (k : Nat) (mo : Option Nat), iv = .int .i64 (k : Int) ∧ k ≤ n ∧ Ld w os T mo k W) (fun iv _ => n - (intOf iv).toNat)
  case atStart => exact ⟨0, none, rfl, by omega, hL3⟩
  case round =>
  obtain ⟨k, mo, rfl, hk, hL⟩ := hrel
  clear hL3
  by_cases hlt : k < n
  · have hkl : k < os.length := by have := Hl.out; omega
    have hki : (k : Int) < (n : Int) := by omega
    obtain ⟨b, o, rfl, hbK, S, B, p, cs, md, d, q0, q1, hob⟩ := h.2 k hkl
    have c0 := (hL.b.cell (p := ⟨b, o + k * 2, none⟩) hbK).trans q0
    have c1 := (hL.b.cell (p := ⟨b, o + k * 2 + 1, none⟩) hbK).trans q1
    have HR := hid (ld_round hL hP HK.out hkl hob)
    clear hL q0 q1 hob
    go_wp2_with fail
    refine HR.out.mono ?_
    rintro e w4 ⟨rfl, M, hL4, _⟩
    clear HR c0 c1
    go_wp2_with fail
    go_roundw
    · exact ⟨k + 1, some M, by go_num, by omega, hL4⟩
    · simp [intOf]; omega
  obtain rfl : k = n := by omega
  have hki : ¬ (k : Int) < (k : Int) := by omega
  generalize wr = V0 at *
  have hos : os.take k = os := List.take_of_length_le (by have := Hl.out; omega)
  have HT := hid fun (V : World) (hV : Below V0.heap.size V0 V) => (hos ▸ (hL.on hV).t : Tb V T T mo os)
  have HB := hid fun (V : World) (hV : Below V0.heap.size V0 V) => (hL.on hV).b
  have b0 : Below V0.heap.size V0 V0 := Below.refl _ _
  clear hL hos
  go_wp2_with fail
  refine (tresolved_any (HT.out V0 b0) HK.out).mono ?_
  rintro e w4 ⟨A4, c4, rfl, o4, b4⟩
  have hR4 := rowned o4
  have hRn : (resL os).length = (nms os).length := by unfold resL; rw [List.length_map]
  rw [hRn] at hR4
  rw [hRn]
  have hml : (nms os).length ≤ 240 := HK.out.nmsl
  clear o4 hRn b0
  by_cases h0 : (nms os).length = 0
  · rw [h0]
    have HN := hid (rnames_any w.heap.size A k c os w4 (h.below (HB.out w4 b4)) (HB.out w4 b4).size hn12 HK.out.few)
    go_wp2_with fail
    refine HN.out.mono ?_
    rintro e w5 ⟨A5, c5, rfl, _, b5⟩
    have B9 := HB.out w5 (b4.trans (b5.mono b4.size))
    rw [h0]
    go_wp2_with fail
    go_ret
    exact ⟨rfl, B9⟩
  obtain ⟨m, hm⟩ : ∃ m, (nms os).length = m := ⟨_, rfl⟩
  rw [hm] at hR4 hml h0
  rw [hm]
  have hm0 : ((m : Int) == 0) = false := by simpa using h0
  have hmz : (m : Int) ≠ 0 := by omega
  obtain ⟨kk, hkk, hkm⟩ : ∃ kk : Nat, (at_ : Int) % (m : Int) = (kk : Int) ∧ kk < m := ⟨at_ % m, (Int.natCast_emod at_ m).symm, Nat.mod_lt _ (by omega)⟩
  have hkn : kk < (nms os).length := by omega
  have hkr : kk < (resL os).length := by unfold resL; rw [List.length_map]; exact hkn
  have hnm : (nms os)[kk] ∈ nms os := List.getElem_mem hkn
  have hrs : (resL os)[kk] = rsv (nms os)[kk] (ofL (uses os (nms os)[kk])) := by simp only [resL, List.getElem_map]
  obtain ⟨b, o, rfl, hbK, hcell⟩ := hR4.2 kk hkr
  rw [hrs] at hcell
  generalize (nms os)[kk] = nm at *
  have hune := uses_iff.2 hnm
  have HV := hid (HK.out.vs nm)
  have HE := hid (HK.out.all nm)
  have HBt := hid (bst_all (uses os nm) HV.out)
  have HPos := hid (best_pos (fun x hx => (HV.out x hx).1) hune)
  have HWf := hid (wf_all (uses os nm))
  have p0 : w4.cell? ⟨b, o + kk * 5, none⟩ = some (.string nm) := hcell 0 _ rfl
  have p1 : w4.cell? ⟨b, o + kk * 5 + 1, none⟩ = some (.int .i64 (rb (ofL (uses os nm)))) := hcell 1 _ rfl
  have p2 : w4.cell? ⟨b, o + kk * 5 + 2, none⟩ = some (.int .i64 (ofL (uses os nm)).size) := hcell 2 _ rfl
  have p3 : w4.cell? ⟨b, o + kk * 5 + 3, none⟩ = some (.int .i64 (ofL (uses os nm)).align) := hcell 3 _ rfl
  have p4 : w4.cell? ⟨b, o + kk * 5 + 4, none⟩ = some (.int .i64 (ofL (uses os nm)).unit) := hcell 4 _ rfl
  rw [HE.out] at p1 p2 p3 p4
  have hkki : (kk : Int) < (m : Int) := by omega
  clear hcell hrs hkr hkn hnm hune hm HT
  generalize hS : allL (uses os nm) = S at *
  have HRb : Hid (rb S = if S.bind ≠ 0 then S.bind else if S.sr = true then 4 else 5) := hid rfl
  generalize rb S = rbS at *
  go_upto_region 12 with fail
  have hb5 := b4.alloc b4.size (.cells #[.string nm, .int .i64 rbS, .int .i64 S.size, .int .i64 S.align, .int .i64 S.unit] 54)
  have hn5 := heap_alloc_new w4 (.cells #[.string nm, .int .i64 rbS, .int .i64 S.size, .int .i64 S.align, .int .i64 S.unit] 54)
  generalize w4.alloc (.cells #[.string nm, .int .i64 rbS, .int .i64 S.size, .int .i64 S.align, .int .i64 S.unit] 54) = w5 at *
  obtain ⟨v8, hv8⟩ : ∃ v, w4.heap.size = v := ⟨_, rfl⟩
  rw [hv8] at hn5
  rw [hv8]
  have HRow := hid fun (V : World) (hV : Below w5.heap.size w5 V) => (hV.block v8 (Array.getElem?_eq_some_iff.1 hn5).1).trans hn5
  have HBW := hid fun (V : World) (hV : Below w5.heap.size w5 V) => HB.out V (hb5.trans (hV.mono hb5.size))
  clear hb5 hn5 hv8 b4 p0 p1 p2 p3 p4 hR4 hkki hm0 hmz h0 hkk hml hat
  go_wp2_with fail
  go_loopw [9, 10, 11, 12, 13, 14, 15, 16] (fun bv zv av uv iv _ _ _ W => ∃ (i : Nat) (t : Bst), iv = .int .i64 (i : Int) ∧ i ≤ k ∧ bv = .int .i64 t.best ∧ zv = .int .i64 t.size ∧ av = .int .i64 t.align ∧ uv = .int .i64 t.unit ∧ Hid (t = bstF (uses (os.take i) nm)) ∧ Below w5.heap.size w5 W) (fun _ _ _ _ iv _ _ _ _ => k - (intOf iv).toNat)
  case atStart => exact ⟨0, ⟨0, 0, 0, -1⟩, rfl, by omega, rfl, rfl, rfl, rfl, hid rfl, Below.refl _ _⟩
  case round =>
  obtain ⟨i, t, rfl, hi, rfl, rfl, rfl, rfl, hT, hb⟩ := hrel
  by_cases hlt2 : i < k
  · have hil : i < os.length := by have := Hl.out; omega
    have hii : (i : Int) < (k : Int) := by omega
    obtain ⟨b', o', rfl, hbK', S', B', p, cs, md, d, q0, q1, hob⟩ := h.2 i hil
    have HC := hid fun (V : World) (hV : Below w5.heap.size w5 V) => ((HBW.out V hV).cell (p := ⟨b', o' + i * 2, none⟩) hbK').trans q0
    have HS := hid fun (V : World) (hV : Below w5.heap.size w5 V) => hob.s.below (HBW.out V hV)
    have Hp := hid hob.s.1
    have hp20 : p ≤ 20 := by rw [← Hp.out]; exact HK.out.few _ (List.getElem_mem hil)
    have HV5 := hid (HK.out.sym _ (List.getElem_mem hil))
    have HA := hid (seen_all (nm := nm) hil)
    have hT0 : Hid (t = bstF (seenU os nm i os[i] 0)) := hid (by rw [seen_zero]; exact hT.out)
    generalize os[i] = ob at *
    have c0 := HC.out wr hb
    clear q0 q1 hob hT
    go_wp2_with fail
    go_loopw [9, 10, 11, 12, 14, 15, 16] (fun bv zv av uv jv _ _ W => ∃ (j : Nat) (t : Bst), jv = .int .i64 (j : Int) ∧ j ≤ p ∧ bv = .int .i64 t.best ∧ zv = .int .i64 t.size ∧ av = .int .i64 t.align ∧ uv = .int .i64 t.unit ∧ Hid (t = bstF (seenU os nm i ob j)) ∧ Below w5.heap.size w5 W) (fun _ _ _ _ jv _ _ _ => p - (intOf jv).toNat)
    case atStart => exact ⟨0, t, rfl, by omega, rfl, rfl, rfl, rfl, hT0, hb⟩
    case round =>
    clear hT0 hb c0
    generalize t = told at *
    obtain ⟨j, t, rfl, hj, rfl, rfl, rfl, rfl, hT, hb⟩ := hrel
    have c0 := HC.out wr hb
    by_cases hlt3 : j < p
    · have hjl : j < ob.length := by have := Hp.out; omega
      have hji : (j : Int) < (p : Int) := by omega
      obtain ⟨⟨b2, o2, rfl, hbK2, hcell⟩, _⟩ := (HS.out wr hb).2 j hjl
      have hsv := HV5.out _ (List.getElem_mem hjl)
      have HY : Hid (ob[j].name = nm → bstF (seenU os nm i ob (j + 1)) = t.step ⟨ob[j], (i : Int)⟩) := hid fun e => by rw [seen_yes hjl e, bstF_snoc, ← hT.out]
      have HN : Hid (ob[j].name ≠ nm → t = bstF (seenU os nm i ob (j + 1))) := hid fun e => by rw [seen_no hjl e]; exact hT.out
      generalize ob[j] = x at *
      obtain ⟨x0, x1, x2, x3⟩ := x
      obtain ⟨p0, p1, p2, p3⟩ := hcell
      dsimp only at *
      have hb6 := hb.alloc hb.size (.cells #[.string x0, .int .i64 x1, .int .i64 x2, .int .i64 x3] 56)
      have hn6 := heap_alloc_new wr (.cells #[.string x0, .int .i64 x1, .int .i64 x2, .int .i64 x3] 56)
      go_upto_region 21 with fail
      generalize wr.alloc (.cells #[.string x0, .int .i64 x1, .int .i64 x2, .int .i64 x3] 56) = w6 at *
      obtain ⟨y8, hy8⟩ : ∃ v, wr.heap.size = v := ⟨_, rfl⟩
      rw [hy8] at hn6
      rw [hy8]
      have r0 := cell_of_row _ v8 0 _ _ _ (HRow.out w6 hb6)
      have s0 := cell_of_row _ y8 0 _ _ _ hn6
      have s1 := cell_of_row _ y8 1 _ _ _ hn6
      have s2 := cell_of_row _ y8 2 _ _ _ hn6
      have s3 := cell_of_row _ y8 3 _ _ _ hn6
      clear p0 p1 p2 p3 c0 hb hn6 hy8 hT
      by_cases he : x0 = nm
      · have e2 : (x0.toList == nm.toList) = true := by rw [he]; simp
        have hst := hid (HY.out he)
        clear HY HN he
        have h5 := five (x := ⟨⟨x0, x1, x2, x3⟩, 0⟩) (uOk_iff.2 ⟨hsv.1, hsv.2.1, hsv.2.2.1, hsv.2.2.2.1, Int.le_refl 0⟩)
        simp only at h5
        obtain ⟨tb, tz, ta, tu⟩ := t
        dsimp only at *
        rcases h5 with rfl | rfl | rfl | rfl | rfl
        · by_cases hbl : tb < 5
          · have HN1 : Hid ((⟨5, x2, x3, (i : Int)⟩ : Bst) = bstF (seenU os nm i ob (j + 1))) := hid (by rw [hst.out]; simp [Bst.step, rk, hbl])
            clear hst
            go_upto_region 39 with fail
            go_quiet (fail)
            go_wp2_with fail
            go_roundw
            · exact ⟨j + 1, _, by go_num, by omega, rfl, rfl, rfl, rfl, HN1, bdr hb6 _⟩
            · simp [intOf]; omega
          · have HN1 : Hid ((⟨tb, tz, ta, tu⟩ : Bst) = bstF (seenU os nm i ob (j + 1))) := hid (by rw [hst.out]; simp [Bst.step, rk, hbl])
            clear hst
            go_wp2_with fail
            go_roundw
            · exact ⟨j + 1, _, by go_num, by omega, rfl, rfl, rfl, rfl, HN1, hb6⟩
            · simp [intOf]; omega
        · by_cases hbl : tb < 3
          · have HN1 : Hid ((⟨3, x2, x3, (i : Int)⟩ : Bst) = bstF (seenU os nm i ob (j + 1))) := hid (by rw [hst.out]; simp [Bst.step, rk, hbl])
            clear hst
            go_upto_region 39 with fail
            go_quiet (fail)
            go_wp2_with fail
            go_roundw
            · exact ⟨j + 1, _, by go_num, by omega, rfl, rfl, rfl, rfl, HN1, bdr hb6 _⟩
            · simp [intOf]; omega
          · have HN1 : Hid ((⟨tb, tz, ta, tu⟩ : Bst) = bstF (seenU os nm i ob (j + 1))) := hid (by rw [hst.out]; simp [Bst.step, rk, hbl])
            clear hst
            go_wp2_with fail
            go_roundw
            · exact ⟨j + 1, _, by go_num, by omega, rfl, rfl, rfl, rfl, HN1, hb6⟩
            · simp [intOf]; omega
        · by_cases hbl : tb < 4
          · have hb4 : (tb == 4) = false := by simp; omega
            have hb4' : ¬ tb = 4 := by omega
            have HN1 : Hid ((⟨4, x2, x3, (i : Int)⟩ : Bst) = bstF (seenU os nm i ob (j + 1))) := hid (by rw [hst.out]; simp [Bst.step, rk, hbl, hb4'])
            clear hst
            go_upto_region 39 with fail
            go_quiet (fail)
            go_wp2_with fail
            go_roundw
            · exact ⟨j + 1, _, by go_num, by omega, rfl, rfl, rfl, rfl, HN1, bdr hb6 _⟩
            · simp [intOf]; omega
          by_cases hb4 : tb = 4
          · subst hb4
            have HN1 : Hid ((⟨4, max tz x2, max ta x3, tu⟩ : Bst) = bstF (seenU os nm i ob (j + 1))) := hid (by rw [hst.out]; simp [Bst.step, rk, hbl])
            clear hst
            go_wp2_with fail
            go_roundw
            · exact ⟨j + 1, _, by go_num, by omega, rfl, rfl, rfl, rfl, HN1, hb6⟩
            · simp [intOf]; omega
          · have hb5 : (tb == 4) = false := by simpa using hb4
            have HN1 : Hid ((⟨tb, tz, ta, tu⟩ : Bst) = bstF (seenU os nm i ob (j + 1))) := hid (by rw [hst.out]; simp [Bst.step, rk, hbl, hb4])
            clear hst
            go_wp2_with fail
            go_roundw
            · exact ⟨j + 1, _, by go_num, by omega, rfl, rfl, rfl, rfl, HN1, hb6⟩
            · simp [intOf]; omega
        · by_cases hbl : tb < 2
          · have HN1 : Hid ((⟨2, x2, x3, (i : Int)⟩ : Bst) = bstF (seenU os nm i ob (j + 1))) := hid (by rw [hst.out]; simp [Bst.step, rk, hbl])
            clear hst
            go_upto_region 39 with fail
            go_quiet (fail)
            go_wp2_with fail
            go_roundw
            · exact ⟨j + 1, _, by go_num, by omega, rfl, rfl, rfl, rfl, HN1, bdr hb6 _⟩
            · simp [intOf]; omega
          · have HN1 : Hid ((⟨tb, tz, ta, tu⟩ : Bst) = bstF (seenU os nm i ob (j + 1))) := hid (by rw [hst.out]; simp [Bst.step, rk, hbl])
            clear hst
            go_wp2_with fail
            go_roundw
            · exact ⟨j + 1, _, by go_num, by omega, rfl, rfl, rfl, rfl, HN1, hb6⟩
            · simp [intOf]; omega
        · by_cases hbl : tb < 1
          · have HN1 : Hid ((⟨1, x2, x3, (i : Int)⟩ : Bst) = bstF (seenU os nm i ob (j + 1))) := hid (by rw [hst.out]; simp [Bst.step, rk, hbl])
            clear hst
            go_upto_region 39 with fail
            go_quiet (fail)
            go_wp2_with fail
            go_roundw
            · exact ⟨j + 1, _, by go_num, by omega, rfl, rfl, rfl, rfl, HN1, bdr hb6 _⟩
            · simp [intOf]; omega
          · have HN1 : Hid ((⟨tb, tz, ta, tu⟩ : Bst) = bstF (seenU os nm i ob (j + 1))) := hid (by rw [hst.out]; simp [Bst.step, rk, hbl])
            clear hst
            go_wp2_with fail
            go_roundw
            · exact ⟨j + 1, _, by go_num, by omega, rfl, rfl, rfl, rfl, HN1, hb6⟩
            · simp [intOf]; omega
      · have e2 : (x0.toList == nm.toList) = false := by
          simp only [beq_eq_false_iff_ne]
          exact fun e => he (tl_inj e)
        have HN1 := hid (HN.out he)
        clear HY HN he
        go_wp2_with fail
        go_roundw
        · exact ⟨j + 1, t, by go_num, by omega, rfl, rfl, rfl, rfl, HN1, hb6⟩
        · simp [intOf]; omega
    · obtain rfl : j = p := by omega
      have hji : ¬ (j : Int) < (j : Int) := by omega
      have HT1 : Hid (t = bstF (uses (os.take (i + 1)) nm)) := hid (by rw [← HA.out, Hp.out]; exact hT.out)
      go_wp2_with fail
      go_roundw
      · exact ⟨i + 1, t, by go_num, by omega, rfl, rfl, rfl, rfl, HT1, hb⟩
      · simp [intOf]; omega
  obtain rfl : i = k := by omega
  have hii : ¬ (i : Int) < (i : Int) := by omega
  have hos : os.take i = os := List.take_of_length_le (by have := Hl.out; omega)
  rw [hos] at hT
  obtain ⟨f1, f2, f3, f4⟩ := HBt.out
  have hf : (uses os nm).foldl Bst.step ⟨0, 0, 0, -1⟩ = t := hT.out.symm
  rw [hf] at f1 f2 f3 f4
  have hw := HWf.out
  have hp := HPos.out
  have hrb := HRb.out
  have hrow := HRow.out wr hb
  have B9 := HBW.out wr hb
  clear HBt HWf HPos HRb HRow HBW hf hT hos hS HE HV
  obtain ⟨tb, tz, ta, tu⟩ := t
  obtain ⟨sb, sz, sa, su, sd, sr, sw, sl⟩ := S
  obtain ⟨wb, w0⟩ := hw
  dsimp only at *
  subst f2 f3
  rcases wb with rfl | rfl | rfl | rfl
  · obtain ⟨rfl, rfl, rfl⟩ := w0 rfl
    clear f4 w0
    cases sr
    · cases sw
      · simp [bstOf] at hp
      · have e1 : tb = 1 := by rw [f1]; rfl
        have e2 : rbS = 5 := by rw [hrb]; rfl
        subst e1 e2
        clear f1 hrb hp
        have r1 := cell_of_row _ v8 1 _ _ _ hrow
        have r2 := cell_of_row _ v8 2 _ _ _ hrow
        have r3 := cell_of_row _ v8 3 _ _ _ hrow
        have r4 := cell_of_row _ v8 4 _ _ _ hrow
        go_wp2_with fail
        go_ret
        exact ⟨rfl, B9⟩
    · have e1 : tb = 2 := by rw [f1]; rfl
      have e2 : rbS = 4 := by rw [hrb]; rfl
      subst e1 e2
      clear f1 hrb hp
      have r1 := cell_of_row _ v8 1 _ _ _ hrow
      have r2 := cell_of_row _ v8 2 _ _ _ hrow
      have r3 := cell_of_row _ v8 3 _ _ _ hrow
      have r4 := cell_of_row _ v8 4 _ _ _ hrow
      go_wp2_with fail
      go_ret
      exact ⟨rfl, B9⟩
  · have e1 : tb = 5 := by rw [f1]; rfl
    have e2 : rbS = 1 := by rw [hrb]; rfl
    obtain rfl : tu = su := f4 (by decide)
    subst e1 e2
    clear f1 hrb hp f4 w0
    have r1 := cell_of_row _ v8 1 _ _ _ hrow
    have r2 := cell_of_row _ v8 2 _ _ _ hrow
    have r3 := cell_of_row _ v8 3 _ _ _ hrow
    have r4 := cell_of_row _ v8 4 _ _ _ hrow
    go_wp2_with fail
    go_ret
    exact ⟨rfl, B9⟩
  · have e1 : tb = 3 := by rw [f1]; rfl
    have e2 : rbS = 2 := by rw [hrb]; rfl
    obtain rfl : tu = su := f4 (by decide)
    subst e1 e2
    clear f1 hrb hp f4 w0
    have r1 := cell_of_row _ v8 1 _ _ _ hrow
    have r2 := cell_of_row _ v8 2 _ _ _ hrow
    have r3 := cell_of_row _ v8 3 _ _ _ hrow
    have r4 := cell_of_row _ v8 4 _ _ _ hrow
    go_wp2_with fail
    go_ret
    exact ⟨rfl, B9⟩
  · have e1 : tb = 4 := by rw [f1]; rfl
    have e2 : rbS = 3 := by rw [hrb]; rfl
    obtain rfl : tu = su := f4 (by decide)
    subst e1 e2
    clear f1 hrb hp f4 w0
    have r1 := cell_of_row _ v8 1 _ _ _ hrow
    have r2 := cell_of_row _ v8 2 _ _ _ hrow
    have r3 := cell_of_row _ v8 3 _ _ _ hrow
    have r4 := cell_of_row _ v8 4 _ _ _ hrow
    go_wp2_with fail
    go_ret
    exact ⟨rfl, B9⟩
end Go.Proofs.YtndjnmeblpjlhaaDoor.Tab
