/-
  WantedOnce, walked.
-/
import Derived.Test.YtbcjbembhajgcaaQn
namespace Go.Proofs.Ytbcjbembhajgcaa.Wnt
open Go.RowKit Go.Proofs Go.Proofs.Ytbcjbembhajgcaa.Byt
open Go.Proofs.Ytbcjbembhajgcaa.Tab (bl bl_iff bl_irrefl bl_trans bl_total putN mem_put Asc asc_put asc_eq tl_inj)

/-- The name that was taken before. -/
def bef (ws : List ByteArray) (i : Nat) : ByteArray := if i = 0 then ⟨#[]⟩ else nth ws (i - 1)
set_option linter.unusedSimpArgs false in
set_option maxRecDepth 100000 in
set_option maxHeartbeats 4000000 in
theorem once_any (w : World) (A : Option Addr) (n c : Nat) (xs : List ByteArray) (h : Sls.Rd w w.heap.size A n xs) (hn : n ≤ c) (hc : c ≤ maxLen) :
    Calls Try.prog 4 #[.slice A n c] w fun e w' => e = .returned (.bool true) ∧ Below w.heap.size w w' := by
  have HX := hid h
  have Hl : xs.length = n := h.1
  have HN := hid (And.intro hn hc)
  have HA := hid fun V => awake15_any V
  clear h hn hc
  go_enter Try.func4, Try.ntmps4
  go_wp2_with fail
  refine (HA.out _).mono ?_
  rintro e w1 ⟨rfl, hb1⟩
  have HR1 := hid (HX.out.below hb1)
  have HF := hid (few_one HR1.out hb1.size HN.out.1 HN.out.2)
  have HB1 := hid hb1
  have HB2 := hid (hb1.alloc hb1.size (.cells #[.bool false, .slice A n c] 33))
  clear hb1
  go_wp2_with fail
  refine HF.out.mono ?_
  rintro e w2 ⟨b, rfl, rfl, hb⟩
  clear HF
  cases b
  · clear hb
    go_wp2_with fail
    refine (HA.out _).mono ?_
    rintro e w3 ⟨rfl, hb3⟩
    have HB3 := hid (HB2.out.trans (hb3.mono HB2.out.size))
    clear hb3
    go_wp2_with fail
    go_ret
    exact ⟨rfl, HB3.out⟩
  · have hn2 : n ≤ 200 := (hb rfl).2
    clear hb HA HN
    generalize w1.alloc (.cells #[.bool false, .slice A n c] 33) = w2 at *
    have hQ : Qr (w2.alloc (.cells #[.map none, .slice none 0 0] 29)) w2.heap.size (.map none) (.slice none 0 0) := heap_alloc_new w2 _
    have HL0 := hid (Lst.zero hQ)
    have HB3 := hid ((Below.refl w2.heap.size w2).alloc (Nat.le_refl _) (.cells #[.map none, .slice none 0 0] 29))
    clear hQ
    have hT := HB2.out.size
    go_upto_region 4 with fail
    obtain ⟨T, hTe⟩ : ∃ T, w2.heap.size = T := ⟨_, rfl⟩
    rw [hTe] at HL0 HB3 hT ⊢
    have HRd := hid (((HX.out.below HB2.out).below (HB3.out.mono hT)).more hT)
    have HB4 := hid (HB2.out.trans (HB3.out.mono hT))
    generalize w2.alloc (.cells #[.map none, .slice none 0 0] 29) = w3 at *
    have HA4 := hid ((add_old (c := c) HL0.out HRd.out (Nat.le_refl _) (by simp; omega) (by simp; omega)).mono fun e w' h => (⟨h.1.trans (ret_int (by simp)), h.2⟩ : e = .returned (.int .i64 ((addA ([], []) xs).2.length : Int)) ∧ LstP T (fun g => g = T) T (addA ([], []) xs).1 (addA ([], []) xs).2 w3 w'))
    have HI := hid (addA_inv (p := ([], [])) (List.Perm.refl _) xs)
    have HM := hid (addA_mem ([], []) xs)
    have HLn := hid (addA_len ([], []) xs)
    have hL0 := hid (addA_asc xs)
    clear HB2 HB3 HL0 hTe
    generalize addA ([], []) xs = p at *
    obtain ⟨ws, sn⟩ := p
    simp only at HA4 HI HM HLn
    have HWn := hid HI.out.length_eq
    have hwl : ws.length ≤ 200 := by have := HLn.out.1; simp at this; omega
    go_upto_region 5 with (go_at_call 10; refine HA4.out.mono ?_; rintro e w4 ⟨rfl, hl4, hs4⟩)
    rw [← HWn.out]
    have HL4 := hid hl4
    have HB5 := hid (HB4.out.trans (hs4.1.mono hT))
    clear HA4 HB4 hl4 hs4 HRd
    go_wp2_with fail
    go_loopw [5, 6] (fun bv iv W => ∃ (i : Nat) (F : Nat → Prop), bv = .string (bef ws i) ∧ iv = .int .i64 (i : Int) ∧ i ≤ ws.length ∧ Hid (Lst W T F T (ws.drop i) sn) ∧ Hid (Below w.heap.size w W)) (fun _ iv _ => ws.length - (intOf iv).toNat)
    case atStart => exact ⟨0, _, rfl, rfl, Nat.zero_le _, HL4, HB5⟩
    case round =>
      obtain ⟨i, F, rfl, rfl, hi, hL, hB⟩ := hrel
      clear HL4 HB5
      by_cases hlt : i < ws.length
      · have hii : (i : Int) < (ws.length : Int) := by omega
        have hd : ws.drop i = ws[i] :: ws.drop (i + 1) := List.drop_eq_getElem_cons hlt
        have HT := hid (ltake_any (hd ▸ hL.out) (by rw [List.length_drop]; omega))
        have HS : Hid (hasN xs ws[i] = true) := hid (hasN_iff.2 (((HM.out _).1 (HI.out.mem_iff.1 (List.getElem_mem hlt))).elim (fun h => absurd h (by simp)) id))
        have HBf : Hid (0 < i → Op.bytesLess (bef ws i).toList ws[i].toList = true) := hid fun h0 => by
          unfold bef
          rw [if_neg (by omega), nth_eq (by omega)]
          exact List.pairwise_iff_getElem.1 hL0.out (i - 1) i (by omega) hlt (by omega)
        have HN1 : Hid (bef ws (i + 1) = ws[i]) := hid (by unfold bef; rw [if_neg (by omega), show i + 1 - 1 = i by omega, nth_eq hlt])
        clear hd
        generalize ws[i] = s at *
        generalize bef ws i = t at *
        go_upto_region 10 with (go_at_call 8; refine HT.out.mono ?_; rintro e w5 ⟨rfl, hl5, hs5⟩)
        have HL5 := hid hl5
        have HB6 := hid (hB.out.trans (hs5.1.mono hT))
        have HH := hid (rhas_any w.heap.size A n c xs s w5 (HX.out.below HB6.out) (by omega))
        rw [HS.out] at HH
        clear HT hl5 hs5 hB hL
        by_cases h0 : i = 0
        · subst h0
          clear HBf
          go_wp2_with (go_at_call 14; refine HH.out.mono ?_; rintro e w6 ⟨rfl, rfl⟩)
          go_roundw
          · exact ⟨0 + 1, _, by rw [HN1.out], by go_num, by omega, HL5, HB6⟩
          · simp [intOf]; omega
        · have h0i : (0 : Int) < (i : Int) := by omega
          have hlt2 : bl t s = true := HBf.out (by omega)
          have e1 : Op.bytesLess s.toList t.toList = false := by
            have := not_of hlt2
            simpa [bl] using this
          have e2 : (s.toList == t.toList) = false := by
            simp only [beq_eq_false_iff_ne]
            intro e
            have := tl_inj e
            subst this
            exact not_self _ hlt2
          clear hlt2
          clear HBf
          go_wp2_with (go_at_call 14; refine HH.out.mono ?_; rintro e w6 ⟨rfl, rfl⟩)
          go_roundw
          · exact ⟨i + 1, _, by rw [HN1.out], by go_num, by omega, HL5, HB6⟩
          · simp [intOf]; omega
      · obtain rfl : i = ws.length := by omega
        have hii : ¬ (ws.length : Int) < (ws.length : Int) := by omega
        rw [List.drop_length] at hL
        have HT := hid (ltake_none hL.out)
        have HSn := hid (fun x => lseen_any hL.out x)
        have HLe := hid (llen_any hL.out)
        have HAd := hid (add_old (c := c) hL.out ((HX.out.below hB.out).more hT) (Nat.le_refl _) (by simp; omega) (by have := HWn.out; omega))
        rw [addA_all (p := ([], sn)) (fun x hx => (HM.out x).2 (.inr hx))] at HAd
        have HSa : Hid (∀ x ∈ xs, hasN sn x = true) := hid fun x hx => hasN_iff.2 ((HM.out x).2 (.inr hx))
        go_upto_region 14 with (go_at_call 8; refine HT.out.mono ?_; rintro e w5 ⟨rfl, rfl⟩)
        go_wp2_with fail
        go_loopw [11] (fun jv W => ∃ j : Nat, jv = .int .i64 (j : Int) ∧ j ≤ n ∧ W = w5) (fun jv _ => n - (intOf jv).toNat)
        case atStart => exact ⟨0, rfl, Nat.zero_le _, rfl⟩
        case round =>
          obtain ⟨j, rfl, hj, rfl⟩ := hrel
          by_cases hjn : j < n
          · have hjl : j < xs.length := by omega
            have hji : (j : Int) < (n : Int) := by omega
            obtain ⟨b, o, rfl, _, p0⟩ := (HX.out.below hB.out).2 j hjl
            have HS1 := hid (HSn.out xs[j])
            rw [HSa.out _ (List.getElem_mem hjl)] at HS1
            generalize xs[j] = y at *
            go_wp2_with (go_at_call 13; refine HS1.out.mono ?_; rintro e w6 ⟨rfl, rfl⟩)
            go_roundw
            · exact ⟨j + 1, by go_num, by omega, trivial⟩
            · simp [intOf]; omega
          · obtain rfl : j = n := by omega
            have hji : ¬ (j : Int) < (j : Int) := by omega
            go_wp2_with (first | (go_at_call 12; refine HLe.out.mono ?_; rintro e w6 ⟨rfl, rfl⟩) | (go_at_call 10; refine HAd.out.mono ?_; rintro e w6 ⟨rfl, hl6, hs6⟩))
            go_ret
            exact ⟨rfl, hB.out.trans (hs6.1.mono hT)⟩
end Go.Proofs.Ytbcjbembhajgcaa.Wnt
