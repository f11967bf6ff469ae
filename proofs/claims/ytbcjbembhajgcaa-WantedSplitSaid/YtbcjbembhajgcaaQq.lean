/-
  WantedSplit, walked.
-/
import Derived.Test.YtbcjbembhajgcaaQn
namespace Go.Proofs.Ytbcjbembhajgcaa.Wnt
open Go.RowKit Go.Proofs Go.Proofs.Ytbcjbembhajgcaa.Byt
open Go.Proofs.Ytbcjbembhajgcaa.Tab (bl bl_iff bl_irrefl bl_trans bl_total putN mem_put Asc asc_put asc_eq tl_inj)

theorem Lst.more {w : World} {K K' T : Nat} {F : Nat → Prop} {ws sn : List ByteArray} (h : Lst w K F T ws sn) (hK : K' ≤ K) : Lst w K' F T ws sn := by
  have hb : ∀ m, Bd w K F T m ws → Bd w K' F T m ws := fun m ⟨h1, h2, h3, v, l, hq, hf, ho, r⟩ => ⟨fun g hg => ⟨Nat.le_trans hK (h1 g hg).1, (h1 g hg).2⟩, h2, h3, v, l, hq, hf, ho.more hK, r⟩
  rcases h with ⟨M, h, r⟩ | ⟨h, r⟩
  · exact .inl ⟨M, hb _ h, r⟩
  · exact .inr ⟨hb _ h, r⟩
/-- Two worklists that share nothing. -/
def Two (W : World) (K T : Nat) (F : Nat → Prop) (ws sn : List ByteArray) (T' : Nat) (F' : Nat → Prop) (ws' sn' : List ByteArray) : Prop :=
  Lst W K F T ws sn ∧ Lst W K F' T' ws' sn' ∧ ∀ g, F g → ¬ F' g
theorem Two.left {W V : World} {K T T' : Nat} {F F' : Nat → Prop} {ws sn ws' sn' ws2 sn2 : List ByteArray} (h : Two W K T F ws sn T' F' ws' sn') (p : LstP K F T ws2 sn2 W V) : Two V K T (Nx F W V) ws2 sn2 T' F' ws' sn' := by
  obtain ⟨_, h2, h3⟩ := h
  refine ⟨p.1, h2.stay p.2.1.size fun g hg => p.2.2 g (h2.fr.1 g hg).2 (fun e => h3 g e hg), fun g hg hg' => ?_⟩
  rcases hg with e | e
  · exact h3 g e hg'
  · have := (h2.fr.1 g hg').2
    omega
theorem Two.right {W V : World} {K T T' : Nat} {F F' : Nat → Prop} {ws sn ws' sn' ws2 sn2 : List ByteArray} (h : Two W K T F ws sn T' F' ws' sn') (p : LstP K F' T' ws2 sn2 W V) : Two V K T F ws sn T' (Nx F' W V) ws2 sn2 := by
  obtain ⟨h1, _, h3⟩ := h
  refine ⟨h1.stay p.2.1.size fun g hg => p.2.2 g (h1.fr.1 g hg).2 (h3 g hg), p.1, fun g hg hg' => ?_⟩
  rcases hg' with e | e
  · exact h3 g hg e
  · have := (h1.fr.1 g hg).2
    omega
theorem Two.drew {W : World} {K T T' : Nat} {F F' : Nat → Prop} {ws sn ws' sn' : List ByteArray} (h : Two W K T F ws sn T' F' ws' sn') : Two W.drew K T F ws sn T' F' ws' sn' :=
  ⟨h.1.stay (Nat.le_refl _) fun _ _ => rfl, h.2.1.stay (Nat.le_refl _) fun _ _ => rfl, h.2.2⟩
/-- The tail of a list of names. -/
theorem rd_from {w : World} {K b o n c k : Nat} {xs : List ByteArray} (h : Sls.Rd w K (some ⟨b, o, none⟩) n xs) (hk : k ≤ n) (hc : n ≤ c) : Sls.Rd w K (if c = k then some ⟨b, o, none⟩ else some ⟨b, o + k, none⟩) (n - k) (xs.drop k) := by
  split
  · have : xs.drop k = [] := List.drop_eq_nil_iff.2 (by have := h.1; omega)
    rw [this, show n - k = 0 by omega]
    exact Sls.Rd.nil _ _ _
  · exact h.cut k

set_option linter.unusedSimpArgs false in
set_option maxRecDepth 100000 in
set_option maxHeartbeats 4000000 in
theorem split_some (w : World) (b o n c : Nat) (xs : List ByteArray) (a : Int) (h : Sls.Rd w w.heap.size (some ⟨b, o, none⟩) n xs) (hn : n ≤ c) (hc : c ≤ maxLen) (ha0 : 0 ≤ a) (ha1 : a < 256) :
    Calls Try.prog 5 #[.slice (some ⟨b, o, none⟩) n c, .int .u8 a] w fun e w' => e = .returned (.bool true) ∧ Below w.heap.size w w' := by
  have HX := hid h
  have Hl : xs.length = n := h.1
  have HN := hid (And.intro hn hc)
  have HA := hid fun V => awake15_any V
  clear h hn hc
  go_enter Try.func5, Try.ntmps5
  go_wp2_with fail
  refine (HA.out _).mono ?_
  rintro e w1 ⟨rfl, hb1⟩
  have HR1 := hid (HX.out.below hb1)
  have HF := hid (few_one HR1.out hb1.size HN.out.1 HN.out.2)
  have HB1 := hid hb1
  have HB2 := hid (hb1.alloc hb1.size (.cells #[.bool false, .slice (some ⟨b, o, none⟩) n c] 33))
  clear hb1
  go_wp2_with fail
  refine HF.out.mono ?_
  rintro e w2 ⟨b, rfl, rfl, hb⟩
  clear HF
  cases b
  · clear hb
    go_wp2_with fail
    refine (HA.out _).mono ?_
    rintro e w3 ⟨rfl, hb3⟩
    have HB3 := hid (HB2.out.trans (hb3.mono HB2.out.size))
    clear hb3
    go_wp2_with fail
    go_ret
    exact ⟨rfl, HB3.out⟩
  · have hn2 : n ≤ 200 := (hb rfl).2
    clear hb HA
    generalize w1.alloc (.cells #[.bool false, .slice (some ⟨b, o, none⟩) n c] 33) = w2 at *
    obtain ⟨k, hk⟩ : ∃ k : Nat, (k : Int) = a % ((n : Int) + 1) := ⟨(a % ((n : Int) + 1)).toNat, Int.toNat_of_nonneg (Int.emod_nonneg _ (by omega))⟩
    have hkn : k ≤ n := by
      have := Int.emod_lt_of_pos a (show 0 < (n : Int) + 1 by omega)
      omega
    have hk1 : a % ((n : Int) + 1) = (k : Int) := hk.symm
    clear hk
    go_upto_region 4 with fail
    rw [hk1]
    have hQ : Qr ((w2.alloc (.cells #[.map none, .slice none 0 0] 29)).alloc (.cells #[.map none, .slice none 0 0] 29)) w2.heap.size (.map none) (.slice none 0 0) := (Below.heap_alloc _ _ _ (by simp)).trans (heap_alloc_new w2 _)
    have hQ2 : Qr ((w2.alloc (.cells #[.map none, .slice none 0 0] 29)).alloc (.cells #[.map none, .slice none 0 0] 29)) (w2.heap.size + 1) (.map none) (.slice none 0 0) := by
      have h := heap_alloc_new (w2.alloc (.cells #[.map none, .slice none 0 0] 29)) (.cells #[.map none, .slice none 0 0] 29)
      rw [World.size_alloc] at h
      exact h
    have HT0 : Hid (Two ((w2.alloc (.cells #[.map none, .slice none 0 0] 29)).alloc (.cells #[.map none, .slice none 0 0] 29)) w2.heap.size w2.heap.size (fun g => g = w2.heap.size) [] [] (w2.heap.size + 1) (fun g => g = w2.heap.size + 1) [] []) := hid ⟨Lst.zero hQ, (Lst.zero hQ2).more (Nat.le_succ _), fun g e e' => by have e : g = w2.heap.size := e; have e' : g = w2.heap.size + 1 := e'; omega⟩
    have HB3 := hid (((Below.refl w2.heap.size w2).alloc (Nat.le_refl _) (.cells #[.map none, .slice none 0 0] 29)).alloc (by simp) (.cells #[.map none, .slice none 0 0] 29))
    clear hQ hQ2
    have hT := HB2.out.size
    go_upto_region 6 with fail
    obtain ⟨T, hTe⟩ : ∃ T, w2.heap.size = T := ⟨_, rfl⟩
    rw [hTe] at HT0 HB3 hT
    simp only [hTe]
    have HRd := hid (((HX.out.below HB2.out).below (HB3.out.mono hT)).more hT)
    have HB4 := hid (HB2.out.trans (HB3.out.mono hT))
    clear HB2 HB3 hTe hk1
    generalize (w2.alloc (.cells #[.map none, .slice none 0 0] 29)).alloc (.cells #[.map none, .slice none 0 0] 29) = w3 at *
    have HA4 := hid ((add_old (c := c) HT0.out.1 HRd.out (Nat.le_refl _) (by simp; omega) (by simp; omega)).mono fun e w' h => (⟨h.1.trans (ret_int (by simp)), h.2⟩ : e = .returned (.int .i64 ((addA ([], []) xs).2.length : Int)) ∧ LstP T (fun g => g = T) T (addA ([], []) xs).1 (addA ([], []) xs).2 w3 w'))
    have HI := hid (addA_inv (p := ([], [])) (List.Perm.refl _) xs)
    have HLn := hid (addA_len ([], []) xs)
    have HL1 := hid (addA_len ([], []) (xs.take k))
    have HL2 := hid (addA_len (addA ([], []) (xs.take k)) (xs.drop k))
    have HAp : Hid (addA (addA ([], []) (xs.take k)) (xs.drop k) = addA ([], []) xs) := hid (by rw [← addA_append, List.take_append_drop])
    rw [HAp.out] at HL2
    generalize addA ([], []) xs = p at *
    obtain ⟨ws, sn⟩ := p
    simp only at HA4 HI HLn HL2
    have HWn := hid HI.out.length_eq
    have hwl : sn.length ≤ 200 := by have := HLn.out.2.1; simp at this; omega
    have hkl : (xs.take k).length = k := by rw [List.length_take]; omega
    have hdl : (xs.drop k).length = n - k := by rw [List.length_drop]; omega
    have hp1 : (addA ([], []) (xs.take k)).1.length ≤ k ∧ (addA ([], []) (xs.take k)).2.length ≤ k := by have := HL1.out; simp at this; omega
    go_upto_region 7 with (go_at_call 10; refine HA4.out.mono ?_; rintro e w4 ⟨rfl, hl4⟩)
    have HT1 := hid (HT0.out.left hl4)
    have HB5 := hid (HB4.out.trans (hl4.2.1.mono hT))
    clear HA4 HB4 HT0 hl4 HLn HI
    have HRd1 := hid (HX.out.below HB5.out)
    have hcn := HN.out.1
    have hcm := HN.out.2
    have hkc : (k : Int) ≤ (c : Int) := by omega
    have hk0 : ¬ (k : Int) < 0 := by omega
    have hkn' : (k : Int) ≤ (n : Int) := by omega
    have hnc' : (n : Int) ≤ (c : Int) := by omega
    refine Ord.Till.begin (fun _ => True) 60 (by kernel_rfl) ?_
    have HT1 := hid (HT1.out.drew)
    have HB5 := hid HB5.out.drew
    have HRd1 := hid (HX.out.below HB5.out)
    generalize w4.drew = w4 at *
    refine Ord.Till.take' 0 (some 33) (oi := _) (x := ?_) rfl rfl (by kernel_rfl) (by kernel_rfl) (by kernel_rfl) (by kernel_rfl) (fun _ _ _ h => h) (by kernel_rfl) ?_ trivial ?_
    rotate_left 1
    · intro V _; go_simp; first | done | with_reducible rfl
    try simp only [List.getElem_toArray, List.getElem_cons_zero, List.getElem_cons_succ, Act.put, List.setIfInBounds_toArray, List.set_cons_zero, List.set_cons_succ]
    refine Ord.Till.take' 1 (some 34) (oi := _) (x := ?_) rfl rfl (by kernel_rfl) (by kernel_rfl) (by kernel_rfl) (by kernel_rfl) (fun _ _ _ h => h) (by kernel_rfl) ?_ trivial ?_
    rotate_left 1
    · intro V _; go_simp; first | done | with_reducible rfl
    try simp only [List.getElem_toArray, List.getElem_cons_zero, List.getElem_cons_succ, Act.put, List.setIfInBounds_toArray, List.set_cons_zero, List.set_cons_succ]
    refine Ord.Till.take' 2 (some 35) (oi := _) (x := ?_) rfl rfl (by kernel_rfl) (by kernel_rfl) (by kernel_rfl) (by kernel_rfl) (fun _ _ _ h => h) (by kernel_rfl) ?_ trivial ?_
    rotate_left 1
    · intro V _; go_simp; first | done | with_reducible rfl
    try simp only [List.getElem_toArray, List.getElem_cons_zero, List.getElem_cons_succ, Act.put, List.setIfInBounds_toArray, List.set_cons_zero, List.set_cons_succ]
    refine Ord.Till.take' 4 (some 37) (oi := _) (x := ?_) rfl rfl (by kernel_rfl) (by kernel_rfl) (by kernel_rfl) (by kernel_rfl) (fun _ _ _ h => h) (by kernel_rfl) ?_ trivial ?_
    rotate_left 1
    · intro V _; go_simp; first | done | with_reducible rfl
    try simp only [List.getElem_toArray, List.getElem_cons_zero, List.getElem_cons_succ, Act.put, List.setIfInBounds_toArray, List.set_cons_zero, List.set_cons_succ]
    refine Ord.Till.take' 5 (some 38) (oi := _) (x := ?_) rfl rfl (by kernel_rfl) (by kernel_rfl) (by kernel_rfl) (by kernel_rfl) (fun _ _ _ h => h) (by kernel_rfl) ?_ trivial ?_
    rotate_left 1
    · intro V _; go_simp; first | done | with_reducible rfl
    try simp only [List.getElem_toArray, List.getElem_cons_zero, List.getElem_cons_succ, Act.put, List.setIfInBounds_toArray, List.set_cons_zero, List.set_cons_succ]
    refine Ord.Till.take' 6 (some 39) (oi := _) (x := ?_) rfl rfl (by kernel_rfl) (by kernel_rfl) (by kernel_rfl) (by kernel_rfl) (fun _ _ _ h => h) (by kernel_rfl) ?_ trivial ?_
    rotate_left 1
    · intro V _; go_simp; first | done | with_reducible rfl
    try simp only [List.getElem_toArray, List.getElem_cons_zero, List.getElem_cons_succ, Act.put, List.setIfInBounds_toArray, List.set_cons_zero, List.set_cons_succ]
    have HR6 : Hid (∀ V : World, Sls.Rd V w.heap.size (some ⟨b, o, none⟩) n xs → Sls.Rd V w.heap.size (if c = k then some ⟨b, o, none⟩ else some ⟨b, o + k, none⟩) (n - k) (xs.drop k)) := hid fun V h => rd_from h hkn hcn
    generalize (if c = k then some (⟨b, o, none⟩ : Addr) else some ⟨b, o + k, none⟩) = A6 at *
    have HA5 := hid ((add_old (c := c) HT1.out.2.1 (((HRd1.out.pre hkn)).more hT) (Nat.le_refl _) (by simp; omega) (by simp; omega)).mono fun e w' h => (⟨h.1.trans (ret_int (by simp)), h.2⟩ : e = .returned (.int .i64 ((addA ([], []) (xs.take k)).2.length : Int)) ∧ LstP T _ (T + 1) (addA ([], []) (xs.take k)).1 (addA ([], []) (xs.take k)).2 w4 w'))
    refine Ord.Till.step 3 (by kernel_rfl) rfl (fun C hC => ?_)
    go_simp
    go_at_call 10
    refine HA5.out.mono ?_
    rintro e w5 ⟨rfl, hl5⟩
    refine hC.out _ _ (fun _ => trivial) ?_
    clear hC C
    try simp only [List.getElem_toArray, List.getElem_cons_zero, List.getElem_cons_succ, Act.put, List.setIfInBounds_toArray, List.set_cons_zero, List.set_cons_succ]
    have HT2 := hid (HT1.out.right hl5)
    have HB6 := hid (HB5.out.trans (hl5.2.1.mono hT))
    clear HA5 HT1 HB5 hl5 HRd1
    generalize hp : addA ([], []) (xs.take k) = p1 at *
    obtain ⟨ws1, sn1⟩ := p1
    simp only at HT2 hp1
    have HA6 := hid ((add_old (c := c - k) HT2.out.2.1 ((HR6.out _ (HX.out.below HB6.out)).more hT) (Nat.le_refl _) (by omega) (by omega)).mono fun e w' h => (⟨h.1, h.2⟩ : e = .returned (.int .i64 (((addA (ws1, sn1) (xs.drop k)).2.length : Int) - (sn1.length : Int))) ∧ LstP T _ (T + 1) (addA (ws1, sn1) (xs.drop k)).1 (addA (ws1, sn1) (xs.drop k)).2 w5 w'))
    rw [HAp.out] at HA6
    simp only at HA6 HL2
    have hsn1 : (sn1.length : Int) ≤ 200 := by omega
    have hsn : (sn.length : Int) ≤ 200 := by omega
    have hadd : (sn1.length : Int) + ((sn.length : Int) - (sn1.length : Int)) = (sn.length : Int) := by omega
    have hsub : (sn1.length : Int) ≤ (sn.length : Int) := by have := HL2.out.2.2; omega
    refine Ord.Till.step 7 (by kernel_rfl) rfl (fun C hC => ?_)
    go_simp
    go_at_call 10
    refine HA6.out.mono ?_
    rintro e w6 ⟨rfl, hl6⟩
    refine hC.out _ _ (fun _ => trivial) ?_
    clear hC C
    try simp only [List.getElem_toArray, List.getElem_cons_zero, List.getElem_cons_succ, Act.put, List.setIfInBounds_toArray, List.set_cons_zero, List.set_cons_succ]
    have HT3 := hid (HT2.out.right hl6)
    have HB7 := hid (HB6.out.trans (hl6.2.1.mono hT))
    clear HA6 HT2 HB6 hl6 HAp HL1 HL2 hp
    refine Ord.Till.step 8 (by kernel_rfl) rfl (fun C hC => ?_)
    go_simp
    refine hC.out _ _ (fun _ => trivial) ?_
    clear hC C
    try simp only [List.getElem_toArray, List.getElem_cons_zero, List.getElem_cons_succ, Act.put, List.setIfInBounds_toArray, List.set_cons_zero, List.set_cons_succ]
    refine Ord.Till.step 9 (by kernel_rfl) rfl (fun C hC => ?_)
    go_simp
    refine hC.out _ _ (fun _ => trivial) ?_
    clear hC C
    try simp only [List.getElem_toArray, List.getElem_cons_zero, List.getElem_cons_succ, Act.put, List.setIfInBounds_toArray, List.set_cons_zero, List.set_cons_succ]
    refine Ord.Till.done (by kernel_rfl) ?_ _
    clear hadd hsub hsn1
    have HLx := hid (llen_any HT3.out.1)
    have HLy := hid (llen_any HT3.out.2.1)
    go_wp2_with fail
    refine HLx.out.mono ?_
    rintro e w7 ⟨rfl, rfl⟩
    go_wp2_with fail
    refine HLy.out.mono ?_
    rintro e w8 ⟨rfl, rfl⟩
    rw [← HWn.out] at *
    go_wp2_with fail
    go_loopw [10] (fun iv W => ∃ (i : Nat) (F F' : Nat → Prop), iv = .int .i64 (i : Int) ∧ i ≤ ws.length ∧ Hid (Two W T T F (ws.drop i) sn (T + 1) F' (ws.drop i) sn) ∧ Hid (Below w.heap.size w W)) (fun iv _ => ws.length - (intOf iv).toNat)
    case atStart => exact ⟨0, _, _, rfl, Nat.zero_le _, HT3, HB7⟩
    case round =>
      obtain ⟨i, F, F', rfl, hi, hL, hB⟩ := hrel
      clear HT3 HB7 HLx HLy
      by_cases hlt : i < ws.length
      · have hii : (i : Int) < (ws.length : Int) := by omega
        have hd : ws.drop i = ws[i] :: ws.drop (i + 1) := List.drop_eq_getElem_cons hlt
        rw [hd] at hL
        have HTx := hid (ltake_any hL.out.1 (by rw [List.length_drop]; omega))
        clear hd
        generalize ws[i] = s at *
        go_upto_region 14 with (go_at_call 8; refine HTx.out.mono ?_; rintro e w8 ⟨rfl, hl8⟩)
        have hL8 := hid (hL.out.left hl8)
        have hB8 := hid (hB.out.trans (hl8.2.1.mono hT))
        have HTy := hid (ltake_any hL8.out.2.1 (by rw [List.length_drop]; omega))
        clear hL hB HTx hl8
        go_upto_region 15 with (go_at_call 8; refine HTy.out.mono ?_; rintro e w9 ⟨rfl, hl9⟩)
        have hL9 := hid (hL8.out.right hl9)
        have hB9 := hid (hB8.out.trans (hl9.2.1.mono hT))
        clear hL8 hB8 HTy hl9
        go_wp2_with fail
        go_roundw
        · exact ⟨i + 1, _, _, by go_num, by omega, hL9, hB9⟩
        · simp [intOf]; omega
      · obtain rfl : i = ws.length := by omega
        have hii : ¬ (ws.length : Int) < (ws.length : Int) := by omega
        go_wp2_with fail
        go_ret
        exact ⟨rfl, hB.out⟩
set_option linter.unusedSimpArgs false in
set_option maxRecDepth 100000 in
set_option maxHeartbeats 4000000 in
theorem split_none (w : World) (n c : Nat) (xs : List ByteArray) (a : Int) (h : Sls.Rd w w.heap.size none n xs) (hn : n ≤ c) (hc : c ≤ maxLen) (ha0 : 0 ≤ a) (ha1 : a < 256) :
    Calls Try.prog 5 #[.slice none n c, .int .u8 a] w fun e w' => e = .returned (.bool true) ∧ Below w.heap.size w w' := by
  have HX := hid h
  have Hl : xs.length = n := h.1
  have HN := hid (And.intro hn hc)
  have HA := hid fun V => awake15_any V
  clear h hn hc
  go_enter Try.func5, Try.ntmps5
  go_wp2_with fail
  refine (HA.out _).mono ?_
  rintro e w1 ⟨rfl, hb1⟩
  have HR1 := hid (HX.out.below hb1)
  have HF := hid (few_one HR1.out hb1.size HN.out.1 HN.out.2)
  have HB1 := hid hb1
  have HB2 := hid (hb1.alloc hb1.size (.cells #[.bool false, .slice none n c] 33))
  clear hb1
  go_wp2_with fail
  refine HF.out.mono ?_
  rintro e w2 ⟨b, rfl, rfl, hb⟩
  clear HF
  cases b
  · clear hb
    go_wp2_with fail
    refine (HA.out _).mono ?_
    rintro e w3 ⟨rfl, hb3⟩
    have HB3 := hid (HB2.out.trans (hb3.mono HB2.out.size))
    clear hb3
    go_wp2_with fail
    go_ret
    exact ⟨rfl, HB3.out⟩
  · have hn2 : n ≤ 200 := (hb rfl).2
    clear hb HA
    generalize w1.alloc (.cells #[.bool false, .slice none n c] 33) = w2 at *
    obtain ⟨k, hk⟩ : ∃ k : Nat, (k : Int) = a % ((n : Int) + 1) := ⟨(a % ((n : Int) + 1)).toNat, Int.toNat_of_nonneg (Int.emod_nonneg _ (by omega))⟩
    have hkn : k ≤ n := by
      have := Int.emod_lt_of_pos a (show 0 < (n : Int) + 1 by omega)
      omega
    have hk1 : a % ((n : Int) + 1) = (k : Int) := hk.symm
    clear hk
    go_upto_region 4 with fail
    rw [hk1]
    have hQ : Qr ((w2.alloc (.cells #[.map none, .slice none 0 0] 29)).alloc (.cells #[.map none, .slice none 0 0] 29)) w2.heap.size (.map none) (.slice none 0 0) := (Below.heap_alloc _ _ _ (by simp)).trans (heap_alloc_new w2 _)
    have hQ2 : Qr ((w2.alloc (.cells #[.map none, .slice none 0 0] 29)).alloc (.cells #[.map none, .slice none 0 0] 29)) (w2.heap.size + 1) (.map none) (.slice none 0 0) := by
      have h := heap_alloc_new (w2.alloc (.cells #[.map none, .slice none 0 0] 29)) (.cells #[.map none, .slice none 0 0] 29)
      rw [World.size_alloc] at h
      exact h
    have HT0 : Hid (Two ((w2.alloc (.cells #[.map none, .slice none 0 0] 29)).alloc (.cells #[.map none, .slice none 0 0] 29)) w2.heap.size w2.heap.size (fun g => g = w2.heap.size) [] [] (w2.heap.size + 1) (fun g => g = w2.heap.size + 1) [] []) := hid ⟨Lst.zero hQ, (Lst.zero hQ2).more (Nat.le_succ _), fun g e e' => by have e : g = w2.heap.size := e; have e' : g = w2.heap.size + 1 := e'; omega⟩
    have HB3 := hid (((Below.refl w2.heap.size w2).alloc (Nat.le_refl _) (.cells #[.map none, .slice none 0 0] 29)).alloc (by simp) (.cells #[.map none, .slice none 0 0] 29))
    clear hQ hQ2
    have hT := HB2.out.size
    go_upto_region 6 with fail
    obtain ⟨T, hTe⟩ : ∃ T, w2.heap.size = T := ⟨_, rfl⟩
    rw [hTe] at HT0 HB3 hT
    simp only [hTe]
    have HRd := hid (((HX.out.below HB2.out).below (HB3.out.mono hT)).more hT)
    have HB4 := hid (HB2.out.trans (HB3.out.mono hT))
    clear HB2 HB3 hTe hk1
    generalize (w2.alloc (.cells #[.map none, .slice none 0 0] 29)).alloc (.cells #[.map none, .slice none 0 0] 29) = w3 at *
    have HA4 := hid ((add_old (c := c) HT0.out.1 HRd.out (Nat.le_refl _) (by simp; omega) (by simp; omega)).mono fun e w' h => (⟨h.1.trans (ret_int (by simp)), h.2⟩ : e = .returned (.int .i64 ((addA ([], []) xs).2.length : Int)) ∧ LstP T (fun g => g = T) T (addA ([], []) xs).1 (addA ([], []) xs).2 w3 w'))
    have HI := hid (addA_inv (p := ([], [])) (List.Perm.refl _) xs)
    have HLn := hid (addA_len ([], []) xs)
    have HL1 := hid (addA_len ([], []) (xs.take k))
    have HL2 := hid (addA_len (addA ([], []) (xs.take k)) (xs.drop k))
    have HAp : Hid (addA (addA ([], []) (xs.take k)) (xs.drop k) = addA ([], []) xs) := hid (by rw [← addA_append, List.take_append_drop])
    rw [HAp.out] at HL2
    generalize addA ([], []) xs = p at *
    obtain ⟨ws, sn⟩ := p
    simp only at HA4 HI HLn HL2
    have HWn := hid HI.out.length_eq
    have hwl : sn.length ≤ 200 := by have := HLn.out.2.1; simp at this; omega
    have hkl : (xs.take k).length = k := by rw [List.length_take]; omega
    have hdl : (xs.drop k).length = n - k := by rw [List.length_drop]; omega
    have hp1 : (addA ([], []) (xs.take k)).1.length ≤ k ∧ (addA ([], []) (xs.take k)).2.length ≤ k := by have := HL1.out; simp at this; omega
    go_upto_region 7 with (go_at_call 10; refine HA4.out.mono ?_; rintro e w4 ⟨rfl, hl4⟩)
    have HT1 := hid (HT0.out.left hl4)
    have HB5 := hid (HB4.out.trans (hl4.2.1.mono hT))
    clear HA4 HB4 HT0 hl4 HLn HI
    have HRd1 := hid (HX.out.below HB5.out)
    have hcn := HN.out.1
    have hcm := HN.out.2
    have hkc : (k : Int) ≤ (c : Int) := by omega
    have hk0 : ¬ (k : Int) < 0 := by omega
    have hkn' : (k : Int) ≤ (n : Int) := by omega
    have hnc' : (n : Int) ≤ (c : Int) := by omega
    refine Ord.Till.begin (fun _ => True) 60 (by kernel_rfl) ?_
    have HT1 := hid (HT1.out.drew)
    have HB5 := hid HB5.out.drew
    have HRd1 := hid (HX.out.below HB5.out)
    generalize w4.drew = w4 at *
    refine Ord.Till.take' 0 (some 33) (oi := _) (x := ?_) rfl rfl (by kernel_rfl) (by kernel_rfl) (by kernel_rfl) (by kernel_rfl) (fun _ _ _ h => h) (by kernel_rfl) ?_ trivial ?_
    rotate_left 1
    · intro V _; go_simp; first | done | with_reducible rfl
    try simp only [List.getElem_toArray, List.getElem_cons_zero, List.getElem_cons_succ, Act.put, List.setIfInBounds_toArray, List.set_cons_zero, List.set_cons_succ]
    refine Ord.Till.take' 1 (some 34) (oi := _) (x := ?_) rfl rfl (by kernel_rfl) (by kernel_rfl) (by kernel_rfl) (by kernel_rfl) (fun _ _ _ h => h) (by kernel_rfl) ?_ trivial ?_
    rotate_left 1
    · intro V _; go_simp; first | done | with_reducible rfl
    try simp only [List.getElem_toArray, List.getElem_cons_zero, List.getElem_cons_succ, Act.put, List.setIfInBounds_toArray, List.set_cons_zero, List.set_cons_succ]
    refine Ord.Till.take' 2 (some 35) (oi := _) (x := ?_) rfl rfl (by kernel_rfl) (by kernel_rfl) (by kernel_rfl) (by kernel_rfl) (fun _ _ _ h => h) (by kernel_rfl) ?_ trivial ?_
    rotate_left 1
    · intro V _; go_simp; first | done | with_reducible rfl
    try simp only [List.getElem_toArray, List.getElem_cons_zero, List.getElem_cons_succ, Act.put, List.setIfInBounds_toArray, List.set_cons_zero, List.set_cons_succ]
    refine Ord.Till.take' 4 (some 37) (oi := _) (x := ?_) rfl rfl (by kernel_rfl) (by kernel_rfl) (by kernel_rfl) (by kernel_rfl) (fun _ _ _ h => h) (by kernel_rfl) ?_ trivial ?_
    rotate_left 1
    · intro V _; go_simp; first | done | with_reducible rfl
    try simp only [List.getElem_toArray, List.getElem_cons_zero, List.getElem_cons_succ, Act.put, List.setIfInBounds_toArray, List.set_cons_zero, List.set_cons_succ]
    refine Ord.Till.take' 5 (some 38) (oi := _) (x := ?_) rfl rfl (by kernel_rfl) (by kernel_rfl) (by kernel_rfl) (by kernel_rfl) (fun _ _ _ h => h) (by kernel_rfl) ?_ trivial ?_
    rotate_left 1
    · intro V _; go_simp; first | done | with_reducible rfl
    try simp only [List.getElem_toArray, List.getElem_cons_zero, List.getElem_cons_succ, Act.put, List.setIfInBounds_toArray, List.set_cons_zero, List.set_cons_succ]
    refine Ord.Till.take' 6 (some 39) (oi := _) (x := ?_) rfl rfl (by kernel_rfl) (by kernel_rfl) (by kernel_rfl) (by kernel_rfl) (fun _ _ _ h => h) (by kernel_rfl) ?_ trivial ?_
    rotate_left 1
    · intro V _; go_simp; first | done | with_reducible rfl
    try simp only [List.getElem_toArray, List.getElem_cons_zero, List.getElem_cons_succ, Act.put, List.setIfInBounds_toArray, List.set_cons_zero, List.set_cons_succ]
    have HR6 : Hid (∀ V : World, Sls.Rd V w.heap.size none n xs → Sls.Rd V w.heap.size none (n - k) (xs.drop k)) := hid fun V h => by
      have h0 : n = 0 := Nat.eq_zero_of_not_pos fun h0 => by
        obtain ⟨b, o, e, _⟩ := h.2 0 (by rw [h.1]; exact h0)
        cases e
      subst h0
      have e : xs.drop k = [] := List.drop_eq_nil_iff.2 (by omega)
      rw [e, Nat.zero_sub]
      exact Sls.Rd.nil _ _ _
    have HA5 := hid ((add_old (c := c) HT1.out.2.1 (((HRd1.out.pre hkn)).more hT) (Nat.le_refl _) (by simp; omega) (by simp; omega)).mono fun e w' h => (⟨h.1.trans (ret_int (by simp)), h.2⟩ : e = .returned (.int .i64 ((addA ([], []) (xs.take k)).2.length : Int)) ∧ LstP T _ (T + 1) (addA ([], []) (xs.take k)).1 (addA ([], []) (xs.take k)).2 w4 w'))
    refine Ord.Till.step 3 (by kernel_rfl) rfl (fun C hC => ?_)
    go_simp
    go_at_call 10
    refine HA5.out.mono ?_
    rintro e w5 ⟨rfl, hl5⟩
    refine hC.out _ _ (fun _ => trivial) ?_
    clear hC C
    try simp only [List.getElem_toArray, List.getElem_cons_zero, List.getElem_cons_succ, Act.put, List.setIfInBounds_toArray, List.set_cons_zero, List.set_cons_succ]
    have HT2 := hid (HT1.out.right hl5)
    have HB6 := hid (HB5.out.trans (hl5.2.1.mono hT))
    clear HA5 HT1 HB5 hl5 HRd1
    generalize hp : addA ([], []) (xs.take k) = p1 at *
    obtain ⟨ws1, sn1⟩ := p1
    simp only at HT2 hp1
    have HA6 := hid ((add_old (c := c - k) HT2.out.2.1 ((HR6.out _ (HX.out.below HB6.out)).more hT) (Nat.le_refl _) (by omega) (by omega)).mono fun e w' h => (⟨h.1, h.2⟩ : e = .returned (.int .i64 (((addA (ws1, sn1) (xs.drop k)).2.length : Int) - (sn1.length : Int))) ∧ LstP T _ (T + 1) (addA (ws1, sn1) (xs.drop k)).1 (addA (ws1, sn1) (xs.drop k)).2 w5 w'))
    rw [HAp.out] at HA6
    simp only at HA6 HL2
    have hsn1 : (sn1.length : Int) ≤ 200 := by omega
    have hsn : (sn.length : Int) ≤ 200 := by omega
    have hadd : (sn1.length : Int) + ((sn.length : Int) - (sn1.length : Int)) = (sn.length : Int) := by omega
    have hsub : (sn1.length : Int) ≤ (sn.length : Int) := by have := HL2.out.2.2; omega
    refine Ord.Till.step 7 (by kernel_rfl) rfl (fun C hC => ?_)
    go_simp
    go_at_call 10
    refine HA6.out.mono ?_
    rintro e w6 ⟨rfl, hl6⟩
    refine hC.out _ _ (fun _ => trivial) ?_
    clear hC C
    try simp only [List.getElem_toArray, List.getElem_cons_zero, List.getElem_cons_succ, Act.put, List.setIfInBounds_toArray, List.set_cons_zero, List.set_cons_succ]
    have HT3 := hid (HT2.out.right hl6)
    have HB7 := hid (HB6.out.trans (hl6.2.1.mono hT))
    clear HA6 HT2 HB6 hl6 HAp HL1 HL2 hp
    refine Ord.Till.step 8 (by kernel_rfl) rfl (fun C hC => ?_)
    go_simp
    refine hC.out _ _ (fun _ => trivial) ?_
    clear hC C
    try simp only [List.getElem_toArray, List.getElem_cons_zero, List.getElem_cons_succ, Act.put, List.setIfInBounds_toArray, List.set_cons_zero, List.set_cons_succ]
    refine Ord.Till.step 9 (by kernel_rfl) rfl (fun C hC => ?_)
    go_simp
    refine hC.out _ _ (fun _ => trivial) ?_
    clear hC C
    try simp only [List.getElem_toArray, List.getElem_cons_zero, List.getElem_cons_succ, Act.put, List.setIfInBounds_toArray, List.set_cons_zero, List.set_cons_succ]
    refine Ord.Till.done (by kernel_rfl) ?_ _
    clear hadd hsub hsn1
    have HLx := hid (llen_any HT3.out.1)
    have HLy := hid (llen_any HT3.out.2.1)
    go_wp2_with fail
    refine HLx.out.mono ?_
    rintro e w7 ⟨rfl, rfl⟩
    go_wp2_with fail
    refine HLy.out.mono ?_
    rintro e w8 ⟨rfl, rfl⟩
    rw [← HWn.out] at *
    go_wp2_with fail
    go_loopw [10] (fun iv W => ∃ (i : Nat) (F F' : Nat → Prop), iv = .int .i64 (i : Int) ∧ i ≤ ws.length ∧ Hid (Two W T T F (ws.drop i) sn (T + 1) F' (ws.drop i) sn) ∧ Hid (Below w.heap.size w W)) (fun iv _ => ws.length - (intOf iv).toNat)
    case atStart => exact ⟨0, _, _, rfl, Nat.zero_le _, HT3, HB7⟩
    case round =>
      obtain ⟨i, F, F', rfl, hi, hL, hB⟩ := hrel
      clear HT3 HB7 HLx HLy
      by_cases hlt : i < ws.length
      · have hii : (i : Int) < (ws.length : Int) := by omega
        have hd : ws.drop i = ws[i] :: ws.drop (i + 1) := List.drop_eq_getElem_cons hlt
        rw [hd] at hL
        have HTx := hid (ltake_any hL.out.1 (by rw [List.length_drop]; omega))
        clear hd
        generalize ws[i] = s at *
        go_upto_region 14 with (go_at_call 8; refine HTx.out.mono ?_; rintro e w8 ⟨rfl, hl8⟩)
        have hL8 := hid (hL.out.left hl8)
        have hB8 := hid (hB.out.trans (hl8.2.1.mono hT))
        have HTy := hid (ltake_any hL8.out.2.1 (by rw [List.length_drop]; omega))
        clear hL hB HTx hl8
        go_upto_region 15 with (go_at_call 8; refine HTy.out.mono ?_; rintro e w9 ⟨rfl, hl9⟩)
        have hL9 := hid (hL8.out.right hl9)
        have hB9 := hid (hB8.out.trans (hl9.2.1.mono hT))
        clear hL8 hB8 HTy hl9
        go_wp2_with fail
        go_roundw
        · exact ⟨i + 1, _, _, by go_num, by omega, hL9, hB9⟩
        · simp [intOf]; omega
      · obtain rfl : i = ws.length := by omega
        have hii : ¬ (ws.length : Int) < (ws.length : Int) := by omega
        go_wp2_with fail
        go_ret
        exact ⟨rfl, hB.out⟩
set_option linter.unusedSimpArgs false in
set_option maxRecDepth 100000 in
set_option maxHeartbeats 4000000 in
theorem split_zero (w : World) (ad : Addr) (n c : Nat) (xs : List ByteArray) (a : Int) (h : Sls.Rd w w.heap.size (some ad) n xs) (hn : n ≤ c) (hc : c ≤ maxLen) (ha0 : 0 ≤ a) (ha1 : a < 256) (h00 : n = 0) :
    Calls Try.prog 5 #[.slice (some ad) n c, .int .u8 a] w fun e w' => e = .returned (.bool true) ∧ Below w.heap.size w w' := by
  have HX := hid h
  have Hl : xs.length = n := h.1
  have HN := hid (And.intro hn hc)
  have H00 := hid h00
  clear h00
  have HA := hid fun V => awake15_any V
  clear h hn hc
  go_enter Try.func5, Try.ntmps5
  go_wp2_with fail
  refine (HA.out _).mono ?_
  rintro e w1 ⟨rfl, hb1⟩
  have HR1 := hid (HX.out.below hb1)
  have HF := hid (few_one HR1.out hb1.size HN.out.1 HN.out.2)
  have HB1 := hid hb1
  have HB2 := hid (hb1.alloc hb1.size (.cells #[.bool false, .slice (some ad) n c] 33))
  clear hb1
  go_wp2_with fail
  refine HF.out.mono ?_
  rintro e w2 ⟨b, rfl, rfl, hb⟩
  clear HF
  cases b
  · clear hb
    go_wp2_with fail
    refine (HA.out _).mono ?_
    rintro e w3 ⟨rfl, hb3⟩
    have HB3 := hid (HB2.out.trans (hb3.mono HB2.out.size))
    clear hb3
    go_wp2_with fail
    go_ret
    exact ⟨rfl, HB3.out⟩
  · have hn2 : n ≤ 200 := (hb rfl).2
    clear hb HA
    generalize w1.alloc (.cells #[.bool false, .slice (some ad) n c] 33) = w2 at *
    obtain ⟨k, hk⟩ : ∃ k : Nat, (k : Int) = a % ((n : Int) + 1) := ⟨(a % ((n : Int) + 1)).toNat, Int.toNat_of_nonneg (Int.emod_nonneg _ (by omega))⟩
    have hkn : k ≤ n := by
      have := Int.emod_lt_of_pos a (show 0 < (n : Int) + 1 by omega)
      omega
    have hk1 : a % ((n : Int) + 1) = (k : Int) := hk.symm
    clear hk
    go_upto_region 4 with fail
    rw [hk1]
    have hQ : Qr ((w2.alloc (.cells #[.map none, .slice none 0 0] 29)).alloc (.cells #[.map none, .slice none 0 0] 29)) w2.heap.size (.map none) (.slice none 0 0) := (Below.heap_alloc _ _ _ (by simp)).trans (heap_alloc_new w2 _)
    have hQ2 : Qr ((w2.alloc (.cells #[.map none, .slice none 0 0] 29)).alloc (.cells #[.map none, .slice none 0 0] 29)) (w2.heap.size + 1) (.map none) (.slice none 0 0) := by
      have h := heap_alloc_new (w2.alloc (.cells #[.map none, .slice none 0 0] 29)) (.cells #[.map none, .slice none 0 0] 29)
      rw [World.size_alloc] at h
      exact h
    have HT0 : Hid (Two ((w2.alloc (.cells #[.map none, .slice none 0 0] 29)).alloc (.cells #[.map none, .slice none 0 0] 29)) w2.heap.size w2.heap.size (fun g => g = w2.heap.size) [] [] (w2.heap.size + 1) (fun g => g = w2.heap.size + 1) [] []) := hid ⟨Lst.zero hQ, (Lst.zero hQ2).more (Nat.le_succ _), fun g e e' => by have e : g = w2.heap.size := e; have e' : g = w2.heap.size + 1 := e'; omega⟩
    have HB3 := hid (((Below.refl w2.heap.size w2).alloc (Nat.le_refl _) (.cells #[.map none, .slice none 0 0] 29)).alloc (by simp) (.cells #[.map none, .slice none 0 0] 29))
    clear hQ hQ2
    have hT := HB2.out.size
    go_upto_region 6 with fail
    obtain ⟨T, hTe⟩ : ∃ T, w2.heap.size = T := ⟨_, rfl⟩
    rw [hTe] at HT0 HB3 hT
    simp only [hTe]
    have HRd := hid (((HX.out.below HB2.out).below (HB3.out.mono hT)).more hT)
    have HB4 := hid (HB2.out.trans (HB3.out.mono hT))
    clear HB2 HB3 hTe hk1
    generalize (w2.alloc (.cells #[.map none, .slice none 0 0] 29)).alloc (.cells #[.map none, .slice none 0 0] 29) = w3 at *
    have HA4 := hid ((add_old (c := c) HT0.out.1 HRd.out (Nat.le_refl _) (by simp; omega) (by simp; omega)).mono fun e w' h => (⟨h.1.trans (ret_int (by simp)), h.2⟩ : e = .returned (.int .i64 ((addA ([], []) xs).2.length : Int)) ∧ LstP T (fun g => g = T) T (addA ([], []) xs).1 (addA ([], []) xs).2 w3 w'))
    have HI := hid (addA_inv (p := ([], [])) (List.Perm.refl _) xs)
    have HLn := hid (addA_len ([], []) xs)
    have HL1 := hid (addA_len ([], []) (xs.take k))
    have HL2 := hid (addA_len (addA ([], []) (xs.take k)) (xs.drop k))
    have HAp : Hid (addA (addA ([], []) (xs.take k)) (xs.drop k) = addA ([], []) xs) := hid (by rw [← addA_append, List.take_append_drop])
    rw [HAp.out] at HL2
    generalize addA ([], []) xs = p at *
    obtain ⟨ws, sn⟩ := p
    simp only at HA4 HI HLn HL2
    have HWn := hid HI.out.length_eq
    have hwl : sn.length ≤ 200 := by have := HLn.out.2.1; simp at this; omega
    have hkl : (xs.take k).length = k := by rw [List.length_take]; omega
    have hdl : (xs.drop k).length = n - k := by rw [List.length_drop]; omega
    have hp1 : (addA ([], []) (xs.take k)).1.length ≤ k ∧ (addA ([], []) (xs.take k)).2.length ≤ k := by have := HL1.out; simp at this; omega
    go_upto_region 7 with (go_at_call 10; refine HA4.out.mono ?_; rintro e w4 ⟨rfl, hl4⟩)
    have HT1 := hid (HT0.out.left hl4)
    have HB5 := hid (HB4.out.trans (hl4.2.1.mono hT))
    clear HA4 HB4 HT0 hl4 HLn HI
    have HRd1 := hid (HX.out.below HB5.out)
    have hcn := HN.out.1
    have hcm := HN.out.2
    have hkc : (k : Int) ≤ (c : Int) := by omega
    have hk0 : ¬ (k : Int) < 0 := by omega
    have hkn' : (k : Int) ≤ (n : Int) := by omega
    have hnc' : (n : Int) ≤ (c : Int) := by omega
    refine Ord.Till.begin (fun _ => True) 60 (by kernel_rfl) ?_
    have HT1 := hid (HT1.out.drew)
    have HB5 := hid HB5.out.drew
    have HRd1 := hid (HX.out.below HB5.out)
    generalize w4.drew = w4 at *
    refine Ord.Till.take' 0 (some 33) (oi := _) (x := ?_) rfl rfl (by kernel_rfl) (by kernel_rfl) (by kernel_rfl) (by kernel_rfl) (fun _ _ _ h => h) (by kernel_rfl) ?_ trivial ?_
    rotate_left 1
    · intro V _; go_simp; first | done | with_reducible rfl
    try simp only [List.getElem_toArray, List.getElem_cons_zero, List.getElem_cons_succ, Act.put, List.setIfInBounds_toArray, List.set_cons_zero, List.set_cons_succ]
    refine Ord.Till.take' 1 (some 34) (oi := _) (x := ?_) rfl rfl (by kernel_rfl) (by kernel_rfl) (by kernel_rfl) (by kernel_rfl) (fun _ _ _ h => h) (by kernel_rfl) ?_ trivial ?_
    rotate_left 1
    · intro V _; go_simp; first | done | with_reducible rfl
    try simp only [List.getElem_toArray, List.getElem_cons_zero, List.getElem_cons_succ, Act.put, List.setIfInBounds_toArray, List.set_cons_zero, List.set_cons_succ]
    refine Ord.Till.take' 2 (some 35) (oi := _) (x := ?_) rfl rfl (by kernel_rfl) (by kernel_rfl) (by kernel_rfl) (by kernel_rfl) (fun _ _ _ h => h) (by kernel_rfl) ?_ trivial ?_
    rotate_left 1
    · intro V _; go_simp; first | done | with_reducible rfl
    try simp only [List.getElem_toArray, List.getElem_cons_zero, List.getElem_cons_succ, Act.put, List.setIfInBounds_toArray, List.set_cons_zero, List.set_cons_succ]
    refine Ord.Till.take' 4 (some 37) (oi := _) (x := ?_) rfl rfl (by kernel_rfl) (by kernel_rfl) (by kernel_rfl) (by kernel_rfl) (fun _ _ _ h => h) (by kernel_rfl) ?_ trivial ?_
    rotate_left 1
    · intro V _; go_simp; first | done | with_reducible rfl
    try simp only [List.getElem_toArray, List.getElem_cons_zero, List.getElem_cons_succ, Act.put, List.setIfInBounds_toArray, List.set_cons_zero, List.set_cons_succ]
    refine Ord.Till.take' 5 (some 38) (oi := _) (x := ?_) rfl rfl (by kernel_rfl) (by kernel_rfl) (by kernel_rfl) (by kernel_rfl) (fun _ _ _ h => h) (by kernel_rfl) ?_ trivial ?_
    rotate_left 1
    · intro V _; go_simp; first | done | with_reducible rfl
    try simp only [List.getElem_toArray, List.getElem_cons_zero, List.getElem_cons_succ, Act.put, List.setIfInBounds_toArray, List.set_cons_zero, List.set_cons_succ]
    refine Ord.Till.take' 6 (some 39) (oi := _) (x := ?_) rfl rfl (by kernel_rfl) (by kernel_rfl) (by kernel_rfl) (by kernel_rfl) (fun _ _ _ h => h) (by kernel_rfl) ?_ trivial ?_
    rotate_left 1
    · intro V _; go_simp; first | done | with_reducible rfl
    try simp only [List.getElem_toArray, List.getElem_cons_zero, List.getElem_cons_succ, Act.put, List.setIfInBounds_toArray, List.set_cons_zero, List.set_cons_succ]
    have HR6 : Hid (∀ (A : Option Addr) (V : World), Sls.Rd V w.heap.size (some ad) n xs → Sls.Rd V w.heap.size A (n - k) (xs.drop k)) := hid fun A V h => by
      have h0 := H00.out
      subst h0
      have e : xs.drop k = [] := List.drop_eq_nil_iff.2 (by omega)
      rw [e, Nat.zero_sub]
      exact Sls.Rd.nil _ _ _
    generalize (if c = k then some ad else some (ad.add k)) = A6 at *
    have HA5 := hid ((add_old (c := c) HT1.out.2.1 (((HRd1.out.pre hkn)).more hT) (Nat.le_refl _) (by simp; omega) (by simp; omega)).mono fun e w' h => (⟨h.1.trans (ret_int (by simp)), h.2⟩ : e = .returned (.int .i64 ((addA ([], []) (xs.take k)).2.length : Int)) ∧ LstP T _ (T + 1) (addA ([], []) (xs.take k)).1 (addA ([], []) (xs.take k)).2 w4 w'))
    refine Ord.Till.step 3 (by kernel_rfl) rfl (fun C hC => ?_)
    go_simp
    go_at_call 10
    refine HA5.out.mono ?_
    rintro e w5 ⟨rfl, hl5⟩
    refine hC.out _ _ (fun _ => trivial) ?_
    clear hC C
    try simp only [List.getElem_toArray, List.getElem_cons_zero, List.getElem_cons_succ, Act.put, List.setIfInBounds_toArray, List.set_cons_zero, List.set_cons_succ]
    have HT2 := hid (HT1.out.right hl5)
    have HB6 := hid (HB5.out.trans (hl5.2.1.mono hT))
    clear HA5 HT1 HB5 hl5 HRd1
    generalize hp : addA ([], []) (xs.take k) = p1 at *
    obtain ⟨ws1, sn1⟩ := p1
    simp only at HT2 hp1
    have HA6 := hid ((add_old (c := c - k) HT2.out.2.1 ((HR6.out A6 _ (HX.out.below HB6.out)).more hT) (Nat.le_refl _) (by omega) (by omega)).mono fun e w' h => (⟨h.1, h.2⟩ : e = .returned (.int .i64 (((addA (ws1, sn1) (xs.drop k)).2.length : Int) - (sn1.length : Int))) ∧ LstP T _ (T + 1) (addA (ws1, sn1) (xs.drop k)).1 (addA (ws1, sn1) (xs.drop k)).2 w5 w'))
    rw [HAp.out] at HA6
    simp only at HA6 HL2
    have hsn1 : (sn1.length : Int) ≤ 200 := by omega
    have hsn : (sn.length : Int) ≤ 200 := by omega
    have hadd : (sn1.length : Int) + ((sn.length : Int) - (sn1.length : Int)) = (sn.length : Int) := by omega
    have hsub : (sn1.length : Int) ≤ (sn.length : Int) := by have := HL2.out.2.2; omega
    refine Ord.Till.step 7 (by kernel_rfl) rfl (fun C hC => ?_)
    go_simp
    go_at_call 10
    refine HA6.out.mono ?_
    rintro e w6 ⟨rfl, hl6⟩
    refine hC.out _ _ (fun _ => trivial) ?_
    clear hC C
    try simp only [List.getElem_toArray, List.getElem_cons_zero, List.getElem_cons_succ, Act.put, List.setIfInBounds_toArray, List.set_cons_zero, List.set_cons_succ]
    have HT3 := hid (HT2.out.right hl6)
    have HB7 := hid (HB6.out.trans (hl6.2.1.mono hT))
    clear HA6 HT2 HB6 hl6 HAp HL1 HL2 hp
    refine Ord.Till.step 8 (by kernel_rfl) rfl (fun C hC => ?_)
    go_simp
    refine hC.out _ _ (fun _ => trivial) ?_
    clear hC C
    try simp only [List.getElem_toArray, List.getElem_cons_zero, List.getElem_cons_succ, Act.put, List.setIfInBounds_toArray, List.set_cons_zero, List.set_cons_succ]
    refine Ord.Till.step 9 (by kernel_rfl) rfl (fun C hC => ?_)
    go_simp
    refine hC.out _ _ (fun _ => trivial) ?_
    clear hC C
    try simp only [List.getElem_toArray, List.getElem_cons_zero, List.getElem_cons_succ, Act.put, List.setIfInBounds_toArray, List.set_cons_zero, List.set_cons_succ]
    refine Ord.Till.done (by kernel_rfl) ?_ _
    clear hadd hsub hsn1
    have HLx := hid (llen_any HT3.out.1)
    have HLy := hid (llen_any HT3.out.2.1)
    go_wp2_with fail
    refine HLx.out.mono ?_
    rintro e w7 ⟨rfl, rfl⟩
    go_wp2_with fail
    refine HLy.out.mono ?_
    rintro e w8 ⟨rfl, rfl⟩
    rw [← HWn.out] at *
    go_wp2_with fail
    go_loopw [10] (fun iv W => ∃ (i : Nat) (F F' : Nat → Prop), iv = .int .i64 (i : Int) ∧ i ≤ ws.length ∧ Hid (Two W T T F (ws.drop i) sn (T + 1) F' (ws.drop i) sn) ∧ Hid (Below w.heap.size w W)) (fun iv _ => ws.length - (intOf iv).toNat)
    case atStart => exact ⟨0, _, _, rfl, Nat.zero_le _, HT3, HB7⟩
    case round =>
      obtain ⟨i, F, F', rfl, hi, hL, hB⟩ := hrel
      clear HT3 HB7 HLx HLy
      by_cases hlt : i < ws.length
      · have hii : (i : Int) < (ws.length : Int) := by omega
        have hd : ws.drop i = ws[i] :: ws.drop (i + 1) := List.drop_eq_getElem_cons hlt
        rw [hd] at hL
        have HTx := hid (ltake_any hL.out.1 (by rw [List.length_drop]; omega))
        clear hd
        generalize ws[i] = s at *
        go_upto_region 14 with (go_at_call 8; refine HTx.out.mono ?_; rintro e w8 ⟨rfl, hl8⟩)
        have hL8 := hid (hL.out.left hl8)
        have hB8 := hid (hB.out.trans (hl8.2.1.mono hT))
        have HTy := hid (ltake_any hL8.out.2.1 (by rw [List.length_drop]; omega))
        clear hL hB HTx hl8
        go_upto_region 15 with (go_at_call 8; refine HTy.out.mono ?_; rintro e w9 ⟨rfl, hl9⟩)
        have hL9 := hid (hL8.out.right hl9)
        have hB9 := hid (hB8.out.trans (hl9.2.1.mono hT))
        clear hL8 hB8 HTy hl9
        go_wp2_with fail
        go_roundw
        · exact ⟨i + 1, _, _, by go_num, by omega, hL9, hB9⟩
        · simp [intOf]; omega
      · obtain rfl : i = ws.length := by omega
        have hii : ¬ (ws.length : Int) < (ws.length : Int) := by omega
        go_wp2_with fail
        go_ret
        exact ⟨rfl, hB.out⟩
theorem split_any (w : World) (A : Option Addr) (n c : Nat) (xs : List ByteArray) (a : Int) (h : Sls.Rd w w.heap.size A n xs) (hn : n ≤ c) (hc : c ≤ maxLen) (ha0 : 0 ≤ a) (ha1 : a < 256) :
    Calls Try.prog 5 #[.slice A n c, .int .u8 a] w fun e w' => e = .returned (.bool true) ∧ Below w.heap.size w w' := by
  rcases A with _ | ⟨b, o, spot⟩
  · exact split_none w n c xs a h hn hc ha0 ha1
  · by_cases h0 : n = 0
    · exact split_zero w _ n c xs a h hn hc ha0 ha1 h0
    · obtain ⟨b', o', e, _⟩ := h.2 0 (by rw [h.1]; omega)
      injection e with e
      injection e with e1 e2 e3
      subst e1 e2 e3
      exact split_some w _ _ n c xs a h hn hc ha0 ha1
end Go.Proofs.Ytbcjbembhajgcaa.Wnt
