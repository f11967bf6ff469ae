/-
  CommonOrder, walked.
-/
import Derived.Test.YtcaepgggffkjpaaRe
namespace Go.Proofs.Ytcaepgggffkjpaa.Cmn
open Go.RowKit Go.Proofs Go.Proofs.Ytcaepgggffkjpaa.Byt
open Go.Proofs.Ytcaepgggffkjpaa.Tab (bl bl_iff bl_irrefl bl_trans bl_total tl_inj)
open Go.Proofs.Ytcaepgggffkjpaa.Bnd (Us)
open Go.Proofs.Ytcaepgggffkjpaa.Obj (pow2 pows)

theorem RightR.perm {xs ys : List Us} (hp : xs.Perm ys) (h : RightR xs) : RightR ys ∧ layL ys = layL xs := by
  have e := srt_perm_eq hp h.dif
  refine ⟨⟨by rw [← hp.length_eq]; exact h.len, fun x hx => h.ok x (hp.mem_iff.2 hx), ?_⟩, by unfold layL; rw [e]⟩
  exact (hp.filter com).pairwise h.dif fun hab => fun e => hab e.symm
theorem turn_perm (xs : List Us) (k : Nat) : xs.Perm (xs.drop k ++ xs.take k) := by
  have h := List.perm_append_comm (l₁ := xs.take k) (l₂ := xs.drop k)
  rwa [List.take_append_drop] at h

theorem rd_headR {w : World} {K n k : Nat} {A : Option Addr} {L : List Us} (h : RdR w K A n L) (hk : k ≤ n) : Cel.Rd w K A k 5 (rcells (L.take k)) := by
  have hl : ∀ l : List Us, (rcells l).length = l.length * 5 := flat_len rcell_len
  have e4 : (rcells (L.take k)).length = k * 5 := by rw [hl, List.length_take, h.1, Nat.min_eq_left hk]
  have e3 : rcells L = rcells (L.take k) ++ rcells (L.drop k) := by rw [← rcells_app, List.take_append_drop]
  refine ⟨e4, fun j hj => ?_⟩
  have hj2 : j < (rcells L).length := by rw [e3, List.length_append]; omega
  obtain ⟨b, o, e, hb, hc⟩ := h.2.2 j hj2
  refine ⟨b, o, e, hb, ?_⟩
  rw [hc, ← List.getElem?_eq_getElem hj2, ← List.getElem?_eq_getElem hj, e3, List.getElem?_append_left hj]

set_option linter.unusedSimpArgs false in
set_option maxRecDepth 100000 in
set_option maxHeartbeats 8000000 in
theorem order_any (P : PC) (w : World) (A : Option Addr) (n c : Nat) (xs : List Us) (u : Nat) (h : RdR w w.heap.size A n xs) (hc : n ≤ c) (hu : u < 256) :
    Calls Try.prog 5 #[.slice A n c, .int .u8 u] w fun e w' => e = .returned (.bool true) ∧ Below w.heap.size w w' := by
  have HX := hid h
  have Hl : xs.length = n := h.1
  have HA := hid fun V => awake16_any P V
  clear h
  go_enter Try.func5, Try.ntmps5
  go_wp2_with fail
  refine (HA.out _).mono ?_
  rintro e w1 ⟨rfl, hb1⟩
  have HG := hid (rright_any w.heap.size A n c xs w1 (HX.out.below hb1) hb1.size)
  have HB1 := hid hb1
  clear hb1
  go_wp2_with fail
  refine HG.out.mono ?_
  rintro e w2 ⟨hb2, ⟨rfl, hr⟩ | rfl⟩
  · have HB2 := hid (HB1.out.trans (hb2.mono HB1.out.size))
    have hs2 := HB2.out.size
    have hlen := hr.len
    clear hb2 HB1 HG
    by_cases h0 : n = 0
    · subst h0
      go_wp2_with fail
      refine (HA.out _).mono ?_
      rintro e w3 ⟨rfl, hb3⟩
      have HB3 := hid (HB2.out.trans (hb3.mono HB2.out.size))
      clear hb3
      go_wp2_with fail
      go_ret
      exact ⟨rfl, HB3.out⟩
    · have hn0 : ((n : Int) == 0) = false := by simp; omega
      have hng : ¬ (n : Int) < 0 := by omega
      obtain ⟨b, o, rfl, _⟩ := HX.out.at_ (show 0 < xs.length by omega)
      have hrem : ((u : Int) % (n : Int)) = ((u % n : Nat) : Int) := (Int.natCast_emod u n).symm
      have hkn : u % n < n := Nat.mod_lt _ (by omega)
      go_upto_region 4 with fail
      rw [hrem]
      generalize u % n = k at *
      have hkn1 : k ≤ n := Nat.le_of_lt hkn
      have hkc : k ≤ c := Nat.le_trans hkn1 hc
      --A
      refine Ord.Till.begin (fun V => Below w2.heap.size w2 V) 60 (by kernel_rfl) ?_
      have hS : (fun V : World => Below w2.heap.size w2 V) w2.drew := (Below.refl _ _).drew
      refine Ord.Till.take' 1 (some 32) (oi := _) (x := ?_) rfl rfl (by kernel_rfl) (by kernel_rfl) (by kernel_rfl) (by kernel_rfl) (fun _ _ _ h => h) (by kernel_rfl) ?_ hS ?_
      rotate_left 1
      · intro V hv; go_simp; first | done | with_reducible rfl
      try simp only [List.getElem_toArray, List.getElem_cons_zero, List.getElem_cons_succ, Act.put, List.setIfInBounds_toArray, List.set_cons_zero, List.set_cons_succ]
      refine Ord.Till.take' 2 (some 33) (oi := _) (x := ?_) rfl rfl (by kernel_rfl) (by kernel_rfl) (by kernel_rfl) (by kernel_rfl) (fun _ _ _ h => h) (by kernel_rfl) ?_ hS ?_
      rotate_left 1
      · intro V hv; go_simp; first | done | with_reducible rfl
      try simp only [List.getElem_toArray, List.getElem_cons_zero, List.getElem_cons_succ, Act.put, List.setIfInBounds_toArray, List.set_cons_zero, List.set_cons_succ]
      refine Ord.Till.take' 3 (some 34) (oi := _) (x := ?_) rfl rfl (by kernel_rfl) (by kernel_rfl) (by kernel_rfl) (by kernel_rfl) (fun _ _ _ h => h) (by kernel_rfl) ?_ hS ?_
      rotate_left 1
      · intro V hv; go_simp; first | done | with_reducible rfl
      try simp only [List.getElem_toArray, List.getElem_cons_zero, List.getElem_cons_succ, Act.put, List.setIfInBounds_toArray, List.set_cons_zero, List.set_cons_succ]
      refine Ord.Till.take' 5 (some 36) (oi := _) (x := ?_) rfl rfl (by kernel_rfl) (by kernel_rfl) (by kernel_rfl) (by kernel_rfl) (fun _ _ _ h => h) (by kernel_rfl) ?_ hS ?_
      rotate_left 1
      · intro V hv; go_simp; first | done | with_reducible rfl
      try simp only [List.getElem_toArray, List.getElem_cons_zero, List.getElem_cons_succ, Act.put, List.setIfInBounds_toArray, List.set_cons_zero, List.set_cons_succ]
      refine Ord.Till.take' 6 (some 37) (oi := _) (x := ?_) rfl rfl (by kernel_rfl) (by kernel_rfl) (by kernel_rfl) (by kernel_rfl) (fun _ _ _ h => h) (by kernel_rfl) ?_ hS ?_
      rotate_left 1
      · intro V hv; go_simp; first | done | with_reducible rfl
      try simp only [List.getElem_toArray, List.getElem_cons_zero, List.getElem_cons_succ, Act.put, List.setIfInBounds_toArray, List.set_cons_zero, List.set_cons_succ]
      refine Ord.Till.take' 7 (some 38) (oi := _) (x := ?_) rfl rfl (by kernel_rfl) (by kernel_rfl) (by kernel_rfl) (by kernel_rfl) (fun _ _ _ h => h) (by kernel_rfl) ?_ hS ?_
      rotate_left 1
      · intro V hv; go_simp; first | done | with_reducible rfl
      try simp only [List.getElem_toArray, List.getElem_cons_zero, List.getElem_cons_succ, Act.put, List.setIfInBounds_toArray, List.set_cons_zero, List.set_cons_succ]
      obtain ⟨y, hy⟩ : ∃ y, w2.drew = y := ⟨_, rfl⟩
      rw [hy] at hS ⊢
      clear hy
      refine Ord.Till.step 0 (by kernel_rfl) rfl (fun C hC => ?_)
      go_simp
      have hk := (Below.refl y.heap.size y).alloc (Nat.le_refl _) (.cells #[] 40)
      have h31 := Cel.Own.lit0 40 5 y y.heap.size (Nat.le_refl _)
      replace h31 := Cel.Own.more h31 hS.size
      replace hS := hS.trans (hk.mono hS.size)
      refine hC.out _ _ (fun _ => hS) ?_
      clear hC C hk
      try simp only [List.getElem_toArray, List.getElem_cons_zero, List.getElem_cons_succ, Act.put, List.setIfInBounds_toArray, List.set_cons_zero, List.set_cons_succ]
      generalize y.alloc (.cells #[] 40) = y2 at *
      refine Ord.Till.step 4 (by kernel_rfl) rfl (fun C hC => ?_)
      refine Cel.step_rd kR y2 w2.heap.size y2.heap.size _ 0 [] h31 hS.size _ (n - k) (c - k) (rcells (xs.drop k)) (rd_tailR ((HX.out.below HB2.out).below (hS.mono hs2) |>.more (Nat.le_trans hs2 hS.size)) (by omega) hc) rcells_one (by omega) (by omega) (by kernel_rfl) (.tmp 31) (.tmp 34) rfl rfl rfl ?_
      intro v35 y3 h35 hk hf
      rw [Nat.zero_add, List.nil_append] at h35
      replace hS := hS.trans hk
      refine hC.out _ _ (fun _ => hS) ?_
      clear hC C hk hf h31
      try simp only [List.getElem_toArray, List.getElem_cons_zero, List.getElem_cons_succ, Act.put, List.setIfInBounds_toArray, List.set_cons_zero, List.set_cons_succ]
      refine Ord.Till.step 8 (by kernel_rfl) rfl (fun C hC => ?_)
      refine Cel.step_rd kR y3 w2.heap.size y3.heap.size _ (n - k) _ h35 hS.size _ k c (rcells (xs.take k)) (rd_headR ((HX.out.below HB2.out).below (hS.mono hs2) |>.more (Nat.le_trans hs2 hS.size)) (by omega)) rcells_one (by omega) (by omega) (by kernel_rfl) (.tmp 35) (.tmp 38) rfl rfl rfl ?_
      intro v39 y4 h39 hk hf
      rw [← rcells_app, show n - k + k = n by omega] at h39
      replace hS := hS.trans hk
      refine hC.out _ _ (fun _ => hS) ?_
      clear hC C hk hf h35
      try simp only [List.getElem_toArray, List.getElem_cons_zero, List.getElem_cons_succ, Act.put, List.setIfInBounds_toArray, List.set_cons_zero, List.set_cons_succ]
      refine Ord.Till.take' 9 (some 6) (oi := _) (x := ?_) rfl rfl (by kernel_rfl) (by kernel_rfl) (by kernel_rfl) (by kernel_rfl) (fun _ _ _ h => h) (by kernel_rfl) ?_ hS ?_
      rotate_left 1
      · intro V hv; go_simp; first | done | with_reducible rfl
      try simp only [List.getElem_toArray, List.getElem_cons_zero, List.getElem_cons_succ, Act.put, List.setIfInBounds_toArray, List.set_cons_zero, List.set_cons_succ]
      refine Ord.Till.done (by kernel_rfl) ?_ _
      obtain ⟨A39, c39, rfl, hr39, _, _⟩ := Cel.Own.reads h39
      have hs4 := hS.size
      have HB4 := hid (HB2.out.trans (hS.mono hs2))
      have hp := hr.perm (turn_perm xs k)
      have HM4 : Hid (RdR y4 y4.heap.size A39 n (xs.drop k ++ xs.take k)) := hid ⟨by rw [← (turn_perm xs k).length_eq]; exact Hl, hr39⟩
      have HL4 := hid (P.layout w.heap.size _ n c xs y4 (HX.out.below HB4.out) HB4.out.size hr)
      have hlen := hr.lens.1
      have HP := hid hp
      clear hr39 h39 hp hS
      go_wp2_with fail
      refine HL4.out.mono ?_
      rintro e y5 ⟨A5, c5, rfl, ho5, hb5⟩
      have hs5 := hb5.size
      have HR5 : Hid (RdT y5 y5.heap.size A5 (layL xs).out.length (layL xs).out) := hid ⟨rfl, ho1_reads ho5⟩
      have HL5 := hid (P.layout y4.heap.size A39 n c39 _ y5 (HM4.out.below hb5) hs5 HP.out.1)
      have HB5 := hid (HB4.out.trans (hb5.mono (by omega)))
      unfold LayP at HL5
      rw [HP.out.2] at HL5
      clear HL4 hb5 ho5 HM4 HB4 P
      generalize (layL xs).out = L at *
      generalize (layL xs).fin = F at *
      generalize (layL xs).al = Z at *
      obtain ⟨m, hm⟩ : ∃ m, L.length = m := ⟨_, rfl⟩
      rw [hm] at HL5 HR5 hlen ⊢
      go_wp2_with fail
      refine HL5.out.mono ?_
      rintro e y6 ⟨A6, c6, rfl, ho6, hb6⟩
      have hs6 := hb6.size
      have HR6 := hid (HR5.out.below hb6)
      have HT6 : Hid (RdT y6 y6.heap.size A6 m L) := hid ⟨hm, ho1_reads ho6⟩
      have HB6 := hid (HB5.out.trans (hb6.mono (by omega)))
      clear HL5 hb6 ho6 HB5 HR5
      have HS6 := hid (slots_any y5.heap.size A5 m c5 L y6 HR6.out hs6 (by omega))
      go_wp2_with fail
      refine HS6.out.mono ?_
      rintro e y7 ⟨A7, c7, rfl, ho7, hb7⟩
      have hs7 := hb7.size
      rw [hm] at ho7
      have HR7 : Hid (RdT y7 y7.heap.size A7 m L) := hid ⟨hm, ho1_reads ho7⟩
      have HT7 := hid (HT6.out.below hb7)
      have HB7 := hid (HB6.out.trans (hb7.mono (by omega)))
      clear HS6 hb7 ho7 HB6 HT6
      have HS7 := hid (slots_any y6.heap.size A6 m c6 L y7 HT7.out hs7 (by omega))
      rw [hm]
      go_wp2_with fail
      refine HS7.out.mono ?_
      rintro e y8 ⟨A8, c8, rfl, ho8, hb8⟩
      have hs8 := hb8.size
      rw [hm] at ho8
      have HR8 : Hid (RdT y8 y8.heap.size A8 m L) := hid ⟨hm, ho1_reads ho8⟩
      have HT8 := hid (HR7.out.below hb8)
      have HB8 := hid (HB7.out.trans (hb8.mono (by omega)))
      clear HS7 hb8 ho8 HB7 HR7
      rw [hm]
      have hFF : (F == F) = true := by simp
      have hZZ : (Z == Z) = true := by simp
      go_wp2_with fail
      refine (rsame_any y8.heap.size _ _ _ _ _ L y8 (HT8.out.more hs8) HR8.out (Nat.le_refl _) (by omega)).mono ?_
      rintro e y9 ⟨rfl, hb9⟩
      have HB9 := hid (HB8.out.trans (hb9.mono (by omega)))
      clear hb9
      go_wp2_with fail
      go_ret
      exact ⟨rfl, HB9.out⟩
      --B
  · have HB2 := hid (HB1.out.trans (hb2.mono HB1.out.size))
    clear hb2
    go_wp2_with fail
    refine (HA.out _).mono ?_
    rintro e w3 ⟨rfl, hb3⟩
    have HB3 := hid (HB2.out.trans (hb3.mono HB2.out.size))
    clear hb3
    go_wp2_with fail
    go_ret
    exact ⟨rfl, HB3.out⟩
end Go.Proofs.Ytcaepgggffkjpaa.Cmn
