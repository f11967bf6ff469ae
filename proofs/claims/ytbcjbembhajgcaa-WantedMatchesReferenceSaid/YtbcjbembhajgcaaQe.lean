/-
  wanted: the library's heap over the list: up, down, Push, Pop; take.
-/
import Derived.Test.YtbcjbembhajgcaaQd
namespace Go.Proofs.Ytbcjbembhajgcaa.Wnt
open Go.RowKit Go.Proofs Go.Proofs.Ytbcjbembhajgcaa.Byt
open Go.Proofs.Ytbcjbembhajgcaa.Tab (bl bl_iff putN tl_inj)

/-- What stays of the world while the list's names change their places. -/
def Mv (K T : Nat) (m v : Value) (w w' : World) : Prop := Below K w w' ∧ Sls.Fr v w v w' ∧ Qr w' T m v
theorem Mv.refl {K T : Nat} {m v : Value} {w : World} (h : Qr w T m v) : Mv K T m v w w := ⟨Below.refl _ _, Sls.Fr.refl _ _, h⟩
theorem Mv.step {K T n : Nat} {m v : Value} {w w' w'' : World} {l : List ByteArray} (h : Mv K T m v w w') (ho : Sls.Own w' K v n l) (hb : Below K w' w'') (hf : Sls.Fr v w' v w'') : Mv K T m v w w'' :=
  ⟨h.1.trans hb, Fr_trans h.2.1 hf h.1.size, h.2.2.fr ho hf⟩
theorem Mv.drewN {K T : Nat} {m v : Value} {w w' : World} (h : Mv K T m v w w') (k : Nat) : Mv K T m v w (w'.drewN k) := ⟨h.1.trans ⟨rfl, rfl, rfl, Nat.le_refl _, fun _ _ => rfl⟩, h.2.1, h.2.2⟩

set_option linter.unusedSimpArgs false in
set_option maxRecDepth 100000 in
theorem up_any (K T : Nat) (m : Value) (A : Option Addr) (n c j0 : Nat) (l : List ByteArray) (w : World) (hq : Qr w T m (.slice A n c)) (h : Sls.Own w K (.slice A n c) n l) (hn : n ≤ 1000000) (hu : UpI l n j0) :
    Calls Try.prog 20 #[px T, .int .i64 (j0 : Int)] w fun e w' => e = .returned (.tuple #[]) ∧ ∃ l', l'.Perm l ∧ Hp l' n ∧ Sls.Own w' K (.slice A n c) n l' ∧ Mv K T m (.slice A n c) w w' := by
  have HP0 : Hid (UpI l n j0 ∧ l.Perm l) := hid ⟨hu, List.Perm.refl l⟩
  have hjn := hu.1
  have HM0 := hid (Mv.refl (K := K) hq)
  clear hu
  unfold px
  go_enter Try.func20, Try.ntmps20
  go_wp2_with fail
  go_loopw [1] (fun jv W => ∃ (j : Nat) (l' : List ByteArray), jv = .int .i64 (j : Int) ∧ j < n ∧ Hid (UpI l' n j ∧ l'.Perm l) ∧ Sls.Own W K (.slice A n c) n l' ∧ Hid (Mv K T m (.slice A n c) w W)) (fun jv _ => (intOf jv).toNat)
  case atStart => exact ⟨j0, l, rfl, hjn, HP0, h, HM0⟩
  case round =>
    obtain ⟨j, l', rfl, hj, hP, hO, hM⟩ := hrel
    have hQ := hM.out.2.2
    have hm := method_val (k := 178) iLess hQ.c1
    have hms := fun k => method_val (k := 178) (w := wr.drewN k) iSwap hQ.c1
    by_cases h0 : j = 0
    · subst h0
      go_wp2_with fail
      refine bodyPost_end (results_none rfl _ _ _) rfl ?_
      exact ⟨rfl, l', hP.out.2, hP.out.1.done (.inl rfl), hO, hM.out⟩
    · have hj0 : 0 < j := by omega
      have e1 : ((j : Int) - 1) / 2 = ((par j : Nat) : Int) := by unfold par; omega
      have hpj := par_lt hj0
      have e2 : (((par j : Nat) : Int) == (j : Int)) = false := by simp; omega
      have hr : Sls.Rd wr wr.heap.size A n l' := by
        obtain ⟨A', c', e, hr, _⟩ := hO.reads
        injection e with e1 _ _
        subst e1
        exact hr
      have HL := hid (pless_any _ A n c l' wr hr hj (by omega : par j < n))
      clear hr
      cases hb : bl (nth l' j) (nth l' (par j))
      · have HR := hid (hP.out.1.done (.inr (by rw [hb]; decide)))
        rw [hb] at HL
        clear hb
        go_wp2_with (go_at_call 38; refine HL.out.mono ?_; rintro e w1 ⟨rfl, k1, rfl⟩)
        refine bodyPost_end (results_none rfl _ _ _) rfl ?_
        exact ⟨rfl, l', hP.out.2, HR.out, hO.drewN k1, hM.out.drewN k1⟩
      · have HN := hid (hP.out.1.step hj0 hb)
        have HPm : Hid ((swp l' (par j) j).Perm l) := hid ((swp_perm (by have := hO.1; omega) (by have := hO.1; omega)).trans hP.out.2)
        rw [hb] at HL
        clear hb hP
        have HS := hid (fun k => pswap_any K A n c l' (wr.drewN k) (hO.drewN k) (by omega : par j < n) hj)
        go_wp2_with (first | (go_at_call 38; refine HL.out.mono ?_; rintro e w1 ⟨rfl, k1, rfl⟩; have hms1 := hms k1) | (go_at_call 39; refine (HS.out _).mono ?_; rintro e w2 ⟨rfl, ho2, hb2, hf2⟩))
        have hM2 := hid ((hM.out.drewN k1).step (hO.drewN k1) hb2 hf2)
        clear hb2 hf2
        go_roundw
        · exact ⟨par j, swp l' (par j) j, rfl, by omega, hid ⟨HN.out, HPm.out⟩, ho2, hM2⟩
        · simp [intOf]; omega

def lc (i : Nat) : Nat := 2 * i + 1
def rc (i : Nat) : Nat := 2 * i + 2
/-- Behind down: the list is a heap again; what lies from n on is as it was. -/
def DnP (K T N n : Nat) (m : Value) (A : Option Addr) (c : Nat) (l : List ByteArray) (w : World) (e : Ending) (w' : World) : Prop :=
  (∃ b : Bool, e = .returned (.bool b)) ∧ ∃ l', l'.Perm l ∧ Hp l' n ∧ (∀ k, n ≤ k → nth l' k = nth l k) ∧ Sls.Own w' K (.slice A N c) N l' ∧ Mv K T m (.slice A N c) w w'
def DnH (l l' : List ByteArray) (n i : Nat) : Prop := DnI l' n i ∧ l'.Perm l ∧ ∀ k, n ≤ k → nth l' k = nth l k
theorem DnH.step {l l' : List ByteArray} {n i j : Nat} (h : DnH l l' n i) (hj : Lss l' n i j) (hl : bl (nth l' j) (nth l' i) = true) (hi : i < n) : DnH l (swp l' i j) n j := by
  have h1 : i < l'.length := Nat.lt_of_lt_of_le hi h.1.1
  have h2 : j < l'.length := Nat.lt_of_lt_of_le hj.2.2.1 h.1.1
  have h3 := hj.2.2.1
  refine ⟨h.1.step hj hl, (swp_perm h1 h2).trans h.2.1, fun k hk => ?_⟩
  rw [nth_swp h1 h2, if_neg (by omega), if_neg (by omega)]
  exact h.2.2 k hk
theorem own_rd {w : World} {K n c : Nat} {A : Option Addr} {l : List ByteArray} (h : Sls.Own w K (.slice A n c) n l) : Sls.Rd w w.heap.size A n l := by
  obtain ⟨A', c', e, hr, _⟩ := h.reads
  injection e with e1 _ _
  subst e1
  exact hr

set_option linter.unusedSimpArgs false in
set_option maxRecDepth 100000 in
set_option maxHeartbeats 800000 in
theorem down_any (K T : Nat) (m : Value) (A : Option Addr) (N n c i0 : Nat) (l : List ByteArray) (w : World) (hq : Qr w T m (.slice A N c)) (h : Sls.Own w K (.slice A N c) N l) (hN : N ≤ 1000000) (hu : DnI l n i0) (hi0 : i0 ≤ n) :
    Calls Try.prog 21 #[px T, .int .i64 (i0 : Int), .int .i64 (n : Int)] w (DnP K T N n m A c l w) := by
  have HP0 : Hid (DnH l l n i0) := hid ⟨hu, List.Perm.refl l, fun _ _ => rfl⟩
  have hnN : n ≤ N := by have := hu.1; have := h.1; omega
  have HM0 := hid (Mv.refl (K := K) hq)
  clear hu
  unfold px
  go_enter Try.func21, Try.ntmps21
  go_wp2_with fail
  go_loopw [7] (fun iv W => ∃ (i : Nat) (l' : List ByteArray), iv = .int .i64 (i : Int) ∧ i ≤ n ∧ Hid (DnH l l' n i) ∧ Sls.Own W K (.slice A N c) N l' ∧ Hid (Mv K T m (.slice A N c) w W)) (fun iv _ => n - (intOf iv).toNat)
  case atStart => exact ⟨i0, l, rfl, hi0, HP0, h, HM0⟩
  case round =>
    obtain ⟨i, l', rfl, hi, hP, hO, hM⟩ := hrel
    have hQ := hM.out.2.2
    have e1 : 2 * (i : Int) + 1 = (lc i : Int) := by unfold lc; omega
    have e2 : (lc i : Int) + 1 = (rc i : Int) := by unfold lc rc; omega
    have hi6 : (i : Int) ≤ 1000000 := by omega
    have hl6 : (lc i : Int) ≤ 3000000 := by unfold lc; omega
    have hl0 : ¬ (lc i : Int) < 0 := by omega
    have hm := fun k => method_val (k := 178) (w := wr.drewN k) iLess hQ.c1
    have hm0 := method_val (k := 178) iLess hQ.c1
    have hms := fun k => method_val (k := 178) (w := wr.drewN k) iSwap hQ.c1
    by_cases h1 : n ≤ lc i
    · have h1' : (n : Int) ≤ (lc i : Int) := by omega
      have HR := hid (hP.out.1.leaf h1)
      go_wp2_with fail
      go_ret
      exact ⟨⟨_, rfl⟩, l', hP.out.2.1, HR.out, hP.out.2.2, hO, hM.out⟩
    · have h1' : ¬ (n : Int) ≤ (lc i : Int) := by omega
      by_cases h2 : rc i < n
      · have h2' : (rc i : Int) < (n : Int) := by omega
        cases hb : bl (nth l' (rc i)) (nth l' (lc i))
        · have HJ : Hid (Lss l' n i (lc i)) := hid (Lss.one (by unfold lc at h1; omega) (fun e => by have := e.2; rw [show 2 * i + 2 = rc i from rfl, show 2 * i + 1 = lc i from rfl, hb] at this; cases this))
          have HLf := hid (pless_any _ A N c l' wr (own_rd hO) (by omega : rc i < N) (by omega : lc i < N))
          rw [hb] at HLf
          clear hb
          go_upto_region 8 with (go_at_call 38; refine HLf.out.mono ?_; rintro e w1 ⟨rfl, k1, rfl⟩)
          have hO1 := hO.drewN k1
          have hM1 := hid (hM.out.drewN k1)
          clear HLf hm hm0 hms hM hO hQ
          generalize wr.drewN k1 = V at *
          have hQ1 := hM1.out.2.2
          have q1 := method_val (k := 178) iLess hQ1.c1
          have q2 := fun k => method_val (k := 178) (w := V.drewN k) iSwap hQ1.c1
          have hjn := HJ.out.2.2.1
          have HL1 := hid (pless_any _ A N c l' V (own_rd hO1) (by omega : lc i < N) (by omega : i < N))
          cases hb : bl (nth l' (lc i)) (nth l' i)
          · have HR := hid (hP.out.1.done HJ.out (by rw [hb]; decide))
            rw [hb] at HL1
            clear hb
            go_wp2_with (go_at_call 38; refine HL1.out.mono ?_; rintro e w2 ⟨rfl, k2, rfl⟩)
            go_ret
            exact ⟨⟨_, rfl⟩, l', hP.out.2.1, HR.out, hP.out.2.2, hO1.drewN k2, hM1.out.drewN k2⟩
          · have HN := hid (hP.out.step HJ.out hb (by omega))
            rw [hb] at HL1
            clear hb hP
            have HS := hid (fun k => pswap_any K A N c l' (V.drewN k) (hO1.drewN k) (by omega : i < N) (by omega : lc i < N))
            go_wp2_with (first | (go_at_call 38; refine HL1.out.mono ?_; rintro e w2 ⟨rfl, k2, rfl⟩; have q3 := q2 k2) | (go_at_call 39; refine (HS.out _).mono ?_; rintro e w3 ⟨rfl, ho3, hb3, hf3⟩))
            have hM3 := hid ((hM1.out.drewN k2).step (hO1.drewN k2) hb3 hf3)
            clear hb3 hf3
            have hij : i < lc i := by unfold lc; omega
            go_roundw
            · exact ⟨lc i, swp l' i (lc i), rfl, by omega, HN, ho3, hM3⟩
            · simp [intOf]; omega
        · have HJ : Hid (Lss l' n i (rc i)) := hid (Lss.two (by unfold rc at h2; omega) hb)
          have HLf := hid (pless_any _ A N c l' wr (own_rd hO) (by omega : rc i < N) (by omega : lc i < N))
          rw [hb] at HLf
          clear hb
          go_upto_region 8 with (go_at_call 38; refine HLf.out.mono ?_; rintro e w1 ⟨rfl, k1, rfl⟩)
          have hO1 := hO.drewN k1
          have hM1 := hid (hM.out.drewN k1)
          clear HLf hm hm0 hms hM hO hQ
          generalize wr.drewN k1 = V at *
          have hQ1 := hM1.out.2.2
          have q1 := method_val (k := 178) iLess hQ1.c1
          have q2 := fun k => method_val (k := 178) (w := V.drewN k) iSwap hQ1.c1
          have hjn := HJ.out.2.2.1
          have HL1 := hid (pless_any _ A N c l' V (own_rd hO1) (by omega : rc i < N) (by omega : i < N))
          cases hb : bl (nth l' (rc i)) (nth l' i)
          · have HR := hid (hP.out.1.done HJ.out (by rw [hb]; decide))
            rw [hb] at HL1
            clear hb
            go_wp2_with (go_at_call 38; refine HL1.out.mono ?_; rintro e w2 ⟨rfl, k2, rfl⟩)
            go_ret
            exact ⟨⟨_, rfl⟩, l', hP.out.2.1, HR.out, hP.out.2.2, hO1.drewN k2, hM1.out.drewN k2⟩
          · have HN := hid (hP.out.step HJ.out hb (by omega))
            rw [hb] at HL1
            clear hb hP
            have HS := hid (fun k => pswap_any K A N c l' (V.drewN k) (hO1.drewN k) (by omega : i < N) (by omega : rc i < N))
            go_wp2_with (first | (go_at_call 38; refine HL1.out.mono ?_; rintro e w2 ⟨rfl, k2, rfl⟩; have q3 := q2 k2) | (go_at_call 39; refine (HS.out _).mono ?_; rintro e w3 ⟨rfl, ho3, hb3, hf3⟩))
            have hM3 := hid ((hM1.out.drewN k2).step (hO1.drewN k2) hb3 hf3)
            clear hb3 hf3
            have hij : i < rc i := by unfold rc; omega
            go_roundw
            · exact ⟨rc i, swp l' i (rc i), rfl, by omega, HN, ho3, hM3⟩
            · simp [intOf]; omega
      · have h2' : ¬ (rc i : Int) < (n : Int) := by omega
        have HJ : Hid (Lss l' n i (lc i)) := hid (Lss.one (by unfold lc at h1; omega) (fun e => by have := e.1; unfold rc at h2; omega))
        have hO1 := hO
        have hM1 := hM
        clear hm hm0 hms hM hO hQ
        generalize wr = V at *
        have hQ1 := hM1.out.2.2
        have q1 := method_val (k := 178) iLess hQ1.c1
        have q2 := fun k => method_val (k := 178) (w := V.drewN k) iSwap hQ1.c1
        have hjn := HJ.out.2.2.1
        have HL1 := hid (pless_any _ A N c l' V (own_rd hO1) (by omega : lc i < N) (by omega : i < N))
        cases hb : bl (nth l' (lc i)) (nth l' i)
        · have HR := hid (hP.out.1.done HJ.out (by rw [hb]; decide))
          rw [hb] at HL1
          clear hb
          go_wp2_with (go_at_call 38; refine HL1.out.mono ?_; rintro e w2 ⟨rfl, k2, rfl⟩)
          go_ret
          exact ⟨⟨_, rfl⟩, l', hP.out.2.1, HR.out, hP.out.2.2, hO1.drewN k2, hM1.out.drewN k2⟩
        · have HN := hid (hP.out.step HJ.out hb (by omega))
          rw [hb] at HL1
          clear hb hP
          have HS := hid (fun k => pswap_any K A N c l' (V.drewN k) (hO1.drewN k) (by omega : i < N) (by omega : lc i < N))
          go_wp2_with (first | (go_at_call 38; refine HL1.out.mono ?_; rintro e w2 ⟨rfl, k2, rfl⟩; have q3 := q2 k2) | (go_at_call 39; refine (HS.out _).mono ?_; rintro e w3 ⟨rfl, ho3, hb3, hf3⟩))
          have hM3 := hid ((hM1.out.drewN k2).step (hO1.drewN k2) hb3 hf3)
          clear hb3 hf3
          have hij : i < lc i := by unfold lc; omega
          go_roundw
          · exact ⟨lc i, swp l' i (lc i), rfl, by omega, HN, ho3, hM3⟩
          · simp [intOf]; omega
end Go.Proofs.Ytbcjbembhajgcaa.Wnt
