/-
  common: the library's heap over the list: up, down, Push, Pop.
-/
import Derived.Test.YtcaepgggffkjpaaRn
namespace Go.Proofs.Ytcaepgggffkjpaa.Cmn
open Go.RowKit Go.Proofs Go.Proofs.Ytcaepgggffkjpaa.Byt
open Go.Proofs.Ytcaepgggffkjpaa.Bnd (Us)

/-- What stays of the world while the list's symbols change their places. -/
def Mv (K T : Nat) (v : Value) (w w' : World) : Prop := Below K w w' ∧ Sls.Fr v w v w' ∧ Qr w' T v
theorem Mv.refl {K T : Nat} {v : Value} {w : World} (h : Qr w T v) : Mv K T v w w := ⟨Below.refl _ _, Sls.Fr.refl _ _, h⟩
theorem Mv.step {K T n : Nat} {v : Value} {w w' w'' : World} {l : List Us} (h : Mv K T v w w') (ho : OwH w' K v n l) (hb : Below K w' w'') (hf : Sls.Fr v w' v w'') : Mv K T v w w'' :=
  ⟨h.1.trans hb, Fr_trans h.2.1 hf h.1.size, h.2.2.fr ho hf⟩
theorem Mv.below {K T : Nat} {v : Value} {w w' w'' : World} (h : Mv K T v w w') (hK : K ≤ w.heap.size) (hb : Below w'.heap.size w' w'') : Mv K T v w w'' :=
  ⟨h.1.trans (hb.mono (Nat.le_trans hK h.1.size)), Fr_trans h.2.1 (Fr_below hb) h.1.size, h.2.2.below hb⟩

set_option linter.unusedSimpArgs false in
set_option maxRecDepth 100000 in
set_option maxHeartbeats 2000000 in
theorem up_any (K T : Nat) (A : Option Addr) (n c j0 : Nat) (l : List Us) (w : World) (hq : Qr w T (.slice A n c)) (h : OwH w K (.slice A n c) n l) (hK : K ≤ w.heap.size) (hn : n ≤ 1000000) (hu : UpI l n j0) :
    Calls Try.prog 25 #[px T, .int .i64 (j0 : Int)] w fun e w' => e = .returned (.tuple #[]) ∧ ∃ l', l'.Perm l ∧ Hp l' n ∧ OwH w' K (.slice A n c) n l' ∧ Mv K T (.slice A n c) w w' := by
  have HP0 : Hid (UpI l n j0 ∧ l.Perm l) := hid ⟨hu, List.Perm.refl l⟩
  have hjn := hu.1
  have HM0 := hid (Mv.refl (K := K) hq)
  clear hu
  unfold px
  go_enter Try.func25, Try.ntmps25
  go_wp2_with fail
  go_loopw [1] (fun jv W => ∃ (j : Nat) (l' : List Us), jv = .int .i64 (j : Int) ∧ j < n ∧ Hid (UpI l' n j ∧ l'.Perm l) ∧ OwH W K (.slice A n c) n l' ∧ Hid (Mv K T (.slice A n c) w W)) (fun jv _ => (intOf jv).toNat)
  case atStart => exact ⟨j0, l, rfl, hjn, HP0, h, HM0⟩
  case round =>
    obtain ⟨j, l', rfl, hj, hP, hO, hM⟩ := hrel
    have hQ := hM.out.2.2
    have hm := method_val (k := 176) iLess hQ.c1
    by_cases h0 : j = 0
    · subst h0
      go_wp2_with fail
      refine bodyPost_end (results_none rfl _ _ _) rfl ?_
      exact ⟨rfl, l', hP.out.2, hP.out.1.done (.inl rfl), hO, hM.out⟩
    · have hj0 : 0 < j := by omega
      have e1 : ((j : Int) - 1) / 2 = ((par j : Nat) : Int) := by unfold par; omega
      have hpj := par_lt hj0
      have e2 : (((par j : Nat) : Int) == (j : Int)) = false := by simp; omega
      have HL := hid (pless_any _ A n c l' wr hO.rd hj (by omega : par j < n))
      have HOh := hid hO
      cases hb : bef (nth l' j) (nth l' (par j))
      · have HR := hid (hP.out.1.done (.inr (by rw [hb]; decide)))
        rw [hb] at HL
        clear hb hO
        go_wp2_with (go_at_call 42; refine HL.out.mono ?_; rintro e w1 ⟨rfl, hb1⟩)
        refine bodyPost_end (results_none rfl _ _ _) rfl ?_
        exact ⟨rfl, l', hP.out.2, HR.out, HOh.out.below hb1, hM.out.below hK hb1⟩
      · have HN := hid (hP.out.1.step hj0 hb)
        have HPm : Hid ((swp l' (par j) j).Perm l) := hid ((swp_perm (by have := hO.1; omega) (by have := hO.1; omega)).trans hP.out.2)
        rw [hb] at HL
        clear hb hP hO
        have HS := hid (fun V (hV : Below wr.heap.size wr V) => pswap_any K A n c l' V (HOh.out.below hV) (by omega : par j < n) hj)
        go_wp2_with (first | (go_at_call 42; refine HL.out.mono ?_; rintro e w1 ⟨rfl, hb1⟩; have hms1 := method_val (k := 176) iSwap (hM.out.below hK hb1).2.2.c1; have HB1 := hid hb1; clear hb1) | (go_at_call 43; refine (HS.out _ HB1.out).mono ?_; rintro e w2 ⟨rfl, ho2, hb2, hf2⟩))
        have hM2 := hid ((hM.out.below hK HB1.out).step (HOh.out.below HB1.out) hb2 hf2)
        clear hb2 hf2
        go_roundw
        · exact ⟨par j, swp l' (par j) j, rfl, by omega, hid ⟨HN.out, HPm.out⟩, ho2, hM2⟩
        · simp [intOf]; omega

def lc (i : Nat) : Nat := 2 * i + 1
def rc (i : Nat) : Nat := 2 * i + 2
/-- Behind down: the list is a heap again; what lies from n on is as it was. -/
def DnP (K T N n : Nat) (A : Option Addr) (c : Nat) (l : List Us) (w : World) (e : Ending) (w' : World) : Prop :=
  (∃ b : Bool, e = .returned (.bool b)) ∧ ∃ l', l'.Perm l ∧ Hp l' n ∧ (∀ k, n ≤ k → nth l' k = nth l k) ∧ OwH w' K (.slice A N c) N l' ∧ Mv K T (.slice A N c) w w'
def DnH (l l' : List Us) (n i : Nat) : Prop := DnI l' n i ∧ l'.Perm l ∧ ∀ k, n ≤ k → nth l' k = nth l k
theorem DnH.step {l l' : List Us} {n i j : Nat} (h : DnH l l' n i) (hj : Lss l' n i j) (hl : bef (nth l' j) (nth l' i) = true) (hi : i < n) : DnH l (swp l' i j) n j := by
  have h1 : i < l'.length := Nat.lt_of_lt_of_le hi h.1.1
  have h2 : j < l'.length := Nat.lt_of_lt_of_le hj.2.2.1 h.1.1
  have h3 := hj.2.2.1
  refine ⟨h.1.step hj hl, (swp_perm h1 h2).trans h.2.1, fun k hk => ?_⟩
  rw [nth_swp h1 h2, if_neg (by omega), if_neg (by omega)]
  exact h.2.2 k hk

set_option linter.unusedSimpArgs false in
set_option maxRecDepth 100000 in
set_option maxHeartbeats 2000000 in
theorem down_any (K T : Nat) (A : Option Addr) (N n c i0 : Nat) (l : List Us) (w : World) (hq : Qr w T (.slice A N c)) (h : OwH w K (.slice A N c) N l) (hK : K ≤ w.heap.size) (hN : N ≤ 1000000) (hu : DnI l n i0) (hi0 : i0 ≤ n) :
    Calls Try.prog 24 #[px T, .int .i64 (i0 : Int), .int .i64 (n : Int)] w (DnP K T N n A c l w) := by
  have HP0 : Hid (DnH l l n i0) := hid ⟨hu, List.Perm.refl l, fun _ _ => rfl⟩
  have hnN : n ≤ N := by have := hu.1; have := h.1; omega
  have HM0 := hid (Mv.refl (K := K) hq)
  clear hu
  unfold px
  go_enter Try.func24, Try.ntmps24
  go_wp2_with fail
  go_loopw [7] (fun iv W => ∃ (i : Nat) (l' : List Us), iv = .int .i64 (i : Int) ∧ i ≤ n ∧ Hid (DnH l l' n i) ∧ OwH W K (.slice A N c) N l' ∧ Hid (Mv K T (.slice A N c) w W)) (fun iv _ => n - (intOf iv).toNat)
  case atStart => exact ⟨i0, l, rfl, hi0, HP0, h, HM0⟩
  case round =>
    obtain ⟨i, l', rfl, hi, hP, hO, hM⟩ := hrel
    have hQ := hM.out.2.2
    have e1 : 2 * (i : Int) + 1 = (lc i : Int) := by unfold lc; omega
    have e2 : (lc i : Int) + 1 = (rc i : Int) := by unfold lc rc; omega
    have hi6 : (i : Int) ≤ 1000000 := by omega
    have hl6 : (lc i : Int) ≤ 3000000 := by unfold lc; omega
    have hl0 : ¬ (lc i : Int) < 0 := by omega
    have hm := fun k => method_val (k := 176) (w := wr.drewN k) iLess hQ.c1
    have hm0 := method_val (k := 176) iLess hQ.c1
    by_cases h1 : n ≤ lc i
    · have h1' : (n : Int) ≤ (lc i : Int) := by omega
      have HR := hid (hP.out.1.leaf h1)
      go_wp2_with fail
      go_ret
      exact ⟨⟨_, rfl⟩, l', hP.out.2.1, HR.out, hP.out.2.2, hO, hM.out⟩
    · have h1' : ¬ (n : Int) ≤ (lc i : Int) := by omega
      by_cases h2 : rc i < n
      · have h2' : (rc i : Int) < (n : Int) := by omega
        cases hb : bef (nth l' (rc i)) (nth l' (lc i))
        · have HJ : Hid (Lss l' n i (lc i)) := hid (Lss.one (by unfold lc at h1; omega) (fun e => by have := e.2; rw [show 2 * i + 2 = rc i from rfl, show 2 * i + 1 = lc i from rfl, hb] at this; cases this))
          have HLf := hid (pless_any _ A N c l' wr hO.rd (by omega : rc i < N) (by omega : lc i < N))
          rw [hb] at HLf
          clear hb
          have HOk := hid hO
          clear hO
          go_upto_region 8 with (go_at_call 42; refine HLf.out.mono ?_; rintro e w1 ⟨rfl, hb1⟩)
          have hO1 := HOk.out.below hb1
          have hM1 := hid (hM.out.below hK hb1)
          clear HLf hm hm0 hM HOk hQ hb1
          generalize w1 = V at *
          have q1 := method_val (k := 176) iLess hM1.out.2.2.c1
          have hjn := HJ.out.2.2.1
          have HL1 := hid (pless_any _ A N c l' V hO1.rd (by omega : lc i < N) (by omega : i < N))
          have HOh := hid hO1
          clear hO1
          cases hb : bef (nth l' (lc i)) (nth l' i)
          · have HR := hid (hP.out.1.done HJ.out (by rw [hb]; decide))
            rw [hb] at HL1
            clear hb
            go_wp2_with (go_at_call 42; refine HL1.out.mono ?_; rintro e w2 ⟨rfl, hb2⟩)
            go_ret
            exact ⟨⟨_, rfl⟩, l', hP.out.2.1, HR.out, hP.out.2.2, HOh.out.below hb2, hM1.out.below hK hb2⟩
          · have HN := hid (hP.out.step HJ.out hb (by omega))
            rw [hb] at HL1
            clear hb hP
            have HS := hid (fun V' (hV : Below V.heap.size V V') => pswap_any K A N c l' V' (HOh.out.below hV) (by omega : i < N) (by omega : lc i < N))
            go_wp2_with (first | (go_at_call 42; refine HL1.out.mono ?_; rintro e w2 ⟨rfl, hb2⟩; have q3 := method_val (k := 176) iSwap (hM1.out.below hK hb2).2.2.c1; have HB2 := hid hb2; clear hb2) | (go_at_call 43; refine (HS.out _ HB2.out).mono ?_; rintro e w3 ⟨rfl, ho3, hb3, hf3⟩))
            have hM3 := hid ((hM1.out.below hK HB2.out).step (HOh.out.below HB2.out) hb3 hf3)
            clear hb3 hf3
            have hij : i < lc i := by unfold lc; omega
            go_roundw
            · exact ⟨lc i, swp l' i (lc i), rfl, by omega, HN, ho3, hM3⟩
            · simp [intOf]; omega
        · have HJ : Hid (Lss l' n i (rc i)) := hid (Lss.two (by unfold rc at h2; omega) hb)
          have HLf := hid (pless_any _ A N c l' wr hO.rd (by omega : rc i < N) (by omega : lc i < N))
          rw [hb] at HLf
          clear hb
          have HOk := hid hO
          clear hO
          go_upto_region 8 with (go_at_call 42; refine HLf.out.mono ?_; rintro e w1 ⟨rfl, hb1⟩)
          have hO1 := HOk.out.below hb1
          have hM1 := hid (hM.out.below hK hb1)
          clear HLf hm hm0 hM HOk hQ hb1
          generalize w1 = V at *
          have q1 := method_val (k := 176) iLess hM1.out.2.2.c1
          have hjn := HJ.out.2.2.1
          have HL1 := hid (pless_any _ A N c l' V hO1.rd (by omega : rc i < N) (by omega : i < N))
          have HOh := hid hO1
          clear hO1
          cases hb : bef (nth l' (rc i)) (nth l' i)
          · have HR := hid (hP.out.1.done HJ.out (by rw [hb]; decide))
            rw [hb] at HL1
            clear hb
            go_wp2_with (go_at_call 42; refine HL1.out.mono ?_; rintro e w2 ⟨rfl, hb2⟩)
            go_ret
            exact ⟨⟨_, rfl⟩, l', hP.out.2.1, HR.out, hP.out.2.2, HOh.out.below hb2, hM1.out.below hK hb2⟩
          · have HN := hid (hP.out.step HJ.out hb (by omega))
            rw [hb] at HL1
            clear hb hP
            have HS := hid (fun V' (hV : Below V.heap.size V V') => pswap_any K A N c l' V' (HOh.out.below hV) (by omega : i < N) (by omega : rc i < N))
            go_wp2_with (first | (go_at_call 42; refine HL1.out.mono ?_; rintro e w2 ⟨rfl, hb2⟩; have q3 := method_val (k := 176) iSwap (hM1.out.below hK hb2).2.2.c1; have HB2 := hid hb2; clear hb2) | (go_at_call 43; refine (HS.out _ HB2.out).mono ?_; rintro e w3 ⟨rfl, ho3, hb3, hf3⟩))
            have hM3 := hid ((hM1.out.below hK HB2.out).step (HOh.out.below HB2.out) hb3 hf3)
            clear hb3 hf3
            have hij : i < rc i := by unfold rc; omega
            go_roundw
            · exact ⟨rc i, swp l' i (rc i), rfl, by omega, HN, ho3, hM3⟩
            · simp [intOf]; omega
      · have h2' : ¬ (rc i : Int) < (n : Int) := by omega
        have HJ : Hid (Lss l' n i (lc i)) := hid (Lss.one (by unfold lc at h1; omega) (fun e => by have := e.1; unfold rc at h2; omega))
        have hO1 := hO
        have hM1 := hM
        clear hm hm0 hM hO hQ
        generalize wr = V at *
        have q1 := method_val (k := 176) iLess hM1.out.2.2.c1
        have hjn := HJ.out.2.2.1
        have HL1 := hid (pless_any _ A N c l' V hO1.rd (by omega : lc i < N) (by omega : i < N))
        have HOh := hid hO1
        clear hO1
        cases hb : bef (nth l' (lc i)) (nth l' i)
        · have HR := hid (hP.out.1.done HJ.out (by rw [hb]; decide))
          rw [hb] at HL1
          clear hb
          go_wp2_with (go_at_call 42; refine HL1.out.mono ?_; rintro e w2 ⟨rfl, hb2⟩)
          go_ret
          exact ⟨⟨_, rfl⟩, l', hP.out.2.1, HR.out, hP.out.2.2, HOh.out.below hb2, hM1.out.below hK hb2⟩
        · have HN := hid (hP.out.step HJ.out hb (by omega))
          rw [hb] at HL1
          clear hb hP
          have HS := hid (fun V' (hV : Below V.heap.size V V') => pswap_any K A N c l' V' (HOh.out.below hV) (by omega : i < N) (by omega : lc i < N))
          go_wp2_with (first | (go_at_call 42; refine HL1.out.mono ?_; rintro e w2 ⟨rfl, hb2⟩; have q3 := method_val (k := 176) iSwap (hM1.out.below hK hb2).2.2.c1; have HB2 := hid hb2; clear hb2) | (go_at_call 43; refine (HS.out _ HB2.out).mono ?_; rintro e w3 ⟨rfl, ho3, hb3, hf3⟩))
          have hM3 := hid ((hM1.out.below hK HB2.out).step (HOh.out.below HB2.out) hb3 hf3)
          clear hb3 hf3
          have hij : i < lc i := by unfold lc; omega
          go_roundw
          · exact ⟨lc i, swp l' i (lc i), rfl, by omega, HN, ho3, hM3⟩
          · simp [intOf]; omega

/-- Behind a change: the list's symbols, and what stays. -/
def HpP (K T n : Nat) (v : Value) (l : List Us) (w w' : World) : Prop :=
  ∃ v' l', Qr w' T v' ∧ l'.Perm l ∧ Hp l' n ∧ OwH w' K v' n l' ∧ Below K w w' ∧ Fq T v w v' w'

set_option linter.unusedSimpArgs false in
set_option maxRecDepth 100000 in
theorem hpush_any (K T : Nat) (v : Value) (n : Nat) (l : List Us) (s : Us) (w : World) (hq : Qr w T v) (h : OwH w K v n l) (hT : K ≤ T) (hh : Hp l n) (hn : n < 1000000) :
    Calls Try.prog 21 #[px T, .iface 40 (rval s)] w fun e w' => e = .returned (.tuple #[]) ∧ HpP K T (n + 1) v (l ++ [s]) w w' := by
  have hK : K ≤ w.heap.size := Nat.le_trans hT (Nat.le_of_lt hq.lt)
  have HP := hid (ppush_any K T v n l s w hq h hT hn)
  have HU : Hid (UpI (l ++ [s]) (n + 1) n) := hid (by have := h.1; subst this; exact UpI.start hh)
  have mp := method_ptr (k := 176) (w := w) (T := T) iPush
  clear hq h hh
  generalize rval s = sv at *
  unfold px
  go_enter Try.func21, Try.ntmps21
  go_upto_region 1 with (go_at_call 45; refine HP.out.mono ?_; rintro e w1 ⟨rfl, v1, hq1, ho1, hb1, hf1⟩)
  obtain ⟨A1, c1, rfl, _⟩ := ho1.reads
  have ml := method_val (k := 176) iLen hq1.c1
  have hL := plen_any w1 A1 (n + 1) c1
  have HUp := hid (up_any K T A1 (n + 1) c1 n (l ++ [s]) w1 hq1 ho1 (Nat.le_trans hK hb1.size) (by omega) HU.out)
  have e1 : ((n + 1 : Nat) : Int) - 1 = (n : Int) := by omega
  have hn6 : (n : Int) < 1000000 := by omega
  have HF1 := hid hf1
  have HB1 := hid hb1
  clear hf1 hb1 hq1 ho1
  go_wp2_with (first | (go_at_call 18; refine hL.mono ?_; rintro e w2 ⟨rfl, rfl⟩) | (go_at_call 25; refine HUp.out.mono ?_; rintro e w2 ⟨rfl, l2, hp2, hh2, ho2, hm2⟩))
  refine bodyPost_end (results_none rfl _ _ _) rfl ?_
  exact ⟨rfl, _, l2, hm2.2.2, hp2, hh2, ho2, HB1.out.trans hm2.1, HF1.out.trans (Fq.of_fr hm2.2.1 hm2.1)⟩

/-- Behind Pop: the first is gone. -/
def PopP (K T n : Nat) (v : Value) (l : List Us) (w w' : World) : Prop :=
  ∃ v' l', Qr w' T v' ∧ (nth l 0 :: l').Perm l ∧ Hp l' (n - 1) ∧ OwH w' K v' (n - 1) l' ∧ Below K w w' ∧ Fq T v w v' w'
set_option linter.unusedSimpArgs false in
set_option maxRecDepth 100000 in
set_option maxHeartbeats 800000 in
theorem hpop_any (K T : Nat) (v : Value) (n : Nat) (l : List Us) (w : World) (hq : Qr w T v) (h : OwH w K v n l) (hT : K ≤ T) (hh : Hp l n) (hn : n ≤ 1000000) (h0 : 0 < n) :
    Calls Try.prog 19 #[px T] w fun e w' => e = .returned (.iface 40 (rval (nth l 0))) ∧ PopP K T n v l w w' := by
  have hK : K ≤ w.heap.size := Nat.le_trans hT (Nat.le_of_lt hq.lt)
  obtain ⟨A, c, rfl, _⟩ := h.reads
  obtain ⟨j, rfl⟩ : ∃ j, n = j + 1 := ⟨n - 1, by omega⟩
  have hl := h.1
  have ml := method_val (k := 176) iLen hq.c1
  have ms := method_val (k := 176) iSwap hq.c1
  have hL := plen_any w A (j + 1) c
  have HS := hid (pswap_any K A (j + 1) c l w h (by omega : 0 < j + 1) (by omega : j < j + 1))
  have HD : Hid (DnI (swp l 0 j) j 0) := hid (DnI.start hh hl)
  have e1 : ((j + 1 : Nat) : Int) - 1 = (j : Int) := by omega
  have HO := hid h
  have HQ := hid hq
  clear h hq hh
  unfold px
  go_enter Try.func19, Try.ntmps19
  go_upto_region 3 with (first | (go_at_call 18; refine hL.mono ?_; rintro e w1 ⟨rfl, rfl⟩) | (go_at_call 43; refine HS.out.mono ?_; rintro e w1 ⟨rfl, ho1, hb1, hf1⟩))
  have hM1 := hid ((Mv.refl (K := K) HQ.out).step HO.out hb1 hf1)
  have HDn := hid (down_any K T A (j + 1) j c 0 _ w1 hM1.out.2.2 ho1 (Nat.le_trans hK hb1.size) hn HD.out (by omega))
  clear ml ms hL HS hb1 hf1
  unfold px at HDn
  go_upto_region 4 with (go_at_call 24; refine HDn.out.mono ?_; rintro e w2 ⟨⟨b2, rfl⟩, l2, hp2, hh2, hk2, ho2, hm2⟩)
  have mp := method_ptr (k := 176) (w := w2) (T := T) iPop
  have HPp := hid (ppop_any K T A (j + 1) c l2 w2 hm2.2.2 ho2 hT (by omega))
  have hF2 := hid ((Fq.of_fr (T := T) hM1.out.2.1 hM1.out.1).trans (Fq.of_fr (T := T) hm2.2.1 hm2.1))
  have hB2 := hid (hM1.out.1.trans hm2.1)
  have HH := hid (hp_take hh2 (by have := ho2.1; omega))
  obtain ⟨hx, hpm⟩ := pop_perm (l := l) (l2 := l2) hl (by omega) hp2 (hk2 _ (Nat.le_refl _))
  rw [hx] at HPp
  have HPm := hid hpm
  clear hm2 hh2 hk2 ho2 hp2 HDn hx hpm
  obtain ⟨sv, hsv⟩ : ∃ sv, rval (nth l 0) = sv := ⟨_, rfl⟩
  rw [hsv] at HPp
  have HV := hid hsv
  clear hsv
  go_wp2_with (go_at_call 44; refine HPp.out.mono ?_; rintro e w3 ⟨rfl, hq3, ho3, hb3, hf3⟩)
  go_ret
  exact ⟨by rw [HV.out]; rfl, _, _, hq3, HPm.out, HH.out, ho3, hB2.out.trans hb3, hF2.out.trans hf3⟩
end Go.Proofs.Ytcaepgggffkjpaa.Cmn
