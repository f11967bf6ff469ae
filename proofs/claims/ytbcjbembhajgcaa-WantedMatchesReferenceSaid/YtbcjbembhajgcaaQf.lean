/-
  wanted: the library's heap over the list: Push, Pop; take.
-/
import Derived.Test.YtbcjbembhajgcaaQe
namespace Go.Proofs.Ytbcjbembhajgcaa.Wnt
open Go.RowKit Go.Proofs Go.Proofs.Ytbcjbembhajgcaa.Byt
open Go.Proofs.Ytbcjbembhajgcaa.Tab (bl bl_iff putN tl_inj)

/-- Behind a change: the list's names, and what stays. -/
def HpP (K T n : Nat) (m v : Value) (l : List ByteArray) (w w' : World) : Prop :=
  ∃ v' l', Qr w' T m v' ∧ l'.Perm l ∧ Hp l' n ∧ Sls.Own w' K v' n l' ∧ Below K w w' ∧ Fq T v w v' w'

set_option linter.unusedSimpArgs false in
theorem hpush_any (K T : Nat) (m v : Value) (n : Nat) (l : List ByteArray) (s : ByteArray) (w : World) (hq : Qr w T m v) (h : Sls.Own w K v n l) (hT : K ≤ T) (hh : Hp l n) (hn : n < 1000000) :
    Calls Try.prog 16 #[px T, .iface 9 (.string s)] w fun e w' => e = .returned (.tuple #[]) ∧ HpP K T (n + 1) m v (l ++ [s]) w w' := by
  have HP := hid (ppush_any K T m v n l s w hq h hT hn)
  have HU : Hid (UpI (l ++ [s]) (n + 1) n) := hid (by have := h.1; subst this; exact UpI.start hh)
  have mp := method_ptr (k := 178) (w := w) (T := T) iPush
  clear hq h hh
  unfold px
  go_enter Try.func16, Try.ntmps16
  go_upto_region 1 with (go_at_call 42; refine HP.out.mono ?_; rintro e w1 ⟨rfl, v1, hq1, ho1, hb1, hf1⟩)
  obtain ⟨A1, c1, rfl, _⟩ := ho1.reads
  have ml := method_val (k := 178) iLen hq1.c1
  have hL := plen_any w1 A1 (n + 1) c1
  have HUp := hid (up_any K T m A1 (n + 1) c1 n (l ++ [s]) w1 hq1 ho1 (by omega) HU.out)
  have e1 : ((n + 1 : Nat) : Int) - 1 = (n : Int) := by omega
  have hn6 : (n : Int) < 1000000 := by omega
  have HF1 := hid hf1
  have HB1 := hid hb1
  clear hf1 hb1 hq1 ho1
  go_wp2_with (first | (go_at_call 18; refine hL.mono ?_; rintro e w2 ⟨rfl, rfl⟩) | (go_at_call 20; refine HUp.out.mono ?_; rintro e w2 ⟨rfl, l2, hp2, hh2, ho2, hm2⟩))
  refine bodyPost_end (results_none rfl _ _ _) rfl ?_
  exact ⟨rfl, _, l2, hm2.2.2, hp2, hh2, ho2, HB1.out.trans hm2.1, HF1.out.trans (Fq.of_fr hm2.2.1 hm2.1)⟩

theorem take_last {l : List ByteArray} {n : Nat} (hl : l.length = n) (hn : 0 < n) : l = l.take (n - 1) ++ [nth l (n - 1)] := by
  subst hl
  rw [nth_eq (by omega), ← List.take_succ_eq_append_getElem (by omega), show l.length - 1 + 1 = l.length by omega, List.take_length]
theorem hp_take {l : List ByteArray} {n : Nat} (h : Hp l n) (hn : n ≤ l.length) : Hp (l.take n) n := fun k k0 kn => by
  have := par_lt k0
  have e : ∀ j, j < n → nth (l.take n) j = nth l j := fun j hj => by
    rw [nth_eq (by rw [List.length_take]; omega), nth_eq (by omega), List.getElem_take]
  rw [e k kn, e (par k) (by omega)]
  exact h k k0 kn
theorem pop_perm {l l2 : List ByteArray} {n : Nat} (hl : l.length = n) (hn : 0 < n) (hp : l2.Perm (swp l 0 (n - 1))) (hk : nth l2 (n - 1) = nth (swp l 0 (n - 1)) (n - 1)) : (nth l 0 :: l2.take (n - 1)).Perm l := by
  have h1 : nth l2 (n - 1) = nth l 0 := by rw [hk, nth_swp (by omega) (by omega), if_pos rfl]
  have h2 := take_last (l := l2) (n := n) (by rw [hp.length_eq, swp_len]; exact hl) hn
  have h3 : (nth l 0 :: l2.take (n - 1)).Perm l2 := by
    conv => rhs; rw [h2, h1]
    exact (List.perm_append_singleton _ _).symm
  exact (h3.trans hp).trans (swp_perm (by omega) (by omega))

/-- Behind Pop: the least is gone. -/
def PopP (K T n : Nat) (m v : Value) (l : List ByteArray) (w w' : World) : Prop :=
  ∃ v' l', Qr w' T m v' ∧ (nth l 0 :: l').Perm l ∧ Hp l' (n - 1) ∧ Sls.Own w' K v' (n - 1) l' ∧ Below K w w' ∧ Fq T v w v' w'
set_option linter.unusedSimpArgs false in
set_option maxHeartbeats 800000 in
theorem hpop_any (K T : Nat) (m v : Value) (n : Nat) (l : List ByteArray) (w : World) (hq : Qr w T m v) (h : Sls.Own w K v n l) (hT : K ≤ T) (hh : Hp l n) (hn : n ≤ 1000000) (h0 : 0 < n) :
    Calls Try.prog 19 #[px T] w fun e w' => (∃ x, e = .returned x) ∧ PopP K T n m v l w w' := by
  obtain ⟨A, c, rfl, _⟩ := h.reads
  obtain ⟨j, rfl⟩ : ∃ j, n = j + 1 := ⟨n - 1, by omega⟩
  have hl := h.1
  have ml := method_val (k := 178) iLen hq.c1
  have ms := method_val (k := 178) iSwap hq.c1
  have hL := plen_any w A (j + 1) c
  have HS := hid (pswap_any K A (j + 1) c l w h (by omega : 0 < j + 1) (by omega : j < j + 1))
  have HD : Hid (DnI (swp l 0 j) j 0) := hid (DnI.start hh hl)
  have e1 : ((j + 1 : Nat) : Int) - 1 = (j : Int) := by omega
  have HO := hid h
  have HQ := hid hq
  clear h hq hh
  unfold px
  go_enter Try.func19, Try.ntmps19
  go_upto_region 3 with (first | (go_at_call 18; refine hL.mono ?_; rintro e w1 ⟨rfl, rfl⟩) | (go_at_call 39; refine HS.out.mono ?_; rintro e w1 ⟨rfl, ho1, hb1, hf1⟩))
  have hM1 := hid ((Mv.refl (K := K) HQ.out).step HO.out hb1 hf1)
  have HDn := hid (down_any K T m A (j + 1) j c 0 _ w1 hM1.out.2.2 ho1 hn HD.out (by omega))
  clear ml ms hL HS hb1 hf1
  unfold px at HDn
  go_upto_region 4 with (go_at_call 21; refine HDn.out.mono ?_; rintro e w2 ⟨⟨b2, rfl⟩, l2, hp2, hh2, hk2, ho2, hm2⟩)
  have mp := method_ptr (k := 178) (w := w2) (T := T) iPop
  have HPp := hid (ppop_any K T m A (j + 1) c l2 w2 hm2.2.2 ho2 hT (by omega))
  have hF2 := hid ((Fq.of_fr (T := T) hM1.out.2.1 hM1.out.1).trans (Fq.of_fr (T := T) hm2.2.1 hm2.1))
  have hB2 := hid (hM1.out.1.trans hm2.1)
  have HH := hid (hp_take hh2 (by have := ho2.1; omega))
  have HPm := hid (pop_perm (l := l) (l2 := l2) hl (by omega) hp2 (hk2 _ (Nat.le_refl _)))
  clear hm2 hh2 hk2 ho2 hp2 HDn
  go_wp2_with (go_at_call 41; refine HPp.out.mono ?_; rintro e w3 ⟨rfl, hq3, ho3, hb3, hf3⟩)
  go_ret
  exact ⟨⟨_, rfl⟩, _, _, hq3, HPm.out, HH.out, ho3, hB2.out.trans hb3, hF2.out.trans hf3⟩
set_option linter.unusedSimpArgs false in
theorem take_any (K T : Nat) (m v : Value) (n : Nat) (l : List ByteArray) (w : World) (hq : Qr w T m v) (h : Sls.Own w K v n l) (hT : K ≤ T) (hh : Hp l n) (hn : n ≤ 1000000) (h0 : 0 < n) :
    Calls Try.prog 15 #[px T] w fun e w' => e = .returned (.string (nth l 0)) ∧ PopP K T n m v l w w' := by
  have HP := hid (hpop_any K T m v n l w hq h hT hh hn h0)
  obtain ⟨A, c, rfl, _⟩ := h.reads
  have ml := method_val (k := 178) iLeast hq.c1
  have HL := hid (pleast_any _ A n c l w (own_rd h) h0)
  clear hq h hh
  generalize nth l 0 = x at *
  unfold px at *
  go_enter Try.func15, Try.ntmps15
  go_wp2_with (first | (go_at_call 40; refine HL.out.mono ?_; rintro e w1 ⟨rfl, rfl⟩) | (go_at_call 19; refine HP.out.mono ?_; rintro e w3 ⟨⟨y, rfl⟩, hp3⟩))
  go_ret
  exact ⟨rfl, hp3⟩
end Go.Proofs.Ytbcjbembhajgcaa.Wnt
