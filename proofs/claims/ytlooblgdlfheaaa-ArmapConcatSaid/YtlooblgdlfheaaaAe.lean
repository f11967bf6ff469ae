/-
  armap's reference: Decode.
-/
import Derived.Test.YtlooblgdlfheaaaAd
namespace Go.Proofs.Ytlooblgdlfheaaa.Amp
open Go.RowKit Go.Proofs Go.Proofs.Ytlooblgdlfheaaa.Byt
open Go.Proofs.Ytlooblgdlfheaaa.Sls (Oth Fr blk)

theorem slice_mid (K b o n c f t : Nat) (u v : Int) (hu : u = (f : Int)) (hv : v = (t : Int)) (hft : f ≤ t) (htn : t ≤ n) (hnc : n ≤ c) :
    ∃ p, (∀ w, (Instr.sliceAt 23 (.slice (some ⟨b, o, none⟩) n c) (some (.int .i64 u)) (some (.int .i64 v)) none).run Try.prog w = .ok (.slice (some ⟨b, p, none⟩) (t - f) (c - f)) w) ∧ (∀ w, (Instr.slice 23 (.slice (some ⟨b, o, none⟩) n c) (some (.int .i64 u)) (some (.int .i64 v)) none).run Try.prog w = .ok (.slice (some ⟨b, p, none⟩) (t - f) (c - f)) w) ∧ ∀ w l, Byt.Rd w K (some ⟨b, o, none⟩) n l → Byt.Rd w K (some ⟨b, p, none⟩) (t - f) ((l.drop f).take (t - f)) := by
  subst hu hv
  have h1 : (f : Int) ≤ (t : Int) := by omega
  have h2 : (t : Int) ≤ (c : Int) := by omega
  have h3 : (f : Int) ≤ (c : Int) := by omega
  by_cases hc : c = f
  · subst hc
    obtain rfl : t = c := by omega
    obtain rfl : t = n := by omega
    refine ⟨o, fun w => by go_simp, fun w => by go_simp, fun w l hr => ?_⟩
    rw [Nat.sub_self, List.take_zero]
    exact Rd.nil _ _ _
  · exact ⟨o + f, fun w => by go_simp, fun w => by go_simp, fun w l hr => (hr.cut f).pre (by omega)⟩

/-- What Decode gives. -/
def decE (l : List UInt8) : List En := (decA l).getD []
def decZ (l : List UInt8) : Int := if (decA l).isSome = true then 0 else 8
def DecsA (l : List UInt8) (w : World) (e : Ending) (w' : World) : Prop :=
  ∃ A n c, e = .returned (.tuple #[.slice A n c, .int .i64 (decZ l)]) ∧ Cel.Own 40 2 w' w.heap.size (.slice A n c) n (ecells (decE l)) ∧ Below w.heap.size w w'
theorem DecsA.bad {l : List UInt8} {w w' : World} (h : decA l = none) (hb : Below w.heap.size w w') : DecsA l w (.returned (.tuple #[.slice none 0 0, .int .i64 8])) w' := by
  have h1 : decE l = [] := by unfold decE; rw [h]; rfl
  have h2 : decZ l = 8 := by unfold decZ; rw [h]; rfl
  refine ⟨none, 0, 0, by rw [h2], ?_, hb⟩
  rw [h1]
  exact Cel.Own.nil _ _ _ _
theorem DecsA.good {l : List UInt8} {xs : List En} {w w' : World} {A : Option Addr} {n c : Nat} (h : decA l = some xs) (ho : Cel.Own 40 2 w' w.heap.size (.slice A n c) n (ecells xs)) (hb : Below w.heap.size w w') : DecsA l w (.returned (.tuple #[.slice A n c, .int .i64 0])) w' := by
  have h1 : decE l = xs := by unfold decE; rw [h]; rfl
  have h2 : decZ l = 0 := by unfold decZ; rw [h]; rfl
  refine ⟨A, n, c, by rw [h2], ?_, hb⟩
  rw [h1]
  exact ho
theorem n4_take (l : List UInt8) (k : Nat) : n4 ((l.drop k).take 4) = n4 (l.drop k) := by unfold n4; rw [List.take_take, Nat.min_self]
theorem mkE_snoc (l : List UInt8) : ∀ (a : List (List UInt8)) (i : Nat) (s : List UInt8), mkE l i (a ++ [s]) = mkE l i a ++ [⟨str s, (n4 (l.drop (4 + 4 * (i + a.length))) : Int)⟩]
  | [], i, s => by simp [mkE]
  | t :: a, i, s => by
    rw [List.cons_append, mkE, mkE_snoc l a (i + 1) s, mkE, List.length_cons, show i + 1 + a.length = i + (a.length + 1) by omega]
    rfl
/-- The name that stands at p, as far as q. -/
theorem nm_more {l : List UInt8} {p q : Nat} (hp : p ≤ q) (hq : q < l.length) : (l.drop p).take (q + 1 - p) = (l.drop p).take (q - p) ++ [l[q]] := by
  rw [show q + 1 - p = (q - p) + 1 by omega, List.take_succ_eq_append_getElem (by rw [List.length_drop]; omega)]
  congr 2
  rw [List.getElem_drop]
  congr 1
  omega
theorem nm1_at {l : List UInt8} {p q : Nat} (hp : p ≤ q) (hq : q < l.length) (h0 : (0 : UInt8) ∉ (l.drop p).take (q - p)) (hz : l[q] = 0) : nm1 (l.drop p) = (l.drop p).take (q - p) ∧ l.drop p = (l.drop p).take (q - p) ++ ([0] ++ l.drop (q + 1)) := by
  have e : l.drop p = (l.drop p).take (q - p) ++ ([0] ++ l.drop (q + 1)) := by
    conv => lhs; rw [← List.take_append_drop (q - p) (l.drop p)]
    rw [List.drop_drop, show p + (q - p) = q by omega, List.drop_eq_getElem_cons hq, hz]
    rfl
  refine ⟨?_, e⟩
  conv => lhs; rw [e]
  exact nm1_app h0 _
theorem nm1_end {l : List UInt8} {p : Nat} (h0 : (0 : UInt8) ∉ (l.drop p).take (l.length - p)) : nm1 (l.drop p) = l.drop p := by
  rw [List.take_of_length_le (by rw [List.length_drop]; omega)] at h0
  exact nm1_all h0
theorem decA_big {l : List UInt8} (h : l.length < 4 ∨ l.length < 4 + 4 * n4 l) : decA l = none := by
  unfold decA
  rcases h with h | h
  · rw [if_pos h]
  · split
    · rfl
    · first | rfl | rw [if_pos h]
theorem decA_go {l : List UInt8} (h4 : 4 ≤ l.length) (h : 4 + 4 * n4 l ≤ l.length) {a : List (List UInt8)} (ha : ∀ s ∈ a, nmOk s = true) {p k : Nat} (hk : a.length = k) (hkn : k ≤ n4 l) (e : l.drop (4 + 4 * n4 l) = encN a ++ l.drop p) :
    decA l = ((nmsA (n4 l - k) (l.drop p)).map (a ++ ·)).map (mkE l 0) := by
  unfold decA
  rw [if_neg (by omega), if_neg (by omega), e]
  have := nmsA_app a (n4 l - k) (l.drop p) ha
  rw [hk, show k + (n4 l - k) = n4 l by omega] at this
  rw [this]

set_option maxRecDepth 100000 in
set_option maxHeartbeats 4000000 in
theorem rdecA_small (A : Option Addr) (n c : Nat) (l : List UInt8) (w : World) (hl : l.length = n) (h4 : n < 4) :
    Calls Try.prog 13 #[.slice A n c] w (DecsA l w) := by
  have Hd := hid (decA_big (l := l) (.inl (by omega)))
  have h4i : (n : Int) < 4 := by omega
  go_enter Try.func13, Try.ntmps13
  go_wp2_with fail
  go_ret2
  exact DecsA.bad Hd.out (Below.refl _ _)

set_option maxRecDepth 100000 in
set_option maxHeartbeats 8000000 in
theorem rdecA_big (K : Nat) (b o n c : Nat) (l : List UInt8) (w : World) (hr : Byt.Rd w K (some ⟨b, o, none⟩) n l) (hK : K ≤ w.heap.size) (hnc : n ≤ c) (h4 : 4 ≤ n) (hn : n ≤ 100000) :
    Calls Try.prog 13 #[.slice (some ⟨b, o, none⟩) n c] w (DecsA l w) := by
  have hl := hid hr.1
  have h4i : ¬ (n : Int) < 4 := by omega
  have h4c : (4 : Int) ≤ (c : Int) := by omega
  have hr4 := hr.pre (m := 4) h4
  have hn4 := n4_lt l
  have e4 : n4 (l.take 4) = n4 l := by unfold n4; rw [List.take_take, Nat.min_self]
  obtain ⟨N, hN⟩ : ∃ N, n4 l = N := ⟨_, rfl⟩
  have HN := hid hN
  have hN4 := e4.trans hN
  rw [hN] at hn4
  have g1 : IntKind.i64.wrap (4 * (N : Int)) = 4 * (N : Int) := by rw [IntKind.wrap_i64]; omega
  have g2 : IntKind.i64.wrap (4 + 4 * (N : Int)) = ((4 + 4 * N : Nat) : Int) := by rw [IntKind.wrap_i64]; omega
  clear e4 hN
  go_enter Try.func13, Try.ntmps13
  go_wp2_with fail
  refine (rnumber_any w K (some ⟨b, o, none⟩) 4 c (l.take 4) hr4 (Nat.le_refl _)).mono ?_
  rintro e w1 ⟨rfl, m1, rfl⟩
  rw [hN4]
  have hb1 : Below w.heap.size w (w.drewN m1) := ⟨rfl, rfl, rfl, Nat.le_refl _, fun _ _ => rfl⟩
  have hr1 := hr.drewN m1
  have hK1 : K ≤ (w.drewN m1).heap.size := hK
  clear hr4 hN4
  generalize w.drewN m1 = w1 at *
  obtain ⟨p0, hp0⟩ : ∃ p0, 4 + 4 * N = p0 := ⟨_, rfl⟩
  have HP0 := hid hp0
  rw [hp0] at g2
  by_cases hbig : n < p0
  · have hbi : (n : Int) < (p0 : Int) := by omega
    have Hd := hid (decA_big (l := l) (.inr (by rw [HN.out, HP0.out, hl.out]; exact hbig)))
    clear hp0
    go_wp2_with fail
    go_ret2
    exact DecsA.bad Hd.out hb1
  · have hbi : ¬ (n : Int) < (p0 : Int) := by omega
    have HG := hid fun (a : List (List UInt8)) (ha : ∀ s ∈ a, nmOk s = true) (p k : Nat) (hk : a.length = k) (hkn : k ≤ N) (e : l.drop p0 = encN a ++ l.drop p) => (by
      have := decA_go (l := l) (by rw [hl.out]; omega) (by rw [HN.out, HP0.out, hl.out]; omega) ha (p := p) hk (by rw [HN.out]; exact hkn) (by rw [HN.out, HP0.out]; exact e)
      rw [HN.out] at this
      exact this : decA l = ((nmsA (N - k) (l.drop p)).map (a ++ ·)).map (mkE l 0))
    clear hp0
    go_wp2_with fail
    go_loopw [7, 6, 5] (fun i v t W => ∃ (k : Nat) (A1 : Option Addr) (c1 : Nat) (a : List (List UInt8)) (p : Nat), i = .int .i64 (k : Int) ∧ v = .slice A1 k c1 ∧ t = .int .i64 (p : Int) ∧ k ≤ N ∧ p ≤ n ∧ Hid (a.length = k) ∧ Hid (∀ s ∈ a, nmOk s = true) ∧ Hid (l.drop p0 = encN a ++ l.drop p) ∧ Cel.Own 40 2 W w.heap.size (.slice A1 k c1) k (ecells (mkE l 0 a)) ∧ Below w.heap.size w W) (fun i _ _ _ => N - (intOf i).toNat)
    case atStart => exact ⟨0, none, 0, [], p0, rfl, rfl, rfl, by omega, by omega, hid rfl, hid (fun s hs => by cases hs), hid rfl, Cel.Own.nil _ _ _ _, hb1⟩
    case round =>
      obtain ⟨k, A1, c1, a, p, rfl, rfl, rfl, hk, hp, hak, hao, hae, hO, hb⟩ := hrel
      by_cases hlt : k < N
      · have hki : (k : Int) < (N : Int) := by omega
        have hrw := hr.below (hb.mono hK)
        go_wp2_with fail
        go_loopw [8, 5] (fun s t W => ∃ (q : Nat) (sn : ByteArray), s = .string sn ∧ t = .int .i64 (q : Int) ∧ p ≤ q ∧ q ≤ n ∧ Hid (sn = str ((l.drop p).take (q - p))) ∧ Hid ((0 : UInt8) ∉ (l.drop p).take (q - p)) ∧ Hid (W = wr)) (fun _ t _ => n - (intOf t).toNat)
        case atStart => exact ⟨p, ⟨#[]⟩, rfl, rfl, Nat.le_refl _, hp, hid (by rw [Nat.sub_self, List.take_zero]; rfl), hid (by rw [Nat.sub_self, List.take_zero]; simp), hid rfl⟩
        case round =>
          obtain ⟨q, sn, rfl, rfl, hpq, hqn, hsn, hno, hw⟩ := hrel
          have hw' := hw.out
          subst hw'
          have hsn0 : decide ((0 : Int) = 0) = true := by decide
          clear hsn0
          by_cases hq : q < n
          · have hqi : decide ((q : Int) < (n : Int)) = true := decide_eq_true (by omega)
            have hqi2 : (q : Int) < (n : Int) := by omega
            have hql : q < l.length := by have := hl.out; omega
            obtain ⟨_, _, e1, _, hc⟩ := hrw.2 q hql
            cases e1
            have HM := hid (nm_more hpq hql)
            have HA1 := hid fun (h0 : (0 : UInt8) ∉ (l.drop p).take (q - p)) (hz : l[q] = 0) => nm1_at hpq hql h0 hz
            obtain ⟨p1, hs1, ht1, hq1⟩ := slice_mid K b o n c q (q + 1) (q : Int) ((q : Int) + 1) rfl (by omega) (by omega) (by omega) hnc
            have hq1' := hq1 wr l hrw
            have hone : (l.drop q).take (q + 1 - q) = [l[q]] := by rw [Nat.add_sub_cancel_left, List.drop_eq_getElem_cons hql]; rfl
            rw [hone] at hq1'
            have hcv := run_str wr K _ _ (c - q) _ hq1'
            rw [Nat.add_sub_cancel_left] at hcv hs1 ht1
            clear hq1 hq1' hone
            generalize l[q] = ch at *
            by_cases hz : ch = 0
            · subst hz
              have hzi : ((((0 : UInt8).toNat : Nat) : Int) != 0) = false := by decide
              have hz2 : (0 : UInt8).toNat = 0 := rfl
              rw [hz2] at hc
              obtain ⟨H1, H2⟩ := HA1.out hno.out rfl
              have HH1 := hid H1
              have HH2 := hid H2
              clear H1 H2 HA1 HM hcv hs1 ht1 hzi hz2
              have hqe : ((q : Int) == (n : Int)) = false := by rw [beq_eq_false_iff_ne]; omega
              by_cases hqp : q = p
              · have hse : (sn.toList == []) = true := by rw [hsn.out, ByteArray.toList_eq, str_list, hqp, Nat.sub_self]; rfl
                have Hd : Hid (decA l = none) := hid (by
                  rw [HG.out a hao.out p k hak.out (by omega) hae.out, show N - k = (N - (k + 1)) + 1 by omega, nmsA_succ, if_pos (.inl (by rw [HH1.out, hqp, Nat.sub_self, List.take_zero]))]
                  rfl)
                clear hqp
                go_wp2_with fail
                go_ret2
                exact DecsA.bad Hd.out hb
              · have hse : (sn.toList == []) = false := by
                  rw [beq_eq_false_iff_ne, hsn.out, ByteArray.toList_eq, str_list]
                  intro e
                  have := congrArg List.length e
                  rw [List.length_take, List.length_drop, List.length_nil] at this
                  omega
                have hnew : Hid (nmOk ((l.drop p).take (q - p)) = true) := hid (nmOk_iff.2 ⟨fun e => by
                  have := congrArg List.length e
                  rw [List.length_take, List.length_drop, List.length_nil] at this
                  omega, hno.out⟩)
                obtain ⟨nm, hnm⟩ : ∃ nm, (l.drop p).take (q - p) = nm := ⟨_, rfl⟩
                rw [hnm] at hnew hsn HH2
                have wq : IntKind.i64.wrap ((q : Int) + 1) = (q : Int) + 1 := by rw [IntKind.wrap_i64]; omega
                have HP := HP0.out
                have hkb : k ≤ 100000 := by omega
                have w1' : IntKind.i64.wrap (4 * (k : Int)) = 4 * (k : Int) := by rw [IntKind.wrap_i64]; omega
                have w2' : IntKind.i64.wrap (4 + 4 * (k : Int)) = 4 + 4 * (k : Int) := by rw [IntKind.wrap_i64]; omega
                have w3' : IntKind.i64.wrap (8 + 4 * (k : Int)) = 8 + 4 * (k : Int) := by rw [IntKind.wrap_i64]; omega
                obtain ⟨p2, hs2, ht2, hq2⟩ := slice_mid K b o n c (4 + 4 * k) (8 + 4 * k) (4 + 4 * (k : Int)) (8 + 4 * (k : Int)) (by omega) (by omega) (by omega) (by omega) hnc
                have hr2 := hq2 wr l hrw
                rw [show 8 + 4 * k - (4 + 4 * k) = 4 by omega] at hr2 hs2 ht2
                have hNum := rnumber_any wr K _ 4 (c - (4 + 4 * k)) _ hr2 (Nat.le_refl _)
                rw [n4_take] at hNum
                have HNum := hid hNum
                have HE : Hid (ecells (mkE l 0 (a ++ [nm])) = ecells (mkE l 0 a) ++ [.string sn, .int .i64 (n4 (l.drop (4 + 4 * k)) : Int)]) := hid (by
                  rw [mkE_snoc, ecells_append, hak.out, Nat.zero_add, hsn.out]
                  rfl)
                have hao2 : Hid (∀ s ∈ a ++ [nm], nmOk s = true) := hid fun s hs => by
                  rcases List.mem_append.1 hs with h | h
                  · exact hao.out s h
                  · rw [List.mem_singleton] at h; rw [h]; exact hnew.out
                have hae2 : Hid (l.drop p0 = encN (a ++ [nm]) ++ l.drop (q + 1)) := hid (by
                  rw [hae.out, encN_append, List.append_assoc]
                  congr 1
                  rw [HH2.out]
                  simp [encN])
                clear HP hq2 hr2 hNum hnm hqp hno hrw
                generalize n4 (l.drop (4 + 4 * k)) = zn at *
                go_wp2_with fail
                refine (HNum.out).mono ?_
                rintro e w5 ⟨rfl, m5, rfl⟩
                have hO5 := hO.drewN m5
                have hb5 : Below w.heap.size w (wr.drewN m5) := hb.trans ⟨rfl, rfl, rfl, Nat.le_refl _, fun _ _ => rfl⟩
                generalize wr.drewN m5 = w5 at *
                go_wp2_with (at_builtin; go_must (refine Cel.wpList_push kE w5 w.heap.size (.slice A1 k c1) k _ hO5 hb5.size 1 1 #[.string sn, .int .i64 (zn : Int)] (0, 0) rfl (by simp [Value.oneCell']) (by omega) (by omega) rfl (.tmp 58) (.tmp 70) rfl rfl rfl ?_); intro v6 w6 ho6 hb6 _ _; obtain ⟨A6, c6, rfl, _⟩ := ho6.reads)
                have ho6' : Cel.Own 40 2 w6 w.heap.size (.slice A6 (k + 1) c6) (k + 1) (ecells (mkE l 0 (a ++ [nm]))) := by rw [HE.out]; exact ho6
                have hb06 := hb5.trans hb6
                clear ho6 hb6 hO5
                go_roundw
                · exact ⟨k + 1, A6, c6, a ++ [nm], q + 1, by go_num, by go_num, by go_num, by omega, by omega, hid (by rw [List.length_append, hak.out]; rfl), hao2, hae2, ho6', hb06⟩
                · simp [intOf]; omega
            · have hzi : (((ch.toNat : Nat) : Int) != 0) = true := by
                rw [bne_iff_ne]
                intro e
                exact hz (by rw [← UInt8.toNat_inj]; simpa using e)
              have hzn : ¬ ch.toNat = 0 := fun e => hz (by rw [← UInt8.toNat_inj]; exact e)
              have hszi : ¬ 9223372036854775807 < sn.size + 1 := by
                have : sn.size ≤ n := by rw [hsn.out, str_size, List.length_take]; omega
                omega
              have wq : IntKind.i64.wrap ((q : Int) + 1) = (q : Int) + 1 := by rw [IntKind.wrap_i64]; omega
              have hsn2 : Hid (sn ++ ⟨[ch].toArray⟩ = str ((l.drop p).take (q + 1 - p))) := hid (by
                rw [HM.out, hsn.out]
                apply ByteArray.ext
                simp [str])
              have hno2 : Hid ((0 : UInt8) ∉ (l.drop p).take (q + 1 - p)) := hid (by
                rw [HM.out, List.mem_append, List.mem_singleton]
                rintro (h | h)
                · exact hno.out h
                · exact hz h.symm)
              clear HM HA1
              go_wp2_with fail
              go_roundw
              · exact ⟨q + 1, _, rfl, by go_num, by omega, by omega, hsn2, hno2, hid trivial⟩
              · simp [intOf]; omega
          · obtain rfl : q = n := by omega
            have hqi : decide ((q : Int) < (q : Int)) = false := decide_eq_false (by omega)
            have hqe : ((q : Int) == (q : Int)) = true := beq_self_eq_true _
            have Hd : Hid (decA l = none) := hid (by
              have h1 := nm1_end (l := l) (p := p) (by rw [hl.out]; exact hno.out)
              rw [HG.out a hao.out p k hak.out (by omega) hae.out, show N - k = (N - (k + 1)) + 1 by omega, nmsA_succ, if_pos (.inr h1)]
              rfl)
            cases hse : (sn.toList == [])
            · go_wp2_with fail
              go_ret2
              exact DecsA.bad Hd.out hb
            · go_wp2_with fail
              go_ret2
              exact DecsA.bad Hd.out hb
      · obtain rfl : k = N := by omega
        have hG := hid (HG.out a hao.out p k hak.out (Nat.le_refl _) hae.out)
        by_cases hpn : p = n
        · have hpi : ((p : Int) != (n : Int)) = false := by rw [hpn]; simp
          have Hd : Hid (decA l = some (mkE l 0 a)) := hid (by
            rw [hG.out, Nat.sub_self, List.drop_eq_nil_of_le (by rw [hl.out]; omega)]
            simp [nmsA])
          clear hpn
          go_wp2_with fail
          go_ret2
          exact DecsA.good Hd.out hO hb
        · have hpi : ((p : Int) != (n : Int)) = true := by rw [bne_iff_ne]; omega
          have Hd : Hid (decA l = none) := hid (by
            have h1 : l.drop p ≠ [] := fun e => by
              have := congrArg List.length e
              rw [List.length_drop, hl.out, List.length_nil] at this
              omega
            rw [hG.out, Nat.sub_self]
            simp [nmsA, h1])
          clear hpn
          go_wp2_with fail
          go_ret2
          exact DecsA.bad Hd.out hb
theorem rdecA_any (K : Nat) (A : Option Addr) (n c : Nat) (l : List UInt8) (w : World) (hr : Byt.Rd w K A n l) (hK : K ≤ w.heap.size) (hnc : n ≤ c) (hn : n ≤ 100000) :
    Calls Try.prog 13 #[.slice A n c] w (DecsA l w) := by
  by_cases h4 : n < 4
  · exact rdecA_small A n c l w hr.1 h4
  · obtain ⟨b, o, rfl, _⟩ := hr.2 0 (by rw [hr.1]; omega)
    exact rdecA_big K b o n c l w hr hK hnc (by omega) hn
end Go.Proofs.Ytlooblgdlfheaaa.Amp
