/-
  armap: Decode.
-/
import Derived.Test.YtlooblgdlfheaaaAi
import Derived.RegionTactic
import Derived.BigRegion
namespace Go.Proofs.Ytlooblgdlfheaaa.Amp
open Go.RowKit Go.Proofs Go.Proofs.Ytlooblgdlfheaaa.Byt
open Go.Proofs.Ytlooblgdlfheaaa.Sls (Oth Fr blk)

theorem decA_go2 {l : List UInt8} {N : Nat} (h4 : 4 ≤ l.length) (hN : n4 l = N) (h : 4 + 4 * N ≤ l.length) {a : List (List UInt8)} (ha : ∀ s ∈ a, nmOk s = true) {k : Nat} {r : List UInt8} (hk : a.length = k) (hkn : k ≤ N) (e : l.drop (4 + 4 * N) = encN a ++ r) :
    decA l = ((nmsA (N - k) r).map (a ++ ·)).map (mkE l 0) := by
  subst hN
  unfold decA
  rw [if_neg (by omega), if_neg (by omega), e]
  have := nmsA_app a (n4 l - k) r ha
  rw [hk, show k + (n4 l - k) = n4 l by omega] at this
  rw [this]
theorem n4_off {l : List UInt8} {N k : Nat} (hk : k < N) : n4 (((l.drop 4).take (N * 4)).drop (k * 4)) = n4 (l.drop (4 + 4 * k)) := by
  unfold n4
  rw [List.drop_take, List.take_take, List.drop_drop, Nat.min_eq_left (by omega), Nat.mul_comm k 4]
theorem ent_ne : (40 : Nat) ≠ 23 := by decide
theorem encN_snoc (a : List (List UInt8)) (s : List UInt8) : encN (a ++ [s]) = encN a ++ (s ++ [0]) := by simp [encN]

set_option maxRecDepth 100000 in
theorem decA_small (A : Option Addr) (n c : Nat) (l : List UInt8) (w : World) (hl : l.length = n) (h4 : n < 4) :
    Calls Try.prog 12 #[.slice A n c] w (DecsA l w) := by
  have Hd := hid (decA_big (l := l) (.inl (by omega)))
  have h4i : (n : Int) < 4 := by omega
  go_enter Try.func12, Try.ntmps12
  go_wp2_with fail
  go_ret2
  exact DecsA.bad Hd.out (Below.refl _ _)

set_option maxRecDepth 100000 in
set_option maxHeartbeats 8000000 in
theorem decP_big (K b o n c : Nat) (l : List UInt8) (w : World) (hr : Byt.Rd w K (some ⟨b, o, none⟩) n l) (hK : K ≤ w.heap.size) (hnc : n ≤ c) (hc : c ≤ maxLen) (h4 : 4 ≤ n) (hn : n ≤ 1000000) :
    Calls Try.prog 12 #[.slice (some ⟨b, o, none⟩) n c] w (DecsA l w) := by
  unfold maxLen at hc
  have Hl := hid hr.1
  have h4i : ¬ (n : Int) < 4 := by omega
  have hN4 := n4_lt l
  obtain ⟨N, hN⟩ : ∃ N, n4 l = N := ⟨_, rfl⟩
  have HN := hid hN
  have HC : Hid (∀ W, Below w.heap.size w W → Calls Try.prog 21 #[.slice (some ⟨b, o, none⟩) n c] W fun e w' => e = .returned (.int .i64 (N : Int)) ∧ w' = W) := hid fun W hb => by
    rw [← hN]
    exact number_any W K _ n c l (hr.below (hb.mono hK)) h4
  rw [hN] at hN4
  obtain ⟨p, s1, s2, s3⟩ := slice_from K b o n c 4 4 rfl h4 hnc
  have hrd := s3 w l hr
  obtain ⟨m, hm⟩ : ∃ m, n - 4 = m := ⟨_, rfl⟩
  obtain ⟨d, hd⟩ : ∃ d, c - 4 = d := ⟨_, rfl⟩
  rw [hm, hd] at s1 s2
  rw [hm] at hrd
  have hmd : m ≤ d := by omega
  have hm9 : m ≤ 1000000 := by omega
  have hd9 : d ≤ 9223372036854775807 := by omega
  have Hm : Hid (n = m + 4) := hid (by omega)
  clear hN s3 hm hd
  go_enter Try.func12, Try.ntmps12
  go_upto_region 3 with fail
  go_cut [4, 5] from 14 to 17 (fun v q W => v = .int .i64 (N : Int) ∧ q = .pointer (some ⟨w.heap.size, 0, none⟩) ∧ Below w.heap.size w W ∧ W.heap[w.heap.size]? = some (.cells #[.slice (some ⟨b, p, none⟩) m d] 23 (0, 0)))
  case first =>
    go_region_with (go_at_call 21; refine (HC.out _ (by first | exact Below.refl _ _ | exact (Below.refl _ _).drew | exact ((Below.refl _ _).alloc (Nat.le_refl _) _).drew)).mono ?_; rintro e w3 ⟨rfl, rfl⟩)
    all_goals (go_wp2_with fail; go_meet; exact ⟨rfl, rfl, ((Below.refl _ _).alloc (Nat.le_refl _) _).drew, heap_alloc_new w _⟩)
  case rest =>
    obtain ⟨rfl, rfl, hb1, hrow1⟩ := hcut
    clear HC s1 s2 h4i
    have c1 := cell_of_row _ w.heap.size 0 _ _ _ hrow1
    have hRlt := (Array.getElem?_eq_some_iff.1 hrow1).1
    by_cases hbig : m / 4 < N
    · have hbi : (m : Int) / 4 < (N : Int) := by omega
      have Hd := hid (decA_big (l := l) (.inr (by rw [HN.out, Hl.out, Hm.out]; omega)))
      clear hbig
      go_wp2_with fail
      go_ret2
      exact DecsA.bad Hd.out hb1
    · have hbi : ¬ ((m : Int) / 4 < (N : Int)) := by omega
      have hNm : N * 4 ≤ m := by omega
      have hwN : IntKind.i64.wrap ((N : Int) * 4) = (N : Int) * 4 := by rw [IntKind.wrap_i64]; omega
      have u1 := fun W => (slice_upto b p m d (N * 4) ((N : Int) * 4) (by omega) (by omega) W).1
      have u2 := fun W => (slice_upto b p m d (N * 4) ((N : Int) * 4) (by omega) (by omega) W).2
      obtain ⟨p2, s1, s2, s3⟩ := slice_from K b p m d (N * 4) ((N : Int) * 4) (by omega) (by omega) hmd
      have f1 := fun o => frozen_of_row wc w.heap.size o _ _ hrow1
      clear hbig
      go_upto_region 6 with fail
      go_cut [6] from 23 to 30 (fun v W => v = .slice (some ⟨b, p, none⟩) (N * 4) d ∧ W = (wc.setCell ⟨w.heap.size, 0, none⟩ (.slice (some ⟨b, p2, none⟩) (m - N * 4) (d - N * 4))).drew)
      case first =>
        go_region
        all_goals (go_wp2_with fail; go_meet; exact ⟨rfl, rfl⟩)
      case rest =>
        obtain ⟨rfl, rfl⟩ := hcut
        have hb2 : Below w.heap.size w (wc.setCell ⟨w.heap.size, 0, none⟩ (.slice (some ⟨b, p2, none⟩) (m - N * 4) (d - N * 4))).drew := (hb1.setCell (p := ⟨w.heap.size, 0, none⟩) (Nat.le_refl _) _).drew
        have hR2 : Rest (wc.setCell ⟨w.heap.size, 0, none⟩ (.slice (some ⟨b, p2, none⟩) (m - N * 4) (d - N * 4))).drew w.heap.size K ((l.drop 4).drop (N * 4)) :=
          ⟨b, p2, _, _, heap_setCell_same wc w.heap.size 0 _ _ (.slice (some ⟨b, p2, none⟩) (m - N * 4) (d - N * 4)) hrow1, (s3 w _ hrd).below (hb2.mono hK), by omega, by unfold maxLen; omega⟩
        have hro := hrd.pre hNm
        have HG := hid fun (a : List (List UInt8)) (ha : ∀ s ∈ a, nmOk s = true) (k : Nat) (r : List UInt8) (hk : a.length = k) (hkn : k ≤ N) (e : (l.drop 4).drop (N * 4) = encN a ++ r) => (decA_go2 (l := l) (by rw [Hl.out, Hm.out]; omega) HN.out (by rw [Hl.out, Hm.out]; omega) ha hk hkn (by rw [← e, List.drop_drop, Nat.mul_comm N 4]))
        clear s1 s2 s3 u1 u2 f1 c1 hrow1 hb1 hRlt hrd hbi hwN
        generalize (wc.setCell ⟨w.heap.size, 0, none⟩ (.slice (some ⟨b, p2, none⟩) (m - N * 4) (d - N * 4))).drew = W2 at *
        have hN9 : N ≤ 250000 := by omega
        go_wp2_with fail
        go_loopw [33, 8] (fun i v W => ∃ (k : Nat) (A1 : Option Addr) (c1 : Nat) (a : List (List UInt8)) (r : List UInt8), i = .int .i64 (k : Int) ∧ v = .slice A1 k c1 ∧ k ≤ N ∧ Hid (a.length = k) ∧ Hid (∀ s ∈ a, nmOk s = true) ∧ Hid ((l.drop 4).drop (N * 4) = encN a ++ r) ∧ Rest W w.heap.size K r ∧ Cel.Own 40 2 W w.heap.size (.slice A1 k c1) k (ecells (mkE l 0 a)) ∧ Below w.heap.size w W) (fun i _ _ => N - (intOf i).toNat)
        case atStart => exact ⟨0, none, 0, [], _, rfl, rfl, by omega, hid rfl, hid (fun s hs => by cases hs), hid rfl, hR2, Cel.Own.nil _ _ _ _, hb2⟩
        case round =>
          obtain ⟨k, A1, c1, a, r, rfl, rfl, hk, hak, hao, hae, hR, hO, hb⟩ := hrel
          by_cases hlt : k < N
          · have hki : (k : Int) < (N : Int) := by omega
            have hSp := hid (split_any wr w.heap.size K r hR hK)
            obtain ⟨b9, o9, m9, c9, hrow9, hr9, hm9', hc9⟩ := hR
            have HBad := hid fun (q : nm1 r = [] ∨ nm1 r = r) => (by
              rw [HG.out a hao.out k r hak.out (by omega) hae.out, show N - k = (N - (k + 1)) + 1 by omega, nmsA_succ, if_pos q]
              rfl : decA l = none)
            go_wp2_with fail
            refine hSp.out.mono ?_
            rintro e w5 ⟨hg5, hcase⟩
            have hb5 : Below w.heap.size w w5 := hb.trans ((Below.refl w.heap.size wr).grown hg5 hb.size (fun j hj => by injection hj with hj; omega))
            have hO5 := own_grown hO hg5 hrow9 ent_ne
            clear hg5 hrow9 hr9 hm9' hc9 hO hb hSp
            rcases hcase with ⟨hn, rfl⟩ | ⟨hn, rfl, hR5⟩
            · have hse : ((⟨#[]⟩ : ByteArray).toList == []) = true := by rw [ByteArray.toList_eq]; rfl
              have Hd := hid (HBad.out (.inr hn))
              clear hn
              go_wp2_with fail
              go_ret2
              exact DecsA.bad Hd.out hb5
            · by_cases h0 : nm1 r = []
              · have hse : ((str (nm1 r)).toList == []) = true := by rw [h0, ByteArray.toList_eq]; rfl
                have Hd := hid (HBad.out (.inl h0))
                clear hn h0
                generalize str (nm1 r) = sn at *
                go_wp2_with fail
                go_ret2
                exact DecsA.bad Hd.out hb5
              · have hse : ((str (nm1 r)).toList == []) = false := by
                  rw [beq_eq_false_iff_ne, ByteArray.toList_eq, str_list]
                  exact h0
                have hnew : nmOk (nm1 r) = true := nmOk_iff.2 ⟨h0, nm1_not r⟩
                have hao2 : Hid (∀ s ∈ a ++ [nm1 r], nmOk s = true) := hid fun s hs => by
                  rcases List.mem_append.1 hs with h | h
                  · exact hao.out s h
                  · rw [List.mem_singleton] at h; rw [h]; exact hnew
                have hae2 : Hid ((l.drop 4).drop (N * 4) = encN (a ++ [nm1 r]) ++ r.drop ((nm1 r).length + 1)) := hid (by
                  rw [hae.out, encN_snoc, List.append_assoc, List.append_assoc]
                  congr 1
                  exact nm1_split hn)
                have hak2 : Hid ((a ++ [nm1 r]).length = k + 1) := hid (by rw [List.length_append, hak.out]; rfl)
                have wk : IntKind.i64.wrap ((k : Int) * 4) = (k : Int) * 4 := by rw [IntKind.wrap_i64]; omega
                obtain ⟨p3, t1, t2, t3⟩ := slice_from K b p (N * 4) d (k * 4) ((k : Int) * 4) (by omega) (by omega) (by omega)
                have hr3 := t3 w5 _ (hro.below (hb5.mono hK))
                have HNum := hid (number_any w5 K _ (N * 4 - k * 4) (d - k * 4) _ hr3 (by omega))
                rw [n4_off hlt] at HNum
                have HE : Hid (ecells (mkE l 0 (a ++ [nm1 r])) = ecells (mkE l 0 a) ++ [.string (str (nm1 r)), .int .i64 (n4 (l.drop (4 + 4 * k)) : Int)]) := hid (by
                  rw [mkE_snoc, ecells_append, hak.out, Nat.zero_add]
                  rfl)
                have hR5' := hid hR5
                clear hn h0 hnew t3 hr3 hR5
                generalize n4 (l.drop (4 + 4 * k)) = zn at *
                generalize r.drop ((nm1 r).length + 1) = r2 at *
                generalize str (nm1 r) = sn at *
                go_wp2_with fail
                refine HNum.out.mono ?_
                rintro e w5 ⟨rfl, rfl⟩
                clear t1 t2
                go_wp2_with (at_builtin; go_must (refine Cel.wpList_push kE w5 w.heap.size (.slice A1 k c1) k _ hO5 hb5.size 1 1 #[.string sn, .int .i64 (zn : Int)] (0, 0) rfl (by simp [Value.oneCell']) (by omega) (by omega) rfl (.tmp 40) (.tmp 48) rfl rfl rfl ?_); intro v6 w6 ho6 hb6 hoth6 _; obtain ⟨A6, c6, rfl, _⟩ := ho6.reads)
                have ho6' : Cel.Own 40 2 w6 w.heap.size (.slice A6 (k + 1) c6) (k + 1) (ecells (mkE l 0 (a ++ [nm1 r]))) := by rw [HE.out]; exact ho6
                have hR6 := hR5'.out.fr hoth6 ent_ne (hb6.mono hK)
                have hb06 := hb5.trans hb6
                clear ho6 hb6 hO5 hoth6 hb5
                go_roundw
                · exact ⟨k + 1, A6, c6, a ++ [nm1 r], r2, by go_num, by go_num, by omega, hak2, hao2, hae2, hR6, ho6', hb06⟩
                · simp [intOf]; omega
          · obtain rfl : k = N := by omega
            have hG := hid (HG.out a hao.out k r hak.out (Nat.le_refl _) hae.out)
            obtain ⟨b9, o9, m9, c9, hrow9, hr9, hm9', hc9⟩ := hR
            have q9 := cell_of_row _ w.heap.size 0 _ _ _ hrow9
            have Hr9 := hid hr9.1
            clear hrow9 hr9 hc9
            by_cases hm0 : m9 = 0
            · have hgi : ¬ (0 : Int) < (m9 : Int) := by omega
              have Hd : Hid (decA l = some (mkE l 0 a)) := hid (by
                rw [hG.out, Nat.sub_self, List.length_eq_zero_iff.1 (Hr9.out.trans hm0)]
                simp [nmsA])
              clear hm0
              go_wp2_with fail
              go_ret2
              exact DecsA.good Hd.out hO hb
            · have hgi : (0 : Int) < (m9 : Int) := by omega
              have Hd : Hid (decA l = none) := hid (by
                have h1 : r ≠ [] := fun e => by
                  have := Hr9.out
                  rw [e] at this
                  exact hm0 this.symm
                rw [hG.out, Nat.sub_self]
                simp [nmsA, h1])
              clear hm0
              go_wp2_with fail
              go_ret2
              exact DecsA.bad Hd.out hb

theorem decP_any (K : Nat) (A : Option Addr) (n c : Nat) (l : List UInt8) (w : World) (hr : Byt.Rd w K A n l) (hK : K ≤ w.heap.size) (hnc : n ≤ c) (hc : c ≤ maxLen) (hn : n ≤ 1000000) :
    Calls Try.prog 12 #[.slice A n c] w (DecsA l w) := by
  by_cases h4 : n < 4
  · exact decA_small A n c l w hr.1 h4
  · obtain ⟨b, o, rfl, _⟩ := hr.2 0 (by rw [hr.1]; omega)
    exact decP_big K b o n c l w hr hK hnc hc (by omega) hn
end Go.Proofs.Ytlooblgdlfheaaa.Amp
