/-
  armap: Encode.
-/
import Derived.Test.YtlooblgdlfheaaaAf
namespace Go.Proofs.Ytlooblgdlfheaaa.Amp
open Go.RowKit Go.Proofs Go.Proofs.Ytlooblgdlfheaaa.Byt
open Go.Proofs.Ytlooblgdlfheaaa.Sls (Oth Fr blk)

set_option maxRecDepth 100000 in
set_option maxHeartbeats 4000000 in
theorem encA_any (K : Nat) (A : Option Addr) (n c : Nat) (xs : List En) (w : World) (h : RdE w K A n xs) (hK : K ≤ w.heap.size) (hn : n ≤ 100000) (hs : ∀ x ∈ xs, x.name.size ≤ 100000) :
    Calls Try.prog 10 #[.slice A n c] w (EncsA xs w) := by
  have Hl := hid h.1
  go_enter Try.func10, Try.ntmps10
  go_wp2_with fail
  refine (allFit_any K A n c xs w h hK (by omega)).mono ?_
  rintro e w0 ⟨rfl, hb0⟩
  cases hfit : fitA xs
  · go_wp2_with fail
    go_ret2
    exact EncsA.bad hfit hb0
  have HFit := hid hfit
  have HO : Hid (∀ x ∈ xs, 0 ≤ x.off ∧ x.off ≤ 4294967295) := hid fun x hx => (enOk_iff.1 (fitA_iff.1 hfit x hx)).2
  clear hfit
  go_wp2_with fail
  refine (appendNumber_any w0 w.heap.size none 0 0 [] (Byt.Own.nil _ _) hb0.size n (by omega)).mono ?_
  rintro e w1 ⟨A1, c1, rfl, o1, hb1⟩
  rw [List.nil_append] at o1
  have hb01 := hb0.trans hb1
  clear hb0 hb1
  go_wp2_with fail
  go_loopw [17, 4] (fun i v W => ∃ (k : Nat) (A2 : Option Addr) (c2 : Nat), i = .int .i64 (k : Int) ∧ v = .slice A2 (4 + 4 * k) c2 ∧ k ≤ n ∧ Byt.Own W w.heap.size (.slice A2 (4 + 4 * k) c2) (4 + 4 * k) (w4 n ++ encF (xs.take k)) ∧ Below w.heap.size w W) (fun i _ _ => n - (intOf i).toNat)
  case atStart => exact ⟨0, A1, c1, rfl, rfl, by omega, by simpa [encF] using o1, hb01⟩
  case round =>
    obtain ⟨k, A2, c2, rfl, rfl, hk, hO, hb⟩ := hrel
    by_cases hlt : k < n
    · have hkl : k < xs.length := by have := Hl.out; omega
      have hki : (k : Int) < (n : Int) := by omega
      obtain ⟨b, o, rfl, hbK, hcell⟩ := (h.below (hb.mono hK)).2 k hkl
      have HT : Hid (encF (xs.take (k + 1)) = encF (xs.take k) ++ w4 xs[k].off.toNat) := hid (by
        rw [List.take_succ_eq_append_getElem hkl, encF_append]
        show _ ++ (w4 xs[k].off.toNat ++ []) = _
        rw [List.append_nil])
      obtain ⟨z0, z1⟩ := HO.out xs[k] (List.getElem_mem hkl)
      generalize xs[k] = x at *
      obtain ⟨x0, x1⟩ := x
      obtain ⟨p0, p1⟩ := hcell
      simp only at *
      obtain ⟨z, rfl⟩ := Int.eq_ofNat_of_zero_le z0
      have HA := hid (appendNumber_any (wr.alloc (.cells #[.string x0, .int .i64 (z : Int)] 40)) w.heap.size A2 (4 + 4 * k) c2 _ (hO.alloc _) (by have := hb.size; simp; omega) z (by omega))
      have hba := hb.alloc hb.size (.cells #[.string x0, .int .i64 (z : Int)] 40)
      clear hO hb z0 z1
      go_wp2_with fail
      refine HA.out.mono ?_
      rintro e w3 ⟨A3, c3, rfl, o3, hb3⟩
      have hb03 := hba.trans hb3
      have o3' : Byt.Own w3 w.heap.size (.slice A3 (4 + 4 * k + 4) c3) (4 + 4 * k + 4) (w4 n ++ encF (xs.take (k + 1))) := by
        rw [HT.out, ← List.append_assoc]
        exact o3
      clear o3 hb3 hba HA p0 p1
      go_wp2_with fail
      go_roundw
      · exact ⟨k + 1, A3, c3, by go_num, by rw [show 4 + 4 * (k + 1) = 4 + 4 * k + 4 by omega], by omega, by rw [show 4 + 4 * (k + 1) = 4 + 4 * k + 4 by omega]; exact o3', hb03⟩
      · simp [intOf]; omega
    · obtain rfl : k = n := by omega
      have hT : xs.take k = xs := List.take_of_length_le (by have := Hl.out; omega)
      rw [hT] at hO
      have HS : Hid (∀ j, j ≤ k → szN (nmsE (xs.take j)) ≤ 100000000000) := hid fun j hj => by
        have := szN_le (m := 100000) (l := nmsE (xs.take j)) fun s hs' => by
          obtain ⟨x, hx, rfl⟩ := List.mem_map.1 hs'
          rw [len_list]
          exact hs x (List.mem_of_mem_take hx)
        have h2 : (nmsE (xs.take j)).length ≤ j := by rw [nmsE_length, List.length_take]; omega
        have h3 : (nmsE (xs.take j)).length * (100000 + 1) ≤ 100000 * (100000 + 1) := Nat.mul_le_mul_right _ (by omega)
        omega
      have hbn := hb
      clear hb
      go_wp2_with fail
      go_loopw [28, 4] (fun i v W => ∃ (j : Nat) (A5 : Option Addr) (c5 : Nat), i = .int .i64 (j : Int) ∧ v = .slice A5 (4 + 4 * k + szN (nmsE (xs.take j))) c5 ∧ j ≤ k ∧ Byt.Own W w.heap.size (.slice A5 (4 + 4 * k + szN (nmsE (xs.take j))) c5) (4 + 4 * k + szN (nmsE (xs.take j))) (w4 k ++ encF xs ++ encN (nmsE (xs.take j))) ∧ Below w.heap.size w W) (fun i _ _ => k - (intOf i).toNat)
      case atStart => exact ⟨0, A2, c2, rfl, by simp [szN, nmsE], by omega, by simpa [szN, nmsE, encN] using hO, hbn⟩
      case round =>
        obtain ⟨j, A5, c5, rfl, rfl, hj, hO, hb⟩ := hrel
        by_cases hlt : j < k
        · have hkl : j < xs.length := by have := Hl.out; omega
          have hki : (j : Int) < (k : Int) := by omega
          obtain ⟨b, o, rfl, hbK, hcell⟩ := (h.below (hb.mono hK)).2 j hkl
          have hsz := hs xs[j] (List.getElem_mem hkl)
          have HZ := hid (szN_succ hkl)
          have HT : Hid (encN (nmsE (xs.take (j + 1))) = encN (nmsE (xs.take j)) ++ (xs[j].name.data.toList ++ [0])) := hid (by
            rw [List.take_succ_eq_append_getElem hkl]
            unfold nmsE
            rw [List.map_append, encN_append]
            simp [encN])
          have hz := HS.out j hj
          have hz2 := HS.out (j + 1) (by omega)
          generalize xs[j] = x at *
          obtain ⟨x0, x1⟩ := x
          obtain ⟨p0, p1⟩ := hcell
          simp only at *
          obtain ⟨zk, hzk⟩ : ∃ zk, 4 + 4 * k + szN (nmsE (xs.take j)) = zk := ⟨_, rfl⟩
          have HZ2 : Hid (4 + 4 * k + szN (nmsE (xs.take (j + 1))) = zk + x0.size + 1) := hid (by rw [HZ.out, ← hzk]; omega)
          rw [hzk] at hO ⊢
          have hzb : zk ≤ 200000000000 := by omega
          have hba := hb.alloc hb.size (.cells #[.string x0, .int .i64 x1] 40)
          have hOa := hO.alloc (.cells #[.string x0, .int .i64 x1] 40)
          clear hzk hz hz2 hO hb
          go_wp2_with (first
            | (at_builtin; refine wpList_apps2 (wr.alloc (.cells #[.string x0, .int .i64 x1] 40)) w.heap.size _ zk _ hOa hba.size x0 (by omega) rfl (.tmp 32) (.tmp 34) rfl rfl rfl ?_; intro v6 w6 ho6 hb6 _; obtain ⟨A6, c6, rfl, _⟩ := ho6.reads; have hb06 := hba.trans hb6)
            | (at_builtin; refine wpList_push2 w6 w.heap.size _ (zk + x0.size) _ 0 _ rfl ho6 hb06.size (by omega) rfl (.tmp 36) (.tmp 37) rfl rfl rfl ?_; intro v7 w7 ho7 hb7 _; obtain ⟨A7, c7, rfl, _⟩ := ho7.reads)
            | fail)
          have ho7' : Byt.Own w7 w.heap.size (.slice A7 (zk + x0.size + 1) c7) (zk + x0.size + 1) (w4 k ++ encF xs ++ encN (nmsE (xs.take (j + 1)))) := by
            rw [HT.out, ← List.append_assoc, ← List.append_assoc]
            exact ho7
          have hb07 := hb06.trans hb7
          clear ho7 hb7 ho6 hb6 hb06 hOa hba p0 p1
          go_roundw
          · exact ⟨j + 1, A7, c7, by go_num, by rw [HZ2.out], by omega, by rw [HZ2.out]; exact ho7', hb07⟩
          · simp [intOf]; omega
        · obtain rfl : j = k := by omega
          rw [hT] at hO
          have HR : Hid ((encA xs).length = 4 + 4 * j + szN (nmsE xs)) := hid (by rw [encA_length, Hl.out])
          have HE : Hid (encA xs = w4 j ++ encF xs ++ encN (nmsE xs)) := hid (by unfold encA; rw [Hl.out, List.append_assoc])
          have hX := hid (EncsA.good (w' := wr) HFit.out (v := .slice A5 (4 + 4 * j + szN (nmsE xs)) c5) (by rw [HR.out, HE.out]; exact hO) hb)
          clear hO hb
          rw [hT]
          generalize 4 + 4 * j + szN (nmsE xs) = zz at *
          go_wp2_with fail
          go_ret2
          exact hX.out
end Go.Proofs.Ytlooblgdlfheaaa.Amp
