/-
  armap's reference: Fits, Few, Same.
  armap's reference: Encode.
  armap's reference: Decode.
-/
import Derived.Test.YtpedngfmjhpojaaGreatDoorZAa
namespace Go.Proofs.YtpedngfmjhpojaaGreatDoor.Amp
open Go.RowKit Go.Proofs Go.Proofs.YtpedngfmjhpojaaGreatDoor.Byt
open Go.Proofs.YtpedngfmjhpojaaGreatDoor.Sls (Oth Fr blk)

theorem nmOk_len {s : ByteArray} : nmOk s.data.toList = true ↔ 0 < s.size ∧ (0 : UInt8) ∉ s.data.toList := by
  rw [nmOk_iff]
  have h := len_list s
  constructor
  · rintro ⟨h1, h2⟩
    exact ⟨by rw [← h]; exact List.length_pos_iff.2 h1, h2⟩
  · rintro ⟨h1, h2⟩
    exact ⟨List.length_pos_iff.1 (by rw [h]; exact h1), h2⟩

set_option maxRecDepth 100000 in
set_option maxHeartbeats 2000000 in
theorem rfitsE_any (x : En) (w : World) (hs : x.name.size ≤ 140737488355328) :
    Calls Tryz.prog 45 #[x.val] w fun e w' => e = .returned (.bool (enOk x)) ∧ Below w.heap.size w w' := by
  obtain ⟨x0, x1⟩ := x
  simp only [En.val] at *
  have hb0 := (Below.refl w.heap.size w).alloc (Nat.le_refl _) (.cells #[.string x0, .int .i64 x1] 51)
  have hrow0 := heap_alloc_new w (.cells #[.string x0, .int .i64 x1] 51)
  have HE : Hid (enOk ⟨x0, x1⟩ = (nmOk x0.data.toList && (decide (0 ≤ x1) && decide (x1 ≤ 4294967295)))) := hid rfl
  have HN := hid (nmOk_len (s := x0))
  have HL := hid (len_list x0)
  generalize enOk ⟨x0, x1⟩ = eo at *
  generalize nmOk x0.data.toList = no at *
  go_enter Tryz.func45, Tryz.ntmps45
  go_wp2_with fail
  generalize w.alloc (.cells #[.string x0, .int .i64 x1] 51) = w0 at *
  go_loopw [3] (fun i W => ∃ k : Nat, i = .int .i64 (k : Int) ∧ k ≤ x0.size ∧ Hid (∀ j b, j < k → x0.data.toList[j]? = some b → b ≠ 0) ∧ Hid (W = w0)) (fun i _ => x0.size - (intOf i).toNat)
  case atStart => exact ⟨0, rfl, by omega, hid (fun j b h _ => by omega), hid rfl⟩
  case round =>
    obtain ⟨k, rfl, hk, hG, hw⟩ := hrel
    have hw' := hw.out
    subst hw'
    have q0 := cell_of_row _ w.heap.size 0 _ _ _ hrow0
    have q1 := cell_of_row _ w.heap.size 1 _ _ _ hrow0
    by_cases hlt : k < x0.size
    · have hki : (k : Int) < (x0.size : Int) := by omega
      obtain ⟨b, hb⟩ : ∃ b, x0.data.toList[k]? = some b := ⟨_, List.getElem?_eq_getElem (by rw [HL.out]; exact hlt)⟩
      have hgk : x0[k]'hlt = b := by
        obtain ⟨h1, h2⟩ := List.getElem?_eq_some_iff.1 hb
        rw [← h2]
        rfl
      have HB := hid hb
      clear hb
      by_cases hz : b = 0
      · subst hz
        have HF : Hid (eo = false) := hid (by
          rw [HE.out]
          cases hq : no
          · rfl
          · exact absurd (List.mem_of_getElem? HB.out) (HN.out.1 hq).2)
        have hgz : ((((x0[k]'hlt).toNat : Nat) : Int) == 0) = true := by rw [hgk]; rfl
        clear hgk
        go_wp2_with fail
        go_ret
        exact ⟨ret_bool HF.out.symm, hb0⟩
      · have hgz : ((((x0[k]'hlt).toNat : Nat) : Int) == 0) = false := by
          rw [hgk, beq_eq_false_iff_ne]
          intro q
          exact hz (by rw [← UInt8.toNat_inj]; simpa using q)
        clear hgk
        have HG2 : Hid (∀ j c, j < k + 1 → x0.data.toList[j]? = some c → c ≠ 0) := hid fun j c hj hc => by
          by_cases e : j = k
          · subst e
            rw [HB.out] at hc
            injection hc with hc
            rw [← hc]
            exact hz
          · exact hG.out j c (by omega) hc
        go_wp2_with fail
        go_roundw
        · exact ⟨k + 1, by go_num, by omega, HG2, hid trivial⟩
        · simp [intOf]; omega
    · obtain rfl : k = x0.size := by omega
      have HZ : Hid ((0 : UInt8) ∉ x0.data.toList) := hid fun hm => by
        obtain ⟨j, hj, e⟩ := List.mem_iff_getElem.1 hm
        exact hG.out j 0 (by rw [HL.out] at hj; exact hj) (by rw [List.getElem?_eq_getElem hj, e]) rfl
      have hnil : ¬ (x0.size : Int) < (x0.size : Int) := by omega
      by_cases h0 : 0 < x0.size
      · have h0i : decide ((0 : Int) < (x0.size : Int)) = true := decide_eq_true (by omega)
        have HR : Hid (eo = (decide (0 ≤ x1) && decide (x1 ≤ 4294967295))) := hid (by rw [HE.out, HN.out.2 ⟨h0, HZ.out⟩]; rfl)
        by_cases h1 : 0 ≤ x1
        · have h1i : decide ((0 : Int) ≤ x1) = true := decide_eq_true h1
          go_wp2_with fail
          go_ret
          exact ⟨ret_bool (by rw [HR.out, h1i]; rfl), hb0⟩
        · have h1i : decide ((0 : Int) ≤ x1) = false := decide_eq_false h1
          go_wp2_with fail
          go_ret
          exact ⟨ret_bool (by rw [HR.out, h1i]; rfl), hb0⟩
      · have h0i : decide ((0 : Int) < (x0.size : Int)) = false := decide_eq_false (by omega)
        have HR : Hid (eo = false) := hid (by
          rw [HE.out]
          cases hq : no
          · rfl
          · exact absurd (HN.out.1 hq).1 h0)
        go_wp2_with fail
        go_ret
        exact ⟨ret_bool HR.out.symm, hb0⟩

set_option maxRecDepth 100000 in
set_option maxHeartbeats 2000000 in
theorem rsameE_any (K : Nat) (A A' : Option Addr) (n c n' c' : Nat) (xs ys : List En) (w : World) (h : RdE w K A n xs) (h' : RdE w K A' n' ys) (hK : K ≤ w.heap.size) (hn : n ≤ 140737488355328) :
    Calls Tryz.prog 14 #[.slice A n c, .slice A' n' c'] w fun e w' => e = .returned (.bool (sameE xs ys)) ∧ Below w.heap.size w w' := by
  have Hl := hid h.1
  have Hl' := hid h'.1
  by_cases hne : n = n'
  · subst hne
    have hnb : ((n : Int) != (n : Int)) = false := by simp
    go_enter Tryz.func14, Tryz.ntmps14
    go_wp2_with fail
    go_loopw [5] (fun i W => ∃ k : Nat, i = .int .i64 (k : Int) ∧ k ≤ n ∧ Hid (sameE xs ys = sameE (xs.drop k) (ys.drop k)) ∧ Below w.heap.size w W) (fun i _ => n - (intOf i).toNat)
    case atStart => exact ⟨0, rfl, by omega, hid rfl, Below.refl _ _⟩
    case round =>
      obtain ⟨k, rfl, hk, hG, hb⟩ := hrel
      by_cases hlt : k < n
      · have hkl : k < xs.length := by have := Hl.out; omega
        have hkl' : k < ys.length := by have := Hl'.out; omega
        have hki : (k : Int) < (n : Int) := by omega
        have hR := h.below (hb.mono hK)
        have hR' := h'.below (hb.mono hK)
        obtain ⟨b, o, rfl, hbK, hcell⟩ := hR.2 k hkl
        obtain ⟨b', o', rfl, hbK', hcell'⟩ := hR'.2 k hkl'
        have HS : Hid (sameE (xs.drop k) (ys.drop k) = (xs[k].eq ys[k] && sameE (xs.drop (k + 1)) (ys.drop (k + 1)))) := hid (by rw [List.drop_eq_getElem_cons hkl, List.drop_eq_getElem_cons hkl']; rfl)
        generalize xs[k] = x at *
        generalize ys[k] = y at *
        obtain ⟨x0, x1⟩ := x
        obtain ⟨y0, y1⟩ := y
        obtain ⟨p0, p1⟩ := hcell
        obtain ⟨s0, s1⟩ := hcell'
        have hgd := guard_ent
        have hne := neq_ent
        cases hq : En.eq ⟨x0, x1⟩ ⟨y0, y1⟩
        · have HR : Hid (sameE xs ys = false) := hid (by rw [hG.out, HS.out, hq]; rfl)
          go_wp2_with fail
          go_quiet (fail)
          go_wp2_with fail
          go_ret
          exact ⟨ret_bool HR.out.symm, hb.trans ⟨rfl, rfl, rfl, Nat.le_refl _, fun _ _ => rfl⟩⟩
        · have HR : Hid (sameE xs ys = sameE (xs.drop (k + 1)) (ys.drop (k + 1))) := hid (by rw [hG.out, HS.out, hq]; rfl)
          go_wp2_with fail
          go_quiet (fail)
          go_wp2_with fail
          go_roundw
          · exact ⟨k + 1, by go_num, by omega, HR, hb.trans ⟨rfl, rfl, rfl, Nat.le_refl _, fun _ _ => rfl⟩⟩
          · simp [intOf]; omega
      · obtain rfl : k = n := by omega
        have HR : Hid (sameE xs ys = true) := hid (by rw [hG.out, List.drop_eq_nil_of_le (by have := Hl.out; omega), List.drop_eq_nil_of_le (by have := Hl'.out; omega)]; rfl)
        go_wp2_with fail
        go_ret
        exact ⟨ret_bool HR.out.symm, hb⟩
  · have hnb : ((n : Int) != (n' : Int)) = true := by simp; omega
    have HR : Hid (sameE xs ys = false) := hid (by
      cases h : sameE xs ys with
      | false => rfl
      | true => exact absurd (sameE_len h) (by rw [Hl.out, Hl'.out]; exact hne))
    go_enter Tryz.func14, Tryz.ntmps14
    go_wp2_with fail
    go_ret
    exact ⟨ret_bool HR.out.symm, Below.refl _ _⟩
end Go.Proofs.YtpedngfmjhpojaaGreatDoor.Amp

namespace Go.Proofs.YtpedngfmjhpojaaGreatDoor.Amp
open Go.RowKit Go.Proofs Go.Proofs.YtpedngfmjhpojaaGreatDoor.Byt
open Go.Proofs.YtpedngfmjhpojaaGreatDoor.Sls (Oth Fr blk)

/-- What Encode gives. -/
def outA (xs : List En) : List UInt8 := if fitA xs = true then encA xs else []
def errA (xs : List En) : Int := if fitA xs = true then 0 else 9
def EncsA (xs : List En) (w : World) (e : Ending) (w' : World) : Prop :=
  ∃ v, e = .returned (.tuple #[v, .int .i64 (errA xs)]) ∧ Byt.Own w' w.heap.size v (outA xs).length (outA xs) ∧ Below w.heap.size w w'
theorem EncsA.bad {xs : List En} {w w' : World} (h : fitA xs = false) (hb : Below w.heap.size w w') : EncsA xs w (.returned (.tuple #[.slice none 0 0, .int .i64 9])) w' := by
  have h1 : outA xs = [] := if_neg (by rw [h]; simp)
  have h2 : errA xs = 9 := if_neg (by rw [h]; simp)
  refine ⟨_, by rw [h2], ?_, hb⟩
  rw [h1]
  exact Byt.Own.nil _ _
theorem EncsA.good {xs : List En} {w w' : World} {v : Value} (h : fitA xs = true) (ho : Byt.Own w' w.heap.size v (encA xs).length (encA xs)) (hb : Below w.heap.size w w') : EncsA xs w (.returned (.tuple #[v, .int .i64 0])) w' := by
  have h1 : outA xs = encA xs := if_pos h
  have h2 : errA xs = 0 := if_pos h
  refine ⟨v, by rw [h2], ?_, hb⟩
  rw [h1]
  exact ho
theorem szN_le {m : Nat} : ∀ {l : List (List UInt8)}, (∀ s ∈ l, s.length ≤ m) → szN l ≤ l.length * (m + 1)
  | [], _ => by simp [szN]
  | s :: r, h => by
    have h1 := szN_le (l := r) fun t ht => h t (List.mem_cons_of_mem _ ht)
    have h2 := h s List.mem_cons_self
    have e : szN (s :: r) = (s.length + 1) + szN r := by simp [szN]
    rw [e, List.length_cons, Nat.succ_mul]
    omega
theorem szN_succ {xs : List En} {k : Nat} (hk : k < xs.length) : szN (nmsE (xs.take (k + 1))) = szN (nmsE (xs.take k)) + (xs[k].name.size + 1) := by
  rw [List.take_succ_eq_append_getElem hk]
  unfold szN nmsE
  rw [List.map_append, List.map_append, List.sum_append]
  simp

set_option maxRecDepth 100000 in
set_option maxHeartbeats 4000000 in
theorem rencA_any (K : Nat) (A : Option Addr) (n c : Nat) (xs : List En) (w : World) (h : RdE w K A n xs) (hK : K ≤ w.heap.size) (hn : n ≤ 1000) (hs : ∀ x ∈ xs, x.name.size ≤ 1000) :
    Calls Tryz.prog 25 #[.slice A n c] w (EncsA xs w) := by
  have Hl := hid h.1
  go_enter Tryz.func25, Tryz.ntmps25
  go_wp2_with fail
  refine (rword_any w n (by omega)).mono ?_
  rintro e w1 ⟨A1, rfl, o1, hb1⟩
  go_wp2_with fail
  go_loopw [5, 4] (fun i v W => ∃ (k : Nat) (A2 : Option Addr) (c2 : Nat), i = .int .i64 (k : Int) ∧ v = .slice A2 (4 + 4 * k) c2 ∧ k ≤ n ∧ Hid (∀ j (hj : j < xs.length), j < k → enOk xs[j] = true) ∧ Byt.Own W w.heap.size (.slice A2 (4 + 4 * k) c2) (4 + 4 * k) (w4 n ++ encF (xs.take k)) ∧ Below w.heap.size w W) (fun i _ _ => n - (intOf i).toNat)
  case atStart => exact ⟨0, A1, 4, rfl, rfl, by omega, hid (fun j _ h => by omega), by simpa [encF] using o1, hb1⟩
  case round =>
    obtain ⟨k, A2, c2, rfl, rfl, hk, hG, hO, hb⟩ := hrel
    by_cases hlt : k < n
    · have hkl : k < xs.length := by have := Hl.out; omega
      have hki : (k : Int) < (n : Int) := by omega
      obtain ⟨b, o, rfl, hbK, hcell⟩ := (h.below (hb.mono hK)).2 k hkl
      have hsz := hs xs[k] (List.getElem_mem hkl)
      have HF : Hid (enOk xs[k] = false → fitA xs = false) := hid fun q => by
        cases hf : fitA xs
        · rfl
        · have := fitA_iff.1 hf xs[k] (List.getElem_mem hkl)
          rw [q] at this; cases this
      have HG2 : Hid (enOk xs[k] = true → ∀ j (hj : j < xs.length), j < k + 1 → enOk xs[j] = true) := hid fun q j hj hjk => by
        by_cases e : j = k
        · subst e; exact q
        · exact hG.out j hj (by omega)
      have HT : Hid (encF (xs.take (k + 1)) = encF (xs.take k) ++ w4 xs[k].off.toNat) := hid (by
        rw [List.take_succ_eq_append_getElem hkl, encF_append]
        show _ ++ (w4 xs[k].off.toNat ++ []) = _
        rw [List.append_nil])
      have HO : Hid (enOk xs[k] = true → 0 ≤ xs[k].off ∧ xs[k].off ≤ 4294967295) := hid fun q => (enOk_iff.1 q).2
      generalize xs[k] = x at *
      have Hf := hid fun W => rfitsE_any x W (by omega)
      generalize enOk x = eo at *
      obtain ⟨x0, x1⟩ := x
      obtain ⟨p0, p1⟩ := hcell
      simp only [En.val] at *
      go_wp2_with fail
      refine (Hf.out _).mono ?_
      rintro e w2 ⟨rfl, hb2⟩
      have hs2 := hb.size
      have hb02 := hb.trans (hb2.mono hs2)
      cases eo
      · have HR := hid (HF.out rfl)
        go_wp2_with fail
        go_ret2
        exact EncsA.bad HR.out hb02
      · obtain ⟨z0, z1⟩ := HO.out rfl
        obtain ⟨z, rfl⟩ := Int.eq_ofNat_of_zero_le z0
        have HR := hid (HG2.out rfl)
        have hO2 := hO.below hb2
        have p1' : w2.cell? ⟨b, o + k * 2 + 1, none⟩ = some (.int .i64 (z : Int)) := (hb2.cell (p := ⟨b, o + k * 2 + 1, none⟩) (show b < wr.heap.size by omega)).trans p1
        clear hO hb hb2 p0 p1 HF HG2 HO
        go_wp2_with fail
        refine (rword_any w2 z (by omega)).mono ?_
        rintro e w3 ⟨A3, rfl, o3, hb3⟩
        obtain ⟨_, _, e3, r3, _⟩ := o3.reads
        injection e3 with e31 _ e33
        subst e31 e33
        have hO3 := hO2.below hb3
        have hs02 := hb02.size
        have hb03 := hb02.trans (hb3.mono hs02)
        clear hO2 hb3 o3 p1'
        go_wp2_with (at_builtin; go_must (refine Go.Proofs.YtpedngfmjhpojaaGreatDoor.Byt.wpList_app2 w3 w.heap.size _ (4 + 4 * k) _ hO3 hb03.size A3 4 4 _ (w4 z) r3 (by omega) rfl (.tmp 22) (.tmp 28) rfl rfl rfl ?_); intro v4 w4' ho4 hb4 _; obtain ⟨A4, c4, rfl, _⟩ := ho4.reads)
        have ho4' : Byt.Own w4' w.heap.size (.slice A4 (4 + 4 * k + 4) c4) (4 + 4 * (k + 1)) (w4 n ++ encF (xs.take (k + 1))) := by
          rw [HT.out, show 4 + 4 * (k + 1) = 4 + 4 * k + 4 by omega, ← List.append_assoc]
          exact ho4
        have hb04 := hb03.trans hb4
        clear ho4 hb4 r3 hO3
        go_roundw
        · exact ⟨k + 1, A4, c4, by go_num, by rw [show 4 + 4 * (k + 1) = 4 + 4 * k + 4 by omega], by omega, HR, by rw [show 4 + 4 * (k + 1) = 4 + 4 * k + 4 by omega] at ho4' ⊢; exact ho4', hb04⟩
        · simp [intOf]; omega
    · obtain rfl : k = n := by omega
      have HFit : Hid (fitA xs = true) := hid (fitA_iff.2 fun x hx => by
        obtain ⟨j, hj, rfl⟩ := List.mem_iff_getElem.1 hx
        exact hG.out j hj (by have := Hl.out; omega))
      have hT : xs.take k = xs := List.take_of_length_le (by have := Hl.out; omega)
      rw [hT] at hO
      have HS : Hid (∀ j, j ≤ k → szN (nmsE (xs.take j)) ≤ 1001000) := hid fun j hj => by
        have := szN_le (m := 1000) (l := nmsE (xs.take j)) fun s hs' => by
          obtain ⟨x, hx, rfl⟩ := List.mem_map.1 hs'
          rw [len_list]
          exact hs x (List.mem_of_mem_take hx)
        have h2 : (nmsE (xs.take j)).length ≤ j := by rw [nmsE_length, List.length_take]; omega
        have h3 : (nmsE (xs.take j)).length * (1000 + 1) ≤ 1000 * (1000 + 1) := Nat.mul_le_mul_right _ (by omega)
        omega
      have hbn := hb
      clear hG hb
      obtain ⟨A4, c4, hA4⟩ : ∃ A4 c4, A2 = A4 ∧ c2 = c4 := ⟨_, _, rfl, rfl⟩
      obtain ⟨rfl, rfl⟩ := hA4
      go_wp2_with fail
      go_loopw [6, 4] (fun i v W => ∃ (j : Nat) (A5 : Option Addr) (c5 : Nat), i = .int .i64 (j : Int) ∧ v = .slice A5 (4 + 4 * k + szN (nmsE (xs.take j))) c5 ∧ j ≤ k ∧ Byt.Own W w.heap.size (.slice A5 (4 + 4 * k + szN (nmsE (xs.take j))) c5) (4 + 4 * k + szN (nmsE (xs.take j))) (w4 k ++ encF xs ++ encN (nmsE (xs.take j))) ∧ Below w.heap.size w W) (fun i _ _ => k - (intOf i).toNat)
      case atStart => exact ⟨0, A2, c2, rfl, by simp [szN, nmsE], by omega, by simpa [szN, nmsE, encN] using hO, hbn⟩
      case round =>
        obtain ⟨j, A5, c5, rfl, rfl, hj, hO, hb⟩ := hrel
        by_cases hlt : j < k
        · have hkl : j < xs.length := by have := Hl.out; omega
          have hki : (j : Int) < (k : Int) := by omega
          obtain ⟨b, o, rfl, hbK, hcell⟩ := (h.below (hb.mono hK)).2 j hkl
          have hsz := hs xs[j] (List.getElem_mem hkl)
          have HZ := hid (szN_succ hkl)
          have HT : Hid (encN (nmsE (xs.take (j + 1))) = encN (nmsE (xs.take j)) ++ (xs[j].name.data.toList ++ [0])) := hid (by
            rw [List.take_succ_eq_append_getElem hkl]
            unfold nmsE
            rw [List.map_append, encN_append]
            simp [encN])
          have hz := HS.out j hj
          have hz2 := HS.out (j + 1) (by omega)
          generalize xs[j] = x at *
          obtain ⟨x0, x1⟩ := x
          obtain ⟨p0, p1⟩ := hcell
          simp only at *
          obtain ⟨zk, hzk⟩ : ∃ zk, 4 + 4 * k + szN (nmsE (xs.take j)) = zk := ⟨_, rfl⟩
          have HZ2 : Hid (4 + 4 * k + szN (nmsE (xs.take (j + 1))) = zk + x0.size + 1) := hid (by rw [HZ.out, ← hzk]; omega)
          rw [hzk] at hO ⊢
          have hzb : zk ≤ 2000000 := by omega
          clear hzk hz hz2
          go_wp2_with (first
            | (at_builtin; refine wpList_apps2 wr w.heap.size _ zk _ hO hb.size x0 (by omega) rfl (.tmp 36) (.tmp 41) rfl rfl rfl ?_; intro v6 w6 ho6 hb6 _; obtain ⟨A6, c6, rfl, _⟩ := ho6.reads; have hb06 := hb.trans hb6)
            | (at_builtin; refine wpList_push2 w6 w.heap.size _ (zk + x0.size) _ 0 _ rfl ho6 hb06.size (by omega) rfl (.tmp 42) (.tmp 43) rfl rfl rfl ?_; intro v7 w7 ho7 hb7 _; obtain ⟨A7, c7, rfl, _⟩ := ho7.reads)
            | fail)
          have ho7' : Byt.Own w7 w.heap.size (.slice A7 (zk + x0.size + 1) c7) (zk + x0.size + 1) (w4 k ++ encF xs ++ encN (nmsE (xs.take (j + 1)))) := by
            rw [HT.out, ← List.append_assoc, ← List.append_assoc]
            exact ho7
          have hb07 := hb06.trans hb7
          clear ho7 hb7 ho6 hb6 hb06 hO hb p0 p1
          go_roundw
          · exact ⟨j + 1, A7, c7, by go_num, by rw [HZ2.out], by omega, by rw [HZ2.out]; exact ho7', hb07⟩
          · simp [intOf]; omega
        · obtain rfl : j = k := by omega
          rw [hT] at hO
          have HR : Hid ((encA xs).length = 4 + 4 * j + szN (nmsE xs)) := hid (by rw [encA_length, Hl.out])
          have HE : Hid (encA xs = w4 j ++ encF xs ++ encN (nmsE xs)) := hid (by unfold encA; rw [Hl.out, List.append_assoc])
          have hX := hid (EncsA.good (w' := wr) HFit.out (v := .slice A5 (4 + 4 * j + szN (nmsE xs)) c5) (by rw [HR.out, HE.out]; exact hO) hb)
          clear hO hb
          rw [hT]
          generalize 4 + 4 * j + szN (nmsE xs) = zz at *
          go_wp2_with fail
          go_ret2
          exact hX.out
end Go.Proofs.YtpedngfmjhpojaaGreatDoor.Amp

namespace Go.Proofs.YtpedngfmjhpojaaGreatDoor.Amp
open Go.RowKit Go.Proofs Go.Proofs.YtpedngfmjhpojaaGreatDoor.Byt
open Go.Proofs.YtpedngfmjhpojaaGreatDoor.Sls (Oth Fr blk)

end Go.Proofs.YtpedngfmjhpojaaGreatDoor.Amp
