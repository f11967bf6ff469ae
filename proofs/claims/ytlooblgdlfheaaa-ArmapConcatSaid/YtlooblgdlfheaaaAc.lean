/-
  armap's reference: Fits, Few, Same.
-/
import Derived.Test.YtlooblgdlfheaaaAb
namespace Go.Proofs.Ytlooblgdlfheaaa.Amp
open Go.RowKit Go.Proofs Go.Proofs.Ytlooblgdlfheaaa.Byt
open Go.Proofs.Ytlooblgdlfheaaa.Sls (Oth Fr blk)

theorem nmOk_len {s : ByteArray} : nmOk s.data.toList = true ↔ 0 < s.size ∧ (0 : UInt8) ∉ s.data.toList := by
  rw [nmOk_iff]
  have h := len_list s
  constructor
  · rintro ⟨h1, h2⟩
    exact ⟨by rw [← h]; exact List.length_pos_iff.2 h1, h2⟩
  · rintro ⟨h1, h2⟩
    exact ⟨List.length_pos_iff.1 (by rw [h]; exact h1), h2⟩

set_option maxRecDepth 100000 in
set_option maxHeartbeats 2000000 in
theorem rfitsE_any (x : En) (w : World) (hs : x.name.size ≤ 140737488355328) :
    Calls Try.prog 20 #[x.val] w fun e w' => e = .returned (.bool (enOk x)) ∧ Below w.heap.size w w' := by
  obtain ⟨x0, x1⟩ := x
  simp only [En.val] at *
  have hb0 := (Below.refl w.heap.size w).alloc (Nat.le_refl _) (.cells #[.string x0, .int .i64 x1] 40)
  have hrow0 := heap_alloc_new w (.cells #[.string x0, .int .i64 x1] 40)
  have HE : Hid (enOk ⟨x0, x1⟩ = (nmOk x0.data.toList && (decide (0 ≤ x1) && decide (x1 ≤ 4294967295)))) := hid rfl
  have HN := hid (nmOk_len (s := x0))
  have HL := hid (len_list x0)
  generalize enOk ⟨x0, x1⟩ = eo at *
  generalize nmOk x0.data.toList = no at *
  go_enter Try.func20, Try.ntmps20
  go_wp2_with fail
  generalize w.alloc (.cells #[.string x0, .int .i64 x1] 40) = w0 at *
  go_loopw [3] (fun i W => ∃ k : Nat, i = .int .i64 (k : Int) ∧ k ≤ x0.size ∧ Hid (∀ j b, j < k → x0.data.toList[j]? = some b → b ≠ 0) ∧ Hid (W = w0)) (fun i _ => x0.size - (intOf i).toNat)
  case atStart => exact ⟨0, rfl, by omega, hid (fun j b h _ => by omega), hid rfl⟩
  case round =>
    obtain ⟨k, rfl, hk, hG, hw⟩ := hrel
    have hw' := hw.out
    subst hw'
    have q0 := cell_of_row _ w.heap.size 0 _ _ _ hrow0
    have q1 := cell_of_row _ w.heap.size 1 _ _ _ hrow0
    by_cases hlt : k < x0.size
    · have hki : (k : Int) < (x0.size : Int) := by omega
      obtain ⟨b, hb⟩ : ∃ b, x0.data.toList[k]? = some b := ⟨_, List.getElem?_eq_getElem (by rw [HL.out]; exact hlt)⟩
      have hgk : x0[k]'hlt = b := by
        obtain ⟨h1, h2⟩ := List.getElem?_eq_some_iff.1 hb
        rw [← h2]
        rfl
      have HB := hid hb
      clear hb
      by_cases hz : b = 0
      · subst hz
        have HF : Hid (eo = false) := hid (by
          rw [HE.out]
          cases hq : no
          · rfl
          · exact absurd (List.mem_of_getElem? HB.out) (HN.out.1 hq).2)
        have hgz : ((((x0[k]'hlt).toNat : Nat) : Int) == 0) = true := by rw [hgk]; rfl
        clear hgk
        go_wp2_with fail
        go_ret
        exact ⟨ret_bool HF.out.symm, hb0⟩
      · have hgz : ((((x0[k]'hlt).toNat : Nat) : Int) == 0) = false := by
          rw [hgk, beq_eq_false_iff_ne]
          intro q
          exact hz (by rw [← UInt8.toNat_inj]; simpa using q)
        clear hgk
        have HG2 : Hid (∀ j c, j < k + 1 → x0.data.toList[j]? = some c → c ≠ 0) := hid fun j c hj hc => by
          by_cases e : j = k
          · subst e
            rw [HB.out] at hc
            injection hc with hc
            rw [← hc]
            exact hz
          · exact hG.out j c (by omega) hc
        go_wp2_with fail
        go_roundw
        · exact ⟨k + 1, by go_num, by omega, HG2, hid trivial⟩
        · simp [intOf]; omega
    · obtain rfl : k = x0.size := by omega
      have HZ : Hid ((0 : UInt8) ∉ x0.data.toList) := hid fun hm => by
        obtain ⟨j, hj, e⟩ := List.mem_iff_getElem.1 hm
        exact hG.out j 0 (by rw [HL.out] at hj; exact hj) (by rw [List.getElem?_eq_getElem hj, e]) rfl
      have hnil : ¬ (x0.size : Int) < (x0.size : Int) := by omega
      by_cases h0 : 0 < x0.size
      · have h0i : decide ((0 : Int) < (x0.size : Int)) = true := decide_eq_true (by omega)
        have HR : Hid (eo = (decide (0 ≤ x1) && decide (x1 ≤ 4294967295))) := hid (by rw [HE.out, HN.out.2 ⟨h0, HZ.out⟩]; rfl)
        by_cases h1 : 0 ≤ x1
        · have h1i : decide ((0 : Int) ≤ x1) = true := decide_eq_true h1
          go_wp2_with fail
          go_ret
          exact ⟨ret_bool (by rw [HR.out, h1i]; rfl), hb0⟩
        · have h1i : decide ((0 : Int) ≤ x1) = false := decide_eq_false h1
          go_wp2_with fail
          go_ret
          exact ⟨ret_bool (by rw [HR.out, h1i]; rfl), hb0⟩
      · have h0i : decide ((0 : Int) < (x0.size : Int)) = false := decide_eq_false (by omega)
        have HR : Hid (eo = false) := hid (by
          rw [HE.out]
          cases hq : no
          · rfl
          · exact absurd (HN.out.1 hq).1 h0)
        go_wp2_with fail
        go_ret
        exact ⟨ret_bool HR.out.symm, hb0⟩

/-- Whether entries are few. -/
def fewE (xs : List En) : Bool := (xs.take 101).all (fun x => decide (x.name.size ≤ 300)) && decide (xs.length ≤ 100)
theorem fewE_iff {xs : List En} : fewE xs = true ↔ xs.length ≤ 100 ∧ ∀ x ∈ xs, x.name.size ≤ 300 := by
  unfold fewE
  rw [Bool.and_eq_true, decide_eq_true_eq, List.all_eq_true]
  constructor
  · rintro ⟨h1, h2⟩
    rw [List.take_of_length_le (by omega)] at h1
    exact ⟨h2, fun x hx => by simpa using h1 x hx⟩
  · rintro ⟨h2, h1⟩
    exact ⟨fun x hx => by simpa using h1 x (List.mem_of_mem_take hx), h2⟩

set_option maxRecDepth 100000 in
set_option maxHeartbeats 2000000 in
theorem rfewE_any (K : Nat) (A : Option Addr) (n c : Nat) (xs : List En) (w : World) (h : RdE w K A n xs) :
    Calls Try.prog 9 #[.slice A n c] w fun e w' => e = .returned (.bool (fewE xs)) ∧ w' = w := by
  have Hl := hid h.1
  go_enter Try.func9, Try.ntmps9
  go_wp2_with fail
  go_loopw [3] (fun i W => ∃ k : Nat, i = .int .i64 (k : Int) ∧ k ≤ n ∧ k ≤ 101 ∧ Hid (∀ i (hi : i < xs.length), i < k → xs[i].name.size ≤ 300) ∧ Hid (W = w)) (fun i _ => 101 - (intOf i).toNat)
  case atStart => exact ⟨0, rfl, by omega, by omega, hid (fun i hi hk => by omega), hid rfl⟩
  case round =>
    obtain ⟨k, rfl, hk, hk61, hG, hw⟩ := hrel
    have hw' := hw.out
    subst hw'
    by_cases hlt : k < n
    · have hli : decide ((k : Int) < (n : Int)) = true := by simp; omega
      by_cases h60 : k ≤ 100
      · have h6i : decide ((k : Int) ≤ 100) = true := by simp; omega
        have hkl : k < xs.length := by have := Hl.out; omega
        obtain ⟨b, o, rfl, hbK, hcell⟩ := h.2 k hkl
        have HG2 : Hid (xs[k].name.size ≤ 300 → ∀ i (hi : i < xs.length), i < k + 1 → xs[i].name.size ≤ 300) := hid fun hx i hi hk1 => by
          by_cases e : i = k
          · subst e; exact hx
          · exact hG.out i hi (by omega)
        have HF : Hid (300 < xs[k].name.size → fewE xs = false) := hid fun hx => by
          cases h : fewE xs with
          | false => rfl
          | true => have := (fewE_iff.1 h).2 _ (List.getElem_mem hkl); omega
        generalize xs[k] = x at *
        obtain ⟨x0, x1⟩ := x
        obtain ⟨p0, p1⟩ := hcell
        simp only at HG2 HF
        have hki : (k : Int) < (n : Int) := by omega
        by_cases hx : 300 < x0.size
        · have hxi : (300 : Int) < (x0.size : Int) := by omega
          have HR := hid (HF.out hx)
          go_wp2_with fail
          go_ret
          exact ⟨ret_bool HR.out.symm, rfl⟩
        · have hxi : ¬ (300 : Int) < (x0.size : Int) := by omega
          have HR := hid (HG2.out (by omega))
          go_wp2_with fail
          go_roundw
          · exact ⟨k + 1, by go_num, by omega, by omega, HR, hid trivial⟩
          · simp [intOf]; omega
      · have h6i : decide ((k : Int) ≤ 100) = false := by simp; omega
        have HR : Hid (fewE xs = false) := hid (by
          cases h : fewE xs with
          | false => rfl
          | true => have := (fewE_iff.1 h).1; have := Hl.out; omega)
        have hn6 : decide ((n : Int) ≤ 100) = false := by simp; omega
        go_wp2_with fail
        go_ret
        exact ⟨ret_bool HR.out.symm, rfl⟩
    · have hli : decide ((k : Int) < (n : Int)) = false := by simp; omega
      by_cases h60 : n ≤ 100
      · have hn6 : decide ((n : Int) ≤ 100) = true := by simp; omega
        have HR : Hid (fewE xs = true) := hid (fewE_iff.2 ⟨by have := Hl.out; omega, fun x hx => by
            obtain ⟨i, hi, rfl⟩ := List.getElem_of_mem hx
            exact hG.out i hi (by have := Hl.out; omega)⟩)
        go_wp2_with fail
        go_ret
        exact ⟨ret_bool HR.out.symm, rfl⟩
      · have HR : Hid (fewE xs = false) := hid (by
          cases h : fewE xs with
          | false => rfl
          | true => have := (fewE_iff.1 h).1; have := Hl.out; omega)
        have hn6 : decide ((n : Int) ≤ 100) = false := by simp; omega
        go_wp2_with fail
        go_ret
        exact ⟨ret_bool HR.out.symm, rfl⟩

set_option maxRecDepth 100000 in
set_option maxHeartbeats 2000000 in
theorem rsameE_any (K : Nat) (A A' : Option Addr) (n c n' c' : Nat) (xs ys : List En) (w : World) (h : RdE w K A n xs) (h' : RdE w K A' n' ys) (hK : K ≤ w.heap.size) (hn : n ≤ 140737488355328) :
    Calls Try.prog 15 #[.slice A n c, .slice A' n' c'] w fun e w' => e = .returned (.bool (sameE xs ys)) ∧ Below w.heap.size w w' := by
  have Hl := hid h.1
  have Hl' := hid h'.1
  by_cases hne : n = n'
  · subst hne
    have hnb : ((n : Int) != (n : Int)) = false := by simp
    go_enter Try.func15, Try.ntmps15
    go_wp2_with fail
    go_loopw [5] (fun i W => ∃ k : Nat, i = .int .i64 (k : Int) ∧ k ≤ n ∧ Hid (sameE xs ys = sameE (xs.drop k) (ys.drop k)) ∧ Below w.heap.size w W) (fun i _ => n - (intOf i).toNat)
    case atStart => exact ⟨0, rfl, by omega, hid rfl, Below.refl _ _⟩
    case round =>
      obtain ⟨k, rfl, hk, hG, hb⟩ := hrel
      by_cases hlt : k < n
      · have hkl : k < xs.length := by have := Hl.out; omega
        have hkl' : k < ys.length := by have := Hl'.out; omega
        have hki : (k : Int) < (n : Int) := by omega
        have hR := h.below (hb.mono hK)
        have hR' := h'.below (hb.mono hK)
        obtain ⟨b, o, rfl, hbK, hcell⟩ := hR.2 k hkl
        obtain ⟨b', o', rfl, hbK', hcell'⟩ := hR'.2 k hkl'
        have HS : Hid (sameE (xs.drop k) (ys.drop k) = (xs[k].eq ys[k] && sameE (xs.drop (k + 1)) (ys.drop (k + 1)))) := hid (by rw [List.drop_eq_getElem_cons hkl, List.drop_eq_getElem_cons hkl']; rfl)
        generalize xs[k] = x at *
        generalize ys[k] = y at *
        obtain ⟨x0, x1⟩ := x
        obtain ⟨y0, y1⟩ := y
        obtain ⟨p0, p1⟩ := hcell
        obtain ⟨s0, s1⟩ := hcell'
        have hgd := guard_ent
        have hne := neq_ent
        cases hq : En.eq ⟨x0, x1⟩ ⟨y0, y1⟩
        · have HR : Hid (sameE xs ys = false) := hid (by rw [hG.out, HS.out, hq]; rfl)
          go_wp2_with fail
          go_quiet (fail)
          go_wp2_with fail
          go_ret
          exact ⟨ret_bool HR.out.symm, hb.trans ⟨rfl, rfl, rfl, Nat.le_refl _, fun _ _ => rfl⟩⟩
        · have HR : Hid (sameE xs ys = sameE (xs.drop (k + 1)) (ys.drop (k + 1))) := hid (by rw [hG.out, HS.out, hq]; rfl)
          go_wp2_with fail
          go_quiet (fail)
          go_wp2_with fail
          go_roundw
          · exact ⟨k + 1, by go_num, by omega, HR, hb.trans ⟨rfl, rfl, rfl, Nat.le_refl _, fun _ _ => rfl⟩⟩
          · simp [intOf]; omega
      · obtain rfl : k = n := by omega
        have HR : Hid (sameE xs ys = true) := hid (by rw [hG.out, List.drop_eq_nil_of_le (by have := Hl.out; omega), List.drop_eq_nil_of_le (by have := Hl'.out; omega)]; rfl)
        go_wp2_with fail
        go_ret
        exact ⟨ret_bool HR.out.symm, hb⟩
  · have hnb : ((n : Int) != (n' : Int)) = true := by simp; omega
    have HR : Hid (sameE xs ys = false) := hid (by
      cases h : sameE xs ys with
      | false => rfl
      | true => exact absurd (sameE_len h) (by rw [Hl.out, Hl'.out]; exact hne))
    go_enter Try.func15, Try.ntmps15
    go_wp2_with fail
    go_ret
    exact ⟨ret_bool HR.out.symm, Below.refl _ _⟩
end Go.Proofs.Ytlooblgdlfheaaa.Amp
