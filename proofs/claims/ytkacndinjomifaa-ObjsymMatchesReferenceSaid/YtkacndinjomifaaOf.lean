/-
  objsym: the reader.
-/
import Derived.Test.YtkacndinjomifaaOe
import Derived.Recover
import Derived.DefersIn
import Derived.WalkLawsBesides
namespace Go.Proofs.Ytkacndinjomifaa.Obj
open Go.RowKit Go.Proofs Go.Proofs.Ytkacndinjomifaa.Byt
open Go.Proofs.Ytkacndinjomifaa.Sls (Oth)

/-- The panic with an error number. -/
def fails (k : Int) : Ending := .panicked [{ v := .iface 28 (.int .i64 k), recovered := false }]

/-- The reader at block R has these bytes left. -/
def Rdr (w : World) (R K : Nat) (l : List UInt8) : Prop :=
  ∃ b o m c, w.heap[R]? = some (.cells #[.slice (some ⟨b, o, none⟩) m c] 53 (0, 0)) ∧ Byt.Rd w K (some ⟨b, o, none⟩) m l ∧ m ≤ c ∧ c ≤ maxLen

set_option maxRecDepth 100000 in
theorem take_fail (w : World) (R K : Nat) (l : List UInt8) (h : Rdr w R K l) (n : Nat) (hn : l.length < n) :
    Calls Try.prog 30 #[.pointer (some ⟨R, 0, none⟩), .int .i64 (n : Int)] w fun e w' => e = fails 2 ∧ w' = w := by
  obtain ⟨b, o, m, c, hrow, hr, hmc, hc⟩ := h
  have hni : (m : Int) < (n : Int) := by have := hr.1; omega
  have c0 := cell_of_row _ R 0 _ _ _ hrow
  unfold fails
  go_enter Try.func30, Try.ntmps30
  go_wp2_with fail
  exact ⟨rfl, rfl, rfl⟩

theorem slice_from (w : World) (K b o m c n : Nat) (l : List UInt8) (hr : Byt.Rd w K (some ⟨b, o, none⟩) m l) (hn : n ≤ m) (hmc : m ≤ c) :
    ∃ p, (Instr.sliceAt 23 (.slice (some ⟨b, o, none⟩) m c) (some (.int .i64 (n : Int))) none none).run Try.prog w = .ok (.slice (some ⟨b, p, none⟩) (m - n) (c - n)) w ∧ Byt.Rd w K (some ⟨b, p, none⟩) (m - n) (l.drop n) := by
  have h1 : (n : Int) ≤ (m : Int) := by omega
  have h2 : (m : Int) ≤ (c : Int) := by omega
  have h3 : (n : Int) ≤ (c : Int) := by omega
  by_cases hc : c = n
  · subst hc
    obtain rfl : m = c := by omega
    exact ⟨o, by go_simp, hr.cut_at m (Nat.le_refl _)⟩
  · exact ⟨o + n, by go_simp, hr.cut n⟩

set_option maxRecDepth 100000 in
theorem take_ok (w : World) (R K : Nat) (l : List UInt8) (h : Rdr w R K l) (hKR : K ≤ R) (n : Nat) (hn : n ≤ l.length) :
    Calls Try.prog 30 #[.pointer (some ⟨R, 0, none⟩), .int .i64 (n : Int)] w fun e w' => ∃ b o c, e = .returned (.slice (some ⟨b, o, none⟩) n c) ∧ Byt.Rd w' K (some ⟨b, o, none⟩) n (l.take n) ∧ n ≤ c ∧ Rdr w' R K (l.drop n) ∧ w.grownBy w' (some R) := by
  obtain ⟨b, o, m, c, hrow, hr, hmc, hc⟩ := h
  have hnm : n ≤ m := by have := hr.1; omega
  have hni : ¬ (m : Int) < (n : Int) := by omega
  have hnc : (n : Int) ≤ (c : Int) := by omega
  have c0 := cell_of_row _ R 0 _ _ _ hrow
  have f0 := fun o => frozen_of_row w R o _ _ hrow
  obtain ⟨p, hrun, hrd⟩ := slice_from w K b o m c n l hr hnm hmc
  have hb : Below K w (w.setCell ⟨R, 0, none⟩ (.slice (some ⟨b, p, none⟩) (m - n) (c - n))) := (Below.refl K w).setCell (p := ⟨R, 0, none⟩) hKR _
  have hg : w.grownBy (w.setCell ⟨R, 0, none⟩ (.slice (some ⟨b, p, none⟩) (m - n) (c - n))) (some R) := ⟨rfl, rfl, rfl, by simp, fun k hk hne => Below.heap_setCell w ⟨R, 0, none⟩ _ k (fun q => hne (by rw [q]))⟩
  have Hrd := hid hrd
  go_enter Try.func30, Try.ntmps30
  go_wp2_with fail
  go_ret
  exact ⟨b, o, c, rfl, (hr.pre hnm).below hb, by omega, ⟨b, p, m - n, c - n, heap_setCell_same w R 0 _ _ _ hrow, Hrd.out.below hb, by omega, by omega⟩, hg⟩

theorem grown_below {K R : Nat} {w w' : World} (h : w.grownBy w' (some R)) (hK : K ≤ R) (hw : K ≤ w.heap.size) : Below K w w' :=
  (Below.refl K w).grown h hw fun k hk => by injection hk with hk; omega

set_option maxRecDepth 100000 in
theorem readByte_fail (w : World) (R K : Nat) (l : List UInt8) (h : Rdr w R K l) (hn : l.length < 1) :
    Calls Try.prog 35 #[.pointer (some ⟨R, 0, none⟩)] w fun e w' => e = fails 2 ∧ w' = w := by
  have H := hid (take_fail w R K l h 1 hn)
  go_enter Try.func35, Try.ntmps35
  go_wp2_with fail
  refine H.out.mono ?_
  rintro e w1 ⟨rfl, rfl⟩
  exact ⟨rfl, rfl, rfl⟩

set_option maxRecDepth 100000 in
theorem readByte_ok (w : World) (R K : Nat) (l : List UInt8) (h : Rdr w R K l) (hKR : K ≤ R) (hn : 1 ≤ l.length) :
    Calls Try.prog 35 #[.pointer (some ⟨R, 0, none⟩)] w fun e w' => e = .returned (.int .i64 ((l.getD 0 0).toNat : Int)) ∧ Rdr w' R K (l.drop 1) ∧ w.grownBy w' (some R) := by
  have H := hid (take_ok w R K l h hKR 1 hn)
  go_enter Try.func35, Try.ntmps35
  go_wp2_with fail
  refine H.out.mono ?_
  rintro e w1 ⟨b, o, c, rfl, hr, hc, hR, hg⟩
  obtain ⟨b', o', e', hbl, hcell⟩ := hr.2 0 (by rw [List.length_take]; omega)
  injection e' with e'
  injection e' with e1 e2
  subst e1 e2
  have hget : (l.take 1)[0]'(by rw [List.length_take]; omega) = l.getD 0 0 := by
    rw [List.getElem_take, List.getD_eq_getElem?_getD, List.getElem?_eq_getElem (by omega)]
    rfl
  rw [hget, Nat.add_zero] at hcell
  obtain ⟨u, hu⟩ : ∃ u, l.getD 0 0 = u := ⟨_, rfl⟩
  rw [hu] at hcell
  have HU := hid hu
  have hul := u.toNat_lt
  clear hget hr hu
  go_wp2_with fail
  go_ret
  exact ⟨by rw [HU.out]; rfl, hR, hg⟩

theorem or_digit (a d : Nat) (hd : d < 256) : a * 256 ||| d = a * 256 + d := by
  have := Nat.two_pow_add_eq_or_of_lt (i := 8) hd a
  rw [show (2 : Nat) ^ 8 = 256 from rfl, Nat.mul_comm] at this
  exact this.symm

set_option maxRecDepth 100000 in
theorem readNumber_fail (w : World) (R K : Nat) (l : List UInt8) (h : Rdr w R K l) (hn : l.length < 4) :
    Calls Try.prog 31 #[.pointer (some ⟨R, 0, none⟩)] w fun e w' => e = fails 2 ∧ w' = w := by
  have H := hid (take_fail w R K l h 4 hn)
  go_enter Try.func31, Try.ntmps31
  go_wp2_with fail
  refine H.out.mono ?_
  rintro e w1 ⟨rfl, rfl⟩
  exact ⟨rfl, rfl, rfl⟩

set_option maxRecDepth 100000 in
set_option maxHeartbeats 1000000 in
theorem readNumber_ok (w : World) (R K : Nat) (l : List UInt8) (h : Rdr w R K l) (hKR : K ≤ R) (hn : 4 ≤ l.length) :
    Calls Try.prog 31 #[.pointer (some ⟨R, 0, none⟩)] w fun e w' => e = .returned (.int .i64 (n4 l : Int)) ∧ Rdr w' R K (l.drop 4) ∧ w.grownBy w' (some R) := by
  have H := hid (take_ok w R K l h hKR 4 hn)
  go_enter Try.func31, Try.ntmps31
  go_wp2_with fail
  refine H.out.mono ?_
  rintro e w1 ⟨b, o, c, rfl, hr, hc, hR, hg⟩
  have hl4 : (l.take 4).length = 4 := by rw [List.length_take]; omega
  have HN : Hid (n4 l = (l.take 4).foldl (fun n c => n * 256 + c.toNat) 0) := hid rfl
  generalize l.take 4 = t at *
  go_wp2_with fail
  go_loopw [3, 9] (fun v i W => ∃ k : Nat, i = .int .i64 (k : Int) ∧ k ≤ 4 ∧ v = .int .i64 (((t.take k).foldl (fun n c => n * 256 + c.toNat) 0 : Nat) : Int) ∧ W = w1) (fun _ i _ => 4 - (intOf i).toNat)
  case atStart => exact ⟨0, rfl, by omega, rfl, rfl⟩
  case round =>
    obtain ⟨k, rfl, hk, rfl, rfl⟩ := hrel
    by_cases hlt : k < 4
    · obtain ⟨b', o', e', hbl, hcell⟩ := hr.2 k (by omega)
      injection e' with e'
      injection e' with e1 e2
      subst e1 e2
      have hsmall : (t.take k).foldl (fun n c => n * 256 + c.toNat) 0 < 16777216 := by
        match t, hl4 with
        | [a0, a1, a2, a3], _ =>
          have := a0.toNat_lt; have := a1.toNat_lt; have := a2.toNat_lt
          rcases (by omega : k = 0 ∨ k = 1 ∨ k = 2 ∨ k = 3) with rfl | rfl | rfl | rfl
          all_goals simp
          all_goals omega
      have Hstep : Hid ((t.take (k + 1)).foldl (fun n c => n * 256 + c.toNat) 0 = (t.take k).foldl (fun n c => n * 256 + c.toNat) 0 * 256 + (t[k]'(by omega)).toNat) := hid (by rw [List.take_add_one, List.getElem?_eq_getElem (by omega), List.foldl_append]; rfl)
      have hu := (t[k]'(by omega)).toNat_lt
      generalize t[k]'(by omega) = u at *
      generalize (t.take k).foldl (fun n c => n * 256 + c.toNat) 0 = q at *
      have hor : Hid (bits .or .i64 ((q : Int) * 256) (u.toNat : Int) = ((q * 256 + u.toNat : Nat) : Int)) := hid <| by
        rw [show ((q : Int) * 256) = ((q * 256 : Nat) : Int) by omega, bits_or_nat _ _ (by omega) (by omega), or_digit _ _ (by omega)]
      go_wp2_with fail
      go_roundw
      · skip
        exact ⟨k + 1, by go_num, by omega, by rw [hor.out, Hstep.out], trivial⟩
      · simp [intOf]; omega
    · obtain rfl : k = 4 := by omega
      have hall : t.take 4 = t := List.take_of_length_le (by omega)
      rw [hall, ← HN.out]
      clear hall
      go_wp2_with fail
      go_ret
      exact ⟨rfl, hR, hg⟩
end Go.Proofs.Ytkacndinjomifaa.Obj
