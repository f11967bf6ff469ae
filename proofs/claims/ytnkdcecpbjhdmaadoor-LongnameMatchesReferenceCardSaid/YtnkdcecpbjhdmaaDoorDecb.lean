/-
  Functions that only read byte slices: Blank and the comparison of byte slices.
-/
import Derived.Test.YtnkdcecpbjhdmaaDoorDeca
namespace Go.Proofs.YtnkdcecpbjhdmaaDoor.Dec
open Go.RowKit Go.Proofs Go.Proofs.YtnkdcecpbjhdmaaDoor.Byt

/-- Only spaces. -/
def spaces (xs : List UInt8) : Bool := xs.all (· == 32)

set_option maxHeartbeats 400000 in
theorem blank_any (K : Nat) (A : Option Addr) (n c : Nat) (xs : List UInt8) (w : World) (h : Rd w K A n xs) (hn : n ≤ 140737488355328) :
    Calls Tryd.prog 54 #[.slice A n c] w fun e w' => e = .returned (.bool (spaces xs)) ∧ w = w' := by
  go_enter Tryd.func54, Tryd.ntmps54
  go_wp2
  go_loop [7] (fun i => ∃ k : Nat, i = .int .i64 (k : Int) ∧ k ≤ n ∧ spaces (xs.take k) = true) (fun i => n - (intOf i).toNat)
  case atStart => exact ⟨0, rfl, by omega, by simp [spaces]⟩
  case round =>
    obtain ⟨k, rfl, hk, hs⟩ := hrel
    have Hs := hid hs
    clear hs
    by_cases hlt : k < n
    · obtain ⟨b, o, rfl, hbK, hcell⟩ := h.2 k (by have := h.1; omega)
      have hkl : k < xs.length := by have := h.1; omega
      have hx : Hid (xs.take (k + 1) = xs.take k ++ [xs[k]]) := hid (by simp)
      have hall : Hid (xs[k].toNat ≠ 32 → spaces xs = false) := by
        intro hne
        unfold spaces
        rw [List.all_eq_false]
        exact ⟨xs[k], List.getElem_mem hkl, by simpa [← UInt8.toNat_inj] using hne⟩
      have hone : Hid (xs[k].toNat = 32 → spaces (xs.take (k + 1)) = true) := by
        intro he
        have h2 := Hs.out
        rw [hx.out]
        unfold spaces at h2 ⊢
        rw [List.all_append, h2]
        simp [← UInt8.toNat_inj, he]
      clear Hs hx
      generalize xs[k] = u at *
      by_cases hu : u.toNat = 32
      · have hu1 : ((u.toNat : Int) != 32) = false := by rw [hu]; rfl
        have hr := hone.out hu
        have Hr := hid hr
        clear hr hone hall
        go_wp2
        go_round
        case rel => exact ⟨k + 1, by go_num, by omega, Hr.out⟩
        case measure => simp [intOf]; omega
      · have hu1 : ((u.toNat : Int) != 32) = true := by simp; omega
        have hr := hall.out hu
        have Hr := hid hr
        clear hr hone hall
        go_wp2
        go_ret
        exact ⟨ret_bool Hr.out.symm, rfl⟩
    · obtain rfl : k = n := by omega
      have hfull : Hid (spaces xs = true) := by
        have := Hs.out
        rwa [List.take_of_length_le (by have := h.1; omega)] at this
      clear Hs
      go_wp2
      go_ret
      exact ⟨ret_bool hfull.out.symm, rfl⟩

set_option maxHeartbeats 400000 in
theorem same_any (f : Nat) (hf : f = 15) (K K' : Nat) (A A' : Option Addr) (n c n' c' : Nat) (xs ys : List UInt8) (w : World) (h : Rd w K A n xs) (h' : Rd w K' A' n' ys) (hn : n ≤ 140737488355328) :
    Calls Tryd.prog f #[.slice A n c, .slice A' n' c'] w fun e w' => e = .returned (.bool (xs == ys)) ∧ ∃ m, w' = w.drewN m := by
  subst hf
  by_cases hl : n = n'
  · subst hl
    have hne : ((n : Int) != (n : Int)) = false := by simp
    go_enter Tryd.func15, Tryd.ntmps15
    go_wp2
    go_loopw [5] (fun i W => ∃ k m : Nat, i = .int .i64 (k : Int) ∧ k ≤ n ∧ xs.take k = ys.take k ∧ W = w.drewN m) (fun i _ => n - (intOf i).toNat)
    case atStart => exact ⟨0, 0, rfl, by omega, by simp, rfl⟩
    case round =>
      obtain ⟨k, m, rfl, hk, hs, rfl⟩ := hrel
      have Hs := hid hs
      clear hs
      by_cases hlt : k < n
      · obtain ⟨b, o, rfl, hbK, hcell⟩ := h.2 k (by have := h.1; omega)
        obtain ⟨b', o', rfl, hbK', hcell'⟩ := h'.2 k (by have := h'.1; omega)
        have hkl : k < xs.length := by have := h.1; omega
        have hkl' : k < ys.length := by have := h'.1; omega
        have hne2 : Hid (xs[k].toNat ≠ ys[k].toNat → (xs == ys) = false) := hid (by
          intro hne
          rw [beq_eq_false_iff_ne]
          rintro rfl
          exact hne rfl)
        have hone : Hid (xs[k].toNat = ys[k].toNat → xs.take (k + 1) = ys.take (k + 1)) := hid (by
          intro he
          rw [List.take_succ_eq_append_getElem hkl, List.take_succ_eq_append_getElem hkl', Hs.out, UInt8.toNat_inj.1 he])
        clear Hs hne
        generalize xs[k] = u at *
        generalize ys[k] = v at *
        by_cases hu : u.toNat = v.toNat
        · have hu1 : ((u.toNat : Int) != (v.toNat : Int)) = false := by rw [hu]; simp
          have Hr := hid (hone.out hu)
          clear hone hne2
          go_wp2
          go_region
          all_goals go_wp2
          all_goals go_roundw
          case rel => exact ⟨k + 1, m + 1, by go_num, by omega, Hr.out, rfl⟩
          case measure => simp [intOf]; omega
        · have hu1 : ((u.toNat : Int) != (v.toNat : Int)) = true := by simp; omega
          have Hr := hid (hne2.out hu)
          clear hone hne2
          go_wp2
          go_region
          all_goals go_wp2
          all_goals go_ret
          all_goals exact ⟨ret_bool Hr.out.symm, _, rfl⟩
      · obtain rfl : k = n := by omega
        have hfull : Hid ((xs == ys) = true) := hid (by
          have := Hs.out
          rw [take_all h.1, take_all h'.1] at this
          simpa using this)
        clear Hs
        go_wp2
        go_ret
        exact ⟨ret_bool hfull.out.symm, _, rfl⟩
  · have hne : ((n : Int) != (n' : Int)) = true := by simp; omega
    have hfull : Hid ((xs == ys) = false) := hid (by
      rw [beq_eq_false_iff_ne]
      rintro rfl
      exact hl (h.1.symm.trans h'.1))
    go_enter Tryd.func15, Tryd.ntmps15
    go_wp2
    go_ret
    exact ⟨ret_bool hfull.out.symm, 0, rfl⟩
end Go.Proofs.YtnkdcecpbjhdmaaDoor.Dec
