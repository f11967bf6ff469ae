/-
  armap's reference: Fits, Few, Same.
  armap's reference: Encode.
  armap's reference: Decode.
-/
import Derived.Test.YtpedngfmjhpojaaGreatDoorYAa
namespace Go.Proofs.YtpedngfmjhpojaaGreatDoor.Amp
open Go.RowKit Go.Proofs Go.Proofs.YtpedngfmjhpojaaGreatDoor.Byt
open Go.Proofs.YtpedngfmjhpojaaGreatDoor.Sls (Oth Fr blk)

theorem nmOk_len {s : ByteArray} : nmOk s.data.toList = true ↔ 0 < s.size ∧ (0 : UInt8) ∉ s.data.toList := by
  rw [nmOk_iff]
  have h := len_list s
  constructor
  · rintro ⟨h1, h2⟩
    exact ⟨by rw [← h]; exact List.length_pos_iff.2 h1, h2⟩
  · rintro ⟨h1, h2⟩
    exact ⟨List.length_pos_iff.1 (by rw [h]; exact h1), h2⟩

set_option maxRecDepth 100000 in
set_option maxHeartbeats 2000000 in
theorem rsameE_any (K : Nat) (A A' : Option Addr) (n c n' c' : Nat) (xs ys : List En) (w : World) (h : RdE w K A n xs) (h' : RdE w K A' n' ys) (hK : K ≤ w.heap.size) (hn : n ≤ 140737488355328) :
    Calls Tryz.prog 14 #[.slice A n c, .slice A' n' c'] w fun e w' => e = .returned (.bool (sameE xs ys)) ∧ Below w.heap.size w w' := by
  have Hl := hid h.1
  have Hl' := hid h'.1
  by_cases hne : n = n'
  · subst hne
    have hnb : ((n : Int) != (n : Int)) = false := by simp
    go_enter Tryz.func14, Tryz.ntmps14
    go_wp2_with fail
    go_loopw [5] (fun i W => ∃ k : Nat, i = .int .i64 (k : Int) ∧ k ≤ n ∧ Hid (sameE xs ys = sameE (xs.drop k) (ys.drop k)) ∧ Below w.heap.size w W) (fun i _ => n - (intOf i).toNat)
    case atStart => exact ⟨0, rfl, by omega, hid rfl, Below.refl _ _⟩
    case round =>
      obtain ⟨k, rfl, hk, hG, hb⟩ := hrel
      by_cases hlt : k < n
      · have hkl : k < xs.length := by have := Hl.out; omega
        have hkl' : k < ys.length := by have := Hl'.out; omega
        have hki : (k : Int) < (n : Int) := by omega
        have hR := h.below (hb.mono hK)
        have hR' := h'.below (hb.mono hK)
        obtain ⟨b, o, rfl, hbK, hcell⟩ := hR.2 k hkl
        obtain ⟨b', o', rfl, hbK', hcell'⟩ := hR'.2 k hkl'
        have HS : Hid (sameE (xs.drop k) (ys.drop k) = (xs[k].eq ys[k] && sameE (xs.drop (k + 1)) (ys.drop (k + 1)))) := hid (by rw [List.drop_eq_getElem_cons hkl, List.drop_eq_getElem_cons hkl']; rfl)
        generalize xs[k] = x at *
        generalize ys[k] = y at *
        obtain ⟨x0, x1⟩ := x
        obtain ⟨y0, y1⟩ := y
        obtain ⟨p0, p1⟩ := hcell
        obtain ⟨s0, s1⟩ := hcell'
        have hgd := guard_ent
        have hne := neq_ent
        cases hq : En.eq ⟨x0, x1⟩ ⟨y0, y1⟩
        · have HR : Hid (sameE xs ys = false) := hid (by rw [hG.out, HS.out, hq]; rfl)
          go_wp2_with fail
          go_quiet (fail)
          go_wp2_with fail
          go_ret
          exact ⟨ret_bool HR.out.symm, hb.trans ⟨rfl, rfl, rfl, Nat.le_refl _, fun _ _ => rfl⟩⟩
        · have HR : Hid (sameE xs ys = sameE (xs.drop (k + 1)) (ys.drop (k + 1))) := hid (by rw [hG.out, HS.out, hq]; rfl)
          go_wp2_with fail
          go_quiet (fail)
          go_wp2_with fail
          go_roundw
          · exact ⟨k + 1, by go_num, by omega, HR, hb.trans ⟨rfl, rfl, rfl, Nat.le_refl _, fun _ _ => rfl⟩⟩
          · simp [intOf]; omega
      · obtain rfl : k = n := by omega
        have HR : Hid (sameE xs ys = true) := hid (by rw [hG.out, List.drop_eq_nil_of_le (by have := Hl.out; omega), List.drop_eq_nil_of_le (by have := Hl'.out; omega)]; rfl)
        go_wp2_with fail
        go_ret
        exact ⟨ret_bool HR.out.symm, hb⟩
  · have hnb : ((n : Int) != (n' : Int)) = true := by simp; omega
    have HR : Hid (sameE xs ys = false) := hid (by
      cases h : sameE xs ys with
      | false => rfl
      | true => exact absurd (sameE_len h) (by rw [Hl.out, Hl'.out]; exact hne))
    go_enter Tryz.func14, Tryz.ntmps14
    go_wp2_with fail
    go_ret
    exact ⟨ret_bool HR.out.symm, Below.refl _ _⟩
end Go.Proofs.YtpedngfmjhpojaaGreatDoor.Amp

namespace Go.Proofs.YtpedngfmjhpojaaGreatDoor.Amp
open Go.RowKit Go.Proofs Go.Proofs.YtpedngfmjhpojaaGreatDoor.Byt
open Go.Proofs.YtpedngfmjhpojaaGreatDoor.Sls (Oth Fr blk)

/-- What Encode gives. -/
def outA (xs : List En) : List UInt8 := if fitA xs = true then encA xs else []
def errA (xs : List En) : Int := if fitA xs = true then 0 else 9
def EncsA (xs : List En) (w : World) (e : Ending) (w' : World) : Prop :=
  ∃ v, e = .returned (.tuple #[v, .int .i64 (errA xs)]) ∧ Byt.Own w' w.heap.size v (outA xs).length (outA xs) ∧ Below w.heap.size w w'
theorem EncsA.bad {xs : List En} {w w' : World} (h : fitA xs = false) (hb : Below w.heap.size w w') : EncsA xs w (.returned (.tuple #[.slice none 0 0, .int .i64 9])) w' := by
  have h1 : outA xs = [] := if_neg (by rw [h]; simp)
  have h2 : errA xs = 9 := if_neg (by rw [h]; simp)
  refine ⟨_, by rw [h2], ?_, hb⟩
  rw [h1]
  exact Byt.Own.nil _ _
theorem EncsA.good {xs : List En} {w w' : World} {v : Value} (h : fitA xs = true) (ho : Byt.Own w' w.heap.size v (encA xs).length (encA xs)) (hb : Below w.heap.size w w') : EncsA xs w (.returned (.tuple #[v, .int .i64 0])) w' := by
  have h1 : outA xs = encA xs := if_pos h
  have h2 : errA xs = 0 := if_pos h
  refine ⟨v, by rw [h2], ?_, hb⟩
  rw [h1]
  exact ho
theorem szN_le {m : Nat} : ∀ {l : List (List UInt8)}, (∀ s ∈ l, s.length ≤ m) → szN l ≤ l.length * (m + 1)
  | [], _ => by simp [szN]
  | s :: r, h => by
    have h1 := szN_le (l := r) fun t ht => h t (List.mem_cons_of_mem _ ht)
    have h2 := h s List.mem_cons_self
    have e : szN (s :: r) = (s.length + 1) + szN r := by simp [szN]
    rw [e, List.length_cons, Nat.succ_mul]
    omega
theorem szN_succ {xs : List En} {k : Nat} (hk : k < xs.length) : szN (nmsE (xs.take (k + 1))) = szN (nmsE (xs.take k)) + (xs[k].name.size + 1) := by
  rw [List.take_succ_eq_append_getElem hk]
  unfold szN nmsE
  rw [List.map_append, List.map_append, List.sum_append]
  simp

end Go.Proofs.YtpedngfmjhpojaaGreatDoor.Amp

namespace Go.Proofs.YtpedngfmjhpojaaGreatDoor.Amp
open Go.RowKit Go.Proofs Go.Proofs.YtpedngfmjhpojaaGreatDoor.Byt
open Go.Proofs.YtpedngfmjhpojaaGreatDoor.Sls (Oth Fr blk)

/-- What Decode gives. -/
def decE (l : List UInt8) : List En := (decA l).getD []
def decZ (l : List UInt8) : Int := if (decA l).isSome = true then 0 else 8
def DecsA (l : List UInt8) (w : World) (e : Ending) (w' : World) : Prop :=
  ∃ A n c, e = .returned (.tuple #[.slice A n c, .int .i64 (decZ l)]) ∧ Cel.Own 51 2 w' w.heap.size (.slice A n c) n (ecells (decE l)) ∧ Below w.heap.size w w'
theorem DecsA.bad {l : List UInt8} {w w' : World} (h : decA l = none) (hb : Below w.heap.size w w') : DecsA l w (.returned (.tuple #[.slice none 0 0, .int .i64 8])) w' := by
  have h1 : decE l = [] := by unfold decE; rw [h]; rfl
  have h2 : decZ l = 8 := by unfold decZ; rw [h]; rfl
  refine ⟨none, 0, 0, by rw [h2], ?_, hb⟩
  rw [h1]
  exact Cel.Own.nil _ _ _ _
theorem DecsA.good {l : List UInt8} {xs : List En} {w w' : World} {A : Option Addr} {n c : Nat} (h : decA l = some xs) (ho : Cel.Own 51 2 w' w.heap.size (.slice A n c) n (ecells xs)) (hb : Below w.heap.size w w') : DecsA l w (.returned (.tuple #[.slice A n c, .int .i64 0])) w' := by
  have h1 : decE l = xs := by unfold decE; rw [h]; rfl
  have h2 : decZ l = 0 := by unfold decZ; rw [h]; rfl
  refine ⟨A, n, c, by rw [h2], ?_, hb⟩
  rw [h1]
  exact ho
theorem mkE_snoc (l : List UInt8) : ∀ (a : List (List UInt8)) (i : Nat) (s : List UInt8), mkE l i (a ++ [s]) = mkE l i a ++ [⟨str s, (n4 (l.drop (4 + 4 * (i + a.length))) : Int)⟩]
  | [], i, s => by simp [mkE]
  | t :: a, i, s => by
    rw [List.cons_append, mkE, mkE_snoc l a (i + 1) s, mkE, List.length_cons, show i + 1 + a.length = i + (a.length + 1) by omega]
    rfl
theorem nm1_at {l : List UInt8} {p q : Nat} (hp : p ≤ q) (hq : q < l.length) (h0 : (0 : UInt8) ∉ (l.drop p).take (q - p)) (hz : l[q] = 0) : nm1 (l.drop p) = (l.drop p).take (q - p) ∧ l.drop p = (l.drop p).take (q - p) ++ ([0] ++ l.drop (q + 1)) := by
  have e : l.drop p = (l.drop p).take (q - p) ++ ([0] ++ l.drop (q + 1)) := by
    conv => lhs; rw [← List.take_append_drop (q - p) (l.drop p)]
    rw [List.drop_drop, show p + (q - p) = q by omega, List.drop_eq_getElem_cons hq, hz]
    rfl
  refine ⟨?_, e⟩
  conv => lhs; rw [e]
  exact nm1_app h0 _
theorem decA_big {l : List UInt8} (h : l.length < 4 ∨ l.length < 4 + 4 * n4 l) : decA l = none := by
  unfold decA
  rcases h with h | h
  · rw [if_pos h]
  · split
    · rfl
    · first | rfl | rw [if_pos h]
end Go.Proofs.YtpedngfmjhpojaaGreatDoor.Amp
