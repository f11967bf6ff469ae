/-
  armap's reference: Fits, Few, Same.
  armap's reference: Encode.
  armap's reference: Decode.
-/
import Derived.Test.YtpedngfmjhpojaaDoorZAa
namespace Go.Proofs.YtpedngfmjhpojaaDoor.Amp
open Go.RowKit Go.Proofs Go.Proofs.YtpedngfmjhpojaaDoor.Byt
open Go.Proofs.YtpedngfmjhpojaaDoor.Sls (Oth Fr blk)

theorem nmOk_len {s : ByteArray} : nmOk s.data.toList = true ↔ 0 < s.size ∧ (0 : UInt8) ∉ s.data.toList := by
  rw [nmOk_iff]
  have h := len_list s
  constructor
  · rintro ⟨h1, h2⟩
    exact ⟨by rw [← h]; exact List.length_pos_iff.2 h1, h2⟩
  · rintro ⟨h1, h2⟩
    exact ⟨List.length_pos_iff.1 (by rw [h]; exact h1), h2⟩

set_option maxRecDepth 100000 in
set_option maxHeartbeats 2000000 in
theorem rsameE_any (K : Nat) (A A' : Option Addr) (n c n' c' : Nat) (xs ys : List En) (w : World) (h : RdE w K A n xs) (h' : RdE w K A' n' ys) (hK : K ≤ w.heap.size) (hn : n ≤ 140737488355328) :
    Calls Tryd.prog 14 #[.slice A n c, .slice A' n' c'] w fun e w' => e = .returned (.bool (sameE xs ys)) ∧ Below w.heap.size w w' := by
  have Hl := hid h.1
  have Hl' := hid h'.1
  by_cases hne : n = n'
  · subst hne
    have hnb : ((n : Int) != (n : Int)) = false := by simp
    go_enter Tryd.func14, Tryd.ntmps14
    go_wp2_with fail
    go_loopw [5] (fun i W => ∃ k : Nat, i = .int .i64 (k : Int) ∧ k ≤ n ∧ Hid (sameE xs ys = sameE (xs.drop k) (ys.drop k)) ∧ Below w.heap.size w W) (fun i _ => n - (intOf i).toNat)
    case atStart => exact ⟨0, rfl, by omega, hid rfl, Below.refl _ _⟩
    case round =>
      obtain ⟨k, rfl, hk, hG, hb⟩ := hrel
      by_cases hlt : k < n
      · have hkl : k < xs.length := by have := Hl.out; omega
        have hkl' : k < ys.length := by have := Hl'.out; omega
        have hki : (k : Int) < (n : Int) := by omega
        have hR := h.below (hb.mono hK)
        have hR' := h'.below (hb.mono hK)
        obtain ⟨b, o, rfl, hbK, hcell⟩ := hR.2 k hkl
        obtain ⟨b', o', rfl, hbK', hcell'⟩ := hR'.2 k hkl'
        have HS : Hid (sameE (xs.drop k) (ys.drop k) = (xs[k].eq ys[k] && sameE (xs.drop (k + 1)) (ys.drop (k + 1)))) := hid (by rw [List.drop_eq_getElem_cons hkl, List.drop_eq_getElem_cons hkl']; rfl)
        generalize xs[k] = x at *
        generalize ys[k] = y at *
        obtain ⟨x0, x1⟩ := x
        obtain ⟨y0, y1⟩ := y
        obtain ⟨p0, p1⟩ := hcell
        obtain ⟨s0, s1⟩ := hcell'
        have hgd := guard_ent
        have hne := neq_ent
        cases hq : En.eq ⟨x0, x1⟩ ⟨y0, y1⟩
        · have HR : Hid (sameE xs ys = false) := hid (by rw [hG.out, HS.out, hq]; rfl)
          go_wp2_with fail
          go_quiet (fail)
          go_wp2_with fail
          go_ret
          exact ⟨ret_bool HR.out.symm, hb.trans ⟨rfl, rfl, rfl, Nat.le_refl _, fun _ _ => rfl⟩⟩
        · have HR : Hid (sameE xs ys = sameE (xs.drop (k + 1)) (ys.drop (k + 1))) := hid (by rw [hG.out, HS.out, hq]; rfl)
          go_wp2_with fail
          go_quiet (fail)
          go_wp2_with fail
          go_roundw
          · exact ⟨k + 1, by go_num, by omega, HR, hb.trans ⟨rfl, rfl, rfl, Nat.le_refl _, fun _ _ => rfl⟩⟩
          · simp [intOf]; omega
      · obtain rfl : k = n := by omega
        have HR : Hid (sameE xs ys = true) := hid (by rw [hG.out, List.drop_eq_nil_of_le (by have := Hl.out; omega), List.drop_eq_nil_of_le (by have := Hl'.out; omega)]; rfl)
        go_wp2_with fail
        go_ret
        exact ⟨ret_bool HR.out.symm, hb⟩
  · have hnb : ((n : Int) != (n' : Int)) = true := by simp; omega
    have HR : Hid (sameE xs ys = false) := hid (by
      cases h : sameE xs ys with
      | false => rfl
      | true => exact absurd (sameE_len h) (by rw [Hl.out, Hl'.out]; exact hne))
    go_enter Tryd.func14, Tryd.ntmps14
    go_wp2_with fail
    go_ret
    exact ⟨ret_bool HR.out.symm, Below.refl _ _⟩
end Go.Proofs.YtpedngfmjhpojaaDoor.Amp

namespace Go.Proofs.YtpedngfmjhpojaaDoor.Amp
open Go.RowKit Go.Proofs Go.Proofs.YtpedngfmjhpojaaDoor.Byt
open Go.Proofs.YtpedngfmjhpojaaDoor.Sls (Oth Fr blk)

/-- What Encode gives. -/
def outA (xs : List En) : List UInt8 := if fitA xs = true then encA xs else []
def errA (xs : List En) : Int := if fitA xs = true then 0 else 9
def EncsA (xs : List En) (w : World) (e : Ending) (w' : World) : Prop :=
  ∃ v, e = .returned (.tuple #[v, .int .i64 (errA xs)]) ∧ Byt.Own w' w.heap.size v (outA xs).length (outA xs) ∧ Below w.heap.size w w'
theorem EncsA.bad {xs : List En} {w w' : World} (h : fitA xs = false) (hb : Below w.heap.size w w') : EncsA xs w (.returned (.tuple #[.slice none 0 0, .int .i64 9])) w' := by
  have h1 : outA xs = [] := if_neg (by rw [h]; simp)
  have h2 : errA xs = 9 := if_neg (by rw [h]; simp)
  refine ⟨_, by rw [h2], ?_, hb⟩
  rw [h1]
  exact Byt.Own.nil _ _
theorem EncsA.good {xs : List En} {w w' : World} {v : Value} (h : fitA xs = true) (ho : Byt.Own w' w.heap.size v (encA xs).length (encA xs)) (hb : Below w.heap.size w w') : EncsA xs w (.returned (.tuple #[v, .int .i64 0])) w' := by
  have h1 : outA xs = encA xs := if_pos h
  have h2 : errA xs = 0 := if_pos h
  refine ⟨v, by rw [h2], ?_, hb⟩
  rw [h1]
  exact ho
theorem szN_le {m : Nat} : ∀ {l : List (List UInt8)}, (∀ s ∈ l, s.length ≤ m) → szN l ≤ l.length * (m + 1)
  | [], _ => by simp [szN]
  | s :: r, h => by
    have h1 := szN_le (l := r) fun t ht => h t (List.mem_cons_of_mem _ ht)
    have h2 := h s List.mem_cons_self
    have e : szN (s :: r) = (s.length + 1) + szN r := by simp [szN]
    rw [e, List.length_cons, Nat.succ_mul]
    omega
theorem szN_succ {xs : List En} {k : Nat} (hk : k < xs.length) : szN (nmsE (xs.take (k + 1))) = szN (nmsE (xs.take k)) + (xs[k].name.size + 1) := by
  rw [List.take_succ_eq_append_getElem hk]
  unfold szN nmsE
  rw [List.map_append, List.map_append, List.sum_append]
  simp

end Go.Proofs.YtpedngfmjhpojaaDoor.Amp

namespace Go.Proofs.YtpedngfmjhpojaaDoor.Amp
open Go.RowKit Go.Proofs Go.Proofs.YtpedngfmjhpojaaDoor.Byt
open Go.Proofs.YtpedngfmjhpojaaDoor.Sls (Oth Fr blk)

end Go.Proofs.YtpedngfmjhpojaaDoor.Amp
