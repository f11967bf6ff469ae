/-
  bind: symbols of units in memory; the reference's first and Right.
-/
import Derived.Test.YtechacnflegliaaDoorYBh
namespace Go.Proofs.YtechacnflegliaaDoor.Bnd
open Go.RowKit Go.Proofs Go.Proofs.YtechacnflegliaaDoor.Byt
open Go.Proofs.YtechacnflegliaaDoor.Obj (Sy)
open Go.Proofs.YtechacnflegliaaDoor.Arp (RdI)

/-- The five cells of a symbol of a unit. -/
def ucell (x : Us) : List Value := [.string x.s.name, .int .i64 x.s.bind, .int .i64 x.s.size, .int .i64 x.s.align, .int .i64 x.u]
def ucells : List Us → List Value
  | [] => []
  | x :: r => ucell x ++ ucells r
theorem ucells_append : ∀ a b : List Us, ucells (a ++ b) = ucells a ++ ucells b
  | [], b => rfl
  | x :: r, b => by rw [List.cons_append, ucells, ucells_append r b, ucells, List.append_assoc]
theorem ucells_length : ∀ a : List Us, (ucells a).length = a.length * 5
  | [] => rfl
  | x :: r => by rw [ucells, List.length_append, ucells_length r, List.length_cons]; simp [ucell]; omega
theorem ucells_at : ∀ (a : List Us) (k : Nat) (h : k < a.length) (j : Nat), j < 5 → (ucells a)[k * 5 + j]? = (ucell a[k])[j]?
  | x :: r, 0, _, j, hj => by
    rw [ucells, Nat.zero_mul, Nat.zero_add, List.getElem?_append_left (by simp [ucell]; exact hj)]; rfl
  | x :: r, k + 1, h, j, hj => by
    rw [ucells, List.getElem?_append_right (by simp [ucell]; omega)]
    have e : (k + 1) * 5 + j - (ucell x).length = k * 5 + j := by simp [ucell]; omega
    rw [e, ucells_at r k (by simpa using h) j hj]
    rfl
theorem ucells_one : ∀ {xs : List Us}, ∀ v ∈ ucells xs, v.oneCell' = true
  | [], v, h => by cases h
  | x :: r, v, h => by
    rw [ucells] at h
    rcases List.mem_append.1 h with h | h
    · simp [ucell] at h
      rcases h with rfl | rfl | rfl | rfl | rfl <;> rfl
    · exact ucells_one v h
theorem kU : Cel.Kind 22 39 5 48 (.agg #[.string ⟨#[]⟩, .int .i64 0, .int .i64 0, .int .i64 0, .int .i64 0]) := ⟨by kernel_rfl, by kernel_rfl, by kernel_rfl, by decide⟩
def RdU (w : World) (K : Nat) (A : Option Addr) (n : Nat) (xs : List Us) : Prop :=
  xs.length = n ∧ ∀ k (h : k < xs.length), ∃ b o : Nat, A = some ⟨b, o, none⟩ ∧ b < K ∧ w.rangeAt b (o + k * 5) (ucell xs[k])
theorem RdU.below {w w' : World} {K n : Nat} {A : Option Addr} {xs : List Us} (h : RdU w K A n xs) (hb : Below K w w') : RdU w' K A n xs :=
  ⟨h.1, fun k hk => by
    obtain ⟨b, o, e, hl, hc⟩ := h.2 k hk
    exact ⟨b, o, e, hl, fun j v hv => (hb.cell (p := ⟨b, o + k * 5 + j, none⟩) hl).trans (hc j v hv)⟩⟩
theorem RdU.more {w : World} {K K' n : Nat} {A : Option Addr} {xs : List Us} (h : RdU w K A n xs) (hK : K ≤ K') : RdU w K' A n xs :=
  ⟨h.1, fun k hk => by
    obtain ⟨b, o, e, hl, hc⟩ := h.2 k hk
    exact ⟨b, o, e, by omega, hc⟩⟩
theorem RdU.nil (w : World) (K : Nat) (A : Option Addr) : RdU w K A 0 [] := ⟨rfl, fun k hk => absurd hk (by simp)⟩
theorem RdU.cel {w : World} {K n : Nat} {A : Option Addr} {xs : List Us} (h : RdU w K A n xs) : Cel.Rd w K A n 5 (ucells xs) := by
  refine ⟨by rw [ucells_length, h.1], fun j hj => ?_⟩
  rw [ucells_length] at hj
  have hq : j / 5 < xs.length := by omega
  obtain ⟨b, o, e, hb, hc⟩ := h.2 (j / 5) hq
  refine ⟨b, o, e, hb, ?_⟩
  have hm := ucells_at xs (j / 5) hq (j % 5) (Nat.mod_lt _ (by omega))
  have ej : j / 5 * 5 + j % 5 = j := by omega
  rw [ej, List.getElem?_eq_getElem (by rw [ucells_length]; omega)] at hm
  have := hc (j % 5) _ hm.symm
  rw [show o + j / 5 * 5 + j % 5 = o + j by omega] at this
  exact this
theorem rdu_of {w : World} {K n : Nat} {A : Option Addr} {xs : List Us} (h : Cel.Rd w K A n 5 (ucells xs)) : RdU w K A n xs := by
  have hl : xs.length = n := by have := h.1; rw [ucells_length] at this; omega
  refine ⟨hl, fun k hk => ?_⟩
  obtain ⟨b, o, e, hb, _⟩ := h.2 (k * 5) (by rw [ucells_length]; omega)
  refine ⟨b, o, e, hb, fun j v hv => ?_⟩
  have hj : j < 5 := (List.getElem?_eq_some_iff.1 hv).1
  have hm := ucells_at xs k hk j hj
  rw [hv] at hm
  obtain ⟨hj', e2⟩ := List.getElem?_eq_some_iff.1 hm
  obtain ⟨b', o', e', _, hc⟩ := h.2 (k * 5 + j) hj'
  rw [e] at e'
  injection e' with e'
  injection e' with e1 e3
  subst e1 e3
  rw [Nat.add_assoc, hc, e2]
theorem RdU.pre {w : World} {K n m : Nat} {A : Option Addr} {xs : List Us} (h : RdU w K A n xs) (hm : m ≤ n) : RdU w K A m (xs.take m) := by
  refine ⟨by rw [List.length_take, h.1]; omega, fun j hj => ?_⟩
  rw [List.length_take] at hj
  rw [List.getElem_take]
  exact h.2 j (by omega)
/-- The cells of one symbol. -/
theorem RdU.at_ {w : World} {K n : Nat} {A : Option Addr} {xs : List Us} (h : RdU w K A n xs) {k : Nat} (hk : k < xs.length) : ∃ b o : Nat, A = some ⟨b, o, none⟩ ∧ b < K ∧
    w.cell? ⟨b, o + k * 5, none⟩ = some (.string xs[k].s.name) ∧ w.cell? ⟨b, o + k * 5 + 1, none⟩ = some (.int .i64 xs[k].s.bind) ∧ w.cell? ⟨b, o + k * 5 + 2, none⟩ = some (.int .i64 xs[k].s.size) ∧ w.cell? ⟨b, o + k * 5 + 3, none⟩ = some (.int .i64 xs[k].s.align) ∧ w.cell? ⟨b, o + k * 5 + 4, none⟩ = some (.int .i64 xs[k].u) := by
  obtain ⟨b, o, e, hb, hc⟩ := h.2 k hk
  exact ⟨b, o, e, hb, hc 0 _ rfl, hc 1 _ rfl, hc 2 _ rfl, hc 3 _ rfl, hc 4 _ rfl⟩

set_option maxRecDepth 100000 in
set_option maxHeartbeats 1000000 in
theorem first_any (K : Nat) (A : Option Addr) (n c : Nat) (xs : List Us) (b : Int) (w : World) (h : RdU w K A n xs) (hn : n ≤ 140737488355328) :
    Calls Tryd.prog 22 #[.slice A n c, .int .i64 b] w fun e w' => e = .returned (.int .i64 (fsI xs b)) ∧ w = w' := by
  have Hl := hid h.1
  go_enter Tryd.func22, Tryd.ntmps22
  go_wp2_with fail
  go_loop [5] (fun i => ∃ k : Nat, i = .int .i64 (k : Int) ∧ k ≤ n ∧ Hid (∀ j, j < k → ∀ hj : j < xs.length, xs[j].s.bind ≠ b)) (fun i => n - (intOf i).toNat)
  case atStart => exact ⟨0, rfl, by omega, hid (fun j hj => absurd hj (Nat.not_lt_zero _))⟩
  case round =>
    obtain ⟨k, rfl, hk, hG⟩ := hrel
    by_cases hlt : k < n
    · have hkl : k < xs.length := by have := Hl.out; omega
      have hki : (k : Int) < (n : Int) := by omega
      obtain ⟨b0, o, rfl, _, _, p1, _⟩ := h.at_ hkl
      have HH := hid (fsI_hit hkl hG.out)
      have HG2 : Hid (xs[k].s.bind ≠ b → ∀ j, j < k + 1 → ∀ hj : j < xs.length, xs[j].s.bind ≠ b) := hid (fun hne j hj hjl => by
        by_cases e : j = k
        · subst e; exact hne
        · exact hG.out j (by omega) hjl)
      generalize xs[k].s.bind = y at *
      by_cases hy : y = b
      · subst hy
        have HR := hid (HH.out rfl)
        clear HH HG2
        go_wp2_with fail
        go_ret
        exact ⟨ret_int HR.out.symm, rfl⟩
      · have HR := hid (HG2.out hy)
        have hyb : (y == b) = false := by simpa using hy
        clear HH HG2 hy
        go_wp2_with fail
        go_round
        case rel => exact ⟨k + 1, by go_num, by omega, HR⟩
        case measure => simp [intOf]; omega
    · obtain rfl : k = n := by omega
      have hki : ¬ (k : Int) < (k : Int) := by omega
      have HR := hid (fsI_miss (l := xs) (b := b) fun j hj => hG.out j (by have := Hl.out; omega) hj)
      go_wp2_with fail
      go_ret
      exact ⟨ret_int HR.out.symm, rfl⟩
set_option maxRecDepth 100000 in
set_option maxHeartbeats 2000000 in
theorem right_any (K : Nat) (A : Option Addr) (n c : Nat) (xs : List Us) (w : World) (h : RdU w K A n xs) (hK : K ≤ w.heap.size) :
    Calls Tryd.prog 8 #[.slice A n c] w fun e w' => e = .returned (.bool (rightL xs)) ∧ Below w.heap.size w w' := by
  have Hl := hid h.1
  by_cases h50 : 50 < n
  · have h50i : (50 : Int) < (n : Int) := by omega
    have HR : Hid (rightL xs = false) := hid (by
      cases hq : rightL xs with
      | false => rfl
      | true => have := (rightL_iff.1 hq).1; have := Hl.out; omega)
    go_enter Tryd.func8, Tryd.ntmps8
    go_wp2_with fail
    go_ret
    exact ⟨ret_bool HR.out.symm, Below.refl _ _⟩
  · have h50i : ¬ (50 : Int) < (n : Int) := by omega
    go_enter Tryd.func8, Tryd.ntmps8
    go_wp2_with fail
    go_loopw [3] (fun i W => ∃ k : Nat, i = .int .i64 (k : Int) ∧ k ≤ n ∧ Hid (∀ x ∈ xs.take k, uOk x = true) ∧ Below w.heap.size w W) (fun i _ => n - (intOf i).toNat)
    case atStart => exact ⟨0, rfl, by omega, hid (by simp), Below.refl _ _⟩
    case round =>
      obtain ⟨k, rfl, hk, hG, hb⟩ := hrel
      by_cases hlt : k < n
      · have hkl : k < xs.length := by have := Hl.out; omega
        have hki : (k : Int) < (n : Int) := by omega
        obtain ⟨b0, o, rfl, hbK, p0, p1, p2, p3, p4⟩ := (h.below (hb.mono hK)).at_ hkl
        have hb0 : b0 < wr.heap.size := by have := hb.size; omega
        have HU : Hid (uOk xs[k] = (decide (1 ≤ xs[k].s.bind) && (decide (xs[k].s.bind ≤ 5) && (decide (0 ≤ xs[k].s.size) && (decide (0 ≤ xs[k].s.align) && decide (0 ≤ xs[k].u)))))) := hid rfl
        have HF : Hid (uOk xs[k] = false → rightL xs = false) := hid (fun hx => by
          cases hq : rightL xs with
          | false => rfl
          | true => rw [(rightL_iff.1 hq).2 _ (List.getElem_mem hkl)] at hx; cases hx)
        have HT : Hid (uOk xs[k] = true → ∀ x ∈ xs.take (k + 1), uOk x = true) := hid (fun hx y hy => by
          rw [List.take_succ_eq_append_getElem hkl] at hy
          rcases List.mem_append.1 hy with hy | hy
          · exact hG.out y hy
          · rw [List.mem_singleton.1 hy]; exact hx)
        generalize xs[k] = x at *
        have HB := hid hb
        clear hb
        obtain ⟨⟨x0, x1, x2, x3⟩, x4⟩ := x
        simp only at *
        by_cases h1 : x1 < 1
        case pos =>
          have HR := hid (HF.out (by rw [HU.out, decide_eq_false (by omega)]; rfl))
          clear HU HF HT
          go_wp2_with fail
          go_ret
          exact ⟨ret_bool HR.out.symm, HB.out.alloc HB.out.size _⟩
        by_cases h5 : 5 < x1
        case pos =>
          have h1' : decide (x1 < 1) = false := by simpa using h1
          have HR := hid (HF.out (by rw [HU.out, decide_eq_false (show ¬ x1 ≤ 5 by omega)]; simp))
          clear HU HF HT
          go_wp2_with fail
          go_ret
          exact ⟨ret_bool HR.out.symm, HB.out.alloc HB.out.size _⟩
        by_cases h2 : x2 < 0
        case pos =>
          have HR := hid (HF.out (by rw [HU.out, decide_eq_false (show ¬ 0 ≤ x2 by omega)]; simp))
          clear HU HF HT
          go_wp2_with fail
          go_ret
          exact ⟨ret_bool HR.out.symm, HB.out.alloc HB.out.size _⟩
        by_cases h3 : x3 < 0
        case pos =>
          have HR := hid (HF.out (by rw [HU.out, decide_eq_false (show ¬ 0 ≤ x3 by omega)]; simp))
          clear HU HF HT
          go_wp2_with fail
          go_ret
          exact ⟨ret_bool HR.out.symm, HB.out.alloc HB.out.size _⟩
        by_cases h4 : x4 < 0
        case pos =>
          have HR := hid (HF.out (by rw [HU.out, decide_eq_false (show ¬ 0 ≤ x4 by omega)]; simp))
          clear HU HF HT
          go_wp2_with fail
          go_ret
          exact ⟨ret_bool HR.out.symm, HB.out.alloc HB.out.size _⟩
        have HR := hid (HT.out (by rw [HU.out]; simp; omega))
        clear HU HF HT
        go_wp2_with fail
        go_roundw
        · exact ⟨k + 1, by go_num, by omega, HR, HB.out.alloc HB.out.size _⟩
        · simp [intOf]; omega
      · obtain rfl : k = n := by omega
        have hki : ¬ (k : Int) < (k : Int) := by omega
        have HR : Hid (rightL xs = true) := hid (rightL_iff.2 ⟨by have := Hl.out; omega, fun x hx => hG.out x (by rw [List.take_of_length_le (by have := Hl.out; omega)]; exact hx)⟩)
        go_wp2_with fail
        go_ret
        exact ⟨ret_bool HR.out.symm, hb⟩
end Go.Proofs.YtechacnflegliaaDoor.Bnd
