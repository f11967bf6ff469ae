/-
  wanted's laws: what adding gives (mathematics); a list of names added at a law's world.
-/
import Derived.Test.YtbcjbembhajgcaaQj
import Derived.Test.YtbcjbembhajgcaaQl
namespace Go.Proofs.Ytbcjbembhajgcaa.Wnt
open Go.RowKit Go.Proofs Go.Proofs.Ytbcjbembhajgcaa.Byt
open Go.Proofs.Ytbcjbembhajgcaa.Tab (bl bl_iff bl_irrefl bl_trans bl_total putN mem_put Asc asc_put asc_eq tl_inj)

theorem addS_inv {p : List ByteArray × List ByteArray} (h : p.1.Perm p.2) (x : ByteArray) : (addS p x).1.Perm (addS p x).2 := by
  unfold addS
  split
  · exact h
  · rename_i hx
    have hx1 : x ∉ p.1 := fun e => hx (hasN_iff.2 (h.mem_iff.1 e))
    exact (put_perm hx1).trans ((h.cons x).trans (List.perm_append_singleton x p.2).symm)
theorem addA_inv {p : List ByteArray × List ByteArray} (h : p.1.Perm p.2) (xs : List ByteArray) : (addA p xs).1.Perm (addA p xs).2 := by
  induction xs generalizing p with
  | nil => exact h
  | cons x xs ih => exact ih (addS_inv h x)
theorem addS_mem (p : List ByteArray × List ByteArray) (x y : ByteArray) : y ∈ (addS p x).2 ↔ y ∈ p.2 ∨ y = x := by
  unfold addS
  split
  · rename_i h
    constructor
    · exact .inl
    · rintro (h1 | rfl)
      · exact h1
      · exact hasN_iff.1 h
  · simp
theorem addA_mem (p : List ByteArray × List ByteArray) (xs : List ByteArray) (y : ByteArray) : y ∈ (addA p xs).2 ↔ y ∈ p.2 ∨ y ∈ xs := by
  induction xs generalizing p with
  | nil => simp [addA]
  | cons x xs ih =>
    show y ∈ (addA (addS p x) xs).2 ↔ _
    rw [ih, addS_mem, List.mem_cons]
    constructor
    · rintro ((h | h) | h) <;> simp [h]
    · rintro (h | h | h) <;> simp [h]
theorem addA_asc' {p : List ByteArray × List ByteArray} (h : Asc p.1) (xs : List ByteArray) : Asc (addA p xs).1 := by
  induction xs generalizing p with
  | nil => exact h
  | cons x xs ih =>
    refine ih (p := addS p x) ?_
    unfold addS
    split
    · exact h
    · exact asc_put h
theorem addA_asc (xs : List ByteArray) : Asc (addA ([], []) xs).1 := addA_asc' (p := ([], [])) List.Pairwise.nil xs
theorem addA_all {p : List ByteArray × List ByteArray} {xs : List ByteArray} (h : ∀ x ∈ xs, x ∈ p.2) : addA p xs = p := by
  induction xs with
  | nil => rfl
  | cons x xs ih =>
    have e : addS p x = p := by
      unfold addS
      rw [if_pos (hasN_iff.2 (h x List.mem_cons_self))]
    show addA (addS p x) xs = p
    rw [e]
    exact ih fun y hy => h y (List.mem_cons_of_mem _ hy)
theorem Lst.asc {w : World} {K T : Nat} {F : Nat → Prop} {ws sn : List ByteArray} (h : Lst w K F T ws sn) : Asc ws := by
  obtain ⟨m, h⟩ := h.bd
  exact h.2.2.1
theorem Lst.below {w w' : World} {K T : Nat} {F : Nat → Prop} {ws sn : List ByteArray} (h : Lst w K F T ws sn) (hb : Below w.heap.size w w') : Lst w' K F T ws sn :=
  h.stay hb.size fun g hg => hb.block g (h.fr.1 g hg).2
/-- Names that lie below the worklist are added. -/
theorem add_old {w : World} {K T B : Nat} {F : Nat → Prop} {ws sn xs : List ByteArray} {A : Option Addr} {n c : Nat} (h : Lst w K F T ws sn) (hR : Sls.Rd w B A n xs) (hB : B ≤ K) (hn : ws.length + n ≤ 100000) (hs : sn.length + n ≤ 100000) :
    Calls Try.prog 10 #[.pointer (some ⟨T, 0, none⟩), .slice A n c] w fun e w' => e = .returned (.int .i64 (((addA (ws, sn) xs).2.length : Int) - (sn.length : Int))) ∧ LstP K F T (addA (ws, sn) xs).1 (addA (ws, sn) xs).2 w w' :=
  ladd_any h hR (Nat.le_trans hB h.le) (fun b o e h0 hF => by
    obtain ⟨b', o', e', hb, _⟩ := hR.2 0 (by rw [hR.1]; exact h0)
    rw [e] at e'
    injection e' with e'
    injection e' with e' _ _
    subst e'
    have := (h.fr.1 _ hF).1
    omega) hn hs
/-- The literal of one step. -/
theorem one_step {w : World} {L K n c : Nat} {A : Option Addr} {xs : List ByteArray} (h : w.heap[L]? = some (.cells #[.bool false, .slice A n c] 33 (0, 0))) (hr : Sls.Rd w K A n xs) (hL : L < K) (h1 : n ≤ c) (h2 : c ≤ maxLen) : RdSt w K (some ⟨L, 0, none⟩) 1 [⟨false, A, n, c, xs⟩] := by
  refine ⟨rfl, fun k hk => ?_⟩
  simp only [List.length_singleton] at hk
  obtain rfl : k = 0 := by omega
  exact ⟨L, 0, rfl, hL, by rw [cell_of_row w L (0 + 0 * 2) _ _ _ h]; rfl, by rw [cell_of_row w L (0 + 0 * 2 + 1) _ _ _ h]; rfl, hr, h1, h2⟩
theorem few_one {w : World} {K n c : Nat} {A : Option Addr} {xs : List ByteArray} (hr : Sls.Rd w K A n xs) (hK : K ≤ w.heap.size) (h1 : n ≤ c) (h2 : c ≤ maxLen) :
    Calls Try.prog 7 #[.slice (some ⟨w.heap.size, 0, none⟩) 1 1] (w.alloc (.cells #[.bool false, .slice A n c] 33)) (FewP 1 n (w.alloc (.cells #[.bool false, .slice A n c] 33))) := by
  have hR := (hr.below ((Below.refl K w).alloc hK (.cells #[.bool false, .slice A n c] 33))).more (Nat.le_succ_of_le hK)
  have h := rfew_any (w.heap.size + 1) (some ⟨w.heap.size, 0, none⟩) 1 1 [⟨false, A, n, c, xs⟩] _ (one_step (heap_alloc_new w _) hR (Nat.lt_succ_self _) h1 h2) (by show n + 0 ≤ maxLen; omega)
  exact h
end Go.Proofs.Ytbcjbembhajgcaa.Wnt
