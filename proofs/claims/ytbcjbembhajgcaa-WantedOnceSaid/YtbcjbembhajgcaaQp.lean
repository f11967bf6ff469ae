/-
  Taking all names yields each name that was added exactly once, in ascending order (WantedOnce): for every list of names.
-/
import Derived.Test.YtbcjbembhajgcaaQo
import Derived.Test.YtbcjbembhajgcaaQm
namespace Go.Proofs.Ytbcjbembhajgcaa.Once15
open Go.ChangeShapes Go.WideShapes Go.ChangeAt Go.RowKit Go.Proofs Go.Deep Go.Proofs.Ytbcjbembhajgcaa.Frame
set_option maxRecDepth 100000
theorem walk (W : World) (A : Option Addr) (n c : Nat) (l : List ByteArray) (h : Sls.Rd W W.heap.size A n l) (m : n ≤ c) (g : c ≤ maxLen) :
    Calls Try.prog 4 #[.slice A n c] W fun e w' => e = .returned (.bool true) ∧ Below W.heap.size W w' := Wnt.once_any W A n c l h m g
set_option maxRecDepth 100000 in
theorem proved : Rows.WantedOnceSaid :=
  OpenClaim.holds_of_wide 4 Try.f4 rfl rfl rfl rfl rfl rfl rfl ⟨rfl, rfl, rfl, rfl, rfl⟩ rfl rfl rfl rfl rfl (by kernel_rfl) Try.func4 (by kernel_rfl)
    (of_decide_eq_true (by kernel_rfl)) (by unfold Func.isWrapper; rw [if_neg (of_decide_eq_false (by kernel_rfl))]; exact ⟨rfl, rfl⟩)
    (fun os started H enc _ => lifted (started := started) (s := Rows.wantedOnceSpec) rfl
      (fun ds h => by match ds, h with | [_], _ => rfl) (by kernel_rfl)
      (by kernel_rfl) (by kernel_rfl) Try.func4
      (ChangeSpec.witness6 (enc := enc) (C := Try.checked) false ⟨#[], #[.slice none 0 0], []⟩ 8 (by kernel_rfl) (by kernel_rfl) (by kernel_rfl) (by kernel_rfl))
      (fun W base args ds p h => by
        obtain ⟨hval, hA, _⟩ := h
        rw [show Try.f4.params = #[26] from by kernel_rfl] at hA hval
        obtain ⟨v0, vs0, d0, ds0, p0, q0, hargs, rfl, rfl, k0, r0⟩ := trodAll_cons hA
        obtain ⟨rfl, rfl, rfl⟩ := trodAll_nil r0
        obtain rfl : args = #[v0] := by cases args; simp_all
        obtain ⟨A0, n0, c0, l0, rfl, h0, m0, g0⟩ := open_strs (hval 0 _ v0 rfl rfl) k0
        exact walk W A0 n0 c0 l0 h0 m0 g0))
#print axioms proved
end Go.Proofs.Ytbcjbembhajgcaa.Once15
