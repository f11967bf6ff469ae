/-
  For every sequence of steps, the results of all methods of a worklist are those of the reference implementation (WantedMatchesReference): for every list of steps and every name.
-/
import Derived.Test.YtbcjbembhajgcaaQs
import Derived.Test.YtbcjbembhajgcaaQm
namespace Go.Proofs.Ytbcjbembhajgcaa.Match15
open Go.ChangeShapes Go.WideShapes Go.ChangeAt Go.RowKit Go.Proofs Go.Deep Go.Proofs.Ytbcjbembhajgcaa.Frame
set_option maxRecDepth 100000
theorem walk (W : World) (A : Option Addr) (n c : Nat) (l : List Wnt.Stp) (h : Wnt.RdSt W W.heap.size A n l) (z : Wnt.sumN (l.take 61) ≤ maxLen) (a : ByteArray) (_u : a.size ≤ maxLen) :
    Calls Try.prog 3 #[.slice A n c, .string a] W fun e w' => e = .returned (.bool true) ∧ Below W.heap.size W w' := Wnt.match_any W A n c l a h z
set_option maxRecDepth 100000 in
theorem proved : Rows.WantedMatchesReferenceSaid :=
  OpenClaim.holds_of_wide 3 Try.f3 rfl rfl rfl rfl rfl rfl rfl ⟨rfl, rfl, rfl, rfl, rfl⟩ rfl rfl rfl rfl rfl (by kernel_rfl) Try.func3 (by kernel_rfl)
    (of_decide_eq_true (by kernel_rfl)) (by unfold Func.isWrapper; rw [if_neg (of_decide_eq_false (by kernel_rfl))]; exact ⟨rfl, rfl⟩)
    (fun os started H enc _ => lifted_sized (started := started) (s := Rows.wantedMatchesReferenceSpec) rfl
      (fun ds h => by match ds, h with | [_, _], _ => rfl) (by kernel_rfl)
      (by kernel_rfl) (by kernel_rfl) Try.func3
      (ChangeSpec.witness6 (enc := enc) (C := Try.checked) false ⟨#[], #[.slice none 0 0, .string ⟨#[]⟩], []⟩ 8 (by kernel_rfl) (by kernel_rfl) (by kernel_rfl) (by kernel_rfl))
      (fun W base args ds p h hz => by
        obtain ⟨hval, hA, _⟩ := h
        rw [show Try.f3.params = #[22, 9] from by kernel_rfl] at hA hval hz
        obtain ⟨v0, vs0, d0, ds0, p0, q0, hargs, rfl, rfl, k0, r0⟩ := trodAll_cons hA
        obtain ⟨v1, vs1, d1, ds1, p1, q1, rfl, rfl, rfl, k1, r1⟩ := trodAll_cons r0
        obtain ⟨rfl, rfl, rfl⟩ := trodAll_nil r1
        obtain rfl : args = #[v0, v1] := by cases args; simp_all
        obtain ⟨A0, n0, c0, l0, rfl, h0, z0⟩ := open_steps (hval 0 _ v0 rfl rfl) k0 (hz 0 _ d0 rfl rfl)
        obtain ⟨a1, rfl, u1⟩ := open_str (hval 1 _ v1 rfl rfl) k1
        exact walk W A0 n0 c0 l0 h0 z0 a1 u1))
#print axioms proved
end Go.Proofs.Ytbcjbembhajgcaa.Match15
