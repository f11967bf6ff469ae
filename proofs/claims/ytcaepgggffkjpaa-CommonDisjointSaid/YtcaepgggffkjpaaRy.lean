/-
  Each common symbol has one slot, aligned, behind the one before it, within the section (CommonDisjoint): for every list of resolutions.
-/
import Derived.Test.YtcaepgggffkjpaaRj
import Derived.Test.YtcaepgggffkjpaaRt
namespace Go.Proofs.Ytcaepgggffkjpaa.Disj16
open Go.ChangeShapes Go.WideShapes Go.ChangeAt Go.RowKit Go.Proofs Go.Deep Go.Proofs.Ytcaepgggffkjpaa.Frame
open Go.Proofs.Ytcaepgggffkjpaa.Bnd (Us)
open Go.Proofs.Ytcaepgggffkjpaa.Cmn (RdR)
set_option maxRecDepth 100000
theorem walk (W : World) (A : Option Addr) (n c : Nat) (xs : List Us) (h : RdR W W.heap.size A n xs) (_ : n ≤ c) (_ : c ≤ maxLen) :
    Calls Try.prog 4 #[.slice A n c] W fun e w' => e = .returned (.bool true) ∧ Below W.heap.size W w' := Cmn.disjoint_any Cmn.pc16 W A n c xs h
set_option maxRecDepth 100000 in
theorem proved : Rows.CommonDisjointSaid :=
  OpenClaim.holds_of_wide 4 Try.f4 rfl rfl rfl rfl rfl rfl rfl ⟨rfl, rfl, rfl, rfl, rfl⟩ rfl rfl rfl rfl rfl (by kernel_rfl) Try.func4 (by kernel_rfl)
    (of_decide_eq_true (by kernel_rfl)) (by unfold Func.isWrapper; rw [if_neg (of_decide_eq_false (by kernel_rfl))]; exact ⟨rfl, rfl⟩)
    (fun os started H enc _ => lifted (started := started) (s := Rows.commonDisjointSpec) rfl
      (fun ds h => by match ds, h with | [_], _ => rfl) (by kernel_rfl)
      (by kernel_rfl) (by kernel_rfl) Try.func4
      (ChangeSpec.witness6 (enc := enc) (C := Try.checked) false ⟨#[], #[.slice none 0 0], []⟩ 8 (by kernel_rfl) (by kernel_rfl) (by kernel_rfl) (by kernel_rfl))
      (fun W base args ds p h => by
        obtain ⟨hval, hA, _⟩ := h
        rw [show Try.f4.params = #[22] from by kernel_rfl] at hA hval
        obtain ⟨v0, vs0, d0, ds0, p0, q0, hargs, rfl, rfl, k0, r0⟩ := trodAll_cons hA
        obtain ⟨rfl, rfl, rfl⟩ := trodAll_nil r0
        obtain rfl : args = #[v0] := by cases args; simp_all
        obtain ⟨A0, n0, c0, l0, rfl, h0, m0, g0⟩ := open_ress (hval 0 _ v0 rfl rfl) k0
        exact walk W A0 n0 c0 l0 h0 m0 g0))
#print axioms proved
end Go.Proofs.Ytcaepgggffkjpaa.Disj16
