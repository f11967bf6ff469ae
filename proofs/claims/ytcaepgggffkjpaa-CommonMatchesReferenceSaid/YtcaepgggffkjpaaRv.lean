/-
  The layout, and the slot that is found, are those of the reference (CommonMatchesReference): for every list of resolutions and every name.
-/
import Derived.Test.YtcaepgggffkjpaaRg
import Derived.Test.YtcaepgggffkjpaaRt
namespace Go.Proofs.Ytcaepgggffkjpaa.Match16
open Go.ChangeShapes Go.WideShapes Go.ChangeAt Go.RowKit Go.Proofs Go.Deep Go.Proofs.Ytcaepgggffkjpaa.Frame
open Go.Proofs.Ytcaepgggffkjpaa.Bnd (Us)
open Go.Proofs.Ytcaepgggffkjpaa.Cmn (RdR)
set_option maxRecDepth 100000
theorem walk (W : World) (A : Option Addr) (n c : Nat) (xs : List Us) (h : RdR W W.heap.size A n xs) (_ : n ≤ c) (_ : c ≤ maxLen) (x : ByteArray) (_ : x.size ≤ maxLen) :
    Calls Try.prog 3 #[.slice A n c, .string x] W fun e w' => e = .returned (.bool true) ∧ Below W.heap.size W w' := Cmn.matches_any Cmn.pc16 W A n c xs x h
set_option maxRecDepth 100000 in
theorem proved : Rows.CommonMatchesReferenceSaid :=
  OpenClaim.holds_of_wide 3 Try.f3 rfl rfl rfl rfl rfl rfl rfl ⟨rfl, rfl, rfl, rfl, rfl⟩ rfl rfl rfl rfl rfl (by kernel_rfl) Try.func3 (by kernel_rfl)
    (of_decide_eq_true (by kernel_rfl)) (by unfold Func.isWrapper; rw [if_neg (of_decide_eq_false (by kernel_rfl))]; exact ⟨rfl, rfl⟩)
    (fun os started H enc _ => lifted (started := started) (s := Rows.commonMatchesReferenceSpec) rfl
      (fun ds h => by match ds, h with | [_, _], _ => rfl) (by kernel_rfl)
      (by kernel_rfl) (by kernel_rfl) Try.func3
      (ChangeSpec.witness6 (enc := enc) (C := Try.checked) false ⟨#[], #[.slice none 0 0, .string ⟨#[]⟩], []⟩ 8 (by kernel_rfl) (by kernel_rfl) (by kernel_rfl) (by kernel_rfl))
      (fun W base args ds p h => by
        obtain ⟨hval, hA, _⟩ := h
        rw [show Try.f3.params = #[22, 9] from by kernel_rfl] at hA hval
        obtain ⟨v0, vs0, d0, ds0, p0, q0, hargs, rfl, rfl, k0, r0⟩ := trodAll_cons hA
        obtain ⟨v1, vs1, d1, ds1, p1, q1, rfl, rfl, rfl, k1, r1⟩ := trodAll_cons r0
        obtain ⟨rfl, rfl, rfl⟩ := trodAll_nil r1
        obtain rfl : args = #[v0, v1] := by cases args; simp_all
        obtain ⟨A0, n0, c0, l0, rfl, h0, m0, g0⟩ := open_ress (hval 0 _ v0 rfl rfl) k0
        obtain ⟨a1, rfl, u1⟩ := open_str (hval 1 _ v1 rfl rfl) k1
        exact walk W A0 n0 c0 l0 h0 m0 g0 a1 u1))
#print axioms proved
end Go.Proofs.Ytcaepgggffkjpaa.Match16
