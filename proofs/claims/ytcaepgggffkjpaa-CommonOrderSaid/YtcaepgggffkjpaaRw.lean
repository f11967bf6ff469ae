/-
  The layout does not depend on the order of the resolutions (CommonOrder): for every list of resolutions and every turn of it.
-/
import Derived.Test.YtcaepgggffkjpaaRh
import Derived.Test.YtcaepgggffkjpaaRt
namespace Go.Proofs.Ytcaepgggffkjpaa.Order16
open Go.ChangeShapes Go.WideShapes Go.ChangeAt Go.RowKit Go.Proofs Go.Deep Go.Proofs.Ytcaepgggffkjpaa.Frame
open Go.Proofs.Ytcaepgggffkjpaa.Bnd (Us)
open Go.Proofs.Ytcaepgggffkjpaa.Cmn (RdR)
set_option maxRecDepth 100000
theorem walk (W : World) (A : Option Addr) (n c : Nat) (xs : List Us) (h : RdR W W.heap.size A n xs) (m : n ≤ c) (_ : c ≤ maxLen) (a : Nat) (u : a < 256) :
    Calls Try.prog 5 #[.slice A n c, .int .u8 (a : Int)] W fun e w' => e = .returned (.bool true) ∧ Below W.heap.size W w' := Cmn.order_any Cmn.pc16 W A n c xs a h m u
set_option maxRecDepth 100000 in
theorem proved : Rows.CommonOrderSaid :=
  OpenClaim.holds_of_wide 5 Try.f5 rfl rfl rfl rfl rfl rfl rfl ⟨rfl, rfl, rfl, rfl, rfl⟩ rfl rfl rfl rfl rfl (by kernel_rfl) Try.func5 (by kernel_rfl)
    (of_decide_eq_true (by kernel_rfl)) (by unfold Func.isWrapper; rw [if_neg (of_decide_eq_false (by kernel_rfl))]; exact ⟨rfl, rfl⟩)
    (fun os started H enc _ => lifted (started := started) (s := Rows.commonOrderSpec) rfl
      (fun ds h => by match ds, h with | [_, _], _ => rfl) (by kernel_rfl)
      (by kernel_rfl) (by kernel_rfl) Try.func5
      (ChangeSpec.witness6 (enc := enc) (C := Try.checked) false ⟨#[], #[.slice none 0 0, .int .u8 0], []⟩ 8 (by kernel_rfl) (by kernel_rfl) (by kernel_rfl) (by kernel_rfl))
      (fun W base args ds p h => by
        obtain ⟨hval, hA, _⟩ := h
        rw [show Try.f5.params = #[22, 5] from by kernel_rfl] at hA hval
        obtain ⟨v0, vs0, d0, ds0, p0, q0, hargs, rfl, rfl, k0, r0⟩ := trodAll_cons hA
        obtain ⟨v1, vs1, d1, ds1, p1, q1, rfl, rfl, rfl, k1, r1⟩ := trodAll_cons r0
        obtain ⟨rfl, rfl, rfl⟩ := trodAll_nil r1
        obtain rfl : args = #[v0, v1] := by cases args; simp_all
        obtain ⟨A0, n0, c0, l0, rfl, h0, m0, g0⟩ := open_ress (hval 0 _ v0 rfl rfl) k0
        obtain ⟨a1, rfl, u1⟩ := open_u8 (hval 1 _ v1 rfl rfl) k1
        exact walk W A0 n0 c0 l0 h0 m0 g0 a1 u1))
#print axioms proved
end Go.Proofs.Ytcaepgggffkjpaa.Order16
