/-
  EditInverse: deleting a member that was inserted at any place restores the list; deleting and inserting it again before its successor does too. For every input: no condition.
-/
import Derived.Test.YtijggpahijhpeaaZEyh
import Derived.Test.YtijggpahijhpeaaZEp
namespace Go.Proofs.Ytijggpahijhpeaa.Inve10
open Go.ChangeShapes Go.WideShapes Go.ChangeAt Go.RowKit Go.Proofs Go.Proofs.Ytijggpahijhpeaa.Byt Go.Proofs.Ytijggpahijhpeaa.Edt Go.Proofs.Ytijggpahijhpeaa.Frame

theorem walk (w : World) (A : Option Addr) (n c : Nat) (xs : List Arp.Mem) (h : Arw.RdM0 w w.heap.size A n xs) (hnc : n ≤ c) (hcm : c ≤ maxLen) (hB : ∀ x ∈ xs, Frame.MB x) (m : Arp.Mem) (hm : Byt.Rd w w.heap.size m.ptr m.len m.data) (gm : Frame.MB m) (z : Int) (a : ByteArray) (_ua : a.size ≤ maxLen) (lz : -9223372036854775808 ≤ z) (uz : z < 9223372036854775808) :
    Calls Try.prog 6 #[.slice A n c, m.val, plaV z a] w fun e w' => e = .returned (.bool true) ∧ Below w.heap.size w w' :=
  inverse10 pc10 w A n c xs h hnc hcm hB m hm gm z a lz uz
set_option maxRecDepth 100000 in
theorem proved : Rows.EditInverseSaid :=
  OpenClaim.holds_of_wide 6 Try.f6 rfl rfl rfl rfl rfl rfl rfl ⟨rfl, rfl, rfl, rfl, rfl⟩ rfl rfl rfl rfl rfl (by kernel_rfl) Try.func6 (by kernel_rfl)
    (of_decide_eq_true (by kernel_rfl)) (by unfold Func.isWrapper; rw [if_neg (of_decide_eq_false (by kernel_rfl))]; exact ⟨rfl, rfl⟩)
    (fun os started H enc _ => lifted (started := started) (s := Rows.editInverseSpec) rfl
      (fun ds h => by match ds, h with | [_, _, _], _ => rfl) (by kernel_rfl)
      (by kernel_rfl) (by kernel_rfl) Try.func6
      (ChangeSpec.witness6 (enc := enc) (C := Try.checked) false ⟨#[], #[.slice none 0 0, .agg #[.string ⟨#[]⟩, .int .i64 0, .int .i64 0, .int .i64 0, .int .i64 0, .slice none 0 0], .agg #[.int .i64 0, .string ⟨#[]⟩]], []⟩ 8 (by kernel_rfl) (by kernel_rfl) (by kernel_rfl) (by kernel_rfl))
      (fun W base args ds p h => by
        obtain ⟨hval, hA, _⟩ := h
        rw [show Try.f6.params = #[22, 25, 27] from by kernel_rfl] at hA hval
        obtain ⟨v0, vs0, d0, ds0, p0, q0, hargs, rfl, rfl, k0, r0⟩ := trodAll_cons hA
        obtain ⟨v1, vs1, d1, ds1, p1, q1, rfl, rfl, rfl, k1, r1⟩ := trodAll_cons r0
        obtain ⟨v2, vs2, d2, ds2, p2, q2, rfl, rfl, rfl, k2, r2⟩ := trodAll_cons r1
        obtain ⟨rfl, rfl, rfl⟩ := trodAll_nil r2
        obtain rfl : args = #[v0, v1, v2] := by cases args; simp_all
        obtain ⟨A0, n0, c0, l0, rfl, h0, m0, g0, s0⟩ := open_mems (hval 0 _ v0 rfl rfl) k0
        obtain ⟨m1, rfl, h1, g1⟩ := open_memb (hval 1 _ v1 rfl rfl) k1
        obtain ⟨a2, s2, rfl, z2, l2, u2⟩ := open_place (hval 2 _ v2 rfl rfl) k2
        exact walk W A0 n0 c0 l0 h0 m0 g0 s0 m1 h1 g1 a2 s2 z2 l2 u2))
#print axioms proved
end Go.Proofs.Ytijggpahijhpeaa.Inve10
