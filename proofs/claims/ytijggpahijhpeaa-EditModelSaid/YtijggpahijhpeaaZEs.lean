/-
  EditModel: for all lists, members, names and places, all functions return what the reference implementation returns; with an error, the list is unchanged. For every input: no condition.
-/
import Derived.Test.YtijggpahijhpeaaZEyh
import Derived.Test.YtijggpahijhpeaaZEm
namespace Go.Proofs.Ytijggpahijhpeaa.Model10
open Go.ChangeShapes Go.WideShapes Go.ChangeAt Go.RowKit Go.Proofs Go.Proofs.Ytijggpahijhpeaa.Byt Go.Proofs.Ytijggpahijhpeaa.Edt Go.Proofs.Ytijggpahijhpeaa.Frame

theorem walk (w : World) (A : Option Addr) (n c : Nat) (xs : List Arp.Mem) (h : Arw.RdM0 w w.heap.size A n xs) (hnc : n ≤ c) (hcm : c ≤ maxLen) (hB : ∀ x ∈ xs, Frame.MB x) (m : Arp.Mem) (hm : Byt.Rd w w.heap.size m.ptr m.len m.data) (gm : Frame.MB m) (nm : ByteArray) (_un : nm.size ≤ maxLen) (z : Int) (a : ByteArray) (_ua : a.size ≤ maxLen) (lz : -9223372036854775808 ≤ z) (uz : z < 9223372036854775808) :
    Calls Try.prog 3 #[.slice A n c, m.val, .string nm, plaV z a] w fun e w' => e = .returned (.bool true) ∧ Below w.heap.size w w' :=
  model10 pc10 w A n c xs h hnc hcm hB m hm gm nm z a lz uz
set_option maxRecDepth 100000 in
theorem proved : Rows.EditModelSaid :=
  OpenClaim.holds_of_wide 3 Try.f3 rfl rfl rfl rfl rfl rfl rfl ⟨rfl, rfl, rfl, rfl, rfl⟩ rfl rfl rfl rfl rfl (by kernel_rfl) Try.func3 (by kernel_rfl)
    (of_decide_eq_true (by kernel_rfl)) (by unfold Func.isWrapper; rw [if_neg (of_decide_eq_false (by kernel_rfl))]; exact ⟨rfl, rfl⟩)
    (fun os started H enc _ => lifted (started := started) (s := Rows.editModelSpec) rfl
      (fun ds h => by match ds, h with | [_, _, _, _], _ => rfl) (by kernel_rfl)
      (by kernel_rfl) (by kernel_rfl) Try.func3
      (ChangeSpec.witness6 (enc := enc) (C := Try.checked) false ⟨#[], #[.slice none 0 0, .agg #[.string ⟨#[]⟩, .int .i64 0, .int .i64 0, .int .i64 0, .int .i64 0, .slice none 0 0], .string ⟨#[]⟩, .agg #[.int .i64 0, .string ⟨#[]⟩]], []⟩ 8 (by kernel_rfl) (by kernel_rfl) (by kernel_rfl) (by kernel_rfl))
      (fun W base args ds p h => by
        obtain ⟨hval, hA, _⟩ := h
        rw [show Try.f3.params = #[22, 25, 9, 27] from by kernel_rfl] at hA hval
        obtain ⟨v0, vs0, d0, ds0, p0, q0, hargs, rfl, rfl, k0, r0⟩ := trodAll_cons hA
        obtain ⟨v1, vs1, d1, ds1, p1, q1, rfl, rfl, rfl, k1, r1⟩ := trodAll_cons r0
        obtain ⟨v2, vs2, d2, ds2, p2, q2, rfl, rfl, rfl, k2, r2⟩ := trodAll_cons r1
        obtain ⟨v3, vs3, d3, ds3, p3, q3, rfl, rfl, rfl, k3, r3⟩ := trodAll_cons r2
        obtain ⟨rfl, rfl, rfl⟩ := trodAll_nil r3
        obtain rfl : args = #[v0, v1, v2, v3] := by cases args; simp_all
        obtain ⟨A0, n0, c0, l0, rfl, h0, m0, g0, s0⟩ := open_mems (hval 0 _ v0 rfl rfl) k0
        obtain ⟨m1, rfl, h1, g1⟩ := open_memb (hval 1 _ v1 rfl rfl) k1
        obtain ⟨a2, rfl, u2⟩ := open_str (hval 2 _ v2 rfl rfl) k2
        obtain ⟨a3, s3, rfl, z3, l3, u3⟩ := open_place (hval 3 _ v3 rfl rfl) k3
        exact walk W A0 n0 c0 l0 h0 m0 g0 s0 m1 h1 g1 a2 u2 a3 s3 z3 l3 u3))
#print axioms proved
end Go.Proofs.Ytijggpahijhpeaa.Model10
