/-
  A member is loadable exactly if one of its definitions is wanted, and the name is the first one (WantedLoadable): for every list of objects and every list of definitions: no condition.
-/
import Derived.Test.YtbcjbembhajgcaaDoorZQu
import Derived.Test.YtbcjbembhajgcaaDoorZVw
import Derived.Test.YtbcjbembhajgcaaDoorCards
namespace Go.Proofs.YtbcjbembhajgcaaDoor.Loadable15
open Go.ChangeShapes Go.WideShapes Go.ChangeAt Go.RowKit Go.Proofs Go.Proofs.YtbcjbembhajgcaaDoor.Byt Go.Proofs.YtbcjbembhajgcaaDoor.Frame
open Go.Proofs.YtbcjbembhajgcaaDoor.Bnd Go.Proofs.YtbcjbembhajgcaaDoor.Tab
open Go.Proofs.YtbcjbembhajgcaaDoor.Obj (Sy)
set_option maxRecDepth 100000

theorem walk (w : World) (hP : Prec w) (A : Option Addr) (n c : Nat) (os : List (List Sy)) (h : RdO w w.heap.size A n os) (_ : n ≤ c) (_ : c ≤ maxLen) (D : Option Addr) (m d : Nat) (ds : List ByteArray) (hd : Sls.Rd w w.heap.size D m ds) (_ : m ≤ d) (_ : d ≤ maxLen) (_ : ∀ s ∈ ds, s.size ≤ maxLen) :
    Calls Tryd.prog 3 #[.slice A n c, .slice D m d] w fun e w' => e = .returned (.bool true) ∧ Below w.heap.size w w' :=
  Wnt.loadable15 w hP A n c os h D m d ds hd
set_option maxRecDepth 100000 in
theorem held : Rows.WantedLoadableSaid :=
  OpenClaim.holds_of_wide 3 Tryd.f3 rfl rfl rfl rfl rfl rfl rfl ⟨rfl, rfl, rfl, rfl, rfl⟩ rfl rfl rfl rfl rfl (by kernel_rfl) Tryd.func3 (by kernel_rfl)
    (of_decide_eq_true (by kernel_rfl)) (by unfold Func.isWrapper; first | (rw [if_pos (by decide +kernel)]; kernel_rfl) | (rw [if_neg (by decide +kernel)]; exact ⟨rfl, rfl⟩))
    (fun os started H enc _ => liftedG (started := started) (s := Rows.wantedLoadableSpec) (L := Rows.wantedLoadableRow.laid) rfl
      (fun ds h => by match ds, h with | [_, _], _ => rfl) (by kernel_rfl)
      (by kernel_rfl) (by kernel_rfl) Tryd.func3
      (ChangeSpec.witness_shaped (enc := enc) (C := Tryd.checked) (os := os) (X := fun w _ => laidMetH Tryd.prog Rows.wantedLoadableRow.laid w) false (World.laidAll Tryd.prog os Rows.wantedLoadableRow.laid) #[.slice none 0 0, .slice none 0 0] 8 (World.laidAll_os _ _ _)
        (World.shaped_of_ZipB (by kernel_rfl) (by kernel_rfl)) (by kernel_rfl) (by kernel_rfl) (by kernel_rfl)
        (by rw [MakeChecks.laidMetH_plain _ _ _ (by kernel_rfl)]; exact laidMet_laidAll _ (by kernel_rfl) (by kernel_rfl)))
      gndb_of (fun W base args ds p hG h => by
        obtain ⟨hval, hA, _⟩ := h
        rw [show Tryd.f3.params = #[22, 23] from by kernel_rfl] at hA hval
        obtain ⟨v0, vs0, d0, ds0, p0, q0, hargs, rfl, rfl, k0, r0⟩ := trodAll_cons hA
        obtain ⟨v1, vs1, d1, ds1, p1, q1, rfl, rfl, rfl, k1, r1⟩ := trodAll_cons r0
        obtain ⟨rfl, rfl, rfl⟩ := trodAll_nil r1
        obtain rfl : args = #[v0, v1] := by cases args; simp_all
        obtain ⟨A0, n0, c0, l0, rfl, h0, m0, g0⟩ := open_objs (hval 0 _ v0 rfl rfl) k0
        obtain ⟨A1, n1, c1, l1, rfl, h1, m1, g1, s1⟩ := open_strs (hval 1 _ v1 rfl rfl) k1
        exact walk W hG A0 n0 c0 l0 h0 m0 g0 A1 n1 c1 l1 h1 m1 g1 s1))
theorem proved : Rows.WantedLoadableCardSaid :=
  Claim7.holds_tied_plain_at .later [] [.data] true (true, "864b6d04a59eef9e07ba291d34ecdf2c353ef1ba5b043bdb8fbba5a9d32ac91b") true held (fun _ h => by cases h) (by kernel_rfl) (fun _ h => by cases h) wantedLoadable_row_tie rfl ⟨rfl, rfl⟩ (by kernel_rfl) rfl
    (fun f fn hf hfn => by
      obtain rfl : f = 3 := Option.some.inj ((show Tryd.prog.funcNamed "arlink/arlinklaw15.WantedLoadable" = some 3 by kernel_rfl).symm.trans hf) |>.symm
      obtain rfl : fn = Tryd.f3 := (Option.some.inj (Tryd.func3.symm.trans hfn)).symm
      exact ⟨by kernel_rfl, fun j t ht => by
        rw [Tryd.params3] at ht
        have hm : t ∈ [22, 23] := by simpa using Array.mem_of_getElem? ht
        have hall : ([22, 23].all fun u => !Tryd.prog.wantsStandIn u) = true := by kernel_rfl
        exact (show Tryd.prog.wantsStandIn t = false by simpa using List.all_eq_true.1 hall t hm)⟩)
    (by kernel_rfl)
#print axioms proved
end Go.Proofs.YtbcjbembhajgcaaDoor.Loadable15
