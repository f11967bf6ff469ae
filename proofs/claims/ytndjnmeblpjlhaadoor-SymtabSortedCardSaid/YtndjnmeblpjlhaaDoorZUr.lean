/-
  SymtabSorted: names come in ascending order without repetition, and those that are wanted are among them, each wanted by its state. For every list of objects: no condition.
-/
import Derived.Test.YtndjnmeblpjlhaaDoorZUc
import Derived.Test.YtndjnmeblpjlhaaDoorZVw
import Derived.Test.YtndjnmeblpjlhaaDoorCards
namespace Go.Proofs.YtndjnmeblpjlhaaDoor.Sorted14
open Go.ChangeShapes Go.WideShapes Go.ChangeAt Go.RowKit Go.Proofs Go.Proofs.YtndjnmeblpjlhaaDoor.Byt Go.Proofs.YtndjnmeblpjlhaaDoor.Frame
open Go.Proofs.YtndjnmeblpjlhaaDoor.Bnd Go.Proofs.YtndjnmeblpjlhaaDoor.Tab
open Go.Proofs.YtndjnmeblpjlhaaDoor.Obj (Sy)
set_option maxRecDepth 100000

theorem walk (w : World) (hP : Prec w) (A : Option Addr) (n c : Nat) (os : List (List Sy)) (h : RdO w w.heap.size A n os) (_ : n ≤ c) (_ : c ≤ maxLen) :
    Calls Tryd.prog 5 #[.slice A n c] w fun e w' => e = .returned (.bool true) ∧ Below w.heap.size w w' :=
  sorted14 w hP A n c os h
set_option maxRecDepth 100000 in
theorem held : Rows.SymtabSortedSaid :=
  OpenClaim.holds_of_wide 5 Tryd.f5 rfl rfl rfl rfl rfl rfl rfl ⟨rfl, rfl, rfl, rfl, rfl⟩ rfl rfl rfl rfl rfl (by kernel_rfl) Tryd.func5 (by kernel_rfl)
    (of_decide_eq_true (by kernel_rfl)) (by unfold Func.isWrapper; first | (rw [if_pos (by decide +kernel)]; kernel_rfl) | (rw [if_neg (by decide +kernel)]; exact ⟨rfl, rfl⟩))
    (fun os started H enc _ => liftedG (started := started) (s := Rows.symtabSortedSpec) (L := Rows.symtabSortedRow.laid) rfl
      (fun ds h => by match ds, h with | [_], _ => rfl) (by kernel_rfl)
      (by kernel_rfl) (by kernel_rfl) Tryd.func5
      (ChangeSpec.witness_shaped (enc := enc) (C := Tryd.checked) (os := os) (X := fun w _ => laidMetH Tryd.prog Rows.symtabSortedRow.laid w) false (World.laidAll Tryd.prog os Rows.symtabSortedRow.laid) #[.slice none 0 0] 8 (World.laidAll_os _ _ _)
        (World.shaped_of_ZipB (by kernel_rfl) (by kernel_rfl)) (by kernel_rfl) (by kernel_rfl) (by kernel_rfl)
        (by rw [MakeChecks.laidMetH_plain _ _ _ (by kernel_rfl)]; exact laidMet_laidAll _ (by kernel_rfl) (by kernel_rfl)))
      gndb_of (fun W base args ds p hG h => by
        obtain ⟨hval, hA, _⟩ := h
        rw [show Tryd.f5.params = #[22] from by kernel_rfl] at hA hval
        obtain ⟨v0, vs0, d0, ds0, p0, q0, hargs, rfl, rfl, k0, r0⟩ := trodAll_cons hA
        obtain ⟨rfl, rfl, rfl⟩ := trodAll_nil r0
        obtain rfl : args = #[v0] := by cases args; simp_all
        obtain ⟨A0, n0, c0, l0, rfl, h0, m0, g0⟩ := open_objs (hval 0 _ v0 rfl rfl) k0
        exact walk W hG A0 n0 c0 l0 h0 m0 g0))
theorem proved : Rows.SymtabSortedCardSaid :=
  Claim7.holds_tied_plain_at .later [] [.data] true (true, "f1be0f40535b0f451986a654c2f111d9ef0d16381149736f7d99bec361cbf4b3") false held (fun _ h => by cases h) (by kernel_rfl) (fun _ h => by cases h) symtabSorted_row_tie rfl ⟨rfl, rfl⟩ (by kernel_rfl) rfl
    (fun f fn hf hfn => by
      obtain rfl : f = 5 := Option.some.inj ((show Tryd.prog.funcNamed "arlink/arlinklaw14.SymtabSorted" = some 5 by kernel_rfl).symm.trans hf) |>.symm
      obtain rfl : fn = Tryd.f5 := (Option.some.inj (Tryd.func5.symm.trans hfn)).symm
      exact ⟨by kernel_rfl, fun j t ht => by
        rw [Tryd.params5] at ht
        have hm : t ∈ [22] := by simpa using Array.mem_of_getElem? ht
        have hall : ([22].all fun u => !Tryd.prog.wantsStandIn u) = true := by kernel_rfl
        exact (show Tryd.prog.wantsStandIn t = false by simpa using List.all_eq_true.1 hall t hm)⟩)
    (by kernel_rfl)
#print axioms proved
end Go.Proofs.YtndjnmeblpjlhaaDoor.Sorted14
