/-
  SymtabResolves: every name is resolved as the declarative rule says: the first strong definition; else the common one with the greatest size and alignment; else the first weak one; else undefined. For every list of objects and every choice of a name: no condition.
-/
import Derived.Test.YtndjnmeblpjlhaaDoorYUf
import Derived.Test.YtndjnmeblpjlhaaDoorYVw
import Derived.Test.YtndjnmeblpjlhaaDoorCards
namespace Go.Proofs.YtndjnmeblpjlhaaDoor.Resolves14
open Go.ChangeShapes Go.WideShapes Go.ChangeAt Go.RowKit Go.Proofs Go.Proofs.YtndjnmeblpjlhaaDoor.Byt Go.Proofs.YtndjnmeblpjlhaaDoor.Frame
open Go.Proofs.YtndjnmeblpjlhaaDoor.Bnd Go.Proofs.YtndjnmeblpjlhaaDoor.Tab
open Go.Proofs.YtndjnmeblpjlhaaDoor.Obj (Sy)
set_option maxRecDepth 100000

theorem walk (w : World) (hP : Prec w) (A : Option Addr) (n c : Nat) (os : List (List Sy)) (h : RdO w w.heap.size A n os) (_ : n ≤ c) (_ : c ≤ maxLen) (a : Nat) (ha : a < 256) :
    Calls Tryd.prog 4 #[.slice A n c, .int .u8 (a : Int)] w fun e w' => e = .returned (.bool true) ∧ Below w.heap.size w w' :=
  resolves14 w hP A n c os h a ha
set_option maxRecDepth 100000 in
theorem held : Rows.SymtabResolvesSaid :=
  OpenClaim.holds_of_wide 4 Tryd.f4 rfl rfl rfl rfl rfl rfl rfl ⟨rfl, rfl, rfl, rfl, rfl⟩ rfl rfl rfl rfl rfl (by kernel_rfl) Tryd.func4 (by kernel_rfl)
    (of_decide_eq_true (by kernel_rfl)) (by unfold Func.isWrapper; first | (rw [if_pos (by decide +kernel)]; kernel_rfl) | (rw [if_neg (by decide +kernel)]; exact ⟨rfl, rfl⟩))
    (fun os started H enc _ => liftedG (started := started) (s := Rows.symtabResolvesSpec) (L := Rows.symtabResolvesRow.laid) rfl
      (fun ds h => by match ds, h with | [_, _], _ => rfl) (by kernel_rfl)
      (by kernel_rfl) (by kernel_rfl) Tryd.func4
      (ChangeSpec.witness_shaped (enc := enc) (C := Tryd.checked) (os := os) (X := fun w _ => laidMetH Tryd.prog Rows.symtabResolvesRow.laid w) false (World.laidAll Tryd.prog os Rows.symtabResolvesRow.laid) #[.slice none 0 0, .int .u8 0] 8 (World.laidAll_os _ _ _)
        (World.shaped_of_ZipB (by kernel_rfl) (by kernel_rfl)) (by kernel_rfl) (by kernel_rfl) (by kernel_rfl)
        (by rw [MakeChecks.laidMetH_plain _ _ _ (by kernel_rfl)]; exact laidMet_laidAll _ (by kernel_rfl) (by kernel_rfl)))
      gndb_of (fun W base args ds p hG h => by
        obtain ⟨hval, hA, _⟩ := h
        rw [show Tryd.f4.params = #[22, 5] from by kernel_rfl] at hA hval
        obtain ⟨v0, vs0, d0, ds0, p0, q0, hargs, rfl, rfl, k0, r0⟩ := trodAll_cons hA
        obtain ⟨v1, vs1, d1, ds1, p1, q1, rfl, rfl, rfl, k1, r1⟩ := trodAll_cons r0
        obtain ⟨rfl, rfl, rfl⟩ := trodAll_nil r1
        obtain rfl : args = #[v0, v1] := by cases args; simp_all
        obtain ⟨A0, n0, c0, l0, rfl, h0, m0, g0⟩ := open_objs (hval 0 _ v0 rfl rfl) k0
        obtain ⟨a1, rfl, u1⟩ := open_u8 (hval 1 _ v1 rfl rfl) k1
        exact walk W hG A0 n0 c0 l0 h0 m0 g0 a1 u1))
theorem proved : Rows.SymtabResolvesCardSaid :=
  Claim7.holds_tied_plain_at .later [] [.data] true (true, "f1be0f40535b0f451986a654c2f111d9ef0d16381149736f7d99bec361cbf4b3") false held (fun _ h => by cases h) (by kernel_rfl) (fun _ h => by cases h) symtabResolves_row_tie rfl ⟨rfl, rfl⟩ (by kernel_rfl) rfl
    (fun f fn hf hfn => by
      obtain rfl : f = 4 := Option.some.inj ((show Tryd.prog.funcNamed "arlink/arlinklaw14.SymtabResolves" = some 4 by kernel_rfl).symm.trans hf) |>.symm
      obtain rfl : fn = Tryd.f4 := (Option.some.inj (Tryd.func4.symm.trans hfn)).symm
      exact ⟨by kernel_rfl, fun j t ht => by
        rw [Tryd.params4] at ht
        have hm : t ∈ [22, 5] := by simpa using Array.mem_of_getElem? ht
        have hall : ([22, 5].all fun u => !Tryd.prog.wantsStandIn u) = true := by kernel_rfl
        exact (show Tryd.prog.wantsStandIn t = false by simpa using List.all_eq_true.1 hall t hm)⟩)
    (by kernel_rfl)
#print axioms proved
end Go.Proofs.YtndjnmeblpjlhaaDoor.Resolves14
