/-
  LibrarianInverse: commands that undo each other. No condition.
-/
import Derived.Test.YtkegpjjehejaoaaGreatDoorYLyc
import Derived.Test.YtkegpjjehejaoaaGreatDoorYLo
import Derived.Test.YtkegpjjehejaoaaGreatDoorYLq
import Derived.Test.YtkegpjjehejaoaaGreatDoorYP5a
import Derived.Test.YtkegpjjehejaoaaGreatDoorCards
namespace Go.Proofs.YtkegpjjehejaoaaGreatDoor.Inverse11
open Go.ChangeShapes Go.WideShapes Go.ChangeAt Go.RowKit Go.Proofs Go.Proofs.YtkegpjjehejaoaaGreatDoor.JB Go.Proofs.YtkegpjjehejaoaaGreatDoor.JL Go.Proofs.YtkegpjjehejaoaaGreatDoor.Frame
open Go.Proofs.YtkegpjjehejaoaaGreatDoor.JN (qe3)
open Go.Proofs.YtkegpjjehejaoaaGreatDoor.JR (Mem)
open Go.Proofs.YtkegpjjehejaoaaGreatDoor.JW (qj3)

theorem walk (w : World) (hG : qe3 w) (A : Option Addr) (n c : Nat) (xs : List Mem) (h : qj3 w w.heap.size A n xs) (hnc : n ≤ c) (hcm : c ≤ maxLen) (hB : ∀ x ∈ xs, MB x) (m : Mem) (hm : JB.Rd w w.heap.size m.ptr m.len m.data) (gm : MB m) :
   Calls Tryz.prog 8 #[.slice A n c, m.val] w fun e w' => e = .returned (.bool true) ∧ Below w.heap.size w w' :=
 Qfd pc11 w hG A n c xs h hnc hcm hB m hm gm
set_option maxRecDepth 100000 in
theorem held : Rows.LibrarianInverseSaid :=
 OpenClaim.holds_of_wide 8 Tryz.f8 rfl rfl rfl rfl rfl rfl rfl ⟨rfl, rfl, rfl, rfl, rfl⟩ rfl rfl rfl rfl rfl (by kernel_rfl) Tryz.func8 (by kernel_rfl)
   (of_decide_eq_true (by kernel_rfl)) (by unfold Func.isWrapper; first | (rw [if_pos (by decide +kernel)]; kernel_rfl) | (rw [if_neg (by decide +kernel)]; exact ⟨rfl, rfl⟩))
   (fun os started H enc _ => qsv (started := started) (s := Rows.librarianInverseSpec) (L := Rows.librarianInverseRow.laid) rfl
     (fun ds h => by match ds, h with | [_, _], _ => rfl) (by kernel_rfl)
     (by kernel_rfl) (by kernel_rfl) Tryz.func8
     (ChangeSpec.witness_shaped (enc := enc) (C := Tryz.checked) (os := os) (X := fun w _ => laidMetH Tryz.prog Rows.librarianInverseRow.laid w) false (World.laidAll Tryz.prog os Rows.librarianInverseRow.laid) #[.slice none 0 0, .agg #[.string ⟨#[]⟩, .int .i64 0, .int .i64 0, .int .i64 0, .int .i64 0, .slice none 0 0]] 8 (World.laidAll_os _ _ _)
       (World.shaped_of_ZipB (by kernel_rfl) (by kernel_rfl)) (by kernel_rfl) (by kernel_rfl) (by kernel_rfl)
       (by rw [MakeChecks.laidMetH_plain _ _ _ (by kernel_rfl)]; exact laidMet_laidAll _ (by kernel_rfl) (by kernel_rfl)))
     qmv (fun W qec args ds p hG h => by
       obtain ⟨hval, hA, _⟩ := h
       rw [show Tryz.f8.params = #[44, 24] from by kernel_rfl] at hA hval
       obtain ⟨v0, vs0, d0, ds0, p0, q0, hargs, rfl, rfl, k0, r0⟩ := trodAll_cons hA
       obtain ⟨v1, vs1, d1, ds1, p1, q1, rfl, rfl, rfl, k1, r1⟩ := trodAll_cons r0
       obtain ⟨rfl, rfl, rfl⟩ := trodAll_nil r1
       obtain rfl : args = #[v0, v1] := by cases args; simp_all
       obtain ⟨A0, n0, c0, l0, rfl, h0, m0, g0, s0⟩ := qu5 (hval 0 _ v0 rfl rfl) k0
       obtain ⟨m1, rfl, h1, g1⟩ := Qdn (hval 1 _ v1 rfl rfl) k1
       exact walk W hG A0 n0 c0 l0 h0 m0 g0 s0 m1 h1 g1))
theorem proved : Rows.LibrarianInverseCardSaid :=
 Claim7.holds_tied_plain_at .later [] [.data, .data, .data, .data, .pinned] true (true, "a575e95e5292005b71f6ad91764fb304f4f97aa941d521efbf6264f610dc7e6e") true held (fun _ h => by cases h) (by kernel_rfl) (fun _ h => by cases h) librarianInverse_row_tie rfl ⟨rfl, rfl⟩ (by kernel_rfl) rfl
   (fun f fn hf hfn => by
     obtain rfl : f = 8 := Option.some.inj ((show Tryz.prog.funcNamed "arlink/arlinklaw11.LibrarianInverse" = some 8 by kernel_rfl).symm.trans hf) |>.symm
     obtain rfl : fn = Tryz.f8 := (Option.some.inj (Tryz.func8.symm.trans hfn)).symm
     exact ⟨by kernel_rfl, fun j t ht => by
       rw [Tryz.params8] at ht
       have hm : t ∈ [44, 24] := by simpa using Array.mem_of_getElem? ht
       have hall : ([44, 24].all fun u => !Tryz.prog.wantsStandIn u) = true := by kernel_rfl
       exact (show Tryz.prog.wantsStandIn t = false by simpa using List.all_eq_true.1 hall t hm)⟩)
   (by kernel_rfl)
#print axioms proved
end Go.Proofs.YtkegpjjehejaoaaGreatDoor.Inverse11
