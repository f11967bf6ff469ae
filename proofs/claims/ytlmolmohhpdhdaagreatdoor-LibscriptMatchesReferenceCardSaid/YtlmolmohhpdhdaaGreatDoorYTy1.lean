/-
  LibscriptMatchesReference: for all bytes, files and texts, all functions return what the reference implementation returns. No condition.
-/
import Derived.Test.YtlmolmohhpdhdaaGreatDoorYTu
import Derived.Test.YtlmolmohhpdhdaaGreatDoorYTr
import Derived.Test.YtlmolmohhpdhdaaGreatDoorYP5a
import Derived.Test.YtlmolmohhpdhdaaGreatDoorCards
namespace Go.Proofs.YtlmolmohhpdhdaaGreatDoor.MatchesReference12
open Go.ChangeShapes Go.WideShapes Go.ChangeAt Go.RowKit Go.Proofs Go.Proofs.YtlmolmohhpdhdaaGreatDoor.JB Go.Proofs.YtlmolmohhpdhdaaGreatDoor.Lsc Go.Proofs.YtlmolmohhpdhdaaGreatDoor.Frame
open Go.Proofs.YtlmolmohhpdhdaaGreatDoor.JN (qev)
open Go.Proofs.YtlmolmohhpdhdaaGreatDoor.JR (Mem)

theorem walk (w : World) (hG : qev w) (A : Option Addr) (n c : Nat) (l : List UInt8) (hr : JB.Rd w w.heap.size A n l) (hnc : n ≤ c) (hcm : c ≤ maxLen) (F : Option Addr) (fn fc : Nat) (fs : List Mem) (hF : qs5 w F fn fs) (s : ByteArray) (_ : s.size ≤ maxLen) :
   Calls Tryz.prog 3 #[.slice A n c, .slice F fn fc, .string s] w fun e w' => e = .returned (.bool true) ∧ Below w.heap.size w w' :=
 match12 w hG A n c l hr hnc hcm F fn fc fs hF s
set_option maxRecDepth 100000 in
theorem held : Rows.LibscriptMatchesReferenceSaid :=
 OpenClaim.holds_of_wide 3 Tryz.f3 rfl rfl rfl rfl rfl rfl rfl ⟨rfl, rfl, rfl, rfl, rfl⟩ rfl rfl rfl rfl rfl (by kernel_rfl) Tryz.func3 (by kernel_rfl)
   (of_decide_eq_true (by kernel_rfl)) (by unfold Func.isWrapper; first | (rw [if_pos (by decide +kernel)]; kernel_rfl) | (rw [if_neg (by decide +kernel)]; exact ⟨rfl, rfl⟩))
   (fun os started H enc _ => liftedG (started := started) (s := Rows.libscriptMatchesReferenceSpec) (L := Rows.libscriptMatchesReferenceRow.laid) rfl
     (fun ds h => by match ds, h with | [_, _, _], _ => rfl) (by kernel_rfl)
     (by kernel_rfl) (by kernel_rfl) Tryz.func3
     (ChangeSpec.witness_shaped (enc := enc) (C := Tryz.checked) (os := os) (X := fun w _ => laidMetH Tryz.prog Rows.libscriptMatchesReferenceRow.laid w) false (World.laidAll Tryz.prog os Rows.libscriptMatchesReferenceRow.laid) #[.slice none 0 0, .slice none 0 0, .string ⟨#[]⟩] 8 (World.laidAll_os _ _ _)
       (World.shaped_of_ZipB (by kernel_rfl) (by kernel_rfl)) (by kernel_rfl) (by kernel_rfl) (by kernel_rfl)
       (by rw [MakeChecks.laidMetH_plain _ _ _ (by kernel_rfl)]; exact laidMet_laidAll _ (by kernel_rfl) (by kernel_rfl)))
     gndp5_of (fun W qez args ds p hG h => by
       obtain ⟨hval, hA, _⟩ := h
       rw [show Tryz.f3.params = #[22, 23, 9] from by kernel_rfl] at hA hval
       obtain ⟨v0, vs0, d0, ds0, p0, q0, hargs, rfl, rfl, k0, r0⟩ := trodAll_cons hA
       obtain ⟨v1, vs1, d1, ds1, p1, q1, rfl, rfl, rfl, k1, r1⟩ := trodAll_cons r0
       obtain ⟨v2, vs2, d2, ds2, p2, q2, rfl, rfl, rfl, k2, r2⟩ := trodAll_cons r1
       obtain ⟨rfl, rfl, rfl⟩ := trodAll_nil r2
       obtain rfl : args = #[v0, v1, v2] := by cases args; simp_all
       obtain ⟨A0, n0, c0, l0, rfl, h0, m0, g0⟩ := Qcg (hval 0 _ v0 rfl rfl) k0
       obtain ⟨A1, n1, c1, l1, rfl, h1, m1, g1⟩ := Qc6 (hval 1 _ v1 rfl rfl) k1
       obtain ⟨a2, rfl, u2⟩ := open_str (hval 2 _ v2 rfl rfl) k2
       exact walk W hG A0 n0 c0 l0 h0 m0 g0 A1 n1 c1 l1 h1 a2 u2))
theorem proved : Rows.LibscriptMatchesReferenceCardSaid :=
 Claim7.holds_tied_plain_at .later [] [.data, .data, .data, .data, .pinned] true (true, "45f1601977d9532b7187b49a3733d7bca098a11cc0d59a2ca0b554a457666c02") true held (fun _ h => by cases h) (by kernel_rfl) (fun _ h => by cases h) libscriptMatchesReference_row_tie rfl ⟨rfl, rfl⟩ (by kernel_rfl) rfl
   (fun f fn hf hfn => by
     obtain rfl : f = 3 := Option.some.inj ((show Tryz.prog.funcNamed "arlink/arlinklaw12.LibscriptMatchesReference" = some 3 by kernel_rfl).symm.trans hf) |>.symm
     obtain rfl : fn = Tryz.f3 := (Option.some.inj (Tryz.func3.symm.trans hfn)).symm
     exact ⟨by kernel_rfl, fun j t ht => by
       rw [Tryz.params3] at ht
       have hm : t ∈ [22, 23, 9] := by simpa using Array.mem_of_getElem? ht
       have hall : ([22, 23, 9].all fun u => !Tryz.prog.wantsStandIn u) = true := by kernel_rfl
       exact (show Tryz.prog.wantsStandIn t = false by simpa using List.all_eq_true.1 hall t hm)⟩)
   (by kernel_rfl)
#print axioms proved
end Go.Proofs.YtlmolmohhpdhdaaGreatDoor.MatchesReference12
