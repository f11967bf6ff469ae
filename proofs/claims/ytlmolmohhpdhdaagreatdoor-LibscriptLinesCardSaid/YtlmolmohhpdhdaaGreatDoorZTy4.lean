/-
  LibscriptLines: the output of a script is that of its first part, followed by that of the rest on the archive that the first part has left. No condition.
-/
import Derived.Test.YtlmolmohhpdhdaaGreatDoorZTx
import Derived.Test.YtlmolmohhpdhdaaGreatDoorZTr
import Derived.Test.YtlmolmohhpdhdaaGreatDoorZP5a
import Derived.Test.YtlmolmohhpdhdaaGreatDoorCards
namespace Go.Proofs.YtlmolmohhpdhdaaGreatDoor.Lines12
open Go.ChangeShapes Go.WideShapes Go.ChangeAt Go.RowKit Go.Proofs Go.Proofs.YtlmolmohhpdhdaaGreatDoor.JB Go.Proofs.YtlmolmohhpdhdaaGreatDoor.Lsc Go.Proofs.YtlmolmohhpdhdaaGreatDoor.Frame
open Go.Proofs.YtlmolmohhpdhdaaGreatDoor.JN (qcj)
open Go.Proofs.YtlmolmohhpdhdaaGreatDoor.JR (Mem)

theorem walk (w : World) (hG : qcj w) (A : Option Addr) (n c : Nat) (l : List UInt8) (hr : JB.Rd w w.heap.size A n l) (hnc : n ≤ c) (hcm : c ≤ maxLen) (F : Option Addr) (fn fc : Nat) (fs : List Mem) (hF : qg9 w F fn fs) (s : ByteArray) (_ : s.size ≤ maxLen) (t : ByteArray) (_ : t.size ≤ maxLen) :
   Calls Tryz.prog 4 #[.slice A n c, .slice F fn fc, .string s, .string t] w fun e w' => e = .returned (.bool true) ∧ Below w.heap.size w w' :=
 lines12 w hG A n c l hr hnc hcm F fn fc fs hF s t
set_option maxRecDepth 100000 in
theorem held : Rows.LibscriptLinesSaid :=
 OpenClaim.holds_of_wide 4 Tryz.f4 rfl rfl rfl rfl rfl rfl rfl ⟨rfl, rfl, rfl, rfl, rfl⟩ rfl rfl rfl rfl rfl (by kernel_rfl) Tryz.func4 (by kernel_rfl)
   (of_decide_eq_true (by kernel_rfl)) (by unfold Func.isWrapper; first | (rw [if_pos (by decide +kernel)]; kernel_rfl) | (rw [if_neg (by decide +kernel)]; exact ⟨rfl, rfl⟩))
   (fun os started H enc _ => qqv (started := started) (s := Rows.libscriptLinesSpec) (L := Rows.libscriptLinesRow.laid) rfl
     (fun ds h => by match ds, h with | [_, _, _, _], _ => rfl) (by kernel_rfl)
     (by kernel_rfl) (by kernel_rfl) Tryz.func4
     (ChangeSpec.witness_shaped (enc := enc) (C := Tryz.checked) (os := os) (X := fun w _ => laidMetH Tryz.prog Rows.libscriptLinesRow.laid w) false (World.laidAll Tryz.prog os Rows.libscriptLinesRow.laid) #[.slice none 0 0, .slice none 0 0, .string ⟨#[]⟩, .string ⟨#[]⟩] 8 (World.laidAll_os _ _ _)
       (World.shaped_of_ZipB (by kernel_rfl) (by kernel_rfl)) (by kernel_rfl) (by kernel_rfl) (by kernel_rfl)
       (by rw [MakeChecks.laidMetH_plain _ _ _ (by kernel_rfl)]; exact laidMet_laidAll _ (by kernel_rfl) (by kernel_rfl)))
     qkk (fun W qeh args ds p hG h => by
       obtain ⟨hval, hA, _⟩ := h
       rw [show Tryz.f4.params = #[22, 23, 9, 9] from by kernel_rfl] at hA hval
       obtain ⟨v0, vs0, d0, ds0, p0, q0, hargs, rfl, rfl, k0, r0⟩ := trodAll_cons hA
       obtain ⟨v1, vs1, d1, ds1, p1, q1, rfl, rfl, rfl, k1, r1⟩ := trodAll_cons r0
       obtain ⟨v2, vs2, d2, ds2, p2, q2, rfl, rfl, rfl, k2, r2⟩ := trodAll_cons r1
       obtain ⟨v3, vs3, d3, ds3, p3, q3, rfl, rfl, rfl, k3, r3⟩ := trodAll_cons r2
       obtain ⟨rfl, rfl, rfl⟩ := trodAll_nil r3
       obtain rfl : args = #[v0, v1, v2, v3] := by cases args; simp_all
       obtain ⟨A0, n0, c0, l0, rfl, h0, m0, g0⟩ := qhu (hval 0 _ v0 rfl rfl) k0
       obtain ⟨A1, n1, c1, l1, rfl, h1, m1, g1⟩ := qhp (hval 1 _ v1 rfl rfl) k1
       obtain ⟨a2, rfl, u2⟩ := qj0 (hval 2 _ v2 rfl rfl) k2
       obtain ⟨a3, rfl, u3⟩ := qj0 (hval 3 _ v3 rfl rfl) k3
       exact walk W hG A0 n0 c0 l0 h0 m0 g0 A1 n1 c1 l1 h1 a2 u2 a3 u3))
theorem proved : Rows.LibscriptLinesCardSaid :=
 Claim7.holds_tied_plain_at .later [] [.data, .data, .data, .data, .pinned] true (true, "45f1601977d9532b7187b49a3733d7bca098a11cc0d59a2ca0b554a457666c02") true held (fun _ h => by cases h) (by kernel_rfl) (fun _ h => by cases h) libscriptLines_row_tie rfl ⟨rfl, rfl⟩ (by kernel_rfl) rfl
   (fun f fn hf hfn => by
     obtain rfl : f = 4 := Option.some.inj ((show Tryz.prog.funcNamed "arlink/arlinklaw12.LibscriptLines" = some 4 by kernel_rfl).symm.trans hf) |>.symm
     obtain rfl : fn = Tryz.f4 := (Option.some.inj (Tryz.func4.symm.trans hfn)).symm
     exact ⟨by kernel_rfl, fun j t ht => by
       rw [Tryz.params4] at ht
       have hm : t ∈ [22, 23, 9, 9] := by simpa using Array.mem_of_getElem? ht
       have hall : ([22, 23, 9, 9].all fun u => !Tryz.prog.wantsStandIn u) = true := by kernel_rfl
       exact (show Tryz.prog.wantsStandIn t = false by simpa using List.all_eq_true.1 hall t hm)⟩)
   (by kernel_rfl)
#print axioms proved
end Go.Proofs.YtlmolmohhpdhdaaGreatDoor.Lines12
