/-
  LibrarianScripts: running commands one after the other is running the first ones and then the rest; it ends at the first error. No condition.
-/
import Derived.Test.YtkegpjjehejaoaaGreatDoorZLyc
import Derived.Test.YtkegpjjehejaoaaGreatDoorZLq
import Derived.Test.YtkegpjjehejaoaaGreatDoorZP5a
import Derived.Test.YtkegpjjehejaoaaGreatDoorCards
namespace Go.Proofs.YtkegpjjehejaoaaGreatDoor.Scripts11
open Go.ChangeShapes Go.WideShapes Go.ChangeAt Go.RowKit Go.Proofs Go.Proofs.YtkegpjjehejaoaaGreatDoor.JB Go.Proofs.YtkegpjjehejaoaaGreatDoor.JL Go.Proofs.YtkegpjjehejaoaaGreatDoor.Frame
open Go.Proofs.YtkegpjjehejaoaaGreatDoor.JN (qfp)
open Go.Proofs.YtkegpjjehejaoaaGreatDoor.JR (Mem)
open Go.Proofs.YtkegpjjehejaoaaGreatDoor.JW (RdM0)

theorem walk (w : World) (hG : qfp w) (A : Option Addr) (n c : Nat) (l : List UInt8) (hr : JB.Rd w w.heap.size A n l) (hnc : n ≤ c) (hcm : c ≤ maxLen) (B : Option Addr) (k d : Nat) (qs : List Cmd) (hq : Qeu w B k qs) (x : Nat) (hx : x < 256) :
   Calls Tryz.prog 6 #[.slice A n c, .slice B k d, .int .u8 (x : Int)] w fun e w' => e = .returned (.bool true) ∧ Below w.heap.size w w' :=
 Qev pc11 w hG A n c l hr hnc hcm B k d qs hq x hx
set_option maxRecDepth 100000 in
theorem held : Rows.LibrarianScriptsSaid :=
 OpenClaim.holds_of_wide 6 Tryz.f6 rfl rfl rfl rfl rfl rfl rfl ⟨rfl, rfl, rfl, rfl, rfl⟩ rfl rfl rfl rfl rfl (by kernel_rfl) Tryz.func6 (by kernel_rfl)
   (of_decide_eq_true (by kernel_rfl)) (by unfold Func.isWrapper; first | (rw [if_pos (by decide +kernel)]; kernel_rfl) | (rw [if_neg (by decide +kernel)]; exact ⟨rfl, rfl⟩))
   (fun os started H enc _ => Qfs (started := started) (s := Rows.librarianScriptsSpec) (L := Rows.librarianScriptsRow.laid) rfl
     (fun ds h => by match ds, h with | [_, _, _], _ => rfl) (by kernel_rfl)
     (by kernel_rfl) (by kernel_rfl) Tryz.func6
     (ChangeSpec.witness_shaped (enc := enc) (C := Tryz.checked) (os := os) (X := fun w _ => laidMetH Tryz.prog Rows.librarianScriptsRow.laid w) false (World.laidAll Tryz.prog os Rows.librarianScriptsRow.laid) #[.slice none 0 0, .slice none 0 0, .int .u8 0] 8 (World.laidAll_os _ _ _)
       (World.shaped_of_ZipB (by kernel_rfl) (by kernel_rfl)) (by kernel_rfl) (by kernel_rfl) (by kernel_rfl)
       (by rw [MakeChecks.laidMetH_plain _ _ _ (by kernel_rfl)]; exact laidMet_laidAll _ (by kernel_rfl) (by kernel_rfl)))
     qys (fun W qei args ds p hG h => by
       obtain ⟨hval, hA, _⟩ := h
       rw [show Tryz.f6.params = #[22, 65, 5] from by kernel_rfl] at hA hval
       obtain ⟨v0, vs0, d0, ds0, p0, q0, hargs, rfl, rfl, k0, r0⟩ := trodAll_cons hA
       obtain ⟨v1, vs1, d1, ds1, p1, q1, rfl, rfl, rfl, k1, r1⟩ := trodAll_cons r0
       obtain ⟨v2, vs2, d2, ds2, p2, q2, rfl, rfl, rfl, k2, r2⟩ := trodAll_cons r1
       obtain ⟨rfl, rfl, rfl⟩ := trodAll_nil r2
       obtain rfl : args = #[v0, v1, v2] := by cases args; simp_all
       obtain ⟨A0, n0, c0, l0, rfl, h0, m0, g0⟩ := qrs (hval 0 _ v0 rfl rfl) k0
       obtain ⟨A1, n1, c1, l1, rfl, h1, m1, g1⟩ := Qew (hval 1 _ v1 rfl rfl) k1
       obtain ⟨a2, rfl, u2⟩ := open_u8 (hval 2 _ v2 rfl rfl) k2
       exact walk W hG A0 n0 c0 l0 h0 m0 g0 A1 n1 c1 l1 h1 a2 u2))
theorem proved : Rows.LibrarianScriptsCardSaid :=
 Claim7.holds_tied_plain_at .later [] [.data, .data, .data, .data, .pinned] true (true, "a575e95e5292005b71f6ad91764fb304f4f97aa941d521efbf6264f610dc7e6e") true held (fun _ h => by cases h) (by kernel_rfl) (fun _ h => by cases h) librarianScripts_row_tie rfl ⟨rfl, rfl⟩ (by kernel_rfl) rfl
   (fun f fn hf hfn => by
     obtain rfl : f = 6 := Option.some.inj ((show Tryz.prog.funcNamed "arlink/arlinklaw11.LibrarianScripts" = some 6 by kernel_rfl).symm.trans hf) |>.symm
     obtain rfl : fn = Tryz.f6 := (Option.some.inj (Tryz.func6.symm.trans hfn)).symm
     exact ⟨by kernel_rfl, fun j t ht => by
       rw [Tryz.params6] at ht
       have hm : t ∈ [22, 65, 5] := by simpa using Array.mem_of_getElem? ht
       have hall : ([22, 65, 5].all fun u => !Tryz.prog.wantsStandIn u) = true := by kernel_rfl
       exact (show Tryz.prog.wantsStandIn t = false by simpa using List.all_eq_true.1 hall t hm)⟩)
   (by kernel_rfl)
#print axioms proved
end Go.Proofs.YtkegpjjehejaoaaGreatDoor.Scripts11
