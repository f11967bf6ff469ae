/-
  ConsistRestored: what is opened is opened with the same view from the complete archive of its members. For every byte slice: no condition.
-/
import Derived.Test.YtjobmkodgodloaaGreatDoorYCoa
import Derived.Test.YtjobmkodgodloaaGreatDoorYCj
import Derived.Test.YtjobmkodgodloaaGreatDoorYMo
import Derived.Test.YtjobmkodgodloaaGreatDoorYWs
import Derived.Test.YtjobmkodgodloaaGreatDoorCards
namespace Go.Proofs.YtjobmkodgodloaaGreatDoor.Resto9
open Go.ChangeShapes Go.WideShapes Go.ChangeAt Go.RowKit Go.Proofs Go.Proofs.YtjobmkodgodloaaGreatDoor.Byt Go.Proofs.YtjobmkodgodloaaGreatDoor.Con Go.Proofs.YtjobmkodgodloaaGreatDoor.Frame
open Go.Proofs.YtjobmkodgodloaaGreatDoor.Lnm (Gnd)
open Go.Proofs.YtjobmkodgodloaaGreatDoor.Arp (Mem)
open Go.Proofs.YtjobmkodgodloaaGreatDoor.Arw (RdM0)

theorem walk (w : World) (hG : Gnd w) (A : Option Addr) (n c : Nat) (l : List UInt8) (hr : Byt.Rd w w.heap.size A n l) (hnc : n ≤ c) (hcm : c ≤ maxLen) :
   Calls Tryz.prog 7 #[.slice A n c] w fun e w' => e = .returned (.bool true) ∧ Below w.heap.size w w' :=
 restored9 pc9 w hG A n c l hr hnc hcm
set_option maxRecDepth 100000 in
theorem held : Rows.ConsistRestoredSaid :=
 OpenClaim.holds_of_wide 7 Tryz.f7 rfl rfl rfl rfl rfl rfl rfl ⟨rfl, rfl, rfl, rfl, rfl⟩ rfl rfl rfl rfl rfl (by kernel_rfl) Tryz.func7 (by kernel_rfl)
   (of_decide_eq_true (by kernel_rfl)) (by unfold Func.isWrapper; first | (rw [if_pos (by decide +kernel)]; kernel_rfl) | (rw [if_neg (by decide +kernel)]; exact ⟨rfl, rfl⟩))
   (fun os started H enc _ => liftedG (started := started) (s := Rows.consistRestoredSpec) (L := Rows.consistRestoredRow.laid) rfl
     (fun ds h => by match ds, h with | [_], _ => rfl) (by kernel_rfl)
     (by kernel_rfl) (by kernel_rfl) Tryz.func7
     (ChangeSpec.witness_shaped (enc := enc) (C := Tryz.checked) (os := os) (X := fun w _ => laidMetH Tryz.prog Rows.consistRestoredRow.laid w) false (World.laidAll Tryz.prog os Rows.consistRestoredRow.laid) #[.slice none 0 0] 8 (World.laidAll_os _ _ _)
       (World.shaped_of_ZipB (by kernel_rfl) (by kernel_rfl)) (by kernel_rfl) (by kernel_rfl) (by kernel_rfl)
       (by rw [MakeChecks.laidMetH_plain _ _ _ (by kernel_rfl)]; exact laidMet_laidAll _ (by kernel_rfl) (by kernel_rfl)))
     gnd_of (fun W base args ds p hG h => by
       obtain ⟨hval, hA, _⟩ := h
       rw [show Tryz.f7.params = #[22] from by kernel_rfl] at hA hval
       obtain ⟨v0, vs0, d0, ds0, p0, q0, hargs, rfl, rfl, k0, r0⟩ := trodAll_cons hA
       obtain ⟨rfl, rfl, rfl⟩ := trodAll_nil r0
       obtain rfl : args = #[v0] := by cases args; simp_all
       obtain ⟨A0, n0, c0, l0, rfl, h0, m0, g0⟩ := open_bytes (hval 0 _ v0 rfl rfl) k0
       exact walk W hG A0 n0 c0 l0 h0 m0 g0))
theorem proved : Rows.ConsistRestoredCardSaid :=
 Claim7.holds_tied_plain_at .later [] [.data, .pinned] true (true, "f16d8a9397c25f091d1d306b3a10e6c7be59c043ed7602f0b32dbdd1f28386d7") true held (fun _ h => by cases h) (by kernel_rfl) (fun _ h => by cases h) consistRestored_row_tie rfl ⟨rfl, rfl⟩ (by kernel_rfl) rfl
   (fun f fn hf hfn => by
     obtain rfl : f = 7 := Option.some.inj ((show Tryz.prog.funcNamed "arlink/arlinklaw09.ConsistRestored" = some 7 by kernel_rfl).symm.trans hf) |>.symm
     obtain rfl : fn = Tryz.f7 := (Option.some.inj (Tryz.func7.symm.trans hfn)).symm
     exact ⟨by kernel_rfl, fun j t ht => by
       rw [Tryz.params7] at ht
       have hm : t ∈ [22] := by simpa using Array.mem_of_getElem? ht
       have hall : ([22].all fun u => !Tryz.prog.wantsStandIn u) = true := by kernel_rfl
       exact (show Tryz.prog.wantsStandIn t = false by simpa using List.all_eq_true.1 hall t hm)⟩)
   (by kernel_rfl)
#print axioms proved
end Go.Proofs.YtjobmkodgodloaaGreatDoor.Resto9
