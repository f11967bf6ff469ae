/-
  Spaces appended, spaces made, the variables of the fields, and which names fit by the reference.
-/
import Derived.Test.YtfhdgbpkhcnanaaDoorHdb
namespace Go.Proofs.YtfhdgbpkhcnanaaDoor.Hdr
open Go.RowKit Go.Proofs Go.Proofs.YtfhdgbpkhcnanaaDoor.Byt Go.Proofs.YtfhdgbpkhcnanaaDoor.Str Go.Proofs.YtfhdgbpkhcnanaaDoor.Dec

theorem var1 (b : Nat) (w : World) : Calls Tryd.prog 31 #[.pointer (some ⟨b, 0, none⟩)] w fun e w' => e = .returned (.pointer (some ⟨b, 1, none⟩)) ∧ w = w' := by
  go_enter Tryd.func31, Tryd.ntmps31
  go_wp2_with fail
  go_ret
  exact ⟨rfl, rfl⟩
theorem var2 (b : Nat) (w : World) : Calls Tryd.prog 32 #[.pointer (some ⟨b, 0, none⟩)] w fun e w' => e = .returned (.pointer (some ⟨b, 2, none⟩)) ∧ w = w' := by
  go_enter Tryd.func32, Tryd.ntmps32
  go_wp2_with fail
  go_ret
  exact ⟨rfl, rfl⟩
theorem var3 (b : Nat) (w : World) : Calls Tryd.prog 33 #[.pointer (some ⟨b, 0, none⟩)] w fun e w' => e = .returned (.pointer (some ⟨b, 3, none⟩)) ∧ w = w' := by
  go_enter Tryd.func33, Tryd.ntmps33
  go_wp2_with fail
  go_ret
  exact ⟨rfl, rfl⟩
theorem var4 (b : Nat) (w : World) : Calls Tryd.prog 34 #[.pointer (some ⟨b, 0, none⟩)] w fun e w' => e = .returned (.pointer (some ⟨b, 4, none⟩)) ∧ w = w' := by
  go_enter Tryd.func34, Tryd.ntmps34
  go_wp2_with fail
  go_ret
  exact ⟨rfl, rfl⟩
theorem var5 (b : Nat) (w : World) : Calls Tryd.prog 35 #[.pointer (some ⟨b, 0, none⟩)] w fun e w' => e = .returned (.pointer (some ⟨b, 5, none⟩)) ∧ w = w' := by
  go_enter Tryd.func35, Tryd.ntmps35
  go_wp2_with fail
  go_ret
  exact ⟨rfl, rfl⟩

def numOf : Value → Nat | .int _ n => n.toNat | _ => 0

set_option maxHeartbeats 1000000 in
theorem appendSpaces_any (K : Nat) (v : Value) (m : Nat) (l : List UInt8) (k : Nat) (w : World) (hv : Own w K v m l) (hK : K ≤ w.heap.size) (hm : m ≤ 1000) (hk : k ≤ 1000) :
    Calls Tryd.prog 18 #[v, .int .i64 (k : Int)] w fun e w' => ∃ v', e = .returned v' ∧ Own w' K v' (m + k) (l ++ List.replicate k 32) ∧ Below K w w' := by
  go_enter Tryd.func18, Tryd.ntmps18
  go_wp2_with fail
  go_loopw [0, 6] (fun u i W => ∃ j : Nat, i = .int .i64 (j : Int) ∧ j ≤ k ∧ Own W K u (m + j) (l ++ List.replicate j 32) ∧ Below K w W) (fun _ i _ => k - numOf i)
  case atStart => exact ⟨0, rfl, by omega, by simpa using hv, Below.refl _ _⟩
  case round =>
    clear hv
    obtain ⟨j, rfl, hj, hown, hbel⟩ := hrel
    by_cases hlt : j < k
    · have hKr : K ≤ wr.heap.size := Nat.le_trans hK hbel.size
      go_wp2_with (at_builtin; refine wpList_push wr K u0 (m + j) (l ++ List.replicate j 32) 32 32 rfl hown hKr (by omega) rfl (.tmp 8) (.tmp 9) rfl rfl rfl ?_; intro v1 w1 hown1 hb1)
      go_roundw
      case rel =>
        refine ⟨j + 1, by go_num, by omega, ?_, hbel.trans hb1⟩
        rw [List.append_assoc, ← List.replicate_succ'] at hown1
        exact hown1
      case measure => simp [numOf]; omega
    · obtain rfl : j = k := by omega
      have Hown := hid hown
      clear hown
      go_wp2
      go_ret
      exact ⟨_, rfl, Hown.out, hbel⟩

set_option maxHeartbeats 1000000 in
theorem rspaces_any (k : Nat) (w : World) (hk : k ≤ 1000) :
    Calls Tryd.prog 24 #[.int .i64 (k : Int)] w fun e w' => ∃ v', e = .returned v' ∧ Own w' w.heap.size v' k (List.replicate k 32) ∧ Below w.heap.size w w' := by
  go_enter Tryd.func24, Tryd.ntmps24
  go_wp2_with fail
  go_loopw [3, 4] (fun u i W => ∃ j : Nat, i = .int .i64 (j : Int) ∧ j ≤ k ∧ Own W w.heap.size u j (List.replicate j 32) ∧ Below w.heap.size w W) (fun _ i _ => k - numOf i)
  case atStart => exact ⟨0, rfl, by omega, Own.nil _ _, Below.refl _ _⟩
  case round =>
    obtain ⟨j, rfl, hj, hown, hbel⟩ := hrel
    by_cases hlt : j < k
    · go_wp2_with (at_builtin; refine wpList_push wr w.heap.size u3 j (List.replicate j 32) 32 32 rfl hown hbel.size (by omega) rfl (.tmp 10) (.tmp 11) rfl rfl rfl ?_; intro v1 w1 hown1 hb1)
      go_roundw
      case rel =>
        refine ⟨j + 1, by go_num, by omega, ?_, hbel.trans hb1⟩
        rw [← List.replicate_succ'] at hown1
        exact hown1
      case measure => simp [numOf]; omega
    · obtain rfl : j = k := by omega
      have Hown := hid hown
      clear hown
      go_wp2
      go_ret
      exact ⟨_, rfl, Hown.out, hbel⟩
end Go.Proofs.YtfhdgbpkhcnanaaDoor.Hdr
