/-
  arwrite's reference: Write.
  arwrite: the laws' awake.
-/
import Derived.Test.YtpedngfmjhpojaaGreatDoorYWk
namespace Go.Proofs.YtpedngfmjhpojaaGreatDoor.Arw
open Go.RowKit Go.Proofs Go.Proofs.YtpedngfmjhpojaaGreatDoor.Byt Go.Proofs.YtpedngfmjhpojaaGreatDoor.Dec Go.Proofs.YtpedngfmjhpojaaGreatDoor.Lnm Go.Proofs.YtpedngfmjhpojaaGreatDoor.Hdr Go.Proofs.YtpedngfmjhpojaaGreatDoor.Arp
open Go.Proofs.YtpedngfmjhpojaaGreatDoor.Sls (Fr blk Oth)

set_option maxRecDepth 100000 in
theorem rmagic_own (w : World) :
    Calls Tryz.prog 23 #[] w fun e w' => ∃ A c, e = .returned (.slice A 8 c) ∧ Byt.Own w' w.heap.size (.slice A 8 c) 8 Arp.magic ∧ Below w.heap.size w w' := by
  go_enter Tryz.func23, Tryz.ntmps23
  have kc := Lib.run_convert_bytes_const (P := Tryz.prog) w 23 5 #[.int .u8 33, .int .u8 60, .int .u8 97, .int .u8 114, .int .u8 99, .int .u8 104, .int .u8 62, .int .u8 10] 8 8 Tryz.underlying23 Tryz.underlying5
  go_wp2_with fail
  go_ret
  exact ⟨_, _, rfl, ⟨rfl, .inr ⟨w.heap.size, 8, _, (8, 9), rfl, Nat.le_refl _, heap_alloc_new w _, Nat.le_refl _, by unfold maxLen; omega, rfl, rfl, fun j hj => by simp only; omega⟩⟩, (Below.refl _ w).alloc (Nat.le_refl _) _⟩

end Go.Proofs.YtpedngfmjhpojaaGreatDoor.Arw

namespace Go.Proofs.YtpedngfmjhpojaaGreatDoor.Arw
open Go.RowKit Go.Proofs Go.Proofs.YtpedngfmjhpojaaGreatDoor.Byt Go.Proofs.YtpedngfmjhpojaaGreatDoor.Dec Go.Proofs.YtpedngfmjhpojaaGreatDoor.Lnm Go.Proofs.YtpedngfmjhpojaaGreatDoor.Hdr Go.Proofs.YtpedngfmjhpojaaGreatDoor.Arp
open Go.Proofs.YtpedngfmjhpojaaGreatDoor.Sls (Fr blk Oth)

def nA : ByteArray := ⟨#[97, 46, 111]⟩
def nL : ByteArray := ⟨#[97, 45, 118, 101, 114, 121, 45, 108, 111, 110, 103, 45, 110, 97, 109, 101, 46, 111]⟩
def m1 (g : Nat) : Mem := ⟨nA, 0, 0, 0, 0, some ⟨g, 0, none⟩, 1, 1, [120]⟩
def m2 : Mem := ⟨nL, 0, 0, 0, 0, none, 0, 0, []⟩
/-- Members in a row of their own. -/
theorem rdM_row {w : World} {b K : Nat} {xs : List Mem} {cs : Array Value} {m : Nat × Nat} (h : w.heap[b]? = some (.cells cs 49 m)) (hc : cs.toList = mcells xs) (hb : b < K) (hd : ∀ x ∈ xs, Byt.Rd w K x.ptr x.len x.data ∧ x.len ≤ 140737488355328) : RdM w K (some ⟨b, 0, none⟩) xs.length xs := by
  refine ⟨rfl, fun k hk => ⟨⟨b, 0, rfl, hb, ?_⟩, hd _ (List.getElem_mem hk)⟩⟩
  obtain ⟨q0, q1, q2, q3, q4, q5⟩ := mcells_at xs k hk
  rw [← hc] at q0 q1 q2 q3 q4 q5
  have e : ∀ j v, cs.toList[j]? = some v → w.cell? ⟨b, j, none⟩ = some v := fun j v hv => by
    rw [cell_of_row w b j cs _ m h, ← Array.getElem?_toList]
    exact hv
  unfold MCells
  rw [Nat.zero_add]
  exact ⟨e _ _ q0, e _ _ q1, e _ _ q2, e _ _ q3, e _ _ q4, e _ _ q5⟩

end Go.Proofs.YtpedngfmjhpojaaGreatDoor.Arw
