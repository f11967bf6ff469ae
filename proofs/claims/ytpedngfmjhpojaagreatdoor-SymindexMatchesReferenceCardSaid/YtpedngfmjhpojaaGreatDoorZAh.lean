/-
  armap: bytes.Cut at a zero byte; splitting a name off.
  armap: a name is split off; Decode.
  armap: Decode.
  armap: Encode and Decode in the forms that callers take; the laws' awake.
  armap: what the laws lean on (mathematics).
  armap: append of entries from whatever slice; a list of entries cut off; a byte slice cut off.
-/
import Derived.Test.YtpedngfmjhpojaaGreatDoorZShelf2
import Derived.Test.YtpedngfmjhpojaaGreatDoorZAf
import Derived.Deep.Cut
import Derived.Deep.CutRange
import Derived.Deep.RegionWith
import Derived.RegionTactic
import Derived.BigRegion
namespace Go.Proofs.YtpedngfmjhpojaaGreatDoor.Amp
open Go.RowKit Go.Proofs Go.Proofs.YtpedngfmjhpojaaGreatDoor.Byt
open Go.Proofs.YtpedngfmjhpojaaGreatDoor.Sls (Oth Fr blk)

end Go.Proofs.YtpedngfmjhpojaaGreatDoor.Amp

namespace Go.Proofs.YtpedngfmjhpojaaGreatDoor.Amp
open Go.RowKit Go.Proofs Go.Proofs.YtpedngfmjhpojaaGreatDoor.Byt
open Go.Proofs.YtpedngfmjhpojaaGreatDoor.Sls (Oth Fr blk)

end Go.Proofs.YtpedngfmjhpojaaGreatDoor.Amp

namespace Go.Proofs.YtpedngfmjhpojaaGreatDoor.Amp
open Go.RowKit Go.Proofs Go.Proofs.YtpedngfmjhpojaaGreatDoor.Byt
open Go.Proofs.YtpedngfmjhpojaaGreatDoor.Sls (Oth Fr blk)

end Go.Proofs.YtpedngfmjhpojaaGreatDoor.Amp

namespace Go.Proofs.YtpedngfmjhpojaaGreatDoor.Amp
open Go.RowKit Go.Proofs Go.Proofs.YtpedngfmjhpojaaGreatDoor.Byt
open Go.Proofs.YtpedngfmjhpojaaGreatDoor.Sls (Oth Fr blk)

theorem EncsA.ok {xs : List En} {w w' : World} {e : Ending} (h : EncsA xs w e w') (hf : fitA xs = true) :
    ∃ A n c, e = .returned (.tuple #[.slice A n c, .int .i64 0]) ∧ n = (encA xs).length ∧ Byt.Own w' w.heap.size (.slice A n c) n (encA xs) ∧ Byt.Rd w' w'.heap.size A n (encA xs) ∧ n ≤ c ∧ c ≤ maxLen ∧ Below w.heap.size w w' := by
  obtain ⟨v, rfl, ho, hb⟩ := h
  have h1 : outA xs = encA xs := if_pos hf
  have h2 : errA xs = 0 := if_pos hf
  rw [h1] at ho
  rw [h2]
  obtain ⟨A, c, rfl, hr, hnc, hc⟩ := ho.reads
  exact ⟨A, _, c, rfl, rfl, ho, hr, hnc, hc, hb⟩
theorem EncsA.no {xs : List En} {w w' : World} {e : Ending} (h : EncsA xs w e w') (hf : fitA xs = false) :
    ∃ A c, e = .returned (.tuple #[.slice A 0 c, .int .i64 9]) ∧ Byt.Rd w' w'.heap.size A 0 [] ∧ Below w.heap.size w w' := by
  obtain ⟨v, rfl, ho, hb⟩ := h
  have h1 : outA xs = [] := if_neg (by rw [hf]; simp)
  have h2 : errA xs = 9 := if_neg (by rw [hf]; simp)
  rw [h1] at ho
  rw [h2]
  obtain ⟨A, c, rfl, hr, hnc, hc⟩ := ho.reads
  exact ⟨A, c, rfl, hr, hb⟩
theorem EncsA.reads {xs : List En} {w w' : World} {e : Ending} (h : EncsA xs w e w') :
    ∃ A n c, e = .returned (.tuple #[.slice A n c, .int .i64 (errA xs)]) ∧ n = (outA xs).length ∧ Byt.Own w' w.heap.size (.slice A n c) n (outA xs) ∧ Byt.Rd w' w'.heap.size A n (outA xs) ∧ n ≤ c ∧ c ≤ maxLen ∧ Below w.heap.size w w' := by
  obtain ⟨v, rfl, ho, hb⟩ := h
  obtain ⟨A, c, rfl, hr, hnc, hc⟩ := ho.reads
  exact ⟨A, _, c, rfl, rfl, ho, hr, hnc, hc, hb⟩
def fE : En := ⟨⟨#[102]⟩, 258⟩
theorem aw_fit : fitA [fE] = true := by decide +kernel
end Go.Proofs.YtpedngfmjhpojaaGreatDoor.Amp

namespace Go.Proofs.YtpedngfmjhpojaaGreatDoor.Amp
open Go.RowKit Go.Proofs Go.Proofs.YtpedngfmjhpojaaGreatDoor.Byt

end Go.Proofs.YtpedngfmjhpojaaGreatDoor.Amp

namespace Go.Proofs.YtpedngfmjhpojaaGreatDoor.Cel
open Go.RowKit Go.Proofs
open Go.Proofs.YtpedngfmjhpojaaGreatDoor.Byt (run_put hid take_all)
open Go.Proofs.YtpedngfmjhpojaaGreatDoor.Sls (Oth Oth.refl Oth.new Oth.put Oth.alloc Oth.trans Fr Fr.refl Fr.new Fr.put Fr.ahead Apart blk)
end Go.Proofs.YtpedngfmjhpojaaGreatDoor.Cel
namespace Go.Proofs.YtpedngfmjhpojaaGreatDoor.Amp
open Go.RowKit Go.Proofs Go.Proofs.YtpedngfmjhpojaaGreatDoor.Byt
end Go.Proofs.YtpedngfmjhpojaaGreatDoor.Amp
