/-
  symindex: mathematics of the index: what stands where; the offsets ascend.
-/
import Derived.Test.YtpedngfmjhpojaaGreatDoorZSe
namespace Go.Proofs.YtpedngfmjhpojaaGreatDoor.Six
open Go.RowKit Go.Proofs Go.Proofs.YtpedngfmjhpojaaGreatDoor.Byt
open Go.Proofs.YtpedngfmjhpojaaGreatDoor.Arp (Mem)
open Go.Proofs.YtpedngfmjhpojaaGreatDoor.Arw (offL offAt fitL pz)
open Go.Proofs.YtpedngfmjhpojaaGreatDoor.Amp (En)

theorem offAt_lt {o : Nat} {xs : List Mem} {i : Nat} : ∀ {j : Nat}, i < j → j ≤ xs.length → offAt o xs i < offAt o xs j
  | 0, h, _ => by omega
  | j + 1, h, hj => by
    rw [Arw.offAt_succ (show j < xs.length by omega)]
    have hp : 60 ≤ pz xs[j].len := by unfold pz; omega
    by_cases e : i = j
    · subst e; omega
    · have := offAt_lt (o := o) (xs := xs) (show i < j by omega) (by omega)
      omega
theorem offF_lt (xs : List Mem) : (offF xs).Pairwise (· < ·) := by
  unfold offF offL
  rw [List.pairwise_map]
  exact List.Pairwise.imp_of_mem (fun {a b} _ hb h => offAt_lt h (by have := List.mem_range.1 hb; omega)) List.pairwise_lt_range
theorem oOut_lt (xs : List Mem) : (oOut xs).Pairwise (· < ·) := by
  unfold oOut
  split
  · exact offF_lt xs
  · exact List.Pairwise.nil
theorem oOut_ne {xs : List Mem} {i j : Nat} (hi : i < (oOut xs).length) (hj : j < (oOut xs).length) (h : i ≠ j) : (((oOut xs)[i] : Nat) : Int) ≠ (((oOut xs)[j] : Nat) : Int) := by
  have hp := List.pairwise_iff_getElem.1 (oOut_lt xs)
  rcases Nat.lt_or_gt_of_ne h with q | q
  · have := hp i j hi hj q; omega
  · have := hp j i hj hi q; omega
/-! ### the member at an offset -/
theorem atO_hit {xs : List Mem} {k : Nat} {z : Int} (hk : k < (oOut xs).length) (h : (((oOut xs)[k] : Nat) : Int) = z) : atO xs z = some k :=
  List.findIdx?_eq_some_iff_getElem.2 ⟨hk, by simp [h], fun j hj => by
    have := oOut_ne (i := j) (j := k) (by omega) hk (by omega)
    simp
    omega⟩
theorem atO_any (xs : List Mem) (z : Int) : atB xs z = (oOut xs).any fun (o : Nat) => decide ((o : Int) = z) := by
  unfold atB atO
  exact List.findIdx?_isSome
theorem atO_none {xs : List Mem} {z : Int} (h : atB xs z = false) : atI xs z = 0 := by
  unfold atB at h
  unfold atI
  rcases h2 : atO xs z with _ | k
  · rfl
  · rw [h2] at h; cases h
/-- An entry of the index is that of a member which defines it. -/
theorem idx_home {xs : List Mem} (h0 : (fitL 0 xs).2 = 0) {e : En} (he : e ∈ idx xs) : ∃ (k : Nat) (hk : k < xs.length), atO xs e.off = some k ∧ e.name ∈ defs xs[k].data := by
  obtain ⟨k, h1, h2, h3, h4⟩ := entsF_mem he
  have ho : oOut xs = offF xs := by unfold oOut; rw [if_pos h0]
  refine ⟨k, h2, atO_hit (by rw [ho]; exact h1) ?_, h4⟩
  have h5 : (oOut xs)[k]'(by rw [ho]; exact h1) = (offF xs)[k]'h1 := by simp only [ho]
  rw [h5, h3]
end Go.Proofs.YtpedngfmjhpojaaGreatDoor.Six
