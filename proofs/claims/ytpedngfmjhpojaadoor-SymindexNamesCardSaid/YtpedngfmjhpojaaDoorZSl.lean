/-
  symindex: mathematics of the index: what stands where; the offsets ascend.
-/
import Derived.Test.YtpedngfmjhpojaaDoorZSe
namespace Go.Proofs.YtpedngfmjhpojaaDoor.Six
open Go.RowKit Go.Proofs Go.Proofs.YtpedngfmjhpojaaDoor.Byt
open Go.Proofs.YtpedngfmjhpojaaDoor.Arp (Mem)
open Go.Proofs.YtpedngfmjhpojaaDoor.Arw (offL offAt fitL pz)
open Go.Proofs.YtpedngfmjhpojaaDoor.Amp (En)

theorem offAt_lt {o : Nat} {xs : List Mem} {i : Nat} : ∀ {j : Nat}, i < j → j ≤ xs.length → offAt o xs i < offAt o xs j
  | 0, h, _ => by omega
  | j + 1, h, hj => by
    rw [Arw.offAt_succ (show j < xs.length by omega)]
    have hp : 60 ≤ pz xs[j].len := by unfold pz; omega
    by_cases e : i = j
    · subst e; omega
    · have := offAt_lt (o := o) (xs := xs) (show i < j by omega) (by omega)
      omega
theorem offF_lt (xs : List Mem) : (offF xs).Pairwise (· < ·) := by
  unfold offF offL
  rw [List.pairwise_map]
  exact List.Pairwise.imp_of_mem (fun {a b} _ hb h => offAt_lt h (by have := List.mem_range.1 hb; omega)) List.pairwise_lt_range
theorem entsF_sorted : ∀ {os : List Nat} {xs : List Mem}, os.Pairwise (· < ·) → (entsF os xs).Pairwise fun a b => a.off ≤ b.off
  | o :: os, x :: xs, h => by
    obtain ⟨h1, h2⟩ := List.pairwise_cons.1 h
    rw [entsF, List.pairwise_append]
    refine ⟨?_, entsF_sorted h2, fun a ha b hb => ?_⟩
    · rw [List.pairwise_map]
      exact List.pairwise_of_forall fun _ _ => Int.le_refl _
    · obtain ⟨s, _, rfl⟩ := List.mem_map.1 ha
      obtain ⟨k, k1, k2, k3, _⟩ := entsF_mem hb
      have := h1 _ (List.getElem_mem k1)
      show (o : Int) ≤ b.off
      omega
  | [], _, _ => by simp [entsF]
  | _ :: _, [], _ => by simp [entsF]
theorem idx_sorted {xs : List Mem} {i j : Nat} (hij : i ≤ j) (hj : j < (idx xs).length) : ((idx xs)[i]'(by omega)).off ≤ (idx xs)[j].off := by
  rcases Nat.lt_or_eq_of_le hij with q | rfl
  · exact List.pairwise_iff_getElem.1 (entsF_sorted (offF_lt xs)) i j (by exact Nat.lt_trans q hj) hj q
  · exact Int.le_refl _
theorem names_split {xs : List Mem} {i : Nat} (hi : i < xs.length) : namesM xs = namesM (xs.take i) ++ (defs xs[i].data ++ namesM (xs.drop (i + 1))) := by
  conv => lhs; rw [← List.take_append_drop i xs, List.drop_eq_getElem_cons hi]
  rw [namesM_append, namesM_cons]
theorem idx_get {xs : List Mem} {i j : Nat} (hi : i < xs.length) (hj : j < (defs xs[i].data).length) :
    ∃ h : (namesM (xs.take i)).length + j < (idx xs).length, ((idx xs)[(namesM (xs.take i)).length + j]'h).name = (defs xs[i].data)[j] := by
  have h1 : ((idx xs).map (·.name))[(namesM (xs.take i)).length + j]? = some ((defs xs[i].data)[j]'hj) := by
    rw [idx_names, names_split hi, List.getElem?_append_right (by omega), Nat.add_sub_cancel_left, List.getElem?_append_left hj, List.getElem?_eq_getElem hj]
  rw [List.getElem?_map] at h1
  rcases h : (idx xs)[(namesM (xs.take i)).length + j]? with _ | e
  · rw [h] at h1; cases h1
  · rw [h] at h1
    obtain ⟨q, e2⟩ := List.getElem?_eq_some_iff.1 h
    refine ⟨q, ?_⟩
    rw [e2]
    exact Option.some.inj h1

/-! ### the member at an offset -/
end Go.Proofs.YtpedngfmjhpojaaDoor.Six
