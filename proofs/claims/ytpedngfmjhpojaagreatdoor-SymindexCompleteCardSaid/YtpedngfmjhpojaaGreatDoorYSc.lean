/-
  symindex: what its reference's Complete leans on.
  symindex's reference: Complete.
-/
import Derived.Test.YtpedngfmjhpojaaGreatDoorYSa
import Derived.Test.YtpedngfmjhpojaaGreatDoorYOa
import Derived.Test.YtpedngfmjhpojaaGreatDoorYWm
namespace Go.Proofs.YtpedngfmjhpojaaGreatDoor.Cel
open Go.RowKit Go.Proofs
/-- A cell of a slice that the call has made. -/
theorem Own.at_ {t : TypeId} {sz : Nat} {w : World} {K n : Nat} {v : Value} {cs : List Value} (h : Own t sz w K v n cs) {j : Nat} (hj : j < cs.length) :
    ∃ g cap cur m, v = .slice (some ⟨g, 0, none⟩) n cap ∧ K ≤ g ∧ w.heap[g]? = some (.cells cur t m) ∧ w.cell? ⟨g, j, none⟩ = some cs[j] ∧ w.frozen? ⟨g, j, none⟩ = false ∧
      ∀ u, Own t sz (w.setCell ⟨g, j, none⟩ u) K v n (cs.set j u) := by
  have hl := h.1
  rcases h.2 with ⟨rfl, rfl⟩ | ⟨g, cap, cur, m, rfl, hg, hh, hn, hm, hs, ht, hf⟩
  · rw [hl] at hj; simp at hj
  · have hle : n * sz ≤ cap * sz := Nat.mul_le_mul_right _ hn
    have hc : cur[j]? = some cs[j] := by
      have h1 : (cur.toList.take (n * sz))[j]? = some cs[j] := by rw [ht, List.getElem?_eq_getElem hj]
      rw [List.getElem?_take, if_pos (by omega)] at h1
      simpa using h1
    refine ⟨g, cap, cur, m, rfl, hg, hh, by rw [cell_of_row w g j cur t m hh]; exact hc, ?_, fun u => ⟨by rw [List.length_set]; exact hl, .inr ⟨g, cap, cur.setIfInBounds j u, m, rfl, hg, ?_, hn, hm, by simpa using hs, ?_, hf⟩⟩⟩
    · have := hf j (by omega)
      simp [World.frozen?, hh]
      omega
    · simp [World.setCell, Array.getElem?_modify, hh]
    · rw [Array.toList_setIfInBounds, List.take_set, ht]
end Go.Proofs.YtpedngfmjhpojaaGreatDoor.Cel
namespace Go.Proofs.YtpedngfmjhpojaaGreatDoor.Six
open Go.RowKit Go.Proofs Go.Proofs.YtpedngfmjhpojaaGreatDoor.Byt
open Go.Proofs.YtpedngfmjhpojaaGreatDoor.Sls (Oth)
open Go.Proofs.YtpedngfmjhpojaaGreatDoor.Arp (Mem)
open Go.Proofs.YtpedngfmjhpojaaGreatDoor.Arw (fitL ints)
open Go.Proofs.YtpedngfmjhpojaaGreatDoor.Amp (En ecells encA fitA szS enOk_iff fitA_iff)

theorem sown_oth {t : TypeId} {w w' : World} {K n : Nat} {v : Value} {l : List ByteArray} (h : Sls.Own w K v n l) (ho : Oth t w w') (ht : (9 : Nat) ≠ t) : Sls.Own w' K v n l := by
  refine ⟨h.1, ?_⟩
  rcases h.2 with h | ⟨g, cap, cur, m, hv, hg, hh, r⟩
  · exact .inl h
  · exact .inr ⟨g, cap, cur, m, hv, hg, ho g _ hh (fun cs m' e => by injection e with _ e2; exact ht e2), r⟩

end Go.Proofs.YtpedngfmjhpojaaGreatDoor.Six

namespace Go.Proofs.YtpedngfmjhpojaaGreatDoor.Six
open Go.RowKit Go.Proofs Go.Proofs.YtpedngfmjhpojaaGreatDoor.Byt
open Go.Proofs.YtpedngfmjhpojaaGreatDoor.Sls (Oth)
open Go.Proofs.YtpedngfmjhpojaaGreatDoor.Arp (Mem RdM)
open Go.Proofs.YtpedngfmjhpojaaGreatDoor.Arw (fitL ints)
open Go.Proofs.YtpedngfmjhpojaaGreatDoor.Amp (En ecells encA fitA szS enOk_iff fitA_iff)

theorem rdm_cell {w : World} {K n : Nat} {A : Option Addr} {xs : List Mem} (h : RdM w K A n xs) {k : Nat} (hk : k < xs.length) : ∃ b o : Nat, A = some ⟨b, o, none⟩ ∧ b < K ∧ w.cell? ⟨b, o + k * 6 + 5, none⟩ = some (.slice xs[k].ptr xs[k].len xs[k].cap) ∧ Byt.Rd w K xs[k].ptr xs[k].len xs[k].data := by
  obtain ⟨⟨b, o, e, hb, hc⟩, hr, _⟩ := h.2 k hk
  exact ⟨b, o, e, hb, hc.2.2.2.2.2, hr⟩
theorem str_ent : (9 : Nat) ≠ 51 := by decide
end Go.Proofs.YtpedngfmjhpojaaGreatDoor.Six
