/-
  armap: what the laws lean on (mathematics).
-/
import Derived.Test.YtlooblgdlfheaaaAk
namespace Go.Proofs.Ytlooblgdlfheaaa.Amp
open Go.RowKit Go.Proofs Go.Proofs.Ytlooblgdlfheaaa.Byt

theorem szN_mem {s : List UInt8} : ∀ {l : List (List UInt8)}, s ∈ l → s.length ≤ szN l
  | t :: r, h => by
    have e : szN (t :: r) = (t.length + 1) + szN r := by simp [szN]
    rcases List.mem_cons.1 h with rfl | h
    · omega
    · have := szN_mem h
      omega
theorem name_le {xs : List En} {x : En} (h : x ∈ xs) : x.name.size ≤ (encA xs).length := by
  have hm : x.name.data.toList ∈ nmsE xs := List.mem_map.2 ⟨x, h, rfl⟩
  have := szN_mem hm
  rw [len_list] at this
  rw [encA_length]
  omega
theorem len_le (xs : List En) : xs.length ≤ (encA xs).length := by
  rw [encA_length]
  omega
theorem encA_few {xs : List En} (h1 : xs.length ≤ 100) (h2 : ∀ x ∈ xs, x.name.size ≤ 300) : (encA xs).length ≤ 40000 := by
  rw [encA_length]
  have := szN_le (m := 300) (l := nmsE xs) fun s hs => by
    obtain ⟨x, hx, rfl⟩ := List.mem_map.1 hs
    rw [len_list]
    exact h2 x hx
  rw [nmsE_length] at this
  have h3 : xs.length * (300 + 1) ≤ 100 * (300 + 1) := Nat.mul_le_mul_right _ h1
  omega
theorem dec_enc {xs : List En} (h : fitA xs = true) (hn : xs.length ≤ 1000000) : decE (encA xs) = xs ∧ decZ (encA xs) = 0 := by
  have := decA_enc xs h (by omega)
  unfold decE decZ
  rw [this]
  exact ⟨rfl, rfl⟩
theorem dec_known (l : List UInt8) : (decZ l = 8 ∧ decE l = []) ∨ (decZ l = 0 ∧ fitA (decE l) = true ∧ encA (decE l) = l ∧ (decE l).length ≤ l.length ∧ ∀ x ∈ decE l, x.name.size ≤ l.length) := by
  unfold decZ decE
  cases h : decA l with
  | none => exact .inl ⟨rfl, rfl⟩
  | some xs =>
    obtain ⟨h1, _, h3⟩ := enc_decA h
    refine .inr ⟨rfl, h1, h3, ?_, fun x hx => ?_⟩
    · rw [← h3]; exact len_le xs
    · rw [← h3]; exact name_le hx
theorem dec_none {l : List UInt8} (h : decA l = none) : decZ l = 8 ∧ decE l = [] := by
  unfold decZ decE
  rw [h]
  exact ⟨rfl, rfl⟩
theorem fitA_append (a b : List En) : fitA (a ++ b) = (fitA a && fitA b) := by simp [fitA]
end Go.Proofs.Ytlooblgdlfheaaa.Amp
