/-
  objsym's reference: Decode.
  objsym: what Encode and Decode give, in the forms that callers take.
-/
import Derived.Test.YtpedngfmjhpojaaDoorZOm
import Derived.Deep.RegionHeld3
namespace Go.Proofs.YtpedngfmjhpojaaDoor.Obj
open Go.RowKit Go.Proofs Go.Proofs.YtpedngfmjhpojaaDoor.Byt
open Go.Proofs.YtpedngfmjhpojaaDoor.Sls (Oth)

end Go.Proofs.YtpedngfmjhpojaaDoor.Obj

namespace Go.Proofs.YtpedngfmjhpojaaDoor.Obj
open Go.RowKit Go.Proofs Go.Proofs.YtpedngfmjhpojaaDoor.Byt
open Go.Proofs.YtpedngfmjhpojaaDoor.Sls (Oth)

theorem decode_any (K : Nat) (A : Option Addr) (n c : Nat) (l : List UInt8) (w : World) (hr : Byt.Rd w K A n l) (hK : K ≤ w.heap.size) (hnc : n ≤ c) (hc : c ≤ maxLen) (hn : n ≤ 140737488355328) :
    Calls Tryd.prog 16 #[.slice A n c] w (Decodes l w) := by
  by_cases h4 : n < 4
  · exact decode_2 w A n c l hr.1 h4
  · obtain ⟨b, o, rfl, _⟩ := hr.2 0 (by have := hr.1; omega)
    exact decode_go w K b o n c l hr hK hnc hc (by omega) hn
theorem validO_names {xs : List Sy} (h : validO xs = true) : xs.length ≤ 65536 ∧ ∀ x ∈ xs, x.name.size ≤ maxLen := by
  unfold validO at h
  rw [Bool.and_eq_true, decide_eq_true_eq] at h
  refine ⟨h.1, fun x hx => ?_⟩
  have h1 := goodL_all h.2 x hx
  unfold symOk at h1
  rw [Bool.and_eq_true] at h1
  have := (nameOk_range h1.1).2
  unfold maxLen
  omega
/-- What a decoding is known to be. -/
theorem decO_known (l : List UInt8) : (decO l).2.1.length ≤ 65536 ∧ (∀ x ∈ (decO l).2.1, x.name.size ≤ maxLen) ∧ (decO l).2.2.length ≤ l.length := by
  by_cases h : (decO l).1 = 0
  · have h1 := enc_decO l (decO l).2.1 (decO l).2.2 (by rw [← h])
    obtain ⟨h2, h3⟩ := validO_names h1.1
    refine ⟨h2, h3, ?_⟩
    have h4 := congrArg List.length h1.2
    unfold encO at h4
    simp only [List.length_append] at h4
    omega
  · rw [decO_bad l h]
    exact ⟨by simp, by simp, by simp⟩
/-- The result of Decode, as it is read. -/
theorem Decodes.reads {l : List UInt8} {w w' : World} {e : Ending} (h : Decodes l w e w') :
    ∃ A n c B m d, e = .returned (.tuple #[.agg #[.slice A n c, .slice B m d], .int .i64 (decO l).1]) ∧ RdS w' w'.heap.size A n (decO l).2.1 ∧ Byt.Rd w' w'.heap.size B m (decO l).2.2 ∧ n ≤ c ∧ n ≤ 65536 ∧ m ≤ l.length ∧ Byt.Own w' w.heap.size (.slice B m d) m (decO l).2.2 ∧ Cel.Own 39 4 w' w.heap.size (.slice A n c) n (scells (decO l).2.1) ∧ Below w.heap.size w w' := by
  obtain ⟨A, n, c, B, m, d, he, hs, ho, hb⟩ := h
  obtain ⟨k1, k2, k3⟩ := decO_known l
  obtain ⟨A', c', e1, hrs, hnc, _⟩ := hs.reads
  obtain ⟨B', d', e2, hro, _, _⟩ := ho.reads
  injection e1 with e11 _ e13
  injection e2 with e21 _ e23
  subst e11 e13 e21 e23
  have hn := (rds_of hrs k2).1
  have hm := hro.1
  exact ⟨A, n, c, B, m, d, he, rds_of hrs k2, hro, hnc, by omega, by omega, ho, hs, hb⟩

/-- Encode of a valid object. -/
theorem Encodes.ok {xs : List Sy} {body : List UInt8} {w w' : World} {e : Ending} (h : Encodes xs body w e w') (hv : validO xs = true) :
    ∃ A n c, e = .returned (.tuple #[.slice A n c, .int .i64 0]) ∧ n = (encO xs body).length ∧ Byt.Own w' w.heap.size (.slice A n c) n (encO xs body) ∧ Byt.Rd w' w'.heap.size A n (encO xs body) ∧ n ≤ c ∧ c ≤ maxLen ∧ Below w.heap.size w w' := by
  obtain ⟨hb, ⟨_, v, n, he, ho⟩ | ⟨h0, _⟩⟩ := h
  · obtain ⟨A, c, rfl, hr, hc, hm⟩ := ho.reads
    exact ⟨A, n, c, he, hr.1.symm, ho, hr, hc, hm, hb⟩
  · rw [hv] at h0
    cases h0
/-- Encode of another. -/
theorem Encodes.no {xs : List Sy} {body : List UInt8} {w w' : World} {e : Ending} (h : Encodes xs body w e w') (hv : validO xs = false) :
    e = .returned (.tuple #[.slice none 0 0, .int .i64 12]) ∧ Below w.heap.size w w' := by
  obtain ⟨hb, ⟨h0, _⟩ | ⟨_, he⟩⟩ := h
  · rw [hv] at h0
    cases h0
  · exact ⟨he, hb⟩
/-- A row of cells is read. -/
theorem rd_row {w : World} {b K n sz : Nat} {cs : List Value} {t : TypeId} {m : Nat × Nat} (h : w.heap[b]? = some (.cells cs.toArray t m)) (hK : b < K) (hl : cs.length = n * sz) : Cel.Rd w K (some ⟨b, 0, none⟩) n sz cs :=
  ⟨hl, fun k hk => ⟨b, 0, rfl, hK, by rw [cell_of_row w b (0 + k) _ _ _ h, Nat.zero_add]; simp [List.getElem?_eq_getElem hk]⟩⟩
end Go.Proofs.YtpedngfmjhpojaaDoor.Obj
