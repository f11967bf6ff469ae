/-
  What the laws of longname want: a name is found by its field.
-/
import Derived.Test.YtnkdcecpbjhdmaaDoorLnk
namespace Go.Proofs.YtnkdcecpbjhdmaaDoor.Lnm
open Go.RowKit Go.Proofs Go.Proofs.YtnkdcecpbjhdmaaDoor.Byt Go.Proofs.YtnkdcecpbjhdmaaDoor.Str3 Go.Proofs.YtnkdcecpbjhdmaaDoor.Dec

theorem longs_split {ns : List ByteArray} {i : Nat} (hi : i < ns.length) (hl : sht (bts ns[i]) = false) :
    longs ns = longs (ns.take i) ++ (ns[i] :: longs (ns.drop (i + 1))) := by
  conv => lhs; rw [← List.take_append_drop i ns, List.drop_eq_getElem_cons hi]
  rw [longs_append]
  congr 1
  unfold longs
  rw [List.filter_cons, hl]
  rfl

theorem tx_last {n : Nat} {k : Nat} (hk : (tx 10 n).length = k + 1) : ∃ c, (tx 10 n)[k]? = some c ∧ c ≠ 47 := by
  have hlt : k < (tx 10 n).length := by omega
  refine ⟨(tx 10 n)[k], List.getElem?_eq_getElem hlt, fun e => ?_⟩
  have := tx_digits (B := 10) (by omega) (by omega) n _ (List.getElem_mem hlt)
  rw [e] at this
  revert this
  decide

theorem tx_len_15 {n : Nat} (h : n < 1000000) : (tx 10 n).length ≤ 7 := by
  rw [tx_length (by omega)]
  exact nd_le_of_lt (by omega) (by omega) (by omega)

/-- A field with a slash and digits is not that of a short name. -/
theorem short_dig (n : Nat) : shortOf (47 :: tx 10 n) = none := by
  have h1 := nd_pos 10 n
  rw [← tx_length (by omega)] at h1
  obtain ⟨k, hk⟩ : ∃ k, (tx 10 n).length = k + 1 := ⟨(tx 10 n).length - 1, by omega⟩
  obtain ⟨c, hc, hne⟩ := tx_last hk
  rw [short_iff (k := k + 1) (by rw [List.length_cons, hk]), if_neg]
  rintro ⟨h, _⟩
  rw [List.getElem?_cons_succ, hc] at h
  injection h with h
  exact hne h

theorem resv_field {ns : List ByteArray} {i : Nat} (hv : allV ns = true) (hi : i < ns.length) (hb : (tab (longs ns)).length < 1000000) :
    resv (bts (fld (ns.take i) ns[i])) (tab (longs ns)) = some ns[i] ∧ (fld (ns.take i) ns[i]).size ≤ 16 := by
  cases hs : sht (bts ns[i])
  · have hsp := longs_split hi hs
    have hj : (longs (ns.take i)).length < (longs ns).length := by rw [hsp, List.length_append, List.length_cons]; omega
    have htk : (longs ns).take (longs (ns.take i)).length = longs (ns.take i) := by rw [hsp, List.take_left]
    have hat : (longs ns)[(longs (ns.take i)).length] = ns[i] := by
      have : (longs ns)[(longs (ns.take i)).length]? = some ns[i] := by rw [hsp, List.getElem?_append_right (Nat.le_refl _)]; simp
      rw [List.getElem?_eq_getElem hj] at this
      injection this
    have hlt := (offset_at hj).1
    rw [htk] at hlt
    have h7 := tx_len_15 (n := (tab (longs (ns.take i))).length) (by omega)
    have hf : fld (ns.take i) ns[i] = str ([47] ++ tx 10 (tab (longs (ns.take i))).length) := by unfold fld; rw [if_neg (by rw [hs]; simp)]
    rw [hf, bts_str, str_size]
    refine ⟨?_, by rw [List.length_append]; simp only [List.length_cons, List.length_nil]; omega⟩
    unfold resv
    rw [show [47] ++ tx 10 (tab (longs (ns.take i))).length = 47 :: tx 10 (tab (longs (ns.take i))).length from rfl, short_dig]
    have := long_hit (f := 47 :: tx 10 (tab (longs (ns.take i))).length) (longs_allV hv) hj (by rw [htk]) (by rw [htk]; omega)
    rw [hat] at this
    exact this
  · have hf : fld (ns.take i) ns[i] = str (bts ns[i] ++ [47]) := by unfold fld; rw [if_pos hs]
    have h15 : (bts ns[i]).length ≤ 15 := by unfold sht at hs; simp at hs; exact hs.2.1
    rw [hf, bts_str, str_size]
    refine ⟨?_, by rw [List.length_append]; simp only [List.length_cons, List.length_nil]; omega⟩
    unfold resv
    rw [short_iff (k := (bts ns[i]).length) (by simp), List.take_left, if_pos ⟨by rw [List.getElem?_append_right (Nat.le_refl _)]; simp, hs⟩, str_bts]

theorem few_small {ns : List ByteArray} (h : few ns = true) : ns.length ≤ 40 ∧ (∀ s ∈ ns, s.size ≤ 300) ∧ ∀ s ∈ ns, s.size ≤ 1000 := by
  obtain ⟨h1, h2⟩ := few_iff.1 h
  exact ⟨h1, h2, fun s hs => by have := h2 s hs; omega⟩
end Go.Proofs.YtnkdcecpbjhdmaaDoor.Lnm
