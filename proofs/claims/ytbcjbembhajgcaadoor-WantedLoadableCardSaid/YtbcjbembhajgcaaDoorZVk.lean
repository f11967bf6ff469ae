/-
  symtab: names sorted by the library.
-/
import Derived.Test.YtbcjbembhajgcaaDoorZVi
import Derived.Test.YtbcjbembhajgcaaDoorZVb
import Derived.Test.YtbcjbembhajgcaaDoorZShelf2
import Derived.Shelf.Slices.In.SortNone
namespace Go.Proofs.YtbcjbembhajgcaaDoor.Tab
open Go.RowKit Go.Proofs Go.Proofs.YtbcjbembhajgcaaDoor.Byt
open Go.Proofs.YtbcjbembhajgcaaDoor.Bnd

theorem getD_toArray (l : List (List UInt8)) (j : Nat) : l.toArray[j]! = l.getD j [] := by
  rw [List.getD_eq_getElem?_getD, getElem!_def]
  simp only [List.getElem?_toArray]
  cases l[j]? <;> rfl
theorem enc_strs (l : List (List UInt8)) : Sls.enc (l.map fun b => (⟨b.toArray⟩ : ByteArray)) = l.map encStr := by
  unfold Sls.enc
  rw [List.map_map]
  rfl
/-- The cells behind the sort. -/
theorem put_take (d : List (List UInt8)) (cur : Array Value) (h : d.length ≤ cur.size) : (Go.Sort.putCells encStr 0 d.toArray cur).toList.take d.length = d.map encStr := by
  refine List.ext_getElem? fun j => ?_
  by_cases hj : j < d.length
  · rw [List.getElem?_take_of_lt hj, Array.getElem?_toList]
    unfold Go.Sort.putCells
    rw [Array.getElem?_mapIdx, Array.getElem?_eq_getElem (by omega), Option.map_some, if_pos ⟨Nat.zero_le _, by simpa using hj⟩, List.getElem?_map, List.getElem?_eq_getElem hj, Option.map_some, Nat.sub_zero, getD_toArray, List.getD_eq_getElem?_getD, List.getElem?_eq_getElem hj]
    rfl
  · rw [List.getElem?_eq_none (by rw [List.length_take]; omega), List.getElem?_eq_none (by rw [List.length_map]; omega)]
theorem psort_any (K : Nat) (A : Option Addr) (n c : Nat) (l : List ByteArray) (w : World) (h : Sls.Own w K (.slice A n c) n l) (hn : n ≤ 1000000) :
    Calls Tryd.prog 35 #[.slice A n c] w fun e w' => e = .returned (.tuple #[]) ∧ Sls.Own w' K (.slice A n c) n (srt l) ∧ Below K w w' := by
  obtain ⟨hl, h⟩ := h
  rcases h with ⟨hv, rfl⟩ | ⟨g, cap, cur, m, hv, hg, hh, hnc, hcm, hcs, htk, hfr⟩
  · injection hv with e1 _ e3
    subst e1 e3
    have : l = [] := List.eq_nil_of_length_eq_zero hl
    subst this
    exact (Any.slices_Sort_string_none Tryd.lays190 none 0 w).mono fun e w' hh => ⟨hh.1, by rw [hh.2]; exact ⟨by rw [srt_len]; rfl, .inl ⟨rfl, rfl⟩⟩, by rw [hh.2]; exact Below.refl _ _⟩
  · injection hv with e1 _ e3
    subst e1 e3
    have hlt := (Array.getElem?_eq_some_iff.1 hh).1
    have hss : (l.map (·.toList)).length = n := by rw [List.length_map, hl]
    have hH : Go.Sort.Holds encStr w g 0 (l.map (·.toList)).toArray := by
      intro j hj
      have hj' : j < n := by simpa [hl] using hj
      refine ⟨?_, ?_⟩
      · rw [cell_of_row w g (0 + j) cur 9 m hh, Nat.zero_add, ← Array.getElem?_toList, getD_toArray, ← List.getElem?_take_of_lt hj', htk]
        unfold Sls.enc
        rw [List.getElem?_map, List.getD_eq_getElem?_getD, List.getElem?_map, List.getElem?_eq_getElem (by omega)]
        show some (Value.string _) = some (Value.string ⟨(l[j].toList).toArray⟩)
        rw [of_toList]
      · have := hfr j (by omega)
        simp only [World.frozen?, hh, Nat.zero_add]
        simpa using this
    have hc := Tryd.slices_Sort_string g 0 c (l.map (·.toList)) w hH hlt (by omega)
    rw [hss] at hc
    refine hc.mono ?_
    rintro e w' ⟨rfl, k, os, rfl⟩
    have hd : ((l.map (·.toList)).mergeSort fun x y => decide (x ≤ y)).length = n := by rw [List.length_mergeSort, hss]
    generalize hD : (l.map (·.toList)).mergeSort (fun x y => decide (x ≤ y)) = D at *
    have hs : srt l = D.map fun b => ⟨b.toArray⟩ := by unfold srt; rw [hD]
    have hb : ∀ i, i < w.heap.size → i ≠ g → (Go.Sort.grow (Go.Sort.putRow encStr (Go.Sort.ahead w k) g 0 D.toArray) os).heap[i]? = w.heap[i]? := fun i hi hne => by
      unfold Go.Sort.grow Go.Sort.putRow Go.Sort.mapBlock Go.Sort.ahead
      simp only
      rw [Array.getElem?_append_left (by simpa using hi), Array.getElem?_modify, if_neg (Ne.symm hne)]
    have hgg : (Go.Sort.grow (Go.Sort.putRow encStr (Go.Sort.ahead w k) g 0 D.toArray) os).heap[g]? = some (.cells (Go.Sort.putCells encStr 0 D.toArray cur) 9 m) := by
      unfold Go.Sort.grow Go.Sort.putRow Go.Sort.mapBlock Go.Sort.ahead
      simp only
      rw [Array.getElem?_append_left (by simpa using hlt), Array.getElem?_modify, if_pos rfl, hh]
      rfl
    refine ⟨rfl, ⟨by rw [srt_len, hl], .inr ⟨g, c, _, m, rfl, hg, hgg, hnc, hcm, ?_, ?_, hfr⟩⟩, ⟨rfl, rfl, rfl, ?_, fun i hi => hb i (by omega) (by omega)⟩⟩
    · unfold Go.Sort.putCells
      rw [Array.size_mapIdx, hcs]
    · rw [← hd, put_take D cur (by omega), hs, enc_strs]
    · unfold Go.Sort.grow Go.Sort.putRow Go.Sort.mapBlock Go.Sort.ahead
      simp
end Go.Proofs.YtbcjbembhajgcaaDoor.Tab
