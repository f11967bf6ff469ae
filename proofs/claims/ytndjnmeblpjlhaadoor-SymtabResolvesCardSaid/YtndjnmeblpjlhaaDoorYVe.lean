/-
  symtab's reference: State.
  symtab's reference: Wanted.
-/
import Derived.Test.YtndjnmeblpjlhaaDoorYVb
import Derived.Test.YtndjnmeblpjlhaaDoorYBi
namespace Go.Proofs.YtndjnmeblpjlhaaDoor.Tab
open Go.RowKit Go.Proofs Go.Proofs.YtndjnmeblpjlhaaDoor.Byt
open Go.Proofs.YtndjnmeblpjlhaaDoor.Obj (Sy RdS SCells)
open Go.Proofs.YtndjnmeblpjlhaaDoor.Bnd

theorem us1_step {nm : ByteArray} {i j : Nat} {o : List Sy} (hj : j < o.length) : us1 nm i (o.take (j + 1)) = us1 nm i (o.take j) ++ (if o[j].name = nm then [⟨o[j], (i : Int)⟩] else []) := by
  unfold us1
  rw [List.take_succ_eq_append_getElem hj, List.filter_append, List.map_append]
  congr 1
  by_cases h : o[j].name = nm <;> simp [h]
theorem us1_zero (nm : ByteArray) (i : Nat) (o : List Sy) : us1 nm i (o.take 0) = [] := rfl
theorem us1_len (nm : ByteArray) (i : Nat) (o : List Sy) : (us1 nm i o).length ≤ o.length := by
  unfold us1
  rw [List.length_map]
  exact List.length_filter_le _ _
theorem uses_take {os : List (List Sy)} {nm : ByteArray} {k : Nat} (hk : k < os.length) : uses (os.take (k + 1)) nm = uses (os.take k) nm ++ us1 nm k os[k] := by
  rw [List.take_succ_eq_append_getElem hk, uses_snoc, List.length_take, Nat.min_eq_left (Nat.le_of_lt hk)]
theorem uses_len (nm : ByteArray) : ∀ (os : List (List Sy)), (∀ o ∈ os, o.length ≤ 20) → (uses os nm).length ≤ 20 * os.length := by
  refine Dec.by_snoc (P := fun os => (∀ o ∈ os, o.length ≤ 20) → (uses os nm).length ≤ 20 * os.length) (fun _ => by simp [uses, usK]) (fun os o ih h => ?_)
  have h1 := ih fun x hx => h x (List.mem_append_left _ hx)
  have h2 := h o (by simp)
  have h3 := us1_len nm os.length o
  rw [uses_snoc, List.length_append, List.length_append, List.length_singleton]
  omega
end Go.Proofs.YtndjnmeblpjlhaaDoor.Tab

namespace Go.Proofs.YtndjnmeblpjlhaaDoor.Tab
open Go.RowKit Go.Proofs Go.Proofs.YtndjnmeblpjlhaaDoor.Byt
open Go.Proofs.YtndjnmeblpjlhaaDoor.Obj (Sy RdS SCells)
open Go.Proofs.YtndjnmeblpjlhaaDoor.Bnd

/-- The names that are wanted. -/
def wntL (os : List (List Sy)) : List ByteArray := (nms os).filter fun x => wantd (ofL (uses os x))
end Go.Proofs.YtndjnmeblpjlhaaDoor.Tab
