/-
  symtab's laws: what they share.
-/
import Derived.Test.YtndjnmeblpjlhaaDoorYVv
namespace Go.Proofs.YtndjnmeblpjlhaaDoor.Tab
open Go.RowKit Go.Proofs Go.Proofs.YtndjnmeblpjlhaaDoor.Byt
open Go.Proofs.YtndjnmeblpjlhaaDoor.Obj (Sy RdS SCells)
open Go.Proofs.YtndjnmeblpjlhaaDoor.Bnd

/-- What the laws' loops have, before the k-th object is loaded. -/
structure Ld (w : World) (os : List (List Sy)) (T : Nat) (mo : Option Nat) (k : Nat) (W : World) : Prop where
  b : Below w.heap.size w W
  t : Tb W T T mo (os.take k)
  le : w.heap.size ≤ T
theorem Ld.on {w W W' : World} {os : List (List Sy)} {T k : Nat} {mo : Option Nat} (h : Ld w os T mo k W) (hb : Below W.heap.size W W') : Ld w os T mo k W' := ⟨h.b.trans (hb.mono h.b.size), h.t.below hb, h.le⟩
theorem Ld.start {w W : World} {os : List (List Sy)} {T : Nat} (hb : Below w.heap.size w W) (h : W.heap[T]? = some (.cells #[.int .i64 0, .map none] 29 (0, 0))) (hle : w.heap.size ≤ T) : Ld w os T none 0 W := ⟨hb, Tb.new h (Nat.le_refl _), hle⟩
/-- What a round of them gives. -/
def LdP (w : World) (os : List (List Sy)) (T : Nat) (mo : Option Nat) (k : Nat) (V : World) (e : Ending) (W : World) : Prop :=
  e = .returned (.int .i64 (k : Int)) ∧ ∃ M, Ld w os T (some M) (k + 1) W ∧ (mo = some M ∨ (mo = none ∧ V.heap.size ≤ M)) ∧ Below T V W ∧ Stay V T mo W
theorem ld_round {w V : World} {os : List (List Sy)} {T k : Nat} {mo : Option Nat} (h : Ld w os T mo k V) (hP : Prec w) (hok : OK14 os) (hk : k < os.length) {S B : Option Addr} {p c m d : Nat} (hob : Ob w w.heap.size S B p c m d os[k]) :
    Calls Tryd.prog 10 #[.pointer (some ⟨T, 0, none⟩), .agg #[.slice S p c, .slice B m d]] V (LdP w os T mo k V) := by
  have hm := List.getElem_mem hk
  have hg := Prec.pos hP
  have hTV := h.t.lt
  refine (tload_any T T mo (os.take k) S B p c m d os[k] V (Prec.low hP h.b hg) (by have := h.le; omega) h.t (reads_old (hob.below h.b).s h.le (Nat.le_of_lt hTV)) (hok.few _ hm) (fun s hs => ⟨(hok.sym _ hm s hs).1, (hok.sym _ hm s hs).2.1⟩) (hok.take k)).mono ?_
  rintro e W ⟨e1, M, h1, h2, h3, h4⟩
  refine ⟨?_, M, ⟨h.b.trans (h3.mono h.le), ?_, h.le⟩, h2, h3, h4⟩
  · rw [e1, List.length_take, Nat.min_eq_left (Nat.le_of_lt hk)]
  · rw [List.take_succ_eq_append_getElem hk]
    exact h1
end Go.Proofs.YtndjnmeblpjlhaaDoor.Tab
