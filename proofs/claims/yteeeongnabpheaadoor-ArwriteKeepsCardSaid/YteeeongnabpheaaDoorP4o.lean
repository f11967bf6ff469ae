/-
  arparse: paddedSize, firstPart.
-/
import Derived.Test.YteeeongnabpheaaDoorMk
import Derived.Test.YteeeongnabpheaaDoorHdm
import Derived.BigQuiet
namespace Go.Proofs.YteeeongnabpheaaDoor.Arp
open Go.RowKit Go.Proofs Go.Proofs.YteeeongnabpheaaDoor.Byt Go.Proofs.YteeeongnabpheaaDoor.Dec Go.Proofs.YteeeongnabpheaaDoor.Lnm Go.Proofs.YteeeongnabpheaaDoor.Hdr

/-- Where a slice lies behind its first k elements. -/
def cutp (A : Option Addr) (c k : Nat) : Option Addr := if c = k then A else A.map fun a => ⟨a.block, a.off + k, none⟩
theorem cutp_at (b o c k : Nat) (h : c ≠ k) : cutp (some ⟨b, o, none⟩) c k = some ⟨b, o + k, none⟩ := if_neg h
theorem cutp_end (A : Option Addr) (k : Nat) : cutp A k k = A := if_pos rfl
theorem rd_cutp {w : World} {K n c k : Nat} {A : Option Addr} {l : List UInt8} (h : Rd w K A n l) (hc : n ≤ c) : Rd w K (cutp A c k) (n - k) (l.drop k) := by
  by_cases e : c = k
  · subst e
    exact h.cut_at (B := cutp A c c) c hc
  · by_cases hk : n ≤ k
    · exact h.cut_at k hk
    · obtain ⟨b, o, rfl, _⟩ := Rd_where h (by omega)
      rw [cutp_at b o c k e]
      exact h.cut k

/-- A part by value: its bytes begin r, which lies at A with the capacity c. -/
def partV (A : Option Addr) (c : Nat) (r : List UInt8) : Value :=
  if perr r = 0 then .agg #[.string (dname r), .int .i64 (dnum r 0), .int .i64 (dnum r 1), .int .i64 (dnum r 2), .int .i64 (dnum r 3), .int .i64 (dnum r 4), .slice (cutp A c 60) (psz r) (c - 60), .int .i64 0]
  else .agg #[.string ⟨#[]⟩, .int .i64 0, .int .i64 0, .int .i64 0, .int .i64 0, .int .i64 0, .slice none 0 0, .int .i64 (perr r)]
theorem partV_ok {A : Option Addr} {c : Nat} {r : List UInt8} (h : perr r = 0) : partV A c r = .agg #[.string (dname r), .int .i64 (dnum r 0), .int .i64 (dnum r 1), .int .i64 (dnum r 2), .int .i64 (dnum r 3), .int .i64 (dnum r 4), .slice (cutp A c 60) (psz r) (c - 60), .int .i64 0] := if_pos h
theorem partV_bad {A : Option Addr} {c : Nat} {r : List UInt8} {k : Int} (h : perr r = k) (hk : k ≠ 0) : partV A c r = .agg #[.string ⟨#[]⟩, .int .i64 0, .int .i64 0, .int .i64 0, .int .i64 0, .int .i64 0, .slice none 0 0, .int .i64 k] := by
  unfold partV; rw [if_neg (by rw [h]; exact hk), h]

/-- Eight cells set, one after the other. -/
theorem eight (w : World) (B : Nat) (a0 a1 a2 a3 a4 a5 a6 a7 : Value) (t : TypeId) (h : w.heap[B]? = some (.cells #[a0, a1, a2, a3, a4, a5, a6, a7] t (0, 0))) (x0 x1 x2 x3 x4 x5 x6 x7 : Value) :
    ((((((((w.setCell ⟨B, 0, none⟩ x0).setCell ⟨B, 1, none⟩ x1).setCell ⟨B, 2, none⟩ x2).setCell ⟨B, 3, none⟩ x3).setCell ⟨B, 4, none⟩ x4).setCell ⟨B, 5, none⟩ x5).setCell ⟨B, 6, none⟩ x6).setCell ⟨B, 7, none⟩ x7).heap[B]? = some (.cells #[x0, x1, x2, x3, x4, x5, x6, x7] t (0, 0)) := by
  have h0 : (w.setCell ⟨B, 0, none⟩ x0).heap[B]? = some (.cells #[x0, a1, a2, a3, a4, a5, a6, a7] t (0, 0)) := heap_setCell_same w B 0 _ t x0 h
  have h1 : ((w.setCell ⟨B, 0, none⟩ x0).setCell ⟨B, 1, none⟩ x1).heap[B]? = some (.cells #[x0, x1, a2, a3, a4, a5, a6, a7] t (0, 0)) := heap_setCell_same _ B 1 _ t x1 h0
  generalize (w.setCell ⟨B, 0, none⟩ x0).setCell ⟨B, 1, none⟩ x1 = w1 at *
  have h2 : (w1.setCell ⟨B, 2, none⟩ x2).heap[B]? = some (.cells #[x0, x1, x2, a3, a4, a5, a6, a7] t (0, 0)) := heap_setCell_same _ B 2 _ t x2 h1
  have h3 : ((w1.setCell ⟨B, 2, none⟩ x2).setCell ⟨B, 3, none⟩ x3).heap[B]? = some (.cells #[x0, x1, x2, x3, a4, a5, a6, a7] t (0, 0)) := heap_setCell_same _ B 3 _ t x3 h2
  generalize (w1.setCell ⟨B, 2, none⟩ x2).setCell ⟨B, 3, none⟩ x3 = w2 at *
  have h4 : (w2.setCell ⟨B, 4, none⟩ x4).heap[B]? = some (.cells #[x0, x1, x2, x3, x4, a5, a6, a7] t (0, 0)) := heap_setCell_same _ B 4 _ t x4 h3
  have h5 : ((w2.setCell ⟨B, 4, none⟩ x4).setCell ⟨B, 5, none⟩ x5).heap[B]? = some (.cells #[x0, x1, x2, x3, x4, x5, a6, a7] t (0, 0)) := heap_setCell_same _ B 5 _ t x5 h4
  generalize (w2.setCell ⟨B, 4, none⟩ x4).setCell ⟨B, 5, none⟩ x5 = w3 at *
  have h6 : (w3.setCell ⟨B, 6, none⟩ x6).heap[B]? = some (.cells #[x0, x1, x2, x3, x4, x5, x6, a7] t (0, 0)) := heap_setCell_same _ B 6 _ t x6 h5
  exact heap_setCell_same _ B 7 _ t x7 h6
theorem eight_below {w0 w : World} {B K : Nat} (h : Below K w0 w) (hB : K ≤ B) (x0 x1 x2 x3 x4 x5 x6 x7 : Value) :
    Below K w0 ((((((((w.setCell ⟨B, 0, none⟩ x0).setCell ⟨B, 1, none⟩ x1).setCell ⟨B, 2, none⟩ x2).setCell ⟨B, 3, none⟩ x3).setCell ⟨B, 4, none⟩ x4).setCell ⟨B, 5, none⟩ x5).setCell ⟨B, 6, none⟩ x6).setCell ⟨B, 7, none⟩ x7) :=
  ((((((((h.setCell (p := ⟨B, 0, none⟩) hB x0).setCell (p := ⟨B, 1, none⟩) hB x1).setCell (p := ⟨B, 2, none⟩) hB x2).setCell (p := ⟨B, 3, none⟩) hB x3).setCell (p := ⟨B, 4, none⟩) hB x4).setCell (p := ⟨B, 5, none⟩) hB x5).setCell (p := ⟨B, 6, none⟩) hB x6).setCell (p := ⟨B, 7, none⟩) hB x7)
end Go.Proofs.YteeeongnabpheaaDoor.Arp
