/-
  The reference of header: which names fit, a field, a number; the joining of byte slices. The reference of header: which names fit, and a number read from a field. A statement of the reference's Encode whose order is open: the name's bytes and the spaces are made in either order, then joined. Every order ends alike. The reference's Encode at every header.
-/
import Derived.Test.YtijggpahijhpeaaZMb
import Derived.Test.YtijggpahijhpeaaZMc
import Derived.Orders
import Derived.Deep.Cut
namespace Go.Proofs.Ytijggpahijhpeaa.Hdr
open Go.RowKit Go.Proofs Go.Proofs.Ytijggpahijhpeaa.Byt Go.Proofs.Ytijggpahijhpeaa.Str Go.Proofs.Ytijggpahijhpeaa.Dec

end Go.Proofs.Ytijggpahijhpeaa.Hdr

namespace Go.Proofs.Ytijggpahijhpeaa.Hdr
open Go.RowKit Go.Proofs Go.Proofs.Ytijggpahijhpeaa.Byt Go.Proofs.Ytijggpahijhpeaa.Str Go.Proofs.Ytijggpahijhpeaa.Dec

end Go.Proofs.Ytijggpahijhpeaa.Hdr

namespace Go.Proofs.Ytijggpahijhpeaa.Hdr
open Go.RowKit Go.Proofs Go.Proofs.Ytijggpahijhpeaa.Byt Go.Proofs.Ytijggpahijhpeaa.Str Go.Proofs.Ytijggpahijhpeaa.Dec

def oc : Oper := { dst := some 77, op := .convert 9 23 (.tmp 76), type := 23, pos := "ref.go:57", after := #[{ on := 1, ground := .data }], guard := none }
def oi : Oper := { dst := some 83, op := .call { callee := .builtin .append, args := #[.tmp 77, .tmp 82], argTypes := #[23, 23] }, type := 23, pos := "ref.go:57", after := #[{ on := 2, ground := .data }, { on := 7, ground := .data }, { on := 7, ground := .chain }], guard := none }
def oj : Oper := { dst := some 15, op := .assign (.tmp 83), type := 23, pos := "ref.go:57", after := #[{ on := 8, ground := .data }, { on := 8, ground := .chain }, { on := 0, ground := .phase }, { on := 1, ground := .phase }, { on := 2, ground := .phase },
  { on := 3, ground := .phase }, { on := 4, ground := .phase }, { on := 5, ground := .phase }, { on := 6, ground := .phase }, { on := 7, ground := .phase }, { on := 8, ground := .phase }], guard := none }
/-- The frame but for the statement's own slots. -/
def Keeps (a0 a : Act) : Prop := a.defers = a0.defers ∧ a.tmps.size = a0.tmps.size ∧ ∀ k, k ≠ 15 → (k < 75 ∨ 83 < k) → a.tmps[k]? = a0.tmps[k]?
theorem Keeps.put {a0 a : Act} (h : Keeps a0 a) (d : Nat) (hd : 75 ≤ d ∧ d ≤ 83) (v : Value) : Keeps a0 (a.put (some d) v) := by
  refine ⟨h.1, by simp [Act.put]; exact h.2.1, fun k h15 hk => ?_⟩
  show (a.tmps.setIfInBounds d v)[k]? = _
  rw [Array.getElem?_setIfInBounds_ne (by omega)]
  exact h.2.2 k h15 hk
theorem eval_other {a : Act} {d k : Nat} (h : d ≠ k) (v : Value) : (a.put (some d) v).eval (.tmp k) = a.eval (.tmp k) := by
  show (a.tmps.setIfInBounds d v).getD k undef = a.tmps.getD k undef
  rw [Array.getD_eq_getD_getElem?, Array.getD_eq_getD_getElem?, Array.getElem?_setIfInBounds_ne h]
theorem Keeps.one {a0 a : Act} (h : Keeps a0 a) : a.eval (.tmp 1) = a0.eval (.tmp 1) := by
  show a.tmps.getD 1 undef = a0.tmps.getD 1 undef
  rw [Array.getD_eq_getD_getElem?, Array.getD_eq_getD_getElem?, h.2.2 1 (by omega) (by omega)]

section
variable {Q : Exit → Act → World → Prop} {K' : Act → World → Prop} {a : Act} {w : World} {K B : Nat} {s : ByteArray}
end

section
variable {Q : Exit → Act → World → Prop} {a0 : Act} {w0 : World} {K B : Nat} {s : ByteArray}
def Sa (K B : Nat) (s : ByteArray) (i : Nat) (a : Act) (w : World) : Prop :=
  (1 ≤ i → a.eval (.tmp 75) = .pointer (some ⟨B, 0, none⟩)) ∧ (2 ≤ i → a.eval (.tmp 76) = .string s) ∧ (3 ≤ i → Own w K (a.eval (.tmp 77)) s.size (by_ s))
def Sb (K B : Nat) (s : ByteArray) (j : Nat) (a : Act) (w : World) : Prop :=
  (1 ≤ j → a.eval (.tmp 78) = .pointer (some ⟨B, 0, none⟩)) ∧ (2 ≤ j → a.eval (.tmp 79) = .string s) ∧ (3 ≤ j → a.eval (.tmp 80) = .int .i64 (s.size : Int)) ∧ (4 ≤ j → a.eval (.tmp 81) = .int .i64 ((16 - s.size : Nat) : Int)) ∧
    (5 ≤ j → Own w K (a.eval (.tmp 82)) (16 - s.size) (List.replicate (16 - s.size) 32))
structure St (a0 : Act) (w0 : World) (K B : Nat) (s : ByteArray) (i j : Nat) (a : Act) (w : World) : Prop where
  keeps : Keeps a0 a
  below : Below K w0 w
  sa : Sa K B s i a w
  sb : Sb K B s j a w
/-- What does not change with the statement. -/
structure Fix (a0 : Act) (w0 : World) (K B : Nat) (s : ByteArray) : Prop where
  size : a0.tmps.size = 98
  one : a0.eval (.tmp 1) = .pointer (some ⟨B, 0, none⟩)
  name : w0.cell? ⟨B, 0, none⟩ = some (.string s)
  lt : B < K
  le : K ≤ w0.heap.size
  small : s.size ≤ 16

theorem Sb.put {j : Nat} {a : Act} {w w' : World} (h : Sb K B s j a w) (hb : Below w.heap.size w w') {d : Nat} (hd : d ≤ 77) (v : Value) : Sb K B s j (a.put (some d) v) w' := by
  obtain ⟨h1, h2, h3, h4, h5⟩ := h
  refine ⟨fun hj => ?_, fun hj => ?_, fun hj => ?_, fun hj => ?_, fun hj => ?_⟩
  · rw [eval_other (by omega)]; exact h1 hj
  · rw [eval_other (by omega)]; exact h2 hj
  · rw [eval_other (by omega)]; exact h3 hj
  · rw [eval_other (by omega)]; exact h4 hj
  · rw [eval_other (by omega)]; exact (h5 hj).below hb
theorem Sa.put {i : Nat} {a : Act} {w w' : World} (h : Sa K B s i a w) (hb : Below w.heap.size w w') {d : Nat} (hd : 78 ≤ d) (v : Value) : Sa K B s i (a.put (some d) v) w' := by
  obtain ⟨h1, h2, h3⟩ := h
  refine ⟨fun hj => ?_, fun hj => ?_, fun hj => ?_⟩
  · rw [eval_other (by omega)]; exact h1 hj
  · rw [eval_other (by omega)]; exact h2 hj
  · rw [eval_other (by omega)]; exact (h3 hj).below hb

theorem St.one {i j : Nat} {a : Act} {w : World} (h : St a0 w0 K B s i j a w) (F : Fix a0 w0 K B s) : a.eval (.tmp 1) = .pointer (some ⟨B, 0, none⟩) := h.keeps.one.trans F.one
theorem St.size {i j : Nat} {a : Act} {w : World} (h : St a0 w0 K B s i j a w) (F : Fix a0 w0 K B s) : a.tmps.size = 98 := h.keeps.2.1.trans F.size
theorem St.name {i j : Nat} {a : Act} {w : World} (h : St a0 w0 K B s i j a w) (F : Fix a0 w0 K B s) : w.cell? ⟨B, 0, none⟩ = some (.string s) := by
  rw [h.below.cell (p := ⟨B, 0, none⟩) F.lt]; exact F.name
theorem St.le {i j : Nat} {a : Act} {w : World} (h : St a0 w0 K B s i j a w) (F : Fix a0 w0 K B s) : K ≤ w.heap.size := Nat.le_trans F.le h.below.size
variable {K' : Act → World → Prop} {j i : Nat} {a : Act} {w : World}
end
end Go.Proofs.Ytijggpahijhpeaa.Hdr

namespace Go.Proofs.Ytijggpahijhpeaa.Hdr
open Go.RowKit Go.Proofs Go.Proofs.Ytijggpahijhpeaa.Byt Go.Proofs.Ytijggpahijhpeaa.Str Go.Proofs.Ytijggpahijhpeaa.Dec

end Go.Proofs.Ytijggpahijhpeaa.Hdr
