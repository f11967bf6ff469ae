/-
  The reference of header: which names fit, a field, a number; the joining of byte slices. The reference of header: which names fit, and a number read from a field. A statement of the reference's Encode whose order is open: the name's bytes and the spaces are made in either order, then joined. Every order ends alike. The reference's Encode at every header.
-/
import Derived.Test.YtpedngfmjhpojaaGreatDoorYMb
import Derived.Test.YtpedngfmjhpojaaGreatDoorYMc
import Derived.Orders
import Derived.Deep.Cut
namespace Go.Proofs.YtpedngfmjhpojaaGreatDoor.Hdr
open Go.RowKit Go.Proofs Go.Proofs.YtpedngfmjhpojaaGreatDoor.Byt Go.Proofs.YtpedngfmjhpojaaGreatDoor.Str Go.Proofs.YtpedngfmjhpojaaGreatDoor.Dec

set_option maxHeartbeats 1000000 in
/-- Two byte slices joined. -/
theorem add_any (K K' : Nat) (A A' : Option Addr) (n c n' c' : Nat) (xs ys : List UInt8) (w : World) (h : Rd w K A n xs) (h' : Rd w K' A' n' ys) (hK : K ≤ w.heap.size) (hK' : K' ≤ w.heap.size) (hn : n ≤ 10000) (hn' : n' ≤ 10000) :
    Calls Tryz.prog 47 #[.slice A n c, .slice A' n' c'] w fun e w' => ∃ v, e = .returned v ∧ Own w' w.heap.size v (n + n') (xs ++ ys) ∧ Below w.heap.size w w' := by
  have hbl := hid ((Below.refl w.heap.size w).alloc (Nat.le_refl _) (.cells #[] 5))
  have H1 := hid ((h.more hK).below hbl.out)
  have H2 := hid ((h'.more hK').below hbl.out)
  clear h h'
  go_enter Tryz.func47, Tryz.ntmps47
  go_wp2_with (first
    | (at_builtin; refine wpList_app _ w.heap.size _ 0 [] (Own.lit0 w w.heap.size (Nat.le_refl _)) (by simp) A n c _ xs H1.out (by omega) rfl (.tmp 5) (.tmp 6) rfl rfl rfl ?_; intro v1 w1 hown1 hb1; have hb01 := hbl.out.trans hb1)
    | (at_builtin; refine wpList_app _ w.heap.size _ _ _ hown1 hb01.size A' n' c' _ ys (H2.out.below hb1) (by omega) rfl (.tmp 7) (.tmp 8) rfl rfl rfl ?_; intro v2 w2 hown2 hb2))
  go_ret
  refine ⟨_, rfl, ?_, hb01.trans hb2⟩
  rw [Nat.zero_add, List.nil_append] at hown2
  exact hown2
end Go.Proofs.YtpedngfmjhpojaaGreatDoor.Hdr

namespace Go.Proofs.YtpedngfmjhpojaaGreatDoor.Hdr
open Go.RowKit Go.Proofs Go.Proofs.YtpedngfmjhpojaaGreatDoor.Byt Go.Proofs.YtpedngfmjhpojaaGreatDoor.Str Go.Proofs.YtpedngfmjhpojaaGreatDoor.Dec

end Go.Proofs.YtpedngfmjhpojaaGreatDoor.Hdr

namespace Go.Proofs.YtpedngfmjhpojaaGreatDoor.Hdr
open Go.RowKit Go.Proofs Go.Proofs.YtpedngfmjhpojaaGreatDoor.Byt Go.Proofs.YtpedngfmjhpojaaGreatDoor.Str Go.Proofs.YtpedngfmjhpojaaGreatDoor.Dec

set_option maxRecDepth 100000

def ob : Oper := { dst := some 76, op := .load 9 (.tmp 75), type := 9, pos := "ref.go:57", after := #[{ on := 0, ground := .data }], guard := none }
def oc : Oper := { dst := some 77, op := .convert 9 23 (.tmp 76), type := 23, pos := "ref.go:57", after := #[{ on := 1, ground := .data }], guard := none }
def oi : Oper := { dst := some 83, op := .call { callee := .builtin .append, args := #[.tmp 77, .tmp 82], argTypes := #[23, 23] }, type := 23, pos := "ref.go:57", after := #[{ on := 2, ground := .data }, { on := 7, ground := .data }, { on := 7, ground := .chain }], guard := none }
def oj : Oper := { dst := some 15, op := .assign (.tmp 83), type := 23, pos := "ref.go:57", after := #[{ on := 8, ground := .data }, { on := 8, ground := .chain }, { on := 0, ground := .phase }, { on := 1, ground := .phase }, { on := 2, ground := .phase },
  { on := 3, ground := .phase }, { on := 4, ground := .phase }, { on := 5, ground := .phase }, { on := 6, ground := .phase }, { on := 7, ground := .phase }, { on := 8, ground := .phase }], guard := none }
/-- The frame but for the statement's own slots. -/
def Keeps (a0 a : Act) : Prop := a.defers = a0.defers ∧ a.tmps.size = a0.tmps.size ∧ ∀ k, k ≠ 15 → (k < 75 ∨ 83 < k) → a.tmps[k]? = a0.tmps[k]?
theorem Keeps.one {a0 a : Act} (h : Keeps a0 a) : a.eval (.tmp 1) = a0.eval (.tmp 1) := by
  show a.tmps.getD 1 undef = a0.tmps.getD 1 undef
  rw [Array.getD_eq_getD_getElem?, Array.getD_eq_getD_getElem?, h.2.2 1 (by omega) (by omega)]

section
variable {Q : Exit → Act → World → Prop} {K' : Act → World → Prop} {a : Act} {w : World} {K B : Nat} {s : ByteArray}
end

section
variable {Q : Exit → Act → World → Prop} {a0 : Act} {w0 : World} {K B : Nat} {s : ByteArray}
def Sa (K B : Nat) (s : ByteArray) (i : Nat) (a : Act) (w : World) : Prop :=
  (1 ≤ i → a.eval (.tmp 75) = .pointer (some ⟨B, 0, none⟩)) ∧ (2 ≤ i → a.eval (.tmp 76) = .string s) ∧ (3 ≤ i → Own w K (a.eval (.tmp 77)) s.size (by_ s))
def Sb (K B : Nat) (s : ByteArray) (j : Nat) (a : Act) (w : World) : Prop :=
  (1 ≤ j → a.eval (.tmp 78) = .pointer (some ⟨B, 0, none⟩)) ∧ (2 ≤ j → a.eval (.tmp 79) = .string s) ∧ (3 ≤ j → a.eval (.tmp 80) = .int .i64 (s.size : Int)) ∧ (4 ≤ j → a.eval (.tmp 81) = .int .i64 ((16 - s.size : Nat) : Int)) ∧
    (5 ≤ j → Own w K (a.eval (.tmp 82)) (16 - s.size) (List.replicate (16 - s.size) 32))
structure St (a0 : Act) (w0 : World) (K B : Nat) (s : ByteArray) (i j : Nat) (a : Act) (w : World) : Prop where
  keeps : Keeps a0 a
  below : Below K w0 w
  sa : Sa K B s i a w
  sb : Sb K B s j a w
/-- What does not change with the statement. -/
structure Fix (a0 : Act) (w0 : World) (K B : Nat) (s : ByteArray) : Prop where
  size : a0.tmps.size = 98
  one : a0.eval (.tmp 1) = .pointer (some ⟨B, 0, none⟩)
  name : w0.cell? ⟨B, 0, none⟩ = some (.string s)
  lt : B < K
  le : K ≤ w0.heap.size
  small : s.size ≤ 16

theorem St.one {i j : Nat} {a : Act} {w : World} (h : St a0 w0 K B s i j a w) (F : Fix a0 w0 K B s) : a.eval (.tmp 1) = .pointer (some ⟨B, 0, none⟩) := h.keeps.one.trans F.one
theorem St.size {i j : Nat} {a : Act} {w : World} (h : St a0 w0 K B s i j a w) (F : Fix a0 w0 K B s) : a.tmps.size = 98 := h.keeps.2.1.trans F.size
theorem St.name {i j : Nat} {a : Act} {w : World} (h : St a0 w0 K B s i j a w) (F : Fix a0 w0 K B s) : w.cell? ⟨B, 0, none⟩ = some (.string s) := by
  rw [h.below.cell (p := ⟨B, 0, none⟩) F.lt]; exact F.name
theorem St.le {i j : Nat} {a : Act} {w : World} (h : St a0 w0 K B s i j a w) (F : Fix a0 w0 K B s) : K ≤ w.heap.size := Nat.le_trans F.le h.below.size
variable {K' : Act → World → Prop} {j i : Nat} {a : Act} {w : World}
end
end Go.Proofs.YtpedngfmjhpojaaGreatDoor.Hdr

namespace Go.Proofs.YtpedngfmjhpojaaGreatDoor.Hdr
open Go.RowKit Go.Proofs Go.Proofs.YtpedngfmjhpojaaGreatDoor.Byt Go.Proofs.YtpedngfmjhpojaaGreatDoor.Str Go.Proofs.YtpedngfmjhpojaaGreatDoor.Dec

end Go.Proofs.YtpedngfmjhpojaaGreatDoor.Hdr
