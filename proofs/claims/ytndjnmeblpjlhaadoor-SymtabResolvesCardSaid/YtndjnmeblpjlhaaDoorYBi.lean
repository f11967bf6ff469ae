/-
  bind: symbols of units in memory; the reference's first and Right.
  bind: the reference's Of.
  bind: the reference's Of, walked.
-/
import Derived.Test.YtndjnmeblpjlhaaDoorYBh
import Derived.Deep.Cut
import Derived.Deep.CutRange
import Derived.Deep.AppendLies
namespace Go.Proofs.YtndjnmeblpjlhaaDoor.Bnd
open Go.RowKit Go.Proofs Go.Proofs.YtndjnmeblpjlhaaDoor.Byt
open Go.Proofs.YtndjnmeblpjlhaaDoor.Obj (Sy)
open Go.Proofs.YtndjnmeblpjlhaaDoor.Arp (RdI)

/-- The five cells of a symbol of a unit. -/
def ucell (x : Us) : List Value := [.string x.s.name, .int .i64 x.s.bind, .int .i64 x.s.size, .int .i64 x.s.align, .int .i64 x.u]
def ucells : List Us → List Value
  | [] => []
  | x :: r => ucell x ++ ucells r
theorem ucells_append : ∀ a b : List Us, ucells (a ++ b) = ucells a ++ ucells b
  | [], b => rfl
  | x :: r, b => by rw [List.cons_append, ucells, ucells_append r b, ucells, List.append_assoc]
theorem ucells_length : ∀ a : List Us, (ucells a).length = a.length * 5
  | [] => rfl
  | x :: r => by rw [ucells, List.length_append, ucells_length r, List.length_cons]; simp [ucell]; omega
theorem ucells_at : ∀ (a : List Us) (k : Nat) (h : k < a.length) (j : Nat), j < 5 → (ucells a)[k * 5 + j]? = (ucell a[k])[j]?
  | x :: r, 0, _, j, hj => by
    rw [ucells, Nat.zero_mul, Nat.zero_add, List.getElem?_append_left (by simp [ucell]; exact hj)]; rfl
  | x :: r, k + 1, h, j, hj => by
    rw [ucells, List.getElem?_append_right (by simp [ucell]; omega)]
    have e : (k + 1) * 5 + j - (ucell x).length = k * 5 + j := by simp [ucell]; omega
    rw [e, ucells_at r k (by simpa using h) j hj]
    rfl
def RdU (w : World) (K : Nat) (A : Option Addr) (n : Nat) (xs : List Us) : Prop :=
  xs.length = n ∧ ∀ k (h : k < xs.length), ∃ b o : Nat, A = some ⟨b, o, none⟩ ∧ b < K ∧ w.rangeAt b (o + k * 5) (ucell xs[k])
theorem RdU.below {w w' : World} {K n : Nat} {A : Option Addr} {xs : List Us} (h : RdU w K A n xs) (hb : Below K w w') : RdU w' K A n xs :=
  ⟨h.1, fun k hk => by
    obtain ⟨b, o, e, hl, hc⟩ := h.2 k hk
    exact ⟨b, o, e, hl, fun j v hv => (hb.cell (p := ⟨b, o + k * 5 + j, none⟩) hl).trans (hc j v hv)⟩⟩
theorem RdU.more {w : World} {K K' n : Nat} {A : Option Addr} {xs : List Us} (h : RdU w K A n xs) (hK : K ≤ K') : RdU w K' A n xs :=
  ⟨h.1, fun k hk => by
    obtain ⟨b, o, e, hl, hc⟩ := h.2 k hk
    exact ⟨b, o, e, by omega, hc⟩⟩
theorem RdU.nil (w : World) (K : Nat) (A : Option Addr) : RdU w K A 0 [] := ⟨rfl, fun k hk => absurd hk (by simp)⟩
theorem rdu_of {w : World} {K n : Nat} {A : Option Addr} {xs : List Us} (h : Cel.Rd w K A n 5 (ucells xs)) : RdU w K A n xs := by
  have hl : xs.length = n := by have := h.1; rw [ucells_length] at this; omega
  refine ⟨hl, fun k hk => ?_⟩
  obtain ⟨b, o, e, hb, _⟩ := h.2 (k * 5) (by rw [ucells_length]; omega)
  refine ⟨b, o, e, hb, fun j v hv => ?_⟩
  have hj : j < 5 := (List.getElem?_eq_some_iff.1 hv).1
  have hm := ucells_at xs k hk j hj
  rw [hv] at hm
  obtain ⟨hj', e2⟩ := List.getElem?_eq_some_iff.1 hm
  obtain ⟨b', o', e', _, hc⟩ := h.2 (k * 5 + j) hj'
  rw [e] at e'
  injection e' with e'
  injection e' with e1 e3
  subst e1 e3
  rw [Nat.add_assoc, hc, e2]
theorem RdU.pre {w : World} {K n m : Nat} {A : Option Addr} {xs : List Us} (h : RdU w K A n xs) (hm : m ≤ n) : RdU w K A m (xs.take m) := by
  refine ⟨by rw [List.length_take, h.1]; omega, fun j hj => ?_⟩
  rw [List.length_take] at hj
  rw [List.getElem_take]
  exact h.2 j (by omega)
/-- The cells of one symbol. -/
theorem RdU.at_ {w : World} {K n : Nat} {A : Option Addr} {xs : List Us} (h : RdU w K A n xs) {k : Nat} (hk : k < xs.length) : ∃ b o : Nat, A = some ⟨b, o, none⟩ ∧ b < K ∧
    w.cell? ⟨b, o + k * 5, none⟩ = some (.string xs[k].s.name) ∧ w.cell? ⟨b, o + k * 5 + 1, none⟩ = some (.int .i64 xs[k].s.bind) ∧ w.cell? ⟨b, o + k * 5 + 2, none⟩ = some (.int .i64 xs[k].s.size) ∧ w.cell? ⟨b, o + k * 5 + 3, none⟩ = some (.int .i64 xs[k].s.align) ∧ w.cell? ⟨b, o + k * 5 + 4, none⟩ = some (.int .i64 xs[k].u) := by
  obtain ⟨b, o, e, hb, hc⟩ := h.2 k hk
  exact ⟨b, o, e, hb, hc 0 _ rfl, hc 1 _ rfl, hc 2 _ rfl, hc 3 _ rfl, hc 4 _ rfl⟩

end Go.Proofs.YtndjnmeblpjlhaaDoor.Bnd

namespace Go.Proofs.YtndjnmeblpjlhaaDoor.Bnd
open Go.RowKit Go.Proofs Go.Proofs.YtndjnmeblpjlhaaDoor.Byt
open Go.Proofs.YtndjnmeblpjlhaaDoor.Obj (Sy)
open Go.Proofs.YtndjnmeblpjlhaaDoor.Arp (RdI)

end Go.Proofs.YtndjnmeblpjlhaaDoor.Bnd

namespace Go.Proofs.YtndjnmeblpjlhaaDoor.Bnd
open Go.RowKit Go.Proofs Go.Proofs.YtndjnmeblpjlhaaDoor.Byt
open Go.Proofs.YtndjnmeblpjlhaaDoor.Obj (Sy)
open Go.Proofs.YtndjnmeblpjlhaaDoor.Arp (RdI)

end Go.Proofs.YtndjnmeblpjlhaaDoor.Bnd
