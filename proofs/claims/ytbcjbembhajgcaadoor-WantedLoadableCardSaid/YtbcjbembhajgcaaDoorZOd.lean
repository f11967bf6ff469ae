/-
  objsym: appending numbers and symbols; Valid, Encode, Find.
  objsym: Encode and Find.
  objsym: the reader.
-/
import Derived.Test.YtbcjbembhajgcaaDoorZOb
import Derived.OwnWalk
import Derived.Recover
import Derived.DefersIn
import Derived.WalkLawsBesides
namespace Go.Proofs.YtbcjbembhajgcaaDoor.Obj
open Go.RowKit Go.Proofs Go.Proofs.YtbcjbembhajgcaaDoor.Byt
open Go.Proofs.YtbcjbembhajgcaaDoor.Sls (Oth)

/-- The four cells of a symbol. -/
def SCells (w : World) (b o : Nat) (x : Sy) : Prop :=
  w.cell? ⟨b, o, none⟩ = some (.string x.name) ∧ w.cell? ⟨b, o + 1, none⟩ = some (.int .i64 x.bind) ∧ w.cell? ⟨b, o + 2, none⟩ = some (.int .i64 x.size) ∧ w.cell? ⟨b, o + 3, none⟩ = some (.int .i64 x.align)
theorem SCells.below {w w' : World} {K b o : Nat} {x : Sy} (h : SCells w b o x) (hb : Below K w w') (hl : b < K) : SCells w' b o x := by
  obtain ⟨h0, h1, h2, h3⟩ := h
  exact ⟨by rw [hb.cell (p := ⟨b, o, none⟩) hl]; exact h0, by rw [hb.cell (p := ⟨b, o + 1, none⟩) hl]; exact h1, by rw [hb.cell (p := ⟨b, o + 2, none⟩) hl]; exact h2, by rw [hb.cell (p := ⟨b, o + 3, none⟩) hl]; exact h3⟩
/-- A slice of symbols that reads as a list, below block K. -/
def RdS (w : World) (K : Nat) (A : Option Addr) (n : Nat) (xs : List Sy) : Prop :=
  xs.length = n ∧ ∀ k (h : k < xs.length), (∃ b o : Nat, A = some ⟨b, o, none⟩ ∧ b < K ∧ SCells w b (o + k * 4) xs[k]) ∧ xs[k].name.size ≤ maxLen
theorem RdS.below {w w' : World} {K n : Nat} {A : Option Addr} {xs : List Sy} (h : RdS w K A n xs) (hb : Below K w w') : RdS w' K A n xs :=
  ⟨h.1, fun k hk => by
    obtain ⟨⟨b, o, e, hl, hc⟩, hn⟩ := h.2 k hk
    exact ⟨⟨b, o, e, hl, hc.below hb hl⟩, hn⟩⟩
theorem RdS.more {w : World} {K K' n : Nat} {A : Option Addr} {xs : List Sy} (h : RdS w K A n xs) (hK : K ≤ K') : RdS w K' A n xs :=
  ⟨h.1, fun k hk => by
    obtain ⟨⟨b, o, e, hl, hc⟩, hn⟩ := h.2 k hk
    exact ⟨⟨b, o, e, by omega, hc⟩, hn⟩⟩
theorem RdS.nil (w : World) (K : Nat) (A : Option Addr) : RdS w K A 0 [] := ⟨rfl, fun k hk => absurd hk (by simp)⟩
theorem RdS.pre {w : World} {K n m : Nat} {A : Option Addr} {xs : List Sy} (h : RdS w K A n xs) (hm : m ≤ n) : RdS w K A m (xs.take m) := by
  refine ⟨by rw [List.length_take, h.1]; omega, fun k hk => ?_⟩
  rw [List.length_take] at hk
  rw [List.getElem_take]
  exact h.2 k (by omega)
theorem goodL_step {xs : List Sy} {k : Nat} (hk : k < xs.length) : goodL (xs.take k) (xs.drop k) = (!has (xs.take k) xs[k].name && symOk xs[k] && goodL (xs.take (k + 1)) (xs.drop (k + 1))) := by
  rw [List.drop_eq_getElem_cons hk, goodL, List.take_add_one, List.getElem?_eq_getElem hk]
  rfl

end Go.Proofs.YtbcjbembhajgcaaDoor.Obj

namespace Go.Proofs.YtbcjbembhajgcaaDoor.Obj
open Go.RowKit Go.Proofs Go.Proofs.YtbcjbembhajgcaaDoor.Byt
open Go.Proofs.YtbcjbembhajgcaaDoor.Sls (Oth)

def findS : List Sy → ByteArray → Sy
  | [], _ => ⟨⟨#[]⟩, 0, 0, 0⟩
  | x :: r, s => if x.name = s then x else findS r s
theorem str_eq {u v : ByteArray} : (u.toList = v.toList) ↔ u = v := by
  constructor
  · intro h
    rw [Lib.toList_data, Lib.toList_data] at h
    rw [← str_of u, ← str_of v, h]
  · exact fun h => by rw [h]
theorem find_step {xs : List Sy} {k : Nat} (hk : k < xs.length) (s : ByteArray) :
    (xs[k].name = s → has (xs.drop k) s = true ∧ findS (xs.drop k) s = xs[k]) ∧ (xs[k].name ≠ s → has (xs.drop k) s = has (xs.drop (k + 1)) s ∧ findS (xs.drop k) s = findS (xs.drop (k + 1)) s) := by
  rw [List.drop_eq_getElem_cons hk]
  generalize xs.drop (k + 1) = r
  generalize xs[k] = x
  refine ⟨fun h => ⟨by simp [has, h], by simp [findS, h]⟩, fun h => ⟨by simp [has, h], by simp [findS, h]⟩⟩

end Go.Proofs.YtbcjbembhajgcaaDoor.Obj

namespace Go.Proofs.YtbcjbembhajgcaaDoor.Obj
open Go.RowKit Go.Proofs Go.Proofs.YtbcjbembhajgcaaDoor.Byt
open Go.Proofs.YtbcjbembhajgcaaDoor.Sls (Oth)

end Go.Proofs.YtbcjbembhajgcaaDoor.Obj
