/-
  symtab: objects in memory.
  symtab's reference: Put.
  symtab's reference: Names.
-/
import Derived.Test.YtbcjbembhajgcaaDoorZVa
import Derived.Test.YtbcjbembhajgcaaDoorZOj
import Derived.Test.YtbcjbembhajgcaaDoorZBc
namespace Go.Proofs.YtbcjbembhajgcaaDoor.Tab
open Go.RowKit Go.Proofs Go.Proofs.YtbcjbembhajgcaaDoor.Byt
open Go.Proofs.YtbcjbembhajgcaaDoor.Obj (Sy RdS SCells)
open Go.Proofs.YtbcjbembhajgcaaDoor.Bnd

/-- An object, read. -/
structure Ob (w : World) (K : Nat) (A B : Option Addr) (n c m d : Nat) (xs : List Sy) : Prop where
  s : RdS w K A n xs
  nc : n ≤ c
  cm : c ≤ maxLen
  mm : m ≤ maxLen
/-- A slice of objects. -/
def RdO (w : World) (K : Nat) (A : Option Addr) (n : Nat) (os : List (List Sy)) : Prop :=
  os.length = n ∧ ∀ k (h : k < os.length), ∃ b o : Nat, A = some ⟨b, o, none⟩ ∧ b < K ∧ ∃ (S B : Option Addr) (p c m d : Nat), w.cell? ⟨b, o + k * 2, none⟩ = some (.slice S p c) ∧ w.cell? ⟨b, o + k * 2 + 1, none⟩ = some (.slice B m d) ∧ Ob w K S B p c m d os[k]
theorem Ob.below {w w' : World} {K n c m d : Nat} {A B : Option Addr} {xs : List Sy} (h : Ob w K A B n c m d xs) (hb : Below K w w') : Ob w' K A B n c m d xs := ⟨h.s.below hb, h.nc, h.cm, h.mm⟩
theorem Ob.more {w : World} {K K' n c m d : Nat} {A B : Option Addr} {xs : List Sy} (h : Ob w K A B n c m d xs) (hK : K ≤ K') : Ob w K' A B n c m d xs := ⟨h.s.more hK, h.nc, h.cm, h.mm⟩
theorem RdO.below {w w' : World} {K n : Nat} {A : Option Addr} {os : List (List Sy)} (h : RdO w K A n os) (hb : Below K w w') : RdO w' K A n os :=
  ⟨h.1, fun k hk => by
    obtain ⟨b, o, e, hl, S, B, p, c, m, d, h0, h1, h2⟩ := h.2 k hk
    exact ⟨b, o, e, hl, S, B, p, c, m, d, (hb.cell (p := ⟨b, o + k * 2, none⟩) hl).trans h0, (hb.cell (p := ⟨b, o + k * 2 + 1, none⟩) hl).trans h1, h2.below hb⟩⟩
theorem RdO.more {w : World} {K K' n : Nat} {A : Option Addr} {os : List (List Sy)} (h : RdO w K A n os) (hK : K ≤ K') : RdO w K' A n os :=
  ⟨h.1, fun k hk => by
    obtain ⟨b, o, e, hl, S, B, p, c, m, d, h0, h1, h2⟩ := h.2 k hk
    exact ⟨b, o, e, by omega, S, B, p, c, m, d, h0, h1, h2.more hK⟩⟩
theorem RdO.pre {w : World} {K n m : Nat} {A : Option Addr} {os : List (List Sy)} (h : RdO w K A n os) (hm : m ≤ n) : RdO w K A m (os.take m) := by
  refine ⟨by rw [List.length_take, h.1]; omega, fun j hj => ?_⟩
  rw [List.length_take] at hj
  rw [List.getElem_take]
  exact h.2 j (by omega)
end Go.Proofs.YtbcjbembhajgcaaDoor.Tab

namespace Go.Proofs.YtbcjbembhajgcaaDoor.Tab
open Go.RowKit Go.Proofs Go.Proofs.YtbcjbembhajgcaaDoor.Byt
open Go.Proofs.YtbcjbembhajgcaaDoor.Obj (Sy RdS SCells)
open Go.Proofs.YtbcjbembhajgcaaDoor.Bnd

/-- Names that the call has made a list of. -/
def NmsP (l : List ByteArray) (w : World) (e : Ending) (w' : World) : Prop :=
  ∃ A c, e = .returned (.slice A l.length c) ∧ Sls.Own w' w.heap.size (.slice A l.length c) l.length l ∧ Below w.heap.size w w'
end Go.Proofs.YtbcjbembhajgcaaDoor.Tab

namespace Go.Proofs.YtbcjbembhajgcaaDoor.Tab
open Go.RowKit Go.Proofs Go.Proofs.YtbcjbembhajgcaaDoor.Byt
open Go.Proofs.YtbcjbembhajgcaaDoor.Obj (Sy RdS SCells)
open Go.Proofs.YtbcjbembhajgcaaDoor.Bnd

theorem putN_len (l : List ByteArray) (x : ByteArray) : (putN l x).length ≤ l.length + 1 := by
  induction l with
  | nil => simp [putN]
  | cons a r ih =>
    unfold putN
    split
    · simp only [List.length_cons]; omega
    · split <;> simp
theorem fold_len (l acc : List ByteArray) : (l.foldl putN acc).length ≤ acc.length + l.length := by
  induction l generalizing acc with
  | nil => simp
  | cons a r ih =>
    have := ih (putN acc a)
    have := putN_len acc a
    simp only [List.foldl_cons, List.length_cons]
    omega
theorem nms_len : ∀ (os : List (List Sy)), (∀ o ∈ os, o.length ≤ 20) → (nms os).length ≤ 20 * os.length := by
  refine Dec.by_snoc (P := fun os => (∀ o ∈ os, o.length ≤ 20) → (nms os).length ≤ 20 * os.length) (fun _ => by simp [nms]) (fun os o ih h => ?_)
  have h1 := ih fun x hx => h x (List.mem_append_left _ hx)
  have h2 := h o (by simp)
  rw [nms_app, List.length_append, List.length_singleton]
  have := fold_len ([o].flatten.map (·.name)) (nms os)
  simp at this ⊢
  omega

end Go.Proofs.YtbcjbembhajgcaaDoor.Tab
