/-
  longname: entryNames, the iterator over a table's names.
-/
import Derived.Test.YteeeongnabpheaaDoorLne
import Derived.RangeFuncBox
import Derived.RangeFuncNested
import Derived.RangeFuncBound
import Derived.RangeFuncCalls
import Derived.RangeFuncLeaves
import Derived.Shelf.Abstract
import Derived.Shelf.RegionOpen
import Derived.OwnWalkIn
import Derived.TacticsInMore
import Derived.LoopNIn
import Derived.LoopIn
import Derived.Maps.AppendAt
namespace Go.Proofs.YteeeongnabpheaaDoor.Lnm
open Go.RowKit Go.Shelf Go.Proofs Go.Proofs.YteeeongnabpheaaDoor.Byt Go.Proofs.YteeeongnabpheaaDoor.Str3 Go.Proofs.YteeeongnabpheaaDoor.Dec

attribute [local go_sem] Oper.semAt_some

/-- append of one string, in a walk within a fence. -/
theorem _root_.Go.Proofs.YteeeongnabpheaaDoor.Sls.wpListIn_push {F : Fence} {nF : Nat} {ops : Array Oper} {rest : List Oper} {o : Oper} {a : Act} {Q : Exit → Act → World → Prop} (w : World) (K : Nat) (v : Value) (n : Nat) (l : List ByteArray) (u : ByteArray)
    (hown : Sls.Own w K v n l) (hK : K ≤ w.heap.size) (hn : n < 1000000) (hgd : o.guard = none) (s x : Operand)
    (ho : o.op = .call { callee := .builtin .append, args := #[s, x], argTypes := #[54, 54] })
    (hs : a.eval s = v) (hx : a.eval x = .slice (some ⟨w.heap.size, 0, none⟩) 1 1)
    (h : ∀ v' w', Sls.Own w' K v' (n + 1) (l ++ [u]) → Below K w w' → Sls.Oth 9 w w' → wpListIn F nF Tryd.prog ops Q rest (a.put o.dst v') w') :
    wpListIn F nF Tryd.prog ops Q (o :: rest) a (w.alloc (.cells #[.string u] 9)) := by
  refine wpListIn_plain hgd fun K' hK' => ?_
  obtain ⟨v', w', hr, h1, h2, h3, _⟩ := Sls.run_app (w.alloc (.cells #[.string u] 9)) K o.type v n l (hown.alloc _) (by simp; omega) ⟨w.heap.size, 0, none⟩ 1 1 [u] rfl (cell_one_new w (.string u) 9) (by omega)
  unfold Oper.wpIn
  refine ⟨by simp [Oper.about, ho, resolve, Target.leads, Sem.run_pure], ?_⟩
  rw [Oper.semAt_plain F _ _ (by rw [ho]; intro c hc'; cases hc')]
  simp [execOp, ho, resolve, invoke, builtin, hs, hx, hr, Result.andThen]
  exact hK' _ _ (h v' w' h1 (((Below.refl K w).alloc hK _).trans h2) ((Sls.Oth.alloc _ _ _).trans h3))

theorem grown_of_below {w w' : World} (h : Below w.heap.size w w') : w.grownBy w' none := ⟨h.os, h.tape, h.output, h.size, fun k hk _ => h.block k hk⟩

def lenV : Value → Nat | .slice _ n _ => n | _ => 0

/-- What Entries gives. -/
def Ents (l : List UInt8) (w : World) (e : Ending) (w' : World) : Prop :=
  ∃ v, e = .returned (.tuple #[v, .int .i64 (entsE l)]) ∧ Sls.Own w' w.heap.size v (entsO l).length (entsO l) ∧ Below w.heap.size w w'

/-- Between two rounds. -/
def EI (w : World) (pre : List ByteArray) (W : World) : Prop :=
  (∃ v, Boxed W (w.heap.size + 1 + 1) 54 v ∧ Sls.Own W w.heap.size v pre.length pre) ∧ (Boxed W w.heap.size 54 (.slice none 0 0) ∧ Boxed W (w.heap.size + 1) 26 (.int .i64 0)) ∧ (∀ x ∈ pre, x.size ≠ 0) ∧ Below w.heap.size w W
/-- A round has left by return. -/
def EX (w : World) (c : Code) (pre : List ByteArray) (W : World) : Prop :=
  c = .ret ∧ (∃ x ∈ pre, x.size = 0) ∧ (Boxed W w.heap.size 54 (.slice none 0 0) ∧ Boxed W (w.heap.size + 1) 26 (.int .i64 7)) ∧ Below w.heap.size w W

theorem boxed_on {W W' : World} {row : Option Nat} {B : Nat} {t : TypeId} {v : Value} (h : Boxed W B t v) (hg : W.grownBy W' row) (hr : ∀ r, row = some r → ∃ o : Obj, W.heap[r]? = some o ∧ o.isCells = false) : Boxed W' B t v :=
  h.kept hg fun e => by
    obtain ⟨o, ho, hc⟩ := hr B e.symm
    rw [show W.heap[B]? = _ from h] at ho
    injection ho with ho
    subst ho
    cases hc
theorem sls_on {W W' : World} {row : Option Nat} {K n : Nat} {v : Value} {l : List ByteArray} (h : Sls.Own W K v n l) (hg : W.grownBy W' row) (hr : ∀ r, row = some r → ∃ o : Obj, W.heap[r]? = some o ∧ o.isCells = false) : Sls.Own W' K v n l := by
  refine ⟨h.1, ?_⟩
  rcases h.2 with h | ⟨g, cap, cur, m, hv, hgk, hh, r⟩
  · exact .inl h
  · exact .inr ⟨g, cap, cur, m, hv, hgk, (grownBy_keeps_cells hg hr hh rfl).trans hh, r⟩
theorem EI_own (w : World) (B : Nat) (hB : w.heap.size ≤ B) : OwnFrom B (EI w) := fun s W W' row ⟨⟨v, h1, h2⟩, h3, h4, h5⟩ hg hr =>
  ⟨⟨v, boxed_on h1 hg fun r e => (hr r e).2, sls_on h2 hg fun r e => (hr r e).2⟩, ⟨boxed_on h3.1 hg fun r e => (hr r e).2, boxed_on h3.2 hg fun r e => (hr r e).2⟩, h4, ownFrom_below (Nat.le_refl _) hB s W W' row h5 hg hr⟩
theorem EX_own (w : World) (B : Nat) (hB : w.heap.size ≤ B) (c : Code) : OwnFrom B (EX w c) := fun s W W' row ⟨h1, h2, h3, h5⟩ hg hr =>
  ⟨h1, h2, ⟨boxed_on h3.1 hg fun r e => (hr r e).2, boxed_on h3.2 hg fun r e => (hr r e).2⟩, ownFrom_below (Nat.le_refl _) hB s W W' row h5 hg hr⟩

theorem seq_length : ∀ l : List UInt8, (seq l).length ≤ l.length + 1 := by
  intro l
  generalize hk : l.length = k
  induction k using Nat.strongRecOn generalizing l with
  | _ k ih =>
    by_cases h0 : l = []
    · subst h0; rw [seq_nil]; simp
    · by_cases hf : first l = []
      · rw [seq_bad h0 hf]; simp
      · have hlen : 0 < l.length := List.length_pos_iff.2 h0
        rw [seq_good h0 hf, List.length_cons]
        have := ih _ (by rw [List.length_drop]; omega) (l.drop ((first l).length + 2)) rfl
        rw [List.length_drop] at this
        omega
theorem boxed_oth {W W' : World} {B : Nat} {t e : TypeId} {v : Value} (h : Boxed W B t v) (ho : Sls.Oth e W W') (hte : t ≠ e) : Boxed W' B t v :=
  ho B _ h fun cs m q => by injection q with _ q2; exact hte q2
theorem boxed_ne {W : World} {B : Nat} {t : TypeId} {v : Value} (h : Boxed W B t v) (a : Addr) (u : Value) (hne : B ≠ a.block) : Boxed (W.setCell a u) B t v := (Below.heap_setCell W a u B hne).trans h
theorem sls_set {W : World} {K n B : Nat} {v u : Value} {l : List ByteArray} {t : TypeId} (h : Sls.Own W K v n l) (hb : Boxed W B t u) (ht : t ≠ 9) (y : Value) : Sls.Own (W.setCell ⟨B, 0, none⟩ y) K v n l := by
  refine ⟨h.1, ?_⟩
  rcases h.2 with h | ⟨g, cap, cur, m, hv, hgk, hh, r⟩
  · exact .inl h
  · refine .inr ⟨g, cap, cur, m, hv, hgk, (Below.heap_setCell W ⟨B, 0, none⟩ y g ?_).trans hh, r⟩
    intro e
    have hb' : W.heap[g]? = some (.cells #[u] t) := by rw [show g = B from e]; exact hb
    rw [hb'] at hh
    injection hh with hh
    injection hh with _ e2
    exact ht e2
theorem keeps_oth {W W' : World} {e : TypeId} (ho : Sls.Oth e W W') (hs : W.heap.size ≤ W'.heap.size) : KeepsOthers W W' :=
  ⟨hs, fun k o hk hc => ho k o hk fun cs m q => by rw [q] at hc; cases hc⟩

theorem good_all {xs : List UInt8} (h : ∀ x ∈ seq xs, x.size ≠ 0) : good xs = true := by
  unfold good
  rw [List.all_eq_true]
  intro x hx
  rw [bne_iff_ne]
  exact h x hx
theorem bad_one {xs : List UInt8} {pre : List ByteArray} (hp : pre <+: seq xs) (h : ∃ x ∈ pre, x.size = 0) : good xs = false := by
  obtain ⟨x, hx, h0⟩ := h
  cases hg : good xs
  · rfl
  · unfold good at hg
    rw [List.all_eq_true] at hg
    have := hg x (hp.subset hx)
    rw [bne_iff_ne] at this
    exact absurd h0 this
theorem empty_of {x : ByteArray} (h : x.size = 0) : x = ⟨#[]⟩ := by
  rw [← str_bts x, List.eq_nil_of_length_eq_zero (l := bts x) (by rw [bts_length]; exact h)]
  rfl

end Go.Proofs.YteeeongnabpheaaDoor.Lnm
