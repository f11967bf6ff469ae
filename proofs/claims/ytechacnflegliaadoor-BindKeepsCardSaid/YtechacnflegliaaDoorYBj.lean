/-
  bind: the reference's Of.
-/
import Derived.Test.YtechacnflegliaaDoorYBi
namespace Go.Proofs.YtechacnflegliaaDoor.Bnd
open Go.RowKit Go.Proofs Go.Proofs.YtechacnflegliaaDoor.Byt
open Go.Proofs.YtechacnflegliaaDoor.Obj (Sy)
open Go.Proofs.YtechacnflegliaaDoor.Arp (RdI)

theorem ldR {ops : Array Oper} {rest : List Oper} {o : Oper} {a : Act} {w : World} {Q : Exit → Act → World → Prop} (hgd : o.guard = none) (x : Operand) (ho : o.op = .load 30 x)
    (u : Nat) (hx : a.eval x = .pointer (some ⟨u, 0, none⟩)) (cs : Array Value) (hg : w.heap[u]? = some (.cells cs 30 (0, 0))) (hs : cs.size = 8)
    (h : wpList Tryd.prog ops Q rest (a.put o.dst (.agg cs)) w) : wpList Tryd.prog ops Q (o :: rest) a w :=
  wpList_load_row hgd 30 x ho u hx 30 cs (0, 0) _ hg Tryd.underlying30 rfl (by rw [hs]; kernel_rfl) h
theorem stR {ops : Array Oper} {rest : List Oper} {o : Oper} {a : Act} {w : World} {Q : Exit → Act → World → Prop} (hgd : o.guard = none) (x y : Operand) (ho : o.op = .store 30 x y)
    (u : Nat) (cells : Array Value) (hx : a.eval x = .pointer (some ⟨u, 0, none⟩)) (hy : a.eval y = .agg cells) (old : Array Value) (hg : w.heap[u]? = some (.cells old 30 (0, 0))) (hs : cells.size = 8) (hold : old.size = 8)
    (h1 : cells.all (·.oneCell') = true) (h : wpList Tryd.prog ops Q rest (a.put o.dst undef) (w.setRow u cells)) : wpList Tryd.prog ops Q (o :: rest) a w :=
  wpList_store_row hgd 30 x y ho u cells hx hy 30 old hg (by rw [hs]; kernel_rfl) (by rw [hs, hold]) h1 h

/-- What the loop of Of has gathered. -/
def ofZ (f : Us → Int) (xs : List Us) (k : Nat) : Int := if 0 ≤ fsI xs 1 then 0 else mxs f (xs.take k)
def ofG (xs : List Us) (k : Nat) : List Int := ((xs.take k).filter fun x => x.s.bind == 1).map (·.u)
theorem ofZ_zero (f : Us → Int) (xs : List Us) : ofZ f xs 0 = 0 := by unfold ofZ; split <;> rfl
theorem ofG_len (xs : List Us) (k : Nat) : (ofG xs k).length ≤ xs.length := by
  unfold ofG
  rw [List.length_map]
  exact Nat.le_trans (List.length_filter_le _ _) (by rw [List.length_take]; omega)
theorem ofG_one {xs : List Us} {k : Nat} (hk : k < xs.length) (h : xs[k].s.bind = 1) : ofG xs (k + 1) = ofG xs k ++ [xs[k].u] := by
  unfold ofG
  rw [List.take_succ_eq_append_getElem hk, List.filter_append, List.map_append]
  simp [h]
theorem ofG_not {xs : List Us} {k : Nat} (hk : k < xs.length) (h : xs[k].s.bind ≠ 1) : ofG xs (k + 1) = ofG xs k := by
  unfold ofG
  rw [List.take_succ_eq_append_getElem hk, List.filter_append, List.map_append]
  simp [h]
theorem ofZ_strong (f : Us → Int) {xs : List Us} {k : Nat} (h : 0 ≤ fsI xs 1) : ofZ f xs (k + 1) = ofZ f xs k := by
  unfold ofZ; rw [if_pos h, if_pos h]
theorem ofZ_common (f : Us → Int) {xs : List Us} {k : Nat} (hk : k < xs.length) (h : ¬ 0 ≤ fsI xs 1) (h3 : xs[k].s.bind = 3) : ofZ f xs (k + 1) = max (ofZ f xs k) (f xs[k]) := by
  unfold ofZ; rw [if_neg h, if_neg h, List.take_succ_eq_append_getElem hk, mxs_snoc, if_pos h3]
theorem ofZ_other (f : Us → Int) {xs : List Us} {k : Nat} (hk : k < xs.length) (h3 : xs[k].s.bind ≠ 3) : ofZ f xs (k + 1) = ofZ f xs k := by
  unfold ofZ; split
  · rfl
  · rw [List.take_succ_eq_append_getElem hk, mxs_snoc, if_neg h3]
theorem one_strong {xs : List Us} {k : Nat} (hk : k < xs.length) (h : xs[k].s.bind = 1) : 0 ≤ fsI xs 1 := by
  have e := fsI_some (l := xs) (b := 1)
  have : (fst xs 1).isSome = true := List.find?_isSome.2 ⟨xs[k], List.getElem_mem hk, by simpa using h⟩
  rw [this] at e
  exact of_decide_eq_true e.symm
/-- The state, in the end. -/
theorem ofL_strong {xs : List Us} {i : Nat} (hi : i < xs.length) (h : fst xs 1 = some xs[i]) :
    ofL xs = ⟨1, xs[i].s.size, 0, xs[i].u, decide (0 ≤ fsI xs 1) || decide (0 ≤ fsI xs 2), decide (0 ≤ fsI xs 4), decide (0 ≤ fsI xs 5), ofG xs xs.length⟩ := by
  rw [← fsI_some, ← fsI_some, ← fsI_some, ← fsI_some]
  unfold ofL ofG
  rw [h, List.take_length]
theorem ofL_common {xs : List Us} {i : Nat} (hi : i < xs.length) (h1 : ¬ 0 ≤ fsI xs 1) (h : fst xs 3 = some xs[i]) :
    ofL xs = ⟨3, ofZ (·.s.size) xs xs.length, ofZ (·.s.align) xs xs.length, xs[i].u, decide (0 ≤ fsI xs 1) || decide (0 ≤ fsI xs 2), decide (0 ≤ fsI xs 4), decide (0 ≤ fsI xs 5), ofG xs xs.length⟩ := by
  have e := (fsI_none h1).1
  rw [← fsI_some, ← fsI_some, ← fsI_some, ← fsI_some]
  unfold ofL ofG ofZ
  rw [if_neg h1, if_neg h1, e, h, List.take_length]
theorem ofL_weak {xs : List Us} {i : Nat} (hi : i < xs.length) (h1 : ¬ 0 ≤ fsI xs 1) (h3 : ¬ 0 ≤ fsI xs 3) (h : fst xs 2 = some xs[i]) :
    ofL xs = ⟨2, xs[i].s.size, 0, xs[i].u, decide (0 ≤ fsI xs 1) || decide (0 ≤ fsI xs 2), decide (0 ≤ fsI xs 4), decide (0 ≤ fsI xs 5), ofG xs xs.length⟩ := by
  have e := (fsI_none h1).1
  have e3 := (fsI_none h3).1
  rw [← fsI_some, ← fsI_some, ← fsI_some, ← fsI_some]
  unfold ofL ofG
  rw [e, e3, h, List.take_length]
theorem ofL_no {xs : List Us} (h1 : ¬ 0 ≤ fsI xs 1) (h3 : ¬ 0 ≤ fsI xs 3) (h2 : ¬ 0 ≤ fsI xs 2) :
    ofL xs = ⟨0, 0, 0, -1, decide (0 ≤ fsI xs 1) || decide (0 ≤ fsI xs 2), decide (0 ≤ fsI xs 4), decide (0 ≤ fsI xs 5), ofG xs xs.length⟩ := by
  have e := (fsI_none h1).1
  have e3 := (fsI_none h3).1
  have e2 := (fsI_none h2).1
  rw [← fsI_some, ← fsI_some, ← fsI_some, ← fsI_some]
  unfold ofL ofG
  rw [e, e3, e2, List.take_length]
theorem ofZ_no (f : Us → Int) {xs : List Us} (h3 : ¬ 0 ≤ fsI xs 3) (k : Nat) : ofZ f xs k = 0 := by
  unfold ofZ
  split
  · rfl
  · refine mxs_none _ _ ?_
    have e := (fsI_none h3).1
    unfold fst at e ⊢
    rw [List.find?_eq_none] at e ⊢
    exact fun x hx => e x (List.mem_of_mem_take hx)
/-- The loop of Of: its variable and what it holds. -/
structure OfR (w W : World) (g : Nat) (xs : List Us) (d sr wr : Bool) (k : Nat) : Prop where
  b : Below w.heap.size w W
  z : W.heap[g]? = some (.cells #[.int .i64 0, .int .i64 0, .int .i64 0, .int .i64 0, .bool false, .bool false, .bool false, .slice none 0 0] 30 (0, 0))
  r : ∃ A c, W.heap[g + 1]? = some (.cells #[.int .i64 0, .int .i64 (ofZ (·.s.size) xs k), .int .i64 (ofZ (·.s.align) xs k), .int .i64 (-1), .bool d, .bool sr, .bool wr, .slice A (ofG xs k).length c] 30 (0, 0)) ∧
    OwnI W (g + 1 + 1) (.slice A (ofG xs k).length c) (ofG xs k)
end Go.Proofs.YtechacnflegliaaDoor.Bnd
