/-
  SymtabPrefix: two tables; what is left of names; states that grow.
-/
import Derived.Test.YtndjnmeblpjlhaaDoorZUb
import Derived.BigQuiet
namespace Go.Proofs.YtndjnmeblpjlhaaDoor.Tab
open Go.RowKit Go.Proofs Go.Proofs.YtndjnmeblpjlhaaDoor.Byt
open Go.Proofs.YtndjnmeblpjlhaaDoor.Obj (Sy RdS SCells)
open Go.Proofs.YtndjnmeblpjlhaaDoor.Bnd

/-- Two tables, loaded side by side. -/
structure L2 (w : World) (os : List (List Sy)) (X Y : Nat) (mx my : Option Nat) (a i : Nat) (W : World) : Prop where
  b : Below w.heap.size w W
  x : Tb W X X mx (os.take a)
  y : Tb W X Y my (os.take i)
  le : w.heap.size ≤ X
  ne : X ≠ Y
  ap : ∀ M, mx = some M → my ≠ some M
theorem L2.on {w W W' : World} {os : List (List Sy)} {X Y a i : Nat} {mx my : Option Nat} (h : L2 w os X Y mx my a i W) (hb : Below W.heap.size W W') : L2 w os X Y mx my a i W' := ⟨h.b.trans (hb.mono h.b.size), h.x.below hb, h.y.below hb, h.le, h.ne, h.ap⟩
theorem fresh {w : World} {K T : Nat} {mo : Option Nat} {os : List (List Sy)} (h : Tb w K T mo os) {M : Nat} (hM : w.heap.size ≤ M) : mo ≠ some M := fun e => by
  obtain ⟨es, c, hb⟩ := h.maps M e
  have := (Array.getElem?_eq_some_iff.1 hb).1
  omega
theorem l2_x {w V : World} {os : List (List Sy)} {X Y a i : Nat} {mx my : Option Nat} (h : L2 w os X Y mx my a i V) (hP : Prec w) (hok : OK14 os) (hk : a < os.length) {S B : Option Addr} {p c m d : Nat} (hob : Ob w w.heap.size S B p c m d os[a]) :
    Calls Tryd.prog 10 #[.pointer (some ⟨X, 0, none⟩), .agg #[.slice S p c, .slice B m d]] V fun e W => (∃ z : Int, e = .returned (.int .i64 z)) ∧ ∃ mx', L2 w os X Y mx' my (a + 1) i W := by
  have hm := List.getElem_mem hk
  have hg := Prec.pos hP
  refine (tload_any X X mx (os.take a) S B p c m d os[a] V (Prec.low hP h.b hg) (by have := h.le; omega) h.x (reads_old (hob.below h.b).s h.le (Nat.le_of_lt h.x.lt)) (hok.few _ hm) (fun s hs => ⟨(hok.sym _ hm s hs).1, (hok.sym _ hm s hs).2.1⟩) (hok.take a)).mono ?_
  rintro e W ⟨e1, M, h1, h2, h3, h4⟩
  have hne : ∀ M', my = some M' → mx ≠ some M' := fun M' e e' => h.ap M' e' e
  refine ⟨⟨_, e1⟩, some M, h.b.trans (h3.mono h.le), ?_, h.y.stay h.x.row h.x.maps h4 (Ne.symm h.ne) hne, h.le, h.ne, ?_⟩
  · rw [List.take_succ_eq_append_getElem hk]
    exact h1
  · intro M' e'
    injection e' with e'
    subst e'
    rcases h2 with h2 | ⟨_, h2⟩
    · exact h.ap _ h2
    · exact fresh h.y h2
theorem l2_y {w V : World} {os : List (List Sy)} {X Y a i : Nat} {mx my : Option Nat} (h : L2 w os X Y mx my a i V) (hP : Prec w) (hok : OK14 os) (hk : i < os.length) {S B : Option Addr} {p c m d : Nat} (hob : Ob w w.heap.size S B p c m d os[i]) :
    Calls Tryd.prog 10 #[.pointer (some ⟨Y, 0, none⟩), .agg #[.slice S p c, .slice B m d]] V fun e W => (∃ z : Int, e = .returned (.int .i64 z)) ∧ ∃ my', L2 w os X Y mx my' a (i + 1) W := by
  have hm := List.getElem_mem hk
  have hg := Prec.pos hP
  refine (tload_any X Y my (os.take i) S B p c m d os[i] V (Prec.low hP h.b hg) (by have := h.le; omega) h.y (reads_old (hob.below h.b).s h.le (Nat.le_of_lt h.x.lt)) (hok.few _ hm) (fun s hs => ⟨(hok.sym _ hm s hs).1, (hok.sym _ hm s hs).2.1⟩) (hok.take i)).mono ?_
  rintro e W ⟨e1, M, h1, h2, h3, h4⟩
  refine ⟨⟨_, e1⟩, some M, h.b.trans (h3.mono h.le), h.x.stay h.y.row h.y.maps h4 h.ne h.ap, ?_, h.le, h.ne, ?_⟩
  · rw [List.take_succ_eq_append_getElem hk]
    exact h1
  · intro M' e' e''
    injection e'' with e''
    subst e''
    rcases h2 with h2 | ⟨_, h2⟩
    · exact h.ap _ e' h2
    · exact fresh h.x h2 e'
theorem joi_bind (s : St) (x : Us) (h : s.bind ≠ 0) : (joi s (sgl x)).bind ≠ 0 := by
  have e : (joi s (sgl x)).bind = (prv s (sgl x)).bind := rfl
  rw [e, prv_bind]
  split
  · rename_i hr
    intro h0
    rw [h0] at hr
    have h1 : rnk 0 = 0 := rfl
    have h2 : 0 ≤ rnk s.bind := by
      unfold rnk
      split
      · omega
      · split
        · omega
        · split <;> omega
    omega
  · exact h
theorem allL_grow (a : List Us) : ∀ b : List Us, (∃ r, (allL (a ++ b)).strongs = (allL a).strongs ++ r) ∧ ((allL a).bind ≠ 0 → (allL (a ++ b)).bind ≠ 0) := by
  refine Dec.by_snoc (P := fun b => (∃ r, (allL (a ++ b)).strongs = (allL a).strongs ++ r) ∧ ((allL a).bind ≠ 0 → (allL (a ++ b)).bind ≠ 0)) ⟨⟨[], by simp⟩, fun h => by simpa using h⟩ (fun b x ih => ?_)
  obtain ⟨⟨r, hr⟩, hb⟩ := ih
  rw [← List.append_assoc, allL_snoc]
  refine ⟨⟨r ++ (sgl x).strongs, ?_⟩, fun h => joi_bind _ x (hb h)⟩
  have e : (joi (allL (a ++ b)) (sgl x)).strongs = (allL (a ++ b)).strongs ++ (sgl x).strongs := rfl
  rw [e, hr, List.append_assoc]
/-- The state after some objects, and after more. -/
theorem grow14 {os : List (List Sy)} (hok : OK14 os) (k : Nat) (nm : ByteArray) : (∃ r, (ofL (uses os nm)).strongs = (ofL (uses (os.take k) nm)).strongs ++ r) ∧ ((ofL (uses (os.take k) nm)).bind ≠ 0 → (ofL (uses os nm)).bind ≠ 0) := by
  rw [hok.all nm, (hok.take k).all nm]
  obtain ⟨r, hr⟩ := uses_app (os.take k) (os.drop k) nm
  rw [List.take_append_drop] at hr
  rw [hr]
  exact allL_grow _ r
theorem names14 (os : List (List Sy)) (k : Nat) : (nms (os.take k)).Sublist (nms os) := by
  have := nms_pre (os.take k) (os.drop k)
  rwa [List.take_append_drop] at this
/-- A step of the search. -/
theorem lft_yes {a b : List ByteArray} {i j : Nat} (hi : i < a.length) (hj : j < b.length) (h : lft (a.drop i) (b.drop j) = []) (e : b[j] = a[i]) : lft (a.drop (i + 1)) (b.drop (j + 1)) = [] := by
  rw [List.drop_eq_getElem_cons hi, List.drop_eq_getElem_cons hj, lft, if_pos e] at h
  exact h
theorem lft_no {a b : List ByteArray} {i j : Nat} (hi : i < a.length) (hj : j < b.length) (h : lft (a.drop i) (b.drop j) = []) (e : b[j] ≠ a[i]) : lft (a.drop i) (b.drop (j + 1)) = [] := by
  rw [List.drop_eq_getElem_cons hi, List.drop_eq_getElem_cons hj, lft, if_neg e, ← List.drop_eq_getElem_cons hi] at h
  exact h
theorem lft_end {a b : List ByteArray} {i j : Nat} (hi : i ≤ a.length) (hj : ¬ j < b.length) (h : lft (a.drop i) (b.drop j) = []) : i = a.length := by
  rw [List.drop_eq_nil_of_le (Nat.le_of_not_lt hj)] at h
  have h' : a.drop i = [] := by
    cases hd : a.drop i with
    | nil => rfl
    | cons x r => rw [hd] at h; exact h
  have := List.drop_eq_nil_iff.1 h'
  omega
end Go.Proofs.YtndjnmeblpjlhaaDoor.Tab
