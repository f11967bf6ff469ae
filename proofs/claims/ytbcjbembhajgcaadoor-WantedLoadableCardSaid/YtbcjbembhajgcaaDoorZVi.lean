/-
  symtab: a map of states.
-/
import Derived.Test.YtbcjbembhajgcaaDoorZVa
import Derived.Test.YtbcjbembhajgcaaDoorZBc
import Derived.MapKept
import Derived.Maps.RangeRun
import Derived.Maps.RangeWalk
namespace Go.Proofs.YtbcjbembhajgcaaDoor.Tab
open Go.RowKit Go.Proofs Go.Proofs.YtbcjbembhajgcaaDoor.Byt
open Go.Proofs.YtbcjbembhajgcaaDoor.Bnd

theorem underM : Tryd.prog.underlying 28 = some (.map 9 57) := by kernel_rfl
theorem underK : Tryd.prog.underlying 9 = some .string := by kernel_rfl
def zS8 : Array Value := #[.int .i64 0, .int .i64 0, .int .i64 0, .int .i64 0, .bool false, .bool false, .bool false, .slice none 0 0]
theorem keyS (n : ByteArray) : MapKept.IsKey .string (.string n) := trivial

/-- What the call has made of numbers stays where rows of numbers stay. -/
theorem _root_.Go.Proofs.YtbcjbembhajgcaaDoor.Bnd.OwnI.typ {w w' : World} {K : Nat} {v : Value} {l : List Int} (h : OwnI w K v l) (hk : ∀ (g : Nat) (cs : Array Value) (m : Nat × Nat), w.heap[g]? = some (.cells cs 3 m) → w'.heap[g]? = some (.cells cs 3 m)) : OwnI w' K v l := by
  unfold OwnI Cel.Own at h ⊢
  obtain ⟨hl, h⟩ := h
  refine ⟨hl, ?_⟩
  rcases h with h | ⟨g, cap, cur, m, hv, hg, hh, rest⟩
  · exact .inl h
  · exact .inr ⟨g, cap, cur, m, hv, hg, hk _ _ _ hh, rest⟩

/-- A map of states: each name that is used has that of its uses. -/
def Tm (w : World) (K M : Nat) (U : ByteArray → List Us) : Prop :=
  ∃ es clock, w.heap[M]? = some (.map es clock) ∧ MapKept.Stamped es clock ∧ Keys es U ∧ ∀ x ∈ es.toList, ∀ n, x.key = .string n → ∃ v, x.val = (allL (U n)).val v ∧ OwnI w K v (allL (U n)).strongs
theorem Tm.lt {w : World} {K M : Nat} {U : ByteArray → List Us} (h : Tm w K M U) : M < w.heap.size := by
  obtain ⟨es, clock, hb, _⟩ := h
  exact (Array.getElem?_eq_some_iff.1 hb).1
theorem Tm.typ {w w' : World} {K M : Nat} {U : ByteArray → List Us} (h : Tm w K M U) (hM : w'.heap[M]? = w.heap[M]?) (hk : ∀ (g : Nat) (cs : Array Value) (m : Nat × Nat), w.heap[g]? = some (.cells cs 3 m) → w'.heap[g]? = some (.cells cs 3 m)) : Tm w' K M U := by
  obtain ⟨es, clock, hb, hs, hK, hv⟩ := h
  refine ⟨es, clock, hM.trans hb, hs, hK, fun x hx n hn => ?_⟩
  obtain ⟨v, e, ho⟩ := hv x hx n hn
  exact ⟨v, e, ho.typ hk⟩
theorem Tm.below {w w' : World} {K M : Nat} {U : ByteArray → List Us} (h : Tm w K M U) (hb : Below w.heap.size w w') : Tm w' K M U :=
  h.typ (hb.block M h.lt) fun g _ _ hg => (hb.block g (Array.getElem?_eq_some_iff.1 hg).1).trans hg
theorem Tm.congr {w : World} {K M : Nat} {U V : ByteArray → List Us} (h : Tm w K M U) (e : ∀ n, U n = V n) : Tm w K M V := by
  have : U = V := funext e
  rw [← this]
  exact h

/-- s, ok := m[k], at a name that is there. -/
theorem Tm.get {w : World} {K M : Nat} {U : ByteArray → List Us} (h : Tm w K M U) (nm : ByteArray) (hu : U nm ≠ []) :
    ∃ v, (Instr.lookup 28 (.map (some M)) (.string nm) true).run Tryd.prog w = .ok (.tuple #[(allL (U nm)).val v, .bool true]) w ∧ OwnI w K v (allL (U nm)).strongs := by
  obtain ⟨es, clock, hb, hs, hK, hv⟩ := h
  have hks : ∀ x ∈ es.toList, MapKept.IsKey .string x.key := fun x hx => by
    obtain ⟨n, hn, _⟩ := hK.1 x hx
    rw [hn]
    exact keyS n
  have hc : ∀ em, (Instr.checkKey em 10000 9 (.string nm)).run Tryd.prog w = .ok () w := fun em => MapKept.run_checkKey underK (keyS nm) em 9999
  rcases MapKept.findNow_spec (keyS nm) es.toList 0 hks with ⟨_, h2⟩ | ⟨j, e, h1, h2, h3⟩
  · obtain ⟨x, hx, hq⟩ := hK.2 nm hu
    exact absurd hq (h2 x hx)
  · obtain ⟨v, he, ho⟩ := hv e (List.mem_of_getElem? h2) nm h3
    rw [he] at h1
    refine ⟨v, ?_, ho⟩
    simp [Instr.lookup, run_underlying underM, MapKept.run_getObj_map hb, hc, MapKept.run_findKey underK h1, Result.andThen]
/-- s, ok := m[k], at a name that is not there. -/
theorem Tm.none {w : World} {K M : Nat} {U : ByteArray → List Us} (h : Tm w K M U) (nm : ByteArray) (hu : U nm = []) :
    (Instr.lookup 28 (.map (some M)) (.string nm) true).run Tryd.prog w = .ok (.tuple #[.agg zS8, .bool false]) w := by
  obtain ⟨es, clock, hb, hs, hK, hv⟩ := h
  have hks : ∀ x ∈ es.toList, MapKept.IsKey .string x.key := fun x hx => by
    obtain ⟨n, hn, _⟩ := hK.1 x hx
    rw [hn]
    exact keyS n
  have hc : ∀ em, (Instr.checkKey em 10000 9 (.string nm)).run Tryd.prog w = .ok () w := fun em => MapKept.run_checkKey underK (keyS nm) em 9999
  rcases MapKept.findNow_spec (keyS nm) es.toList 0 hks with ⟨h1, _⟩ | ⟨j, e, h1, h2, h3⟩
  · simp [Instr.lookup, run_underlying underM, MapKept.run_getObj_map hb, hc, MapKept.run_findKey underK h1, Result.andThen, zS8]
  · obtain ⟨n, hn, hne⟩ := hK.1 e (List.mem_of_getElem? h2)
    have e1 : n = nm := Value.string.inj (hn.symm.trans h3)
    rw [e1] at hne
    exact absurd hu hne
/-- s, ok := m[k], of no map. -/
theorem nil_none (w : World) (nm : ByteArray) : (Instr.lookup 28 (.map none) (.string nm) true).run Tryd.prog w = .ok (.tuple #[.agg zS8, .bool false]) w := by
  have hc : ∀ em, (Instr.checkKey em 10000 9 (.string nm)).run Tryd.prog w = .ok () w := fun em => MapKept.run_checkKey underK (keyS nm) em 9999
  have hf : Instr.findNow .string (.string nm) [] 0 = some none := rfl
  simp [Instr.lookup, run_underlying underM, hc, MapKept.run_findKey underK hf, Result.andThen, zS8]

def upd (U : ByteArray → List Us) (nm : ByteArray) (l : List Us) : ByteArray → List Us := fun n => if n = nm then l else U n
theorem upd_same (U : ByteArray → List Us) (nm : ByteArray) (l : List Us) : upd U nm l nm = l := if_pos rfl
theorem upd_other {U : ByteArray → List Us} {nm n : ByteArray} {l : List Us} (h : n ≠ nm) : upd U nm l n = U n := if_neg h
/-- m[k] = s. -/
theorem Tm.put {w : World} {K M : Nat} {U : ByteArray → List Us} (h : Tm w K M U) (nm : ByteArray) (l : List Us) (hl : l ≠ []) (v : Value) (ho : OwnI w K v (allL l).strongs) :
    ∃ w', (Instr.mapUpdate 28 (.map (some M)) (.string nm) ((allL l).val v)).run Tryd.prog w = .ok () w' ∧ Tm w' K M (upd U nm l) ∧ (∀ g, g ≠ M → w'.heap[g]? = w.heap[g]?) ∧ w'.heap.size = w.heap.size ∧ ∀ K', K' ≤ M → Below K' w w' := by
  obtain ⟨es, clock, hb, hs, hK, hv⟩ := h
  have hks : ∀ x ∈ es.toList, MapKept.IsKey .string x.key := fun x hx => by
    obtain ⟨n, hn, _⟩ := hK.1 x hx
    rw [hn]
    exact keyS n
  have hc : ∀ em, (Instr.checkKey em 10000 9 (.string nm)).run Tryd.prog w = .ok () w := fun em => MapKept.run_checkKey underK (keyS nm) em 9999
  have typ : ∀ (es' : Array MapEntry) (c' : Nat), ∀ (g : Nat) (cs : Array Value) (m : Nat × Nat), w.heap[g]? = some (.cells cs 3 m) → (w.heap.setIfInBounds M (.map es' c'))[g]? = some (.cells cs 3 m) := fun es' c' g cs m hg => by
    rw [(MapKept.heap_set (o' := .map es' c') hb).2 g (by rintro rfl; rw [hb] at hg; cases hg)]
    exact hg
  have bel : ∀ (es' : Array MapEntry) (c' K' : Nat), K' ≤ M → Below K' w { w with heap := w.heap.setIfInBounds M (.map es' c') } := fun es' c' K' hK' => ⟨rfl, rfl, rfl, by simp, fun j hj => (MapKept.heap_set (o' := .map es' c') hb).2 j (by omega)⟩
  rcases MapKept.findNow_spec (keyS nm) es.toList 0 hks with ⟨h1, h2⟩ | ⟨j, e, h1, h2, h3⟩
  · refine ⟨{ w with heap := w.heap.setIfInBounds M (.map (es.push ⟨.string nm, (allL l).val v, clock⟩) (clock + 1)) }, ?_, ⟨_, _, (MapKept.heap_set hb).1, MapKept.stamped_push hs h2, ⟨?_, ?_⟩, ?_⟩, fun g hg => (MapKept.heap_set hb).2 g hg, by simp, bel _ _⟩
    · simp [Instr.mapUpdate, run_underlying underM, MapKept.run_getObj_map hb, hc, MapKept.run_findKey underK h1, MapKept.run_setObj_map _ hb, Result.andThen]
    · intro x hx
      rw [Array.toList_push, List.mem_append, List.mem_singleton] at hx
      rcases hx with hx | rfl
      · obtain ⟨n, hn, hne⟩ := hK.1 x hx
        exact ⟨n, hn, by rw [upd_other (by rintro rfl; exact h2 x hx hn)]; exact hne⟩
      · exact ⟨nm, rfl, by rw [upd_same]; exact hl⟩
    · intro n hn
      by_cases e : n = nm
      · subst e
        exact ⟨⟨.string n, (allL l).val v, clock⟩, by simp, rfl⟩
      · rw [upd_other e] at hn
        obtain ⟨x, hx, hq⟩ := hK.2 n hn
        exact ⟨x, by rw [Array.toList_push]; exact List.mem_append_left _ hx, hq⟩
    · intro x hx n hn
      rw [Array.toList_push, List.mem_append, List.mem_singleton] at hx
      rcases hx with hx | rfl
      · obtain ⟨v', e', ho'⟩ := hv x hx n hn
        rw [upd_other (by rintro rfl; exact h2 x hx hn)]
        exact ⟨v', e', ho'.typ (typ _ _)⟩
      · injection hn with hn
        subst hn
        rw [upd_same]
        exact ⟨v, rfl, ho.typ (typ _ _)⟩
  · have hj : es[j]? = some e := by simpa using h2
    have hmem : ∀ x, x ∈ (es.modify j fun e => { e with key := .string nm, val := (allL l).val v }).toList → (x ∈ es.toList ∧ x.key ≠ .string nm) ∨ x = { e with key := .string nm, val := (allL l).val v } := by
      intro x hx
      obtain ⟨i, hi⟩ := List.mem_iff_getElem?.1 hx
      rw [Array.getElem?_toList, Array.getElem?_modify] at hi
      by_cases hij : j = i
      · subst hij
        rw [if_pos rfl, hj] at hi
        injection hi with hi
        exact .inr hi.symm
      · rw [if_neg hij] at hi
        refine .inl ⟨by have := Array.mem_of_getElem? hi; simpa using this, fun hk => hij ?_⟩
        have h5 := ((MapKept.stamped_iff es clock).1 hs).2.2
        have hp := List.pairwise_iff_getElem.1 h5
        obtain ⟨hjl, hje⟩ := List.getElem?_eq_some_iff.1 h2
        obtain ⟨hil, hie⟩ := List.getElem?_eq_some_iff.1 ((Array.getElem?_toList (xs := es) (i := i)).trans hi)
        rcases Nat.lt_trichotomy i j with q | q | q
        · exact absurd (by rw [hie, hje, hk, h3]) (hp i j hil hjl q)
        · exact q.symm
        · exact absurd (by rw [hie, hje, hk, h3]) (hp j i hjl hil q)
    have hold : ∀ x ∈ es.toList, x.key ≠ .string nm → x ∈ (es.modify j fun e => { e with key := .string nm, val := (allL l).val v }).toList := by
      intro x hx hk
      obtain ⟨i, hi⟩ := List.mem_iff_getElem?.1 hx
      refine List.mem_iff_getElem?.2 ⟨i, ?_⟩
      rw [Array.getElem?_toList, Array.getElem?_modify, if_neg]
      · rw [← Array.getElem?_toList]; exact hi
      · rintro rfl
        rw [h2] at hi
        injection hi with hi
        subst hi
        exact hk h3
    have hnew : ({ e with key := .string nm, val := (allL l).val v } : MapEntry) ∈ (es.modify j fun e => { e with key := .string nm, val := (allL l).val v }).toList := by
      refine List.mem_iff_getElem?.2 ⟨j, ?_⟩
      rw [Array.getElem?_toList, Array.getElem?_modify, if_pos rfl, hj]
      rfl
    refine ⟨{ w with heap := w.heap.setIfInBounds M (.map (es.modify j fun e => { e with key := .string nm, val := (allL l).val v }) clock) }, ?_, ⟨_, _, (MapKept.heap_set hb).1, MapKept.stamped_modify hs _ _ (fun _ _ => rfl) (fun e' _ he' => ?_), ⟨?_, ?_⟩, ?_⟩,
      fun g hg => (MapKept.heap_set hb).2 g hg, by simp, bel _ _⟩
    · simp [Instr.mapUpdate, run_underlying underM, MapKept.run_getObj_map hb, hc, MapKept.run_findKey underK h1, hj, h3, MapKept.run_keyThatStays (keyS nm), MapKept.run_setObj_map _ hb, Result.andThen]
    · rw [hj] at he'
      cases he'
      exact h3.symm
    · intro x hx
      rcases hmem x hx with ⟨hx, hk⟩ | rfl
      · obtain ⟨n, hn, hne⟩ := hK.1 x hx
        exact ⟨n, hn, by rw [upd_other (by rintro rfl; exact hk hn)]; exact hne⟩
      · exact ⟨nm, rfl, by rw [upd_same]; exact hl⟩
    · intro n hn
      by_cases q : n = nm
      · subst q
        exact ⟨_, hnew, rfl⟩
      · rw [upd_other q] at hn
        obtain ⟨x, hx, hk⟩ := hK.2 n hn
        exact ⟨x, hold x hx (by rw [hk]; intro q'; injection q' with q'; exact q q'), hk⟩
    · intro x hx n hn
      rcases hmem x hx with ⟨hx, hk⟩ | rfl
      · obtain ⟨v', e', ho'⟩ := hv x hx n hn
        rw [upd_other (by rintro rfl; exact hk hn)]
        exact ⟨v', e', ho'.typ (typ _ _)⟩
      · injection hn with hn
        subst hn
        rw [upd_same]
        exact ⟨v, rfl, ho.typ (typ _ _)⟩
/-- A map that has just been made. -/
theorem Tm.new {w : World} {M c : Nat} (K : Nat) (h : w.heap[M]? = some (.map #[] c)) : Tm w K M fun _ => [] := ⟨#[], c, h, MapKept.stamped_empty c, ⟨by simp, fun n hn => absurd rfl hn⟩, by simp⟩

/-- A range over a map under way. -/
def Rg (w : World) (r M : Nat) (es : Array MapEntry) (seen : Array Nat) : Prop :=
  ∃ clock since c0, w.heap[M]? = some (.map es clock) ∧ MapKept.Stamped es clock ∧ w.heap[r]? = some (.mapIter (some M) since seen c0) ∧ (∀ x ∈ es.toList, x.born < since) ∧ since ≤ c0 ∧ since ≤ clock
theorem Rg.lt {w : World} {r M : Nat} {es : Array MapEntry} {seen : Array Nat} (h : Rg w r M es seen) : r < w.heap.size ∧ M < w.heap.size := by
  obtain ⟨_, _, _, h1, _, h2, _⟩ := h
  exact ⟨(Array.getElem?_eq_some_iff.1 h2).1, (Array.getElem?_eq_some_iff.1 h1).1⟩
theorem Rg.below {w w' : World} {r M : Nat} {es : Array MapEntry} {seen : Array Nat} (h : Rg w r M es seen) (hb : Below w.heap.size w w') : Rg w' r M es seen := by
  have h1 := h.lt
  obtain ⟨clock, since, c0, a, b, c, d⟩ := h
  exact ⟨clock, since, c0, (hb.block M h1.2).trans a, b, (hb.block r h1.1).trans c, d⟩
theorem Rg.start {w : World} {M : Nat} {es : Array MapEntry} {clock : Nat} (hb : w.heap[M]? = some (.map es clock)) (hs : MapKept.Stamped es clock) :
    ∃ w', (Instr.range 28 (.map (some M))).run Tryd.prog w = .ok (.pointer (some ⟨w.heap.size, 0, none⟩)) w' ∧ Rg w' w.heap.size M es #[] ∧ Below w.heap.size w w' ∧ w'.heap.size = w.heap.size + 1 := by
  have hlt := (Array.getElem?_eq_some_iff.1 hb).1
  exact ⟨_, run_range_map w _ _ _ M es clock underM hb, ⟨clock, clock, clock, ((MapKept.heap_alloc w _).2 M hlt).trans hb, hs, (MapKept.heap_alloc w _).1, hs.1, Nat.le_refl _, Nat.le_refl _⟩, (Below.refl _ w).alloc (Nat.le_refl _) _, by simp⟩
theorem Rg.next {w : World} {r M : Nat} {es : Array MapEntry} {seen : Array Nat} (h : Rg w r M es seen) (ty : TypeId) :
    ((leftOf es seen).size = 0 ∧ (Instr.next (.pointer (some ⟨r, 0, none⟩)) false ty).run Tryd.prog w = .ok (.tuple #[.bool false]) w) ∨
    ∃ e ∈ (leftOf es seen).toList, ∃ w', (Instr.next (.pointer (some ⟨r, 0, none⟩)) false ty).run Tryd.prog w = .ok (.tuple #[.bool true, e.key, e.val]) w' ∧ Rg w' r M es (seen.push e.born) ∧ (∀ g, g ≠ r → w'.heap[g]? = w.heap[g]?) ∧ w'.heap.size = w.heap.size ∧
      (∀ K', K' ≤ r → Below K' w w') ∧ (leftOf es (seen.push e.born)).size < (leftOf es seen).size ∧ (Instr.entry (.pointer (some ⟨r, 0, none⟩))).run Tryd.prog w' = .ok (.tuple #[e.key, e.val]) w' := by
  obtain ⟨clock, since, c0, hM, hs, hr, hold, hsc, hsk⟩ := h
  rcases run_next_at (P := Tryd.prog) w ty r M since c0 seen es clock hr hM hold hsc with ⟨h0, hrun⟩ | ⟨e, he, w1, hal, hrun⟩
  · exact .inl ⟨h0, hrun⟩
  · have hne : M ≠ r := by rintro rfl; rw [hM] at hr; cases hr
    have hr1 : w1.heap[r]? = some (.mapIter (some M) since seen c0) := by rcases hal with rfl | rfl <;> exact hr
    have hb1 : w1.heap[M]? = some (.map es clock) := by rcases hal with rfl | rfl <;> exact hM
    have e1 : ∀ g : Nat, w1.heap[g]? = w.heap[g]? := fun g => by rcases hal with rfl | rfl <;> rfl
    have ez : w1.heap.size = w.heap.size := by rcases hal with rfl | rfl <;> rfl
    have eb : ∀ K', Below K' w w1 := fun K' => by
      rcases hal with rfl | rfl
      · exact Below.refl _ _
      · exact (Below.refl _ _).drew
    have hset := MapKept.heap_set (o' := .mapIter (some M) since (seen.push e.born) clock) hr1
    have hM' : (Go.ChangeMaps.setBlock w1 r (.mapIter (some M) since (seen.push e.born) clock)).heap[M]? = some (.map es clock) := (hset.2 M hne).trans hb1
    obtain ⟨hem, hes⟩ := mem_leftOf he
    refine .inr ⟨e, he, _, hrun, ⟨clock, since, clock, hM', hs, hset.1, hold, hsk, hsk⟩, fun g hg => (hset.2 g hg).trans (e1 g), ?_, fun K' hK' => ?_, ?_, run_entry_at _ r M since seen es clock e hset.1 hM' hem hs.2.1⟩
    · rw [← ez]
      simp [Go.ChangeMaps.setBlock]
    · have b : Below K' w1 (Go.ChangeMaps.setBlock w1 r (.mapIter (some M) since (seen.push e.born) clock)) := ⟨rfl, rfl, rfl, by simp [Go.ChangeMaps.setBlock], fun j hj => hset.2 j (by omega)⟩
      exact (eb K').trans b
    · have hq : ∀ s : Array Nat, (leftOf es s).size = (es.toList.filter fun x => !s.contains x.born).length := fun s => Array.length_toList.symm.trans (congrArg List.length Array.toList_filter)
      rw [hq, hq]
      refine filter_lt _ _ (fun x hx => ?_) e ?_ ?_ _ hem
      · simp at hx ⊢
        exact hx.1
      · simpa using hes
      · simp

section
variable (w : World) {ops : Array Oper} {rest : List Oper} {o : Oper} {a : Act} {Q : Exit → Act → World → Prop}
/-- range m. -/
theorem wp_range (hg : o.guard = none) (m : Operand) (hop : o.op = Op.range 28 m) {M : Nat} {es : Array MapEntry} {clock : Nat} (hm : a.eval m = .map (some M)) (hb : w.heap[M]? = some (.map es clock)) (hs : MapKept.Stamped es clock)
    (hK : ∀ w', Rg w' w.heap.size M es #[] → Below w.heap.size w w' → w'.heap.size = w.heap.size + 1 → wpList Tryd.prog ops Q rest (a.put o.dst (.pointer (some ⟨w.heap.size, 0, none⟩))) w') : wpList Tryd.prog ops Q (o :: rest) a w := by
  refine wpList_plain hg fun K' hK' => ?_
  obtain ⟨w', hrun, r1, r2, r3⟩ := Rg.start hb hs
  unfold Oper.wp
  simp [execOp, hop, hm, hrun, Result.andThen]
  exact hK' _ _ (hK w' r1 r2 r3)
/-- The step. -/
theorem wp_next (hg : o.guard = none) (it : Operand) (hop : o.op = Op.next it false) {r M : Nat} {es : Array MapEntry} {seen : Array Nat} (hit : a.eval it = .pointer (some ⟨r, 0, none⟩)) (h : Rg w r M es seen)
    (hDone : (leftOf es seen).size = 0 → wpList Tryd.prog ops Q rest (a.put o.dst (.tuple #[.bool false])) w)
    (hMore : ∀ e ∈ (leftOf es seen).toList, ∀ w', Rg w' r M es (seen.push e.born) → (∀ g, g ≠ r → w'.heap[g]? = w.heap[g]?) → w'.heap.size = w.heap.size → (∀ K', K' ≤ r → Below K' w w') → (leftOf es (seen.push e.born)).size < (leftOf es seen).size →
      (Instr.entry (.pointer (some ⟨r, 0, none⟩))).run Tryd.prog w' = .ok (.tuple #[e.key, e.val]) w' → wpList Tryd.prog ops Q rest (a.put o.dst (.tuple #[.bool true, e.key, e.val])) w') : wpList Tryd.prog ops Q (o :: rest) a w := by
  refine wpList_plain hg fun K' hK' => ?_
  unfold Oper.wp
  rcases h.next o.type with ⟨h0, hrun⟩ | ⟨e, he, w', hrun, h1, h2, h3, h4, h5, h6⟩
  · simp [execOp, hop, hit, hrun, Result.andThen]
    exact hK' _ _ (hDone h0)
  · simp [execOp, hop, hit, hrun, Result.andThen]
    exact hK' _ _ (hMore e he w' h1 h2 h3 h4 h5 h6)
end
end Go.Proofs.YtbcjbembhajgcaaDoor.Tab
