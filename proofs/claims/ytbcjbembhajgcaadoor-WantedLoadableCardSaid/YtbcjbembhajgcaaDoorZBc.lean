/-
  bind: states and symbols in memory; the program's table, Empty, rank.
-/
import Derived.Test.YtbcjbembhajgcaaDoorZBa
import Derived.Test.YtbcjbembhajgcaaDoorZMj
import Derived.Lib.LaidTab
import Derived.Deep.MidRow
import Derived.Laws.CopyOwn
namespace Go.Proofs.YtbcjbembhajgcaaDoor.Bnd
open Go.RowKit Go.Proofs Go.Proofs.YtbcjbembhajgcaaDoor.Byt
open Go.Proofs.YtbcjbembhajgcaaDoor.Obj (Sy)
open Go.Proofs.YtbcjbembhajgcaaDoor.Arp (RdI)

def row (s : St) (v : Value) : Array Value := #[.int .i64 s.bind, .int .i64 s.size, .int .i64 s.align, .int .i64 s.unit, .bool s.dfd, .bool s.sr, .bool s.wr, v]
def St.val (s : St) (v : Value) : Value := .agg (row s v)
def Us.val (x : Us) : Value := .agg #[.string x.s.name, .int .i64 x.s.bind, .int .i64 x.s.size, .int .i64 x.s.align, .int .i64 x.u]
def ints (l : List Int) : List Value := l.map (Value.int .i64)
theorem ints_append (a b : List Int) : ints (a ++ b) = ints a ++ ints b := by simp [ints]
theorem ints_one {l : List Int} : ∀ v ∈ ints l, v.oneCell' = true := by
  intro v hv
  obtain ⟨c, _, rfl⟩ := List.mem_map.1 hv
  rfl
theorem kI : Cel.Kind 55 3 1 8 (.int .i64 0) := ⟨by kernel_rfl, by kernel_rfl, by kernel_rfl, by decide⟩
/-- The units of a state, where they lie. -/
def Pl (w : World) (K : Nat) (v : Value) (l : List Int) : Prop := ∃ A n c, v = .slice A n c ∧ RdI w K A n l ∧ n ≤ c ∧ c ≤ maxLen
theorem Pl.below {w w' : World} {K : Nat} {v : Value} {l : List Int} (h : Pl w K v l) (hb : Below K w w') : Pl w' K v l := by
  obtain ⟨A, n, c, e, hr, h1, h2⟩ := h
  exact ⟨A, n, c, e, hr.below hb, h1, h2⟩
theorem Pl.more {w : World} {K K' : Nat} {v : Value} {l : List Int} (h : Pl w K v l) (hK : K ≤ K') : Pl w K' v l := by
  obtain ⟨A, n, c, e, hr, h1, h2⟩ := h
  exact ⟨A, n, c, e, hr.more hK, h1, h2⟩
theorem Pl.nil (w : World) (K : Nat) : Pl w K (.slice none 0 0) [] := ⟨none, 0, 0, rfl, Arp.RdI.nil _ _ _, Nat.le_refl _, by unfold maxLen; omega⟩
/-- The units of a state, in memory of the call's own. -/
def OwnI (w : World) (K : Nat) (v : Value) (l : List Int) : Prop := Cel.Own 3 1 w K v l.length (ints l)
theorem OwnI.pl {w : World} {K : Nat} {v : Value} {l : List Int} (h : OwnI w K v l) : Pl w w.heap.size v l := by
  obtain ⟨A, c, e, hr, h1, h2⟩ := Cel.Own.reads h
  exact ⟨A, l.length, c, e, Arp.RdI.cells.2 hr, h1, h2⟩
theorem OwnI.below {w w' : World} {K : Nat} {v : Value} {l : List Int} (h : OwnI w K v l) (hb : Below w.heap.size w w') : OwnI w' K v l := Cel.Own.below h hb
theorem OwnI.more {w : World} {K K' : Nat} {v : Value} {l : List Int} (h : OwnI w K v l) (hK : K' ≤ K) : OwnI w K' v l := Cel.Own.more h hK
theorem OwnI.nil (w : World) (K : Nat) : OwnI w K (.slice none 0 0) [] := Cel.Own.nil _ _ _ _
theorem OwnI.keep {w w' : World} {K : Nat} {v : Value} {l : List Int} (h : OwnI w K v l) (hk : ∀ g, K ≤ g → g < w.heap.size → w'.heap[g]? = w.heap[g]?) : OwnI w' K v l := Cel.Own.keep h hk
theorem pl_slice {w : World} {K : Nat} {v : Value} {l : List Int} (h : Pl w K v l) : v.oneCell' = true := by
  obtain ⟨A, n, c, rfl, _⟩ := h
  rfl
theorem row_one {s : St} {v : Value} (h : v.oneCell' = true) : (row s v).all (·.oneCell') = true := by
  simp [row, h]
  exact ⟨rfl, rfl, rfl, rfl, rfl, rfl, rfl⟩

/-- A whole state is read. -/
theorem ldS {ops : Array Oper} {rest : List Oper} {o : Oper} {a : Act} {w : World} {Q : Exit → Act → World → Prop} (hgd : o.guard = none) (x : Operand) (ho : o.op = .load 57 x)
    (u : Nat) (hx : a.eval x = .pointer (some ⟨u, 0, none⟩)) (cs : Array Value) (hg : w.heap[u]? = some (.cells cs 57 (0, 0))) (hs : cs.size = 8)
    (h : wpList Tryd.prog ops Q rest (a.put o.dst (.agg cs)) w) : wpList Tryd.prog ops Q (o :: rest) a w :=
  wpList_load_row hgd 57 x ho u hx 57 cs (0, 0) _ hg Tryd.underlying57 rfl (by rw [hs]; kernel_rfl) h
/-- A whole state is stored. -/
theorem stS {ops : Array Oper} {rest : List Oper} {o : Oper} {a : Act} {w : World} {Q : Exit → Act → World → Prop} (hgd : o.guard = none) (x y : Operand) (ho : o.op = .store 57 x y)
    (u : Nat) (cells : Array Value) (hx : a.eval x = .pointer (some ⟨u, 0, none⟩)) (hy : a.eval y = .agg cells) (old : Array Value) (hg : w.heap[u]? = some (.cells old 57 (0, 0))) (hs : cells.size = 8) (hold : old.size = 8)
    (h1 : cells.all (·.oneCell') = true) (h : wpList Tryd.prog ops Q rest (a.put o.dst undef) (w.setRow u cells)) : wpList Tryd.prog ops Q (o :: rest) a w :=
  wpList_store_row hgd 57 x y ho u cells hx hy 57 old hg (by rw [hs]; kernel_rfl) (by rw [hs, hold]) h1 h
theorem loadS {w : World} {g : Nat} {cs : Array Value} (hg : w.heap[g]? = some (.cells cs 57 (0, 0))) (hs : cs.size = 8) : (loadVar 57 ⟨g, 0, none⟩).run Tryd.prog w = .ok (.agg cs) w :=
  run_loadVar_row w g 57 57 cs (0, 0) _ hg Tryd.underlying57 rfl (by rw [hs]; kernel_rfl)

/-- A whole struct's load, as an operation. -/
theorem exec_ld {eval : Operand → Value} {oi : Oper} {w : World} (T : TypeId) (d : TypeDesc) (hu : Tryd.prog.underlying T = some d) (hd : d.isRow = true) (x : Operand) (ho : oi.op = .load T x) (b o : Nat) (hx : eval x = .pointer (some ⟨b, o, none⟩)) (cs : List Value)
    (hi : (Tryd.prog.info? T).map (·.size) = some cs.length) (hc : w.rangeAt b o cs) : (execOp eval oi).run Tryd.prog w = .ok (.value (.agg cs.toArray)) w := by
  unfold execOp
  simp only [ho, hx, Instr.loadAt, Instr.sureAddr, Sem.run_bind, Sem.run_pure, Result.andThen_ok, run_loadVar_mid w b o T cs d hc hu hd hi]
theorem range_row {w : World} {u : Nat} {cs : Array Value} {t : TypeId} {fr : Nat × Nat} (h : w.heap[u]? = some (.cells cs t fr)) : w.rangeAt u 0 cs.toList := fun j v hv => by
  rw [Nat.zero_add, cell_of_row w u j cs t fr h]
  simpa using hv
/-- A state is handed back. -/
theorem retS {fn : Func} {p : Tmp} {T : Ending → World → Prop} {a : Act} {w : World} {g : Nat} {cs : Array Value} (h : fn.results = #[.cell p 57]) (hp : a.tmps.getD p undef = .pointer (some ⟨g, 0, none⟩)) (hd : a.defers = [])
    (hg : w.heap[g]? = some (.cells cs 57 (0, 0))) (hs : cs.size = 8) (hT : T (.returned (.agg cs)) w) : bodyPost Tryd.prog fn T .ret a w :=
  bodyPost_ret (v := .agg cs) (results_cell_row h _ _ g 57 cs (0, 0) _ hp hg Tryd.underlying57 rfl (by rw [hs]; kernel_rfl)) hd hT
theorem bdr {K : Nat} {w W : World} (h : Below K w W) (m : Nat) : Below K w (W.drewN m) := h.trans ⟨rfl, rfl, rfl, Nat.le_refl _, fun _ _ => rfl⟩
theorem below_setRow' {w W : World} {K g : Nat} (h : Below K w W) (hg : K ≤ g) (cs : Array Value) : Below K w (W.setRow g cs) := below_setRow h hg cs

/-- The table of precedence holds what it shall. -/
def Prec (w : World) : Prop := ∀ i, i < 6 → w.cell? ⟨0, i, none⟩ = some (.int .i64 (([0, 3, 1, 2, 0, 0] : List Int).getD i 0))
theorem Prec.below {w w' : World} {K : Nat} (h : Prec w) (hb : Below K w w') (hK : w.heap.size ≤ K) : Prec w' := fun i hi => by
  have h1 := h i hi
  rw [hb.cell (p := ⟨0, i, none⟩) (Nat.lt_of_lt_of_le (World.block_lt_of_cell? _ _ h1) hK)]
  exact h1
theorem Prec.on {w w' : World} (h : Prec w) (hb : Below w.heap.size w w') : Prec w' := h.below hb (Nat.le_refl _)
theorem named_prec : Tryd.prog.globalNamed "arlink/bind.precedence" = some 0 := by kernel_rfl
theorem prec_of {w : World} (h : Lib.TabIs Tryd.prog w "arlink/bind.precedence" .i64 [0, 3, 1, 2, 0, 0]) : Prec w := fun i hi => h.cell named_prec i hi

theorem rank_any (b : Int) (w : World) (hP : Prec w) :
    Calls Tryd.prog 41 #[.int .i64 b] w fun e w' => e = .returned (.int .i64 (rnk b)) ∧ w = w' := by
  by_cases h0 : b < 0
  · have Hr : Hid (rnk b = 0) := hid (by unfold rnk; rw [if_neg (by omega), if_neg (by omega), if_neg (by omega)])
    go_enter Tryd.func41, Tryd.ntmps41
    go_wp2_with fail
    go_ret
    exact ⟨ret_int Hr.out.symm, rfl⟩
  · by_cases h6 : 6 ≤ b
    · have Hr : Hid (rnk b = 0) := hid (by unfold rnk; rw [if_neg (by omega), if_neg (by omega), if_neg (by omega)])
      go_enter Tryd.func41, Tryd.ntmps41
      go_wp2_with fail
      go_ret
      exact ⟨ret_int Hr.out.symm, rfl⟩
    · obtain ⟨c0, c1, c2, c3, c4, c5⟩ := (⟨hP 0 (by omega), hP 1 (by omega), hP 2 (by omega), hP 3 (by omega), hP 4 (by omega), hP 5 (by omega)⟩ : _ ∧ _ ∧ _ ∧ _ ∧ _ ∧ _)
      simp only [List.getD_eq_getElem?_getD, List.getElem?_cons_zero, List.getElem?_cons_succ, Option.getD_some] at c0 c1 c2 c3 c4 c5
      clear hP
      rcases (show b = 0 ∨ b = 1 ∨ b = 2 ∨ b = 3 ∨ b = 4 ∨ b = 5 by omega) with rfl | rfl | rfl | rfl | rfl | rfl
      all_goals
        go_enter Tryd.func41, Tryd.ntmps41
        go_wp2_with fail
        go_ret
        exact ⟨rfl, rfl⟩
theorem rank_q (b : Int) (w : World) (hP : Prec w) : Calls Tryd.prog 41 #[.int .i64 b] w fun e w' => e = .returned (.int .i64 (rnk b)) ∧ w' = w := (rank_any b w hP).mono fun _ _ h => ⟨h.1, h.2.symm⟩
theorem empty_any (w : World) :
    Calls Tryd.prog 32 #[] w fun e w' => e = .returned (emp.val (.slice none 0 0)) ∧ Below w.heap.size w w' := by
  go_enter Tryd.func32, Tryd.ntmps32
  go_wp2_with fail
  have hb := (Below.refl w.heap.size w).alloc (Nat.le_refl _) (.cells (row emp (.slice none 0 0)) 57)
  have hl := loadS (heap_alloc_new w (.cells (row emp (.slice none 0 0)) 57)) rfl
  unfold row emp at hl hb
  exact bodyPost_ret (v := .agg (row emp (.slice none 0 0))) (by simp [results, Tryd.results32, asAddr, hl, row, emp]) rfl ⟨rfl, hb⟩
end Go.Proofs.YtbcjbembhajgcaaDoor.Bnd
