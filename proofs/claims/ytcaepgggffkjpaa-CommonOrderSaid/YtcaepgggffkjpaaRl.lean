/-
  common: symbols in memory, one replaced by another; the methods of the heap's list through the interface.
-/
import Derived.Test.YtcaepgggffkjpaaRk
import Derived.Test.YtcaepgggffkjpaaRe
import Derived.Handy
import Derived.MapKept
import Derived.Deep.WholeRow
import Derived.Deep.MidRow
import Derived.Laws.CopyOwn
namespace Go.Proofs.Ytcaepgggffkjpaa.Cmn
open Go.RowKit Go.Proofs Go.Proofs.Ytcaepgggffkjpaa.Byt
open Go.Proofs.Ytcaepgggffkjpaa.Tab (bl bl_iff bl_irrefl bl_trans bl_total tl_inj)
open Go.Proofs.Ytcaepgggffkjpaa.Bnd (Us)

/-- Cells replaced from an index on. -/
def setL : List Value → Nat → List Value → List Value
  | cs, _, [] => cs
  | cs, o, y :: r => setL (cs.set o y) (o + 1) r
theorem setL_cons (a : Value) : ∀ (vs l : List Value) (k : Nat), setL (a :: l) (k + 1) vs = a :: setL l k vs
  | [], _, _ => rfl
  | y :: r, l, k => by
    unfold setL
    rw [List.set_cons_succ]
    exact setL_cons a r _ _
theorem setL_app : ∀ (a l vs : List Value) (k : Nat), setL (a ++ l) (a.length + k) vs = a ++ setL l k vs
  | [], l, vs, k => by rw [List.nil_append, List.nil_append, List.length_nil, Nat.zero_add]
  | x :: a, l, vs, k => by
    rw [List.cons_append, List.length_cons, show a.length + 1 + k = (a.length + k) + 1 by omega, setL_cons, setL_app a l vs k]
    rfl
theorem setL_len : ∀ (vs l : List Value) (k : Nat), (setL l k vs).length = l.length
  | [], _, _ => rfl
  | y :: r, l, k => by
    unfold setL
    rw [setL_len r, List.length_set]
theorem rcells_set : ∀ (l : List Us) (i : Nat) (x : Us), i < l.length → rcells (l.set i x) = setL (rcells l) (i * 5) (rcell x)
  | y :: r, 0, x, _ => rfl
  | y :: r, i + 1, x, h => by
    rw [List.set_cons_succ]
    have e : ∀ l : List Us, rcells (y :: l) = rcell y ++ rcells l := fun l => rfl
    rw [e, e, rcells_set r i x (by simpa using h), show (i + 1) * 5 = (rcell y).length + i * 5 by rw [rcell_len]; omega, setL_app]
/-- A cell of a slice of the call's own. -/
theorem own_set {t : TypeId} {sz : Nat} {w : World} {K n g c : Nat} {cs : List Value} (h : Cel.Own t sz w K (.slice (some ⟨g, 0, none⟩) n c) n cs) {k : Nat} (hk : k < cs.length) :
    w.cell? ⟨g, k, none⟩ = some cs[k] ∧ w.frozen? ⟨g, k, none⟩ = false ∧ ∀ y, Cel.Own t sz (w.setCell ⟨g, k, none⟩ y) K (.slice (some ⟨g, 0, none⟩) n c) n (cs.set k y) := by
  obtain ⟨hl, h⟩ := h
  rcases h with ⟨e, _⟩ | ⟨g', cap, cur, m, e, hg, hh, hn, hm, hs, ht, hf⟩
  · cases e
  · injection e with e1 _ e3
    injection e1 with e1
    injection e1 with e1
    subst e1 e3
    have hkc : k < c * sz := Nat.lt_of_lt_of_le (by omega) (Nat.mul_le_mul_right sz hn)
    have hc : cur[k]? = some cs[k] := by
      have h1 : (cur.toList.take (n * sz))[k]? = some cs[k] := by rw [ht]; exact List.getElem?_eq_getElem hk
      rw [List.getElem?_take, if_pos (by omega)] at h1
      simpa using h1
    refine ⟨by rw [cell_of_row w g k cur t m hh]; exact hc, ?_, fun y => ⟨by rw [List.length_set]; exact hl, .inr ⟨g, c, cur.setIfInBounds k y, m, rfl, hg, ?_, hn, hm, by simpa using hs, ?_, hf⟩⟩⟩
    · have := hf k hkc
      simp [World.frozen?, hh]
      omega
    · simp [World.setCell, Array.getElem?_modify, hh]
    · rw [Array.toList_setIfInBounds, List.take_set, ht]
theorem own_setCells {t : TypeId} {sz K n g c : Nat} : ∀ (vs : List Value) (o : Nat) (w : World) (cs : List Value), Cel.Own t sz w K (.slice (some ⟨g, 0, none⟩) n c) n cs → o + vs.length ≤ cs.length → Cel.Own t sz (w.setCells g o vs) K (.slice (some ⟨g, 0, none⟩) n c) n (setL cs o vs)
  | [], _, _, _, h, _ => h
  | y :: r, o, w, cs, h, hk => by
    rw [List.length_cons] at hk
    exact own_setCells r (o + 1) _ _ ((own_set h (by omega)).2.2 y) (by rw [List.length_set]; omega)
theorem below_cells {K b : Nat} (hb : K ≤ b) : ∀ (vs : List Value) (o : Nat) (w a : World), Below K a w → Below K a (w.setCells b o vs)
  | [], _, _, _, h => h
  | y :: r, o, _, a, h => below_cells hb r (o + 1) _ a (h.setCell (p := ⟨b, o, none⟩) hb y)
theorem other_cells {b q : Nat} (hq : q ≠ b) : ∀ (vs : List Value) (o : Nat) (w : World), (w.setCells b o vs).heap[q]? = w.heap[q]?
  | [], _, _ => rfl
  | y :: r, o, w => (other_cells hq r (o + 1) _).trans (Below.heap_setCell w ⟨b, o, none⟩ y q hq)
theorem exec_ld {eval : Operand → Value} {oi : Oper} {w : World} (T : TypeId) (d : TypeDesc) (hu : Try.prog.underlying T = some d) (hd : d.isRow = true) (x : Operand) (ho : oi.op = .load T x) (b o : Nat) (hx : eval x = .pointer (some ⟨b, o, none⟩)) (cs : List Value)
    (hi : (Try.prog.info? T).map (·.size) = some cs.length) (hc : w.rangeAt b o cs) : (execOp eval oi).run Try.prog w = .ok (.value (.agg cs.toArray)) w := by
  unfold execOp
  simp only [ho, hx, Instr.loadAt, Instr.sureAddr, Sem.run_bind, Sem.run_pure, Result.andThen_ok, run_loadVar_mid w b o T cs d hc hu hd hi]
theorem range_row {w : World} {u : Nat} {cs : Array Value} {t : TypeId} {fr : Nat × Nat} (h : w.heap[u]? = some (.cells cs t fr)) : w.rangeAt u 0 cs.toList := fun j v hv => by
  rw [Nat.zero_add, cell_of_row w u j cs t fr h]
  simpa using hv

/-- Symbols in a slice of the call's own. -/
def OwH (w : World) (K : Nat) (v : Value) (n : Nat) (l : List Us) : Prop := l.length = n ∧ Cel.Own 40 5 w K v n (rcells l)
theorem OwH.nil (w : World) (K : Nat) : OwH w K (.slice none 0 0) 0 [] := ⟨rfl, Cel.Own.nil _ _ _ _⟩
theorem OwH.reads {w : World} {K n : Nat} {v : Value} {l : List Us} (h : OwH w K v n l) : ∃ A c, v = .slice A n c ∧ RdR w w.heap.size A n l ∧ n ≤ c ∧ c ≤ maxLen := by
  obtain ⟨A, c, e, hr, h1, h2⟩ := Cel.Own.reads h.2
  exact ⟨A, c, e, ⟨h.1, hr⟩, h1, h2⟩
theorem OwH.below {w w' : World} {K n : Nat} {v : Value} {l : List Us} (h : OwH w K v n l) (hb : Below w.heap.size w w') : OwH w' K v n l := ⟨h.1, Cel.Own.below h.2 hb⟩
theorem OwH.drewN {w : World} {K n : Nat} {v : Value} {l : List Us} (h : OwH w K v n l) (k : Nat) : OwH (w.drewN k) K v n l := h
theorem OwH.rd {w : World} {K n c : Nat} {A : Option Addr} {l : List Us} (h : OwH w K (.slice A n c) n l) : RdR w w.heap.size A n l := by
  obtain ⟨A', c', e, hr, _⟩ := h.reads
  injection e with e1 _ _
  subst e1
  exact hr
theorem OwH.put {w : World} {K n g c : Nat} {l : List Us} (h : OwH w K (.slice (some ⟨g, 0, none⟩) n c) n l) {i : Nat} (hi : i < n) (x : Us) :
    w.rangeAt g (i * 5) (rcell (nth l i)) ∧ w.there g (i * 5) 5 ∧ OwH (w.setCells g (i * 5) (rcell x)) K (.slice (some ⟨g, 0, none⟩) n c) n (l.set i x) := by
  have hl := h.1
  have hil : i < l.length := by omega
  have hcl : (rcells l).length = l.length * 5 := flat_len rcell_len l
  have hm := Nat.mul_le_mul_right 5 (show i + 1 ≤ l.length by omega)
  refine ⟨fun j v hv => ?_, fun j hj => ?_, by rw [List.length_set]; exact hl, ?_⟩
  · have hj : j < 5 := by have := (List.getElem?_eq_some_iff.1 hv).1; rw [rcell_len] at this; exact this
    obtain ⟨h1, _, _⟩ := own_set h.2 (k := i * 5 + j) (by rw [hcl]; omega)
    rw [h1, ← hv, nth_eq hil, ← flat_at rcell_len l i hil j hj]
    exact (List.getElem?_eq_getElem _).symm
  · obtain ⟨h1, h2, _⟩ := own_set h.2 (k := i * 5 + j) (by rw [hcl]; omega)
    exact ⟨by rw [h1]; rfl, h2⟩
  · rw [rcells_set l i x hil]
    exact own_setCells (rcell x) (i * 5) w _ h.2 (by rw [rcell_len, hcl]; omega)
theorem RdR.range {w : World} {K n i : Nat} {A : Option Addr} {l : List Us} (h : RdR w K A n l) (hi : i < n) : ∃ b o, A = some ⟨b, o, none⟩ ∧ b < K ∧ w.rangeAt b (o + i * 5) (rcell (nth l i)) := by
  have hil : i < l.length := by rw [h.1]; exact hi
  obtain ⟨b, o, e, hb, c0, c1, c2, c3, c4⟩ := h.at_ hil
  refine ⟨b, o, e, hb, fun j v hv => ?_⟩
  rw [nth_eq hil] at hv
  have hj : j < 5 := by have := (List.getElem?_eq_some_iff.1 hv).1; rw [rcell_len] at this; exact this
  rcases (show j = 0 ∨ j = 1 ∨ j = 2 ∨ j = 3 ∨ j = 4 by omega) with rfl | rfl | rfl | rfl | rfl
  · exact c0.trans hv
  · exact c1.trans hv
  · exact c2.trans hv
  · exact c3.trans hv
  · exact c4.trans hv
theorem range_below {w w' : World} {b o : Nat} {cs : List Value} (h : w.rangeAt b o cs) (hb : Below w.heap.size w w') : w'.rangeAt b o cs := fun j v hv => by
  have h1 := h j v hv
  rw [hb.cell (World.block_lt_of_cell? _ _ h1)]
  exact h1

/-- The list of the symbols that wait, as an interface: by its address. -/
def px (T : Nat) : Value := .iface 49 (.pointer (some ⟨T, 0, none⟩))
theorem load_p {w : World} {T : Nat} {v : Value} (h : w.cell? ⟨T, 0, none⟩ = some v) : (loadVar 43 ⟨T, 0, none⟩).run Try.prog w = .ok v w := by
  simp [loadVar, Try.isAgg43, h, go_sem]
theorem wrap_ok (ts : Array TypeId) (t : TypeId) (a : Addr) (x y : ByteArray) : Builtin.ssaWrapNilChk_ ts t #[.pointer (some a), .string x, .string y] = pure (.pointer (some a)) := rfl
theorem method_val {w : World} {T : Nat} {v : Value} {name : String} {f k : Nat} (hm : (Try.prog.info? 49).map (fun i => (i.methods.find? (·.name == name)).map fun m => (m.path, m.func)) = some (some (#[], some (f, false))))
    (h : w.cell? ⟨T, 0, none⟩ = some v) : (Go.method (k + 1) 49 (.pointer (some ⟨T, 0, none⟩)) name).run Try.prog w = .ok (f, v) w := by
  rcases hi : Try.prog.info? 49 with _ | i
  · rw [hi] at hm; cases hm
  rw [hi] at hm
  simp only [Option.map_some, Option.some.injEq] at hm
  rcases hf : i.methods.find? (·.name == name) with _ | m
  · rw [hf] at hm; cases hm
  rw [hf] at hm
  simp only [Option.map_some, Option.some.injEq, Prod.mk.injEq] at hm
  obtain ⟨h1, h2⟩ := hm
  simp [Go.method, typeInfo, hi, hf, h1, h2, follow, receiverAt, run_underlying Try.underlying49, Place.get, strVal, wrap_ok, asAddr, load_p h, Result.andThen]
theorem method_ptr {w : World} {T : Nat} {name : String} {f k : Nat} (hm : (Try.prog.info? 49).map (fun i => (i.methods.find? (·.name == name)).map fun m => (m.path, m.func)) = some (some (#[], some (f, true)))) :
    (Go.method (k + 1) 49 (.pointer (some ⟨T, 0, none⟩)) name).run Try.prog w = .ok (f, .pointer (some ⟨T, 0, none⟩)) w := by
  rcases hi : Try.prog.info? 49 with _ | i
  · rw [hi] at hm; cases hm
  rw [hi] at hm
  simp only [Option.map_some, Option.some.injEq] at hm
  rcases hf : i.methods.find? (·.name == name) with _ | m
  · rw [hf] at hm; cases hm
  rw [hf] at hm
  simp only [Option.map_some, Option.some.injEq, Prod.mk.injEq] at hm
  obtain ⟨h1, h2⟩ := hm
  simp [Go.method, typeInfo, hi, hf, h1, h2, follow, receiverAt, run_underlying Try.underlying49, Place.get, Result.andThen]
theorem iLen : (Try.prog.info? 49).map (fun i => (i.methods.find? (·.name == "Len")).map fun m => (m.path, m.func)) = some (some (#[], some (18, false))) := by kernel_rfl
theorem iLess : (Try.prog.info? 49).map (fun i => (i.methods.find? (·.name == "Less")).map fun m => (m.path, m.func)) = some (some (#[], some (42, false))) := by kernel_rfl
theorem iSwap : (Try.prog.info? 49).map (fun i => (i.methods.find? (·.name == "Swap")).map fun m => (m.path, m.func)) = some (some (#[], some (43, false))) := by kernel_rfl
theorem iPop : (Try.prog.info? 49).map (fun i => (i.methods.find? (·.name == "Pop")).map fun m => (m.path, m.func)) = some (some (#[], some (44, true))) := by kernel_rfl
theorem iPush : (Try.prog.info? 49).map (fun i => (i.methods.find? (·.name == "Push")).map fun m => (m.path, m.func)) = some (some (#[], some (45, true))) := by kernel_rfl

/-- The variable that holds the list. -/
def Qr (w : World) (T : Nat) (v : Value) : Prop := w.heap[T]? = some (.cells #[v] 43 (0, 0))
theorem Qr.lt {w : World} {T : Nat} {v : Value} (h : Qr w T v) : T < w.heap.size := (Array.getElem?_eq_some_iff.1 h).1
theorem Qr.c1 {w : World} {T : Nat} {v : Value} (h : Qr w T v) : w.cell? ⟨T, 0, none⟩ = some v := cell_of_row w T 0 _ _ _ h
theorem Qr.fz {w : World} {T : Nat} {v : Value} (h : Qr w T v) (o : Nat) : w.frozen? ⟨T, o, none⟩ = false := frozen_of_row w T o _ _ h
theorem Qr.keep {w w' : World} {T : Nat} {v : Value} (h : Qr w T v) (e : w'.heap[T]? = w.heap[T]?) : Qr w' T v := e.trans h
theorem Qr.below {w w' : World} {T : Nat} {v : Value} (h : Qr w T v) (hb : Below w.heap.size w w') : Qr w' T v := h.keep (hb.block T h.lt)
theorem Qr.ne {w : World} {T K n : Nat} {v u : Value} {l : List Us} (h : Qr w T v) (ho : OwH w K u n l) : Sls.blk u ≠ some T := fun e => by
  rcases ho.2.2 with ⟨rfl, _⟩ | ⟨g, cap, cur, mm, rfl, _, hh, _⟩
  · cases e
  · injection e with e
    subst e
    unfold Qr at h
    rw [h] at hh
    injection hh with hh
    injection hh with _ e2
    exact absurd e2 (by decide)
/-- What may have changed: the variable's row, the block of the list. -/
def Fq (T : Nat) (v : Value) (w : World) (v' : Value) (w' : World) : Prop :=
  (∀ g, g < w.heap.size → g ≠ T → Sls.blk v ≠ some g → w'.heap[g]? = w.heap[g]?) ∧ (∀ g, Sls.blk v' = some g → Sls.blk v = some g ∨ w.heap.size ≤ g) ∧ w.heap.size ≤ w'.heap.size
theorem Fq.refl (T : Nat) (v : Value) (w : World) : Fq T v w v w := ⟨fun _ _ _ _ => rfl, fun _ h => .inl h, Nat.le_refl _⟩
theorem Fq.trans {T : Nat} {v v' v'' : Value} {w w' w'' : World} (h : Fq T v w v' w') (k : Fq T v' w' v'' w'') : Fq T v w v'' w'' :=
  ⟨fun g a b c => (k.1 g (Nat.lt_of_lt_of_le a h.2.2) b (fun e => by
      rcases h.2.1 g e with q | q
      · exact c q
      · omega)).trans (h.1 g a b c), fun g e => by
    rcases k.2.1 g e with q | q
    · exact h.2.1 g q
    · exact .inr (Nat.le_trans h.2.2 q), Nat.le_trans h.2.2 k.2.2⟩
theorem Fq.of_fr {T K : Nat} {v v' : Value} {w w' : World} (h : Sls.Fr v w v' w') (hb : Below K w w') : Fq T v w v' w' := ⟨fun g a _ c => h.1 g a c, h.2, hb.size⟩
theorem Fr_trans {v v' v'' : Value} {w w' w'' : World} (h : Sls.Fr v w v' w') (k : Sls.Fr v' w' v'' w'') (hs : w.heap.size ≤ w'.heap.size) : Sls.Fr v w v'' w'' :=
  ⟨fun g a c => (k.1 g (Nat.lt_of_lt_of_le a hs) (fun e => by
      rcases h.2 g e with q | q
      · exact c q
      · omega)).trans (h.1 g a c), fun g e => by
    rcases k.2 g e with q | q
    · exact h.2 g q
    · exact .inr (Nat.le_trans hs q)⟩
theorem Fr_below {v : Value} {w w' : World} (h : Below w.heap.size w w') : Sls.Fr v w v w' := ⟨fun g a _ => h.block g a, fun _ e => .inl e⟩
theorem Qr.fr {w w' : World} {T K n : Nat} {v v' : Value} {l : List Us} (h : Qr w T v) (ho : OwH w K v n l) (f : Sls.Fr v w v' w') : Qr w' T v :=
  h.keep (f.1 T h.lt (h.ne ho))
theorem bdr {K : Nat} {w W : World} (h : Below K w W) (m : Nat) : Below K w (W.drewN m) := h.trans ⟨rfl, rfl, rfl, Nat.le_refl _, fun _ _ => rfl⟩

theorem plen_any (w : World) (A : Option Addr) (n c : Nat) : Calls Try.prog 18 #[.slice A n c] w fun e w' => e = .returned (.int .i64 (n : Int)) ∧ w' = w := by
  go_enter Try.func18, Try.ntmps18
  go_wp2_with fail
  go_ret
  exact ⟨rfl, rfl⟩

/-- The rest of Less, behind its two variables. -/
theorem row_at {w : World} {p : Nat} {x : Us} (h : w.heap[p]? = some (.cells (rcell x).toArray 40 (0, 0))) : w.cell? ⟨p, 0, none⟩ = some (.string x.s.name) ∧ w.cell? ⟨p, 2, none⟩ = some (.int .i64 x.s.size) ∧ w.cell? ⟨p, 3, none⟩ = some (.int .i64 x.s.align) :=
  ⟨cell_of_row w p 0 _ _ _ h, cell_of_row w p 2 _ _ _ h, cell_of_row w p 3 _ _ _ h⟩
theorem rcell_one (x : Us) : (rcell x).toArray.all (·.oneCell') = true := by simp [rcell, Value.oneCell']
theorem two_rows {w W2 : World} {g p q : Nat} {x y : Us} {o1 o2 : Array Value} (hB2 : Below w.heap.size w W2) (hg : w.heap.size = g) (hpq : p ≠ q) (hgp : g ≤ p) (hgq : g ≤ q) (hp : W2.heap[p]? = some (.cells o1 40)) (hq : W2.heap[q]? = some (.cells o2 40)) :
    Below w.heap.size w (W2.setRow p (rcell x).toArray) ∧ (W2.setRow p (rcell x).toArray).heap[q]? = some (.cells o2 40) ∧ ((W2.setRow p (rcell x).toArray).setRow q (rcell y).toArray).heap[p]? = some (.cells (rcell x).toArray 40) ∧ ((W2.setRow p (rcell x).toArray).setRow q (rcell y).toArray).heap[q]? = some (.cells (rcell y).toArray 40) ∧ Below w.heap.size w ((W2.setRow p (rcell x).toArray).setRow q (rcell y).toArray) := by
  have hq3 : (W2.setRow p (rcell x).toArray).heap[q]? = some (.cells o2 40) := (setRow_other _ _ _ _ (Ne.symm hpq)).trans hq
  have hB3 := below_setRow hB2 (show w.heap.size ≤ p by omega) (rcell x).toArray
  exact ⟨hB3, hq3, (setRow_other _ _ _ _ hpq).trans (setRow_heap _ _ _ _ _ _ hp), setRow_heap _ _ _ _ _ _ hq3, below_setRow hB3 (by omega) _⟩
set_option linter.unusedSimpArgs false in
set_option maxRecDepth 100000 in
set_option maxHeartbeats 2000000 in
theorem pless_any (K : Nat) (A : Option Addr) (n c : Nat) (l : List Us) (w : World) (h : RdR w K A n l) {i j : Nat} (hi : i < n) (hj : j < n) : Calls Try.prog 42 #[.slice A n c, .int .i64 (i : Int), .int .i64 (j : Int)] w fun e w' => e = .returned (.bool (bef (nth l i) (nth l j))) ∧ Below w.heap.size w w' := by
  obtain ⟨b, o, rfl, hbK, ri⟩ := h.range hi
  obtain ⟨b', o', e, _, rj⟩ := h.range hj
  injection e with e
  injection e with e1 e2
  subst e1 e2
  have hii : (i : Int) < (n : Int) := by omega
  have hjj : (j : Int) < (n : Int) := by omega
  clear h
  generalize nth l i = x at *
  generalize nth l j = y at *
  go_enter Try.func42, Try.ntmps42
  go_upto_region 1 with fail
  refine Ord.Till.begin (fun V => V.rangeAt b (o + i * 5) (rcell x) ∧ V.rangeAt b (o + j * 5) (rcell y)) 11 (by kernel_rfl) ?_
  have hS : (fun V : World => V.rangeAt b (o + i * 5) (rcell x) ∧ V.rangeAt b (o + j * 5) (rcell y)) w.drew := ⟨range_below ri (Below.refl _ _).drew, range_below rj (Below.refl _ _).drew⟩
  have hB := hid ((Below.refl w.heap.size w).drew)
  have hz : w.drew.heap.size = w.heap.size := rfl
  refine Ord.Till.take' 0 (some 9) (oi := _) (x := ?_) rfl rfl (by kernel_rfl) (by kernel_rfl) (by kernel_rfl) (by kernel_rfl) (fun _ _ _ h => h) (by kernel_rfl) ?_ hS ?_
  rotate_left 1
  · intro V hv; go_simp; first | done | with_reducible rfl
  try simp only [List.getElem_toArray, List.getElem_cons_zero, List.getElem_cons_succ, Act.put, List.setIfInBounds_toArray, List.set_cons_zero, List.set_cons_succ]
  refine Ord.Till.take' 1 (some 10) (oi := _) (x := ?_) rfl rfl (by kernel_rfl) (by kernel_rfl) (by kernel_rfl) (by kernel_rfl) (fun _ _ _ h => h) (by kernel_rfl) ?_ hS ?_
  rotate_left 1
  · intro V hv; go_simp; first | done | with_reducible rfl
  try simp only [List.getElem_toArray, List.getElem_cons_zero, List.getElem_cons_succ, Act.put, List.setIfInBounds_toArray, List.set_cons_zero, List.set_cons_succ]
  refine Ord.Till.take' 2 (some 11) (oi := _) (x := ?_) rfl rfl (by kernel_rfl) (by kernel_rfl) (by kernel_rfl) (by kernel_rfl) (fun _ _ _ h => h) (by kernel_rfl) ?_ hS ?_
  rotate_left 1
  · intro V hv; go_simp; first | done | with_reducible rfl
  try simp only [List.getElem_toArray, List.getElem_cons_zero, List.getElem_cons_succ, Act.put, List.setIfInBounds_toArray, List.set_cons_zero, List.set_cons_succ]
  refine Ord.Till.take' 3 (some 12) (oi := _) (x := .agg (rcell x).toArray) rfl rfl (by kernel_rfl) (by kernel_rfl) (by kernel_rfl) (by kernel_rfl) (fun _ _ _ h => h) (by kernel_rfl) (fun v hv => exec_ld 40 _ Try.underlying40 rfl _ rfl b (o + i * 5) rfl (rcell x) (by kernel_rfl) hv.1) hS ?_
  try simp only [List.getElem_toArray, List.getElem_cons_zero, List.getElem_cons_succ, Act.put, List.setIfInBounds_toArray, List.set_cons_zero, List.set_cons_succ]
  refine Ord.Till.take' 4 (some 13) (oi := _) (x := ?_) rfl rfl (by kernel_rfl) (by kernel_rfl) (by kernel_rfl) (by kernel_rfl) (fun _ _ _ h => h) (by kernel_rfl) ?_ hS ?_
  rotate_left 1
  · intro V hv; go_simp; first | done | with_reducible rfl
  try simp only [List.getElem_toArray, List.getElem_cons_zero, List.getElem_cons_succ, Act.put, List.setIfInBounds_toArray, List.set_cons_zero, List.set_cons_succ]
  refine Ord.Till.take' 5 (some 14) (oi := _) (x := ?_) rfl rfl (by kernel_rfl) (by kernel_rfl) (by kernel_rfl) (by kernel_rfl) (fun _ _ _ h => h) (by kernel_rfl) ?_ hS ?_
  rotate_left 1
  · intro V hv; go_simp; first | done | with_reducible rfl
  try simp only [List.getElem_toArray, List.getElem_cons_zero, List.getElem_cons_succ, Act.put, List.setIfInBounds_toArray, List.set_cons_zero, List.set_cons_succ]
  refine Ord.Till.take' 6 (some 15) (oi := _) (x := ?_) rfl rfl (by kernel_rfl) (by kernel_rfl) (by kernel_rfl) (by kernel_rfl) (fun _ _ _ h => h) (by kernel_rfl) ?_ hS ?_
  rotate_left 1
  · intro V hv; go_simp; first | done | with_reducible rfl
  try simp only [List.getElem_toArray, List.getElem_cons_zero, List.getElem_cons_succ, Act.put, List.setIfInBounds_toArray, List.set_cons_zero, List.set_cons_succ]
  refine Ord.Till.take' 7 (some 16) (oi := _) (x := .agg (rcell y).toArray) rfl rfl (by kernel_rfl) (by kernel_rfl) (by kernel_rfl) (by kernel_rfl) (fun _ _ _ h => h) (by kernel_rfl) (fun v hv => exec_ld 40 _ Try.underlying40 rfl _ rfl b (o + j * 5) rfl (rcell y) (by kernel_rfl) hv.2) hS ?_
  try simp only [List.getElem_toArray, List.getElem_cons_zero, List.getElem_cons_succ, Act.put, List.setIfInBounds_toArray, List.set_cons_zero, List.set_cons_succ]
  obtain ⟨g, hg⟩ : ∃ g, w.heap.size = g := ⟨_, rfl⟩
  have hB1 : Below w.heap.size w (w.alloc (.cells #[.string ⟨#[]⟩, .int .i64 0, .int .i64 0, .int .i64 0, .int .i64 0] 40)).drew := ((Below.refl _ w).alloc (Nat.le_refl _) _).drew
  have hz1 : (w.alloc (.cells #[.string ⟨#[]⟩, .int .i64 0, .int .i64 0, .int .i64 0, .int .i64 0] 40)).drew.heap.size = g + 1 := by rw [← hg]; simp
  have hB2 : Below w.heap.size w ((w.alloc (.cells #[.string ⟨#[]⟩, .int .i64 0, .int .i64 0, .int .i64 0, .int .i64 0] 40)).alloc (.cells #[.string ⟨#[]⟩, .int .i64 0, .int .i64 0, .int .i64 0, .int .i64 0] 40)).drew := (((Below.refl _ w).alloc (Nat.le_refl _) _).alloc (by simp) _).drew
  have hg1 : ((w.alloc (.cells #[.string ⟨#[]⟩, .int .i64 0, .int .i64 0, .int .i64 0, .int .i64 0] 40)).alloc (.cells #[.string ⟨#[]⟩, .int .i64 0, .int .i64 0, .int .i64 0, .int .i64 0] 40)).drew.heap[g]? = some (.cells #[.string ⟨#[]⟩, .int .i64 0, .int .i64 0, .int .i64 0, .int .i64 0] 40) := (Below.heap_alloc (w.alloc (.cells #[.string ⟨#[]⟩, .int .i64 0, .int .i64 0, .int .i64 0, .int .i64 0] 40)) _ g (by rw [← hg]; simp)).trans (by rw [← hg]; exact heap_alloc_new w _)
  have hg2 : ((w.alloc (.cells #[.string ⟨#[]⟩, .int .i64 0, .int .i64 0, .int .i64 0, .int .i64 0] 40)).alloc (.cells #[.string ⟨#[]⟩, .int .i64 0, .int .i64 0, .int .i64 0, .int .i64 0] 40)).drew.heap[g + 1]? = some (.cells #[.string ⟨#[]⟩, .int .i64 0, .int .i64 0, .int .i64 0, .int .i64 0] 40) := by rw [← hz1]; exact heap_alloc_new (w.alloc (.cells #[.string ⟨#[]⟩, .int .i64 0, .int .i64 0, .int .i64 0, .int .i64 0] 40)) _
  have hS1 : (fun V : World => V.rangeAt b (o + i * 5) (rcell x) ∧ V.rangeAt b (o + j * 5) (rcell y)) (w.alloc (.cells #[.string ⟨#[]⟩, .int .i64 0, .int .i64 0, .int .i64 0, .int .i64 0] 40)).drew := ⟨range_below ri hB1, range_below rj hB1⟩
  have hS2 : (fun V : World => V.rangeAt b (o + i * 5) (rcell x) ∧ V.rangeAt b (o + j * 5) (rcell y)) ((w.alloc (.cells #[.string ⟨#[]⟩, .int .i64 0, .int .i64 0, .int .i64 0, .int .i64 0] 40)).alloc (.cells #[.string ⟨#[]⟩, .int .i64 0, .int .i64 0, .int .i64 0, .int .i64 0] 40)).drew := ⟨range_below ri hB2, range_below rj hB2⟩
  refine Ord.Till.two 8 9 (by kernel_rfl) rfl rfl (fun C hC => ?_) (fun C hC => ?_)
  · go_simp
    refine hC.out _ _ (fun _ => hS1) ?_
    clear hC C
    try simp only [List.getElem_toArray, List.getElem_cons_zero, List.getElem_cons_succ, Act.put, List.setIfInBounds_toArray, List.set_cons_zero, List.set_cons_succ]
    refine Ord.Till.step 9 (by kernel_rfl) rfl (fun C hC => ?_)
    go_simp
    refine hC.out _ _ (fun _ => hS2) ?_
    clear hC C
    try simp only [List.getElem_toArray, List.getElem_cons_zero, List.getElem_cons_succ, Act.put, List.setIfInBounds_toArray, List.set_cons_zero, List.set_cons_succ]
    obtain ⟨hB3, h3q, h4p, h4q, hB4⟩ := two_rows (x := x) (y := y) hB2 hg (show g ≠ g + 1 by omega) (by omega) (by omega) hg1 hg2
    refine Ord.Till.step 10 (by kernel_rfl) rfl (fun C hC => ?_)
    rw [if_pos (by kernel_rfl)]
    refine wp_store_row 40 _ _ rfl (g) (rcell x).toArray rfl rfl 40 _ hg1 (by kernel_rfl) rfl (rcell_one x) ?_
    refine hC.out _ _ (fun _ => ⟨range_below ri hB3, range_below rj hB3⟩) ?_
    clear hC C
    try simp only [List.getElem_toArray, List.getElem_cons_zero, List.getElem_cons_succ, Act.put, List.setIfInBounds_toArray, List.set_cons_zero, List.set_cons_succ]
    refine Ord.Till.step 11 (by kernel_rfl) rfl (fun C hC => ?_)
    rw [if_pos (by kernel_rfl)]
    refine wp_store_row 40 _ _ rfl (g + 1) (rcell y).toArray rfl rfl 40 _ h3q (by kernel_rfl) rfl (rcell_one y) ?_
    refine hC.out _ _ (fun hz => absurd rfl hz) ?_
    clear hC C
    try simp only [List.getElem_toArray, List.getElem_cons_zero, List.getElem_cons_succ, Act.put, List.setIfInBounds_toArray, List.set_cons_zero, List.set_cons_succ]
    refine Ord.Till.done (by kernel_rfl) ?_ _
    obtain ⟨p0, p2, p3⟩ := row_at h4p
    obtain ⟨q0, q2, q3⟩ := row_at h4q
    have HB4 := hid hB4
    clear h3q h4p h4q hB3 hB4 hS1 hS2 hg1 hg2 hz1 hB1 hB2 ri rj hz hB hg
    generalize World.setRow _ _ _ = W4 at *
    obtain ⟨⟨n1, b1, s1, a1⟩, u1⟩ := x
    obtain ⟨⟨n2, b2, s2, a2⟩, u2⟩ := y
    by_cases h1 : a1 = a2
    · subst h1
      by_cases h2 : s1 = s2
      · subst h2
        have HR : Hid (bef ⟨⟨n1, b1, s1, a1⟩, u1⟩ ⟨⟨n2, b2, s1, a1⟩, u2⟩ = Op.bytesLess n1.toList n2.toList) := hid (by unfold bef; rw [if_neg (by simp), if_neg (by simp)]; rfl)
        go_wp2_with fail
        go_ret
        exact ⟨ret_bool HR.out.symm, HB4.out⟩
      · have HR : Hid (bef ⟨⟨n1, b1, s1, a1⟩, u1⟩ ⟨⟨n2, b2, s2, a1⟩, u2⟩ = decide (s2 < s1)) := hid (by unfold bef; rw [if_neg (by simp), if_pos (by simpa using h2)])
        have h2b : (s1 != s2) = true := by simpa using h2
        clear h2
        go_wp2_with fail
        go_ret
        exact ⟨ret_bool HR.out.symm, HB4.out⟩
    · have HR : Hid (bef ⟨⟨n1, b1, s1, a1⟩, u1⟩ ⟨⟨n2, b2, s2, a2⟩, u2⟩ = decide (a2 < a1)) := hid (by unfold bef; rw [if_pos (by simpa using h1)])
      have h1b : (a1 != a2) = true := by simpa using h1
      clear h1
      go_wp2_with fail
      go_ret
      exact ⟨ret_bool HR.out.symm, HB4.out⟩
  · go_simp
    refine hC.out _ _ (fun _ => hS1) ?_
    clear hC C
    try simp only [List.getElem_toArray, List.getElem_cons_zero, List.getElem_cons_succ, Act.put, List.setIfInBounds_toArray, List.set_cons_zero, List.set_cons_succ]
    refine Ord.Till.step 8 (by kernel_rfl) rfl (fun C hC => ?_)
    go_simp
    refine hC.out _ _ (fun _ => hS2) ?_
    clear hC C
    try simp only [List.getElem_toArray, List.getElem_cons_zero, List.getElem_cons_succ, Act.put, List.setIfInBounds_toArray, List.set_cons_zero, List.set_cons_succ]
    obtain ⟨hB3, h3q, h4p, h4q, hB4⟩ := two_rows (x := x) (y := y) hB2 hg (show g + 1 ≠ g by omega) (by omega) (by omega) hg2 hg1
    refine Ord.Till.step 10 (by kernel_rfl) rfl (fun C hC => ?_)
    rw [if_pos (by kernel_rfl)]
    refine wp_store_row 40 _ _ rfl (g + 1) (rcell x).toArray rfl rfl 40 _ hg2 (by kernel_rfl) rfl (rcell_one x) ?_
    refine hC.out _ _ (fun _ => ⟨range_below ri hB3, range_below rj hB3⟩) ?_
    clear hC C
    try simp only [List.getElem_toArray, List.getElem_cons_zero, List.getElem_cons_succ, Act.put, List.setIfInBounds_toArray, List.set_cons_zero, List.set_cons_succ]
    refine Ord.Till.step 11 (by kernel_rfl) rfl (fun C hC => ?_)
    rw [if_pos (by kernel_rfl)]
    refine wp_store_row 40 _ _ rfl (g) (rcell y).toArray rfl rfl 40 _ h3q (by kernel_rfl) rfl (rcell_one y) ?_
    refine hC.out _ _ (fun hz => absurd rfl hz) ?_
    clear hC C
    try simp only [List.getElem_toArray, List.getElem_cons_zero, List.getElem_cons_succ, Act.put, List.setIfInBounds_toArray, List.set_cons_zero, List.set_cons_succ]
    refine Ord.Till.done (by kernel_rfl) ?_ _
    obtain ⟨p0, p2, p3⟩ := row_at h4p
    obtain ⟨q0, q2, q3⟩ := row_at h4q
    have HB4 := hid hB4
    clear h3q h4p h4q hB3 hB4 hS1 hS2 hg1 hg2 hz1 hB1 hB2 ri rj hz hB hg
    generalize World.setRow _ _ _ = W4 at *
    obtain ⟨⟨n1, b1, s1, a1⟩, u1⟩ := x
    obtain ⟨⟨n2, b2, s2, a2⟩, u2⟩ := y
    by_cases h1 : a1 = a2
    · subst h1
      by_cases h2 : s1 = s2
      · subst h2
        have HR : Hid (bef ⟨⟨n1, b1, s1, a1⟩, u1⟩ ⟨⟨n2, b2, s1, a1⟩, u2⟩ = Op.bytesLess n1.toList n2.toList) := hid (by unfold bef; rw [if_neg (by simp), if_neg (by simp)]; rfl)
        go_wp2_with fail
        go_ret
        exact ⟨ret_bool HR.out.symm, HB4.out⟩
      · have HR : Hid (bef ⟨⟨n1, b1, s1, a1⟩, u1⟩ ⟨⟨n2, b2, s2, a1⟩, u2⟩ = decide (s2 < s1)) := hid (by unfold bef; rw [if_neg (by simp), if_pos (by simpa using h2)])
        have h2b : (s1 != s2) = true := by simpa using h2
        clear h2
        go_wp2_with fail
        go_ret
        exact ⟨ret_bool HR.out.symm, HB4.out⟩
    · have HR : Hid (bef ⟨⟨n1, b1, s1, a1⟩, u1⟩ ⟨⟨n2, b2, s2, a2⟩, u2⟩ = decide (a2 < a1)) := hid (by unfold bef; rw [if_pos (by simpa using h1)])
      have h1b : (a1 != a2) = true := by simpa using h1
      clear h1
      go_wp2_with fail
      go_ret
      exact ⟨ret_bool HR.out.symm, HB4.out⟩
end Go.Proofs.Ytcaepgggffkjpaa.Cmn
