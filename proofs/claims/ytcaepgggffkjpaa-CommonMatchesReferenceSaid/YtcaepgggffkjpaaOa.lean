/-
  Regions that draw their order: an operation that is left out, one of two, one of three; append of elements that are read. (Slices in memory: Mg, which fill.py prunes for a seat without slices of strings.)
-/
import Derived.Test.YtcaepgggffkjpaaMg
import Derived.Lib.AppendStr
import Derived.Deep.RegionHeld3
namespace Go.Proofs.Ytcaepgggffkjpaa.Ord
open Go.RowKit Go.Proofs
variable {P : Program} {ops : Array Oper} {Q : Exit → Act → World → Prop} {md : Region.Mode} {S : World → Prop} {z : Nat}
/-- An operation whose guard says no. -/
theorem Till.skip (i : Nat) {oi : Oper} {k : Nat} {li : Array Bool} {a : Act} {w : World} (hi : ops[i]? = some oi)
    (hs : Region.noSelect ops = true) (hf : Region.free md ops li i = true) (hr : (Region.ready md ops li).contains i = true) (hzb : (match ops[z]? with | some o => o.after.any (fun e => Region.binds md e && e.on == i) | none => true) = true)
    (hQ : ∀ c a w, Q (.panic c) (a.put oi.dst undef) w → Q (.panic c) a w) (hw : Region.wanted oi (yielded ops a.tmps) = false) (hS : S w)
    (h : Till P md ops Q S z k (li.setIfInBounds i true) (a.put oi.dst undef) w) : Till P md ops Q S z (k + 1) li a w := by
  refine Till.first hi (Region.noSelect_spec hs) hQ (fun o ho => ?_) k li a w (Region.free_spec hi hf) (by simpa using hr) (.inr ⟨hw, rfl⟩) hS h
  rw [ho] at hzb
  obtain ⟨e, he, hq⟩ := Array.any_eq_true'.1 hzb
  rw [Bool.and_eq_true, beq_iff_eq] at hq
  exact ⟨e, he, hq.1, hq.2⟩
/-- One of two may come up. -/
theorem Till.two (i j : Nat) {oi oj : Oper} {k : Nat} {li : Array Bool} {a : Act} {w : World} (hr : Region.ready md ops li = [i, j]) (hi : ops[i]? = some oi) (hj : ops[j]? = some oj)
    (h1 : ∀ C : Act → World → Prop, Shut (∀ b v, (i ≠ z → S v) → Till P md ops Q S z k (li.setIfInBounds i true) b v → C b v) → if Region.wanted oi (yielded ops a.tmps) = true then Oper.wp P oi a w C Q else C (a.put oi.dst undef) w)
    (h2 : ∀ C : Act → World → Prop, Shut (∀ b v, (j ≠ z → S v) → Till P md ops Q S z k (li.setIfInBounds j true) b v → C b v) → if Region.wanted oj (yielded ops a.tmps) = true then Oper.wp P oj a w C Q else C (a.put oj.dst undef) w) :
    Till P md ops Q S z (k + 1) li a w := by
  refine ⟨fun h0 => (by rw [hr] at h0; cases h0), fun x hx => ?_⟩
  rw [hr, List.mem_cons, List.mem_singleton] at hx
  rcases hx with rfl | rfl
  · exact wpOp_step hi (fun C hC => h1 C (fun b v q1 q2 => hC b v ⟨q1, q2⟩))
  · exact wpOp_step hj (fun C hC => h2 C (fun b v q1 q2 => hC b v ⟨q1, q2⟩))
/-- One of three may come up. -/
theorem Till.three (i j m : Nat) {oi oj om : Oper} {k : Nat} {li : Array Bool} {a : Act} {w : World} (hr : Region.ready md ops li = [i, j, m]) (hi : ops[i]? = some oi) (hj : ops[j]? = some oj) (hm : ops[m]? = some om)
    (h1 : ∀ C : Act → World → Prop, Shut (∀ b v, (i ≠ z → S v) → Till P md ops Q S z k (li.setIfInBounds i true) b v → C b v) → if Region.wanted oi (yielded ops a.tmps) = true then Oper.wp P oi a w C Q else C (a.put oi.dst undef) w)
    (h2 : ∀ C : Act → World → Prop, Shut (∀ b v, (j ≠ z → S v) → Till P md ops Q S z k (li.setIfInBounds j true) b v → C b v) → if Region.wanted oj (yielded ops a.tmps) = true then Oper.wp P oj a w C Q else C (a.put oj.dst undef) w)
    (h3 : ∀ C : Act → World → Prop, Shut (∀ b v, (m ≠ z → S v) → Till P md ops Q S z k (li.setIfInBounds m true) b v → C b v) → if Region.wanted om (yielded ops a.tmps) = true then Oper.wp P om a w C Q else C (a.put om.dst undef) w) :
    Till P md ops Q S z (k + 1) li a w := by
  refine ⟨fun h0 => (by rw [hr] at h0; cases h0), fun x hx => ?_⟩
  rw [hr, List.mem_cons, List.mem_cons, List.mem_singleton] at hx
  rcases hx with rfl | rfl | rfl
  · exact wpOp_step hi (fun C hC => h1 C (fun b v q1 q2 => hC b v ⟨q1, q2⟩))
  · exact wpOp_step hj (fun C hC => h2 C (fun b v q1 q2 => hC b v ⟨q1, q2⟩))
  · exact wpOp_step hm (fun C hC => h3 C (fun b v q1 q2 => hC b v ⟨q1, q2⟩))
theorem Till.take' (i : Nat) (d : Option Nat) {oi : Oper} {x : Value} {k : Nat} {li : Array Bool} {a : Act} {w : World} (hi : ops[i]? = some oi) (hd : oi.dst = d)
    (hs : Region.noSelect ops = true) (hf : Region.free md ops li i = true) (hr : (Region.ready md ops li).contains i = true) (hzb : (match ops[z]? with | some o => o.after.any (fun e => Region.binds md e && e.on == i) | none => true) = true)
    (hQ : ∀ c a w, Q (.panic c) (a.put oi.dst x) w → Q (.panic c) a w) (hw : Region.wanted oi (yielded ops a.tmps) = true) (hy : ∀ v, S v → (execOp a.eval oi).run P v = .ok (.value x) v) (hS : S w)
    (h : Till P md ops Q S z k (li.setIfInBounds i true) (a.put d x) w) : Till P md ops Q S z (k + 1) li a w := by
  subst hd
  exact Till.take i hi hs hf hr hzb hQ hw hy hS h
theorem Till.skip' (i : Nat) (d : Option Nat) {oi : Oper} {k : Nat} {li : Array Bool} {a : Act} {w : World} (hi : ops[i]? = some oi) (hd : oi.dst = d)
    (hs : Region.noSelect ops = true) (hf : Region.free md ops li i = true) (hr : (Region.ready md ops li).contains i = true) (hzb : (match ops[z]? with | some o => o.after.any (fun e => Region.binds md e && e.on == i) | none => true) = true)
    (hQ : ∀ c a w, Q (.panic c) (a.put oi.dst undef) w → Q (.panic c) a w) (hw : Region.wanted oi (yielded ops a.tmps) = false) (hS : S w)
    (h : Till P md ops Q S z k (li.setIfInBounds i true) (a.put d undef) w) : Till P md ops Q S z (k + 1) li a w := by
  subst hd
  exact Till.skip i hi hs hf hr hzb hQ hw hS h
end Go.Proofs.Ytcaepgggffkjpaa.Ord

namespace Go.Proofs.Ytcaepgggffkjpaa.Cel
open Go.RowKit Go.Proofs
open Go.Proofs.Ytcaepgggffkjpaa.Sls (Oth Oth.refl Oth.new Oth.put Oth.alloc Oth.trans Fr Fr.refl Fr.new Fr.put Fr.ahead Apart blk)

/-- An empty literal that has just been laid. -/
theorem Own.lit0 (t : TypeId) (sz : Nat) (w : World) (K : Nat) (hK : K ≤ w.heap.size) : Own t sz (w.alloc (.cells #[] t)) K (.slice (some ⟨w.heap.size, 0, none⟩) 0 0) 0 [] :=
  ⟨by simp, .inr ⟨w.heap.size, 0, #[], (0, 0), rfl, hK, heap_alloc_new w _, Nat.le_refl _, by unfold maxLen; omega, by simp, by simp, fun j hj => by omega⟩⟩

theorem run_rd {st t : TypeId} {sz bs : Nat} {z : Value} (hk : Kind st t sz bs z) (w : World) (K B : Nat) (ty : TypeId) (v : Value) (n : Nat) (l : List Value) (hown : Own t sz w K v n l) (hK : K ≤ w.heap.size)
    (A : Option Addr) (k c : Nat) (src : List Value) (hr : Rd w B A k sz src) (h1 : ∀ u ∈ src, u.oneCell' = true) (hn : n + k ≤ 1000000) (hby : (n + k) * bs ≤ 140737488355328) :
    ∃ v' w', (Builtin.append_ #[st, st] ty #[v, .slice A k c]).run Try.prog w = .ok v' w' ∧ Own t sz w' K v' (n + k) (l ++ src) ∧ Below K w w' ∧ Fr v w v' w' := by
  have hpos := hk.pos
  rcases A with _ | ad
  · have hk0 : k = 0 := by
      rcases Nat.eq_zero_or_pos k with h0 | h0
      · exact h0
      · obtain ⟨b, o, e, _⟩ := hr.2 0 (by rw [hr.1]; exact Nat.mul_pos h0 hpos)
        cases e
    subst hk0
    have hs : src = [] := List.eq_nil_of_length_eq_zero (by rw [hr.1]; simp)
    subst hs
    obtain ⟨i, hi, hz0, hz1, hz2⟩ := info_parts hk.info
    have ht := hk.under
    refine ⟨v, w, ?_, by simpa using hown, Below.refl _ _, Fr.refl _ _⟩
    rcases hown.2 with ⟨rfl, rfl⟩ | ⟨g, cap, cur, m, rfl, _, _, hnc, _⟩
    · simp [Builtin.append_, run_underlying ht, sizeOf, typeInfo, hi, Builtin.lenOf, Builtin.firstCells]
    · simp [Builtin.append_, run_underlying ht, sizeOf, typeInfo, hi, Builtin.lenOf, Builtin.firstCells, hnc, storeCells]
  · obtain ⟨v', w', q1, q2, q3, _, q4⟩ := run_app hk w K ty v n l hown hK ad k c src hr.1 h1 (fun j u hj => by
      obtain ⟨hlt, rfl⟩ := List.getElem?_eq_some_iff.1 hj
      obtain ⟨b, o, e, _, hc⟩ := hr.2 j hlt
      injection e with e
      subst e
      have ha : (⟨b, o, none⟩ : Addr).add j = ⟨b, o + j, none⟩ := by unfold Addr.add; split <;> simp_all
      rw [ha, hc]) hn hby
    exact ⟨v', w', q1, q2, q3, q4⟩
/-- append of a slice that is read. -/
theorem wpList_rd {st t : TypeId} {sz bs : Nat} {z : Value} (hk : Kind st t sz bs z) {ops : Array Oper} {rest : List Oper} {o : Oper} {a : Act} {Q : Exit → Act → World → Prop} (w : World) (K B : Nat) (v : Value) (n : Nat) (l : List Value)
    (hown : Own t sz w K v n l) (hK : K ≤ w.heap.size) (A : Option Addr) (k c : Nat) (src : List Value) (hr : Rd w B A k sz src) (h1 : ∀ u ∈ src, u.oneCell' = true) (hn : n + k ≤ 1000000) (hby : (n + k) * bs ≤ 140737488355328) (hgd : o.guard = none) (s x : Operand)
    (ho : o.op = .call { callee := .builtin .append, args := #[s, x], argTypes := #[st, st] })
    (hs : a.eval s = v) (hx : a.eval x = .slice A k c)
    (h : ∀ v' w', Own t sz w' K v' (n + k) (l ++ src) → Below K w w' → wpList Try.prog ops Q rest (a.put o.dst v') w') :
    wpList Try.prog ops Q (o :: rest) a w := by
  refine wpList_plain hgd fun K' hK' => ?_
  obtain ⟨v', w', hrun, r1, r2, _⟩ := run_rd hk w K B o.type v n l hown hK A k c src hr h1 hn hby
  unfold Oper.wp execOp
  simp only [ho, resolve, invoke, builtin, Sem.run_bind, Sem.run_pure, Result.andThen_ok, List.map_toArray, List.map_cons, List.map_nil, hs, hx, hrun]
  exact hK' _ _ (h v' w' r1 r2)
/-- The same at a step of a region that draws its order, guarded or not. -/
theorem step_rd {st t : TypeId} {sz bs : Nat} {z : Value} (hk : Kind st t sz bs z) {ops : Array Oper} {o : Oper} {a : Act} {C : Act → World → Prop} {Q : Exit → Act → World → Prop} {E : Prop} (w : World) (K B : Nat) (v : Value) (n : Nat) (l : List Value)
    (hown : Own t sz w K v n l) (hK : K ≤ w.heap.size) (A : Option Addr) (k c : Nat) (src : List Value) (hr : Rd w B A k sz src) (h1 : ∀ u ∈ src, u.oneCell' = true) (hn : n + k ≤ 1000000) (hby : (n + k) * bs ≤ 140737488355328)
    (hw : Region.wanted o (yielded ops a.tmps) = true) (s x : Operand) (ho : o.op = .call { callee := .builtin .append, args := #[s, x], argTypes := #[st, st] }) (hs : a.eval s = v) (hx : a.eval x = .slice A k c)
    (h : ∀ v' w', Own t sz w' K v' (n + k) (l ++ src) → Below K w w' → Fr v w v' w' → C (a.put o.dst v') w') :
    if Region.wanted o (yielded ops a.tmps) = true then Oper.wp Try.prog o a w C Q else E := by
  rw [if_pos hw]
  obtain ⟨v', w', hrun, r1, r2, r3⟩ := run_rd hk w K B o.type v n l hown hK A k c src hr h1 hn hby
  unfold Oper.wp execOp
  simp only [ho, resolve, invoke, builtin, Sem.run_bind, Sem.run_pure, Result.andThen_ok, List.map_toArray, List.map_cons, List.map_nil, hs, hx, hrun]
  exact h v' w' r1 r2 r3
/-- A slice of one cell. -/
theorem rd1 {W : World} {q : Nat} {x : Value} {t : TypeId} {m : Nat × Nat} (h : W.heap[q]? = some (.cells #[x] t m)) : Rd W W.heap.size (some ⟨q, 0, none⟩) 1 1 [x] :=
  ⟨rfl, fun k hk => by
    have hk0 : k = 0 := by simpa using hk
    subst hk0
    exact ⟨q, 0, rfl, (Array.getElem?_eq_some_iff.1 h).1, cell_of_row W q 0 _ t m h⟩⟩
theorem Own.lit1 (t : TypeId) (sz : Nat) (W : World) (o : Obj) : Own t sz ((W.alloc o).alloc (.cells #[] t)) W.heap.size (.slice (some ⟨W.heap.size + 1, 0, none⟩) 0 0) 0 [] := by
  have := Own.lit0 t sz (W.alloc o) W.heap.size (by simp)
  rw [World.size_alloc] at this
  exact this
end Go.Proofs.Ytcaepgggffkjpaa.Cel
