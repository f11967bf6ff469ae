/-
  objsym's laws: append of symbols that came in, at a step of a region that draws its order.
-/
import Derived.Test.YtkacndinjomifaaOr
import Derived.Test.YtkacndinjomifaaOs
namespace Go.Proofs.Ytkacndinjomifaa.Ord
open Go.RowKit Go.Proofs
variable {P : Program} {ops : Array Oper} {Q : Exit → Act → World → Prop} {md : Region.Mode} {S : World → Prop} {z : Nat}
/-- One of three may come up. -/
theorem Till.three (i j m : Nat) {oi oj om : Oper} {k : Nat} {li : Array Bool} {a : Act} {w : World} (hr : Region.ready md ops li = [i, j, m]) (hi : ops[i]? = some oi) (hj : ops[j]? = some oj) (hm : ops[m]? = some om)
    (h1 : ∀ C : Act → World → Prop, Shut (∀ b v, (i ≠ z → S v) → Till P md ops Q S z k (li.setIfInBounds i true) b v → C b v) → if Region.wanted oi (yielded ops a.tmps) = true then Oper.wp P oi a w C Q else C (a.put oi.dst undef) w)
    (h2 : ∀ C : Act → World → Prop, Shut (∀ b v, (j ≠ z → S v) → Till P md ops Q S z k (li.setIfInBounds j true) b v → C b v) → if Region.wanted oj (yielded ops a.tmps) = true then Oper.wp P oj a w C Q else C (a.put oj.dst undef) w)
    (h3 : ∀ C : Act → World → Prop, Shut (∀ b v, (m ≠ z → S v) → Till P md ops Q S z k (li.setIfInBounds m true) b v → C b v) → if Region.wanted om (yielded ops a.tmps) = true then Oper.wp P om a w C Q else C (a.put om.dst undef) w) :
    Till P md ops Q S z (k + 1) li a w := by
  refine ⟨fun h0 => (by rw [hr] at h0; cases h0), fun x hx => ?_⟩
  rw [hr, List.mem_cons, List.mem_cons, List.mem_singleton] at hx
  rcases hx with rfl | rfl | rfl
  · exact wpOp_step hi (fun C hC => h1 C (fun b v q1 q2 => hC b v ⟨q1, q2⟩))
  · exact wpOp_step hj (fun C hC => h2 C (fun b v q1 q2 => hC b v ⟨q1, q2⟩))
  · exact wpOp_step hm (fun C hC => h3 C (fun b v q1 q2 => hC b v ⟨q1, q2⟩))
end Go.Proofs.Ytkacndinjomifaa.Ord

namespace Go.Proofs.Ytkacndinjomifaa.Obj
open Go.RowKit Go.Proofs Go.Proofs.Ytkacndinjomifaa.Byt
open Go.Proofs.Ytkacndinjomifaa.Sls (Oth Oth.refl Fr Fr.refl Apart blk)

theorem scells_one : ∀ xs : List Sy, ∀ u ∈ scells xs, u.oneCell' = true
  | [], u, h => by simp [scells] at h
  | x :: xs, u, h => by
    unfold scells at h
    simp only [List.cons_append, List.nil_append, List.mem_cons] at h
    rcases h with rfl | rfl | rfl | rfl | h
    · rfl
    · rfl
    · rfl
    · rfl
    · exact scells_one xs u h
theorem rds_cells {w : World} {K n : Nat} {a : Addr} {xs : List Sy} (h : RdS w K (some a) n xs) (j : Nat) (u : Value) (hu : (scells xs)[j]? = some u) : w.cell? (a.add j) = some u := by
  have hj := (List.getElem?_eq_some_iff.1 hu).1
  rw [scells_length] at hj
  have hq : j / 4 < xs.length := by omega
  obtain ⟨⟨b, o, e, _, c0, c1, c2, c3⟩, _⟩ := h.2 (j / 4) hq
  injection e with e
  subst e
  obtain ⟨m0, m1, m2, m3⟩ := scells_at xs (j / 4) hq
  have ha : ∀ i, (⟨b, o, none⟩ : Addr).add i = ⟨b, o + i, none⟩ := fun i => by unfold Addr.add; split <;> simp_all
  rw [ha]
  have hm : j % 4 = 0 ∨ j % 4 = 1 ∨ j % 4 = 2 ∨ j % 4 = 3 := by omega
  rcases hm with hm | hm | hm | hm
  · have e : j = j / 4 * 4 := by omega
    rw [e] at hu ⊢
    rw [m0] at hu
    injection hu with hu
    subst hu
    exact c0
  · have e : j = j / 4 * 4 + 1 := by omega
    have e2 : o + j = o + j / 4 * 4 + 1 := by omega
    rw [e, m1] at hu
    injection hu with hu
    subst hu
    rw [e2]
    exact c1
  · have e : j = j / 4 * 4 + 2 := by omega
    have e2 : o + j = o + j / 4 * 4 + 2 := by omega
    rw [e, m2] at hu
    injection hu with hu
    subst hu
    rw [e2]
    exact c2
  · have e : j = j / 4 * 4 + 3 := by omega
    have e2 : o + j = o + j / 4 * 4 + 3 := by omega
    rw [e, m3] at hu
    injection hu with hu
    subst hu
    rw [e2]
    exact c3
theorem syms_lit0 (w : World) (K : Nat) (hK : K ≤ w.heap.size) : Cel.Own 38 4 (w.alloc (.cells #[] 38)) K (.slice (some ⟨w.heap.size, 0, none⟩) 0 0) 0 [] :=
  ⟨rfl, .inr ⟨w.heap.size, 0, #[], (0, 0), rfl, hK, heap_alloc_new w _, Nat.le_refl _, Nat.zero_le _, rfl, rfl, fun j hj => by omega⟩⟩
theorem syms_lit1 (w : World) (K : Nat) (x0 : ByteArray) (x1 x2 x3 : Int) (hK : K ≤ w.heap.size) : Cel.Own 38 4 (w.alloc (.cells #[.string x0, .int .i64 x1, .int .i64 x2, .int .i64 x3] 38)) K (.slice (some ⟨w.heap.size, 0, none⟩) 1 1) 1 (scells [⟨x0, x1, x2, x3⟩]) :=
  ⟨rfl, .inr ⟨w.heap.size, 1, _, (0, 0), rfl, hK, heap_alloc_new w _, Nat.le_refl _, by unfold maxLen; omega, rfl, rfl, fun j hj => by simp⟩⟩
theorem run_syms (w : World) (K : Nat) (ty : TypeId) (v : Value) (n : Nat) (l : List Value) (hown : Cel.Own 38 4 w K v n l) (hK : K ≤ w.heap.size) (A : Option Addr) (k c B : Nat) (xs : List Sy) (hr : RdS w B A k xs) (hsz : n + k ≤ 100000) :
    ∃ v' w', (Builtin.append_ #[22, 22] ty #[v, .slice A k c]).run Try.prog w = .ok v' w' ∧ Cel.Own 38 4 w' K v' (n + k) (l ++ scells xs) ∧ Below K w w' ∧ Oth 38 w w' ∧ Fr v w v' w' := by
  rcases A with _ | ad
  · have hk : k = 0 := by
      rcases Nat.eq_zero_or_pos k with h0 | h0
      · exact h0
      · obtain ⟨⟨b, o', e, _⟩, _⟩ := hr.2 0 (by have := hr.1; omega)
        cases e
    subst hk
    have hn : xs = [] := List.eq_nil_of_length_eq_zero hr.1
    subst hn
    obtain ⟨i, hi, hz0, hz1, hz2⟩ := info_parts kS_kind.info
    have ht := Try.underlying22
    refine ⟨v, w, ?_, by simpa [scells] using hown, Below.refl _ _, Oth.refl _ _, Fr.refl _ _⟩
    rcases hown.2 with ⟨rfl, rfl⟩ | ⟨g, cap, cur, m, rfl, _, _, hnc, _⟩
    · simp [Builtin.append_, run_underlying ht, sizeOf, typeInfo, hi, Builtin.lenOf, Builtin.firstCells]
    · simp [Builtin.append_, run_underlying ht, sizeOf, typeInfo, hi, Builtin.lenOf, Builtin.firstCells, hnc, storeCells]
  · exact Cel.run_app kS_kind w K ty v n l hown hK ad k c (scells xs) (by rw [scells_length, hr.1]) (scells_one xs) (fun j u hj => rds_cells hr j u hj) (by omega) (by omega)
/-- append(s, x...) of symbols at a step. -/
theorem step_syms {ops : Array Oper} {o : Oper} {a : Act} {C : Act → World → Prop} {Q : Exit → Act → World → Prop} {E : Prop} (w : World) (K : Nat) (v : Value) (n : Nat) (l : List Value)
    (hown : Cel.Own 38 4 w K v n l) (hK : K ≤ w.heap.size) (A : Option Addr) (k c B : Nat) (xs : List Sy) (hr : RdS w B A k xs) (hsz : n + k ≤ 100000)
    (hgd : o.guard = none) (s x : Operand) (ho : o.op = .call { callee := .builtin .append, args := #[s, x], argTypes := #[22, 22] }) (hs : a.eval s = v) (hx : a.eval x = .slice A k c)
    (h : ∀ v' w', Cel.Own 38 4 w' K v' (n + k) (l ++ scells xs) → Below K w w' → Oth 38 w w' → Fr v w v' w' → C (a.put o.dst v') w') :
    if Region.wanted o (yielded ops a.tmps) = true then Oper.wp Try.prog o a w C Q else E := by
  have hw : Region.wanted o (yielded ops a.tmps) = true := by simp [Region.wanted, hgd]
  rw [if_pos hw]
  obtain ⟨v', w', hrun, r1, r2, r3, r4⟩ := run_syms w K o.type v n l hown hK A k c B xs hr hsz
  unfold Oper.wp execOp
  simp only [ho, resolve, invoke, builtin, Sem.run_bind, Sem.run_pure, Result.andThen_ok, List.map_toArray, List.map_cons, List.map_nil, hs, hx, hrun]
  exact h v' w' r1 r2 r3 r4
end Go.Proofs.Ytkacndinjomifaa.Obj

namespace Go.Proofs.Ytkacndinjomifaa.Frame
open Go.RowKit Go.Proofs Go.Proofs.Ytkacndinjomifaa.Byt
/-- Blocks from K on: rows of bytes keep their size and their marks and stay bytes; all else stays. -/
def Same (K : Nat) (V W : World) : Prop := Below K V W ∧ ∀ (g : Nat) (cs : Array Value) (t : TypeId) (m : Nat × Nat), K ≤ g → V.heap[g]? = some (.cells cs t m) →
  (t ≠ 5 → W.heap[g]? = some (.cells cs t m)) ∧
  (t = 5 → ∃ cs' : Array Value, W.heap[g]? = some (.cells cs' t m) ∧ cs'.size = cs.size ∧ ∀ j : Nat, (∃ x : Int, cs[j]? = some (Value.int .u8 x)) → ∃ x : Int, cs'[j]? = some (Value.int .u8 x))
theorem Same.refl (K : Nat) (V : World) : Same K V V := ⟨Below.refl _ _, fun _ cs _ _ _ h => ⟨fun _ => h, fun _ => ⟨cs, h, rfl, fun _ q => q⟩⟩⟩
theorem Same.put {K : Nat} {V W : World} (h : Same K V W) {g i : Nat} {cs : Array Value} {m : Nat × Nat} (hK : K ≤ g) (hg : V.heap[g]? = some (.cells cs 5 m)) (x : Int) : Same K V (W.setCell ⟨g, i, none⟩ (.int .u8 x)) := by
  refine ⟨h.1.setCell (p := ⟨g, i, none⟩) hK _, fun k ds t m' hk hd => ?_⟩
  obtain ⟨h1, h2⟩ := h.2 k ds t m' hk hd
  by_cases e : k = g
  · subst e
    rw [hg] at hd
    injection hd with hd
    injection hd with e1 e2 e3
    subst e1 e2 e3
    refine ⟨fun q => absurd rfl q, fun _ => ?_⟩
    obtain ⟨cs', q1, q2, q3⟩ := h2 rfl
    refine ⟨cs'.setIfInBounds i (.int .u8 x), ?_, by simpa using q2, fun j q => ?_⟩
    · simp [World.setCell, Array.getElem?_modify, q1]
    · obtain ⟨y, hy⟩ := q3 j q
      by_cases hj : i = j
      · subst hj
        have := (Array.getElem?_eq_some_iff.1 hy).1
        exact ⟨x, by simp [this]⟩
      · exact ⟨y, by simp [hj, hy]⟩
  · have hs : (W.setCell ⟨g, i, none⟩ (.int .u8 x)).heap[k]? = W.heap[k]? := Below.heap_setCell W ⟨g, i, none⟩ _ k e
    rw [hs]
    exact ⟨h1, h2⟩
/-- A byte of a slice of the call's own, where rows of bytes may have been written. -/
theorem Same.at_ {K : Nat} {V W : World} (h : Same K V W) {p : Option Addr} {n c : Nat} {l : List UInt8} (ho : Byt.Own V K (.slice p n c) n l) {i : Nat} (hi : i < n) :
    ∃ (g o : Nat) (x : Int), p = some ⟨g, o, none⟩ ∧ n ≤ c ∧ W.cell? ⟨g, o + i, none⟩ = some (.int .u8 x) ∧ W.frozen? ⟨g, o + i, none⟩ = false ∧ ∀ y : Int, Same K V (W.setCell ⟨g, o + i, none⟩ (.int .u8 y)) := by
  have hl := ho.1
  rcases ho.2 with ⟨_, hz⟩ | ⟨g, cap, cur, m, e, hg, hh, hn, hm, hs, ht, hf⟩
  · omega
  · injection e with e1 e2 e3
    subst e1 e3
    obtain ⟨cs', q1, q2, q3⟩ := (h.2 g cur _ m hg hh).2 rfl
    have hc : cur[i]? = some (Value.int .u8 ((l[i]'(by omega)).toNat : Int)) := by
      have h1 : (cur.toList.take n)[i]? = some (Value.int .u8 ((l[i]'(by omega)).toNat : Int)) := by rw [ht]; simp [enc, List.getElem?_eq_getElem (show i < l.length by omega)]
      rw [List.getElem?_take, if_pos (by omega)] at h1
      simpa using h1
    obtain ⟨x, hx⟩ := q3 i ⟨_, hc⟩
    refine ⟨g, 0, x, rfl, hn, by rw [cell_of_row W g (0 + i) cs' 5 m q1, Nat.zero_add]; exact hx, ?_, fun y => h.put hg hh y⟩
    have := hf i (by omega)
    simp [World.frozen?, q1]
    omega
/-- A cell of a row that is no row of bytes. -/
theorem Same.cell {K : Nat} {V W : World} (h : Same K V W) {g j : Nat} {cs : Array Value} {t : TypeId} {m : Nat × Nat} (hV : V.heap[g]? = some (.cells cs t m)) (ht : t ≠ 5) : W.cell? ⟨g, j, none⟩ = cs[j]? := by
  rcases Nat.lt_or_ge g K with hk | hk
  · rw [cell_of_row W g j cs t m ((h.1.block g hk).trans hV)]
  · exact cell_of_row W g j cs t m ((h.2 g cs t m hk hV).1 ht)

end Go.Proofs.Ytkacndinjomifaa.Frame
