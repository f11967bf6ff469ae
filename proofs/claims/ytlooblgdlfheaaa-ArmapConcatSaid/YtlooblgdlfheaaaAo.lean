/-
  armap: append of entries from whatever slice; a list of entries cut off; a byte slice cut off.
-/
import Derived.Test.YtlooblgdlfheaaaAn
namespace Go.Proofs.Ytlooblgdlfheaaa.Cel
open Go.RowKit Go.Proofs
open Go.Proofs.Ytlooblgdlfheaaa.Byt (run_put hid take_all)
open Go.Proofs.Ytlooblgdlfheaaa.Sls (Oth Oth.refl Oth.new Oth.put Oth.alloc Oth.trans Fr Fr.refl Fr.new Fr.put Fr.ahead Apart blk)
/-- append(s, x...), from whatever slice. -/
theorem wpList_app {st t : TypeId} {sz bs : Nat} {z : Value} (hk : Kind st t sz bs z) {ops : Array Oper} {rest : List Oper} {o : Oper} {a : Act} {Q : Exit → Act → World → Prop} (w : World) (K : Nat) (v : Value) (n : Nat) (l : List Value)
    (hown : Own t sz w K v n l) (hK : K ≤ w.heap.size) (A : Option Addr) (k c B : Nat) (src : List Value) (hr : Rd w B A k sz src) (h1 : ∀ u ∈ src, u.oneCell' = true) (hn : n + k ≤ 1000000) (hby : (n + k) * bs ≤ 140737488355328) (hgd : o.guard = none) (s x : Operand)
    (ho : o.op = .call { callee := .builtin .append, args := #[s, x], argTypes := #[st, st] })
    (hs : a.eval s = v) (hx : a.eval x = .slice A k c)
    (h : ∀ v' w', Own t sz w' K v' (n + k) (l ++ src) → Below K w w' → Oth t w w' → wpList Try.prog ops Q rest (a.put o.dst v') w') :
    wpList Try.prog ops Q (o :: rest) a w := by
  refine wpList_plain hgd fun K' hK' => ?_
  have hrun : ∃ v' w', (Builtin.append_ #[st, st] o.type #[v, .slice A k c]).run Try.prog w = .ok v' w' ∧ Own t sz w' K v' (n + k) (l ++ src) ∧ Below K w w' ∧ Oth t w w' := by
    rcases A with _ | ad
    · have hpos := hk.pos
      have hk0 : k = 0 := by
        rcases Nat.eq_zero_or_pos k with h0 | h0
        · exact h0
        · have hlt : 0 < src.length := by
            rw [hr.1]
            exact Nat.mul_pos h0 hpos
          obtain ⟨b, o', e, _⟩ := hr.2 0 hlt
          cases e
      subst hk0
      have hn : src = [] := List.eq_nil_of_length_eq_zero (by rw [hr.1]; simp)
      subst hn
      obtain ⟨i, hi, hz0, hz1, hz2⟩ := info_parts hk.info
      have ht := hk.under
      refine ⟨v, w, ?_, by simpa using hown, Below.refl _ _, Oth.refl _ _⟩
      rcases hown.2 with ⟨rfl, rfl⟩ | ⟨g, cap, cur, m, rfl, _, _, hnc, _⟩
      · simp [Builtin.append_, run_underlying ht, sizeOf, typeInfo, hi, Builtin.lenOf, Builtin.firstCells]
      · simp [Builtin.append_, run_underlying ht, sizeOf, typeInfo, hi, Builtin.lenOf, Builtin.firstCells, hnc, storeCells]
    · obtain ⟨v', w', r0, r1, r2, r3, _⟩ := run_app hk w K o.type v n l hown hK ad k c src hr.1 h1 (fun j u hj => by
        obtain ⟨hlt, rfl⟩ := List.getElem?_eq_some_iff.1 hj
        obtain ⟨b, o', e, _, hc⟩ := hr.2 j hlt
        injection e with e
        subst e
        have ha : (⟨b, o', none⟩ : Addr).add j = ⟨b, o' + j, none⟩ := by unfold Addr.add; split <;> simp_all
        rw [ha, hc]) hn hby
      exact ⟨v', w', r0, r1, r2, r3⟩
  obtain ⟨v', w', hrun, h1, h2, h3⟩ := hrun
  unfold Oper.wp execOp
  simp only [ho, resolve, invoke, builtin, Sem.run_bind, Sem.run_pure, Result.andThen_ok, List.map_toArray, List.map_cons, List.map_nil, hs, hx, hrun]
  exact hK' _ _ (h v' w' h1 h2 h3)
theorem Own.lit0 (t : TypeId) (sz : Nat) (w : World) (K : Nat) (hK : K ≤ w.heap.size) : Own t sz (w.alloc (.cells #[] t)) K (.slice (some ⟨w.heap.size, 0, none⟩) 0 0) 0 [] :=
  ⟨by simp, .inr ⟨w.heap.size, 0, #[], (0, 0), rfl, hK, heap_alloc_new w _, by omega, by unfold maxLen; omega, by simp, by simp, fun j hj => by omega⟩⟩
end Go.Proofs.Ytlooblgdlfheaaa.Cel
namespace Go.Proofs.Ytlooblgdlfheaaa.Amp
open Go.RowKit Go.Proofs Go.Proofs.Ytlooblgdlfheaaa.Byt
theorem kStr : Cel.Kind 38 9 1 16 (.string ⟨#[]⟩) := ⟨by kernel_rfl, by kernel_rfl, by kernel_rfl, by decide⟩
/-- A slice that is cut off. -/
theorem upto_ents (A : Option Addr) (m d j : Nat) (hj : j ≤ m) (hd : m ≤ d) (W : World) :
    (Instr.slice 22 (.slice A m d) none (some (.int .i64 (j : Int))) none).run Try.prog W = .ok (.slice A j d) W := by
  have h1 : (j : Int) ≤ (d : Int) := by omega
  rcases A with _ | a
  · go_simp
  · go_simp
theorem upto_bytes (A : Option Addr) (m d j : Nat) (hj : j ≤ m) (hd : m ≤ d) (i : Int) (hi : i = (j : Int)) (W : World) :
    (Instr.slice 23 (.slice A m d) none (some (.int .i64 i)) none).run Try.prog W = .ok (.slice A j d) W := by
  subst hi
  have h1 : (j : Int) ≤ (d : Int) := by omega
  rcases A with _ | a
  · go_simp
  · go_simp
end Go.Proofs.Ytlooblgdlfheaaa.Amp
