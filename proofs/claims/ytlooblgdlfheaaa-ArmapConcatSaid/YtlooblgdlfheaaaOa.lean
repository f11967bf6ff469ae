/-
  Slices in memory: append onto byte slices and onto slices of whatever type, and what rows of other types hold; for a seat without slices of strings.
-/
import Derived.Test.YtlooblgdlfheaaaMa
import Derived.Lib.AppendStr
import Derived.Deep.RegionHeld3
namespace Go.Proofs.Ytlooblgdlfheaaa.Sls
open Go.RowKit Go.Proofs
open Go.Proofs.Ytlooblgdlfheaaa.Byt (run_put hid take_all)

/-- Blocks that are no rows of type t stay as they were. -/
def Oth (t : TypeId) (w w' : World) : Prop := ∀ (g : Nat) (o : Obj), w.heap[g]? = some o → (∀ cs m, o ≠ .cells cs t m) → w'.heap[g]? = some o
theorem Oth.refl (t : TypeId) (w : World) : Oth t w w := fun _ _ h _ => h
theorem Oth.trans {t : TypeId} {a b c : World} (h : Oth t a b) (k : Oth t b c) : Oth t a c := fun g o hg ho => k g o (h g o hg ho) ho
theorem Oth.below {t : TypeId} {w w' : World} (h : Below w.heap.size w w') : Oth t w w' := fun g o hg _ => by rw [h.block g (Array.getElem?_eq_some_iff.1 hg).1]; exact hg
theorem Oth.new (t : TypeId) (w : World) (o : Obj) : Oth t w (w.drew.alloc o) := Oth.below ((Below.refl _ w).drew.alloc (Nat.le_refl _) o)
theorem Oth.alloc (t : TypeId) (w : World) (o : Obj) : Oth t w (w.alloc o) := Oth.below ((Below.refl _ w).alloc (Nat.le_refl _) o)
theorem Oth.put {t : TypeId} {w w' : World} {g : Nat} {cs : Array Value} {m : Nat × Nat} (h : w.heap[g]? = some (.cells cs t m)) (ho : ∀ k, k ≠ g → w'.heap[k]? = w.heap[k]?) : Oth t w w' := fun k o hk hne => by
  by_cases e : k = g
  · subst e
    rw [h] at hk
    injection hk with hk
    exact absurd hk.symm (hne _ _)
  · rw [ho k e]; exact hk

/-- The block of a slice. -/
def blk : Value → Option Nat
  | .slice (some a) _ _ => some a.block
  | _ => none
/-- What an append may turn: the block of the slice; and where the result lies. -/
def Fr (v : Value) (w : World) (v' : Value) (w' : World) : Prop :=
  (∀ k, k < w.heap.size → blk v ≠ some k → w'.heap[k]? = w.heap[k]?) ∧ (∀ k, blk v' = some k → blk v = some k ∨ w.heap.size ≤ k)
theorem Fr.refl (v : Value) (w : World) : Fr v w v w := ⟨fun _ _ _ => rfl, fun _ h => .inl h⟩
theorem Fr.new (v : Value) (w : World) (o : Obj) (n c : Nat) : Fr v w (.slice (some ⟨w.heap.size, 0, none⟩) n c) (w.drew.alloc o) :=
  ⟨fun k hk _ => Below.heap_alloc w.drew o k hk, fun k h => .inr (by injection h with h; exact Nat.le_of_eq h)⟩
theorem Fr.put {w w' : World} {g : Nat} (ho : ∀ k, k ≠ g → w'.heap[k]? = w.heap[k]?) (n m c : Nat) : Fr (.slice (some ⟨g, 0, none⟩) n c) w (.slice (some ⟨g, 0, none⟩) m c) w' :=
  ⟨fun k _ hb => ho k fun e => hb (by rw [e]; rfl), fun _ h => .inl h⟩
theorem Fr.ahead {v v' : Value} {w w' : World} (o : Obj) (h : Fr v (w.alloc o) v' w') : Fr v w v' w' := by
  have hs : (w.alloc o).heap.size = w.heap.size + 1 := by simp
  refine ⟨fun k hk hb => ?_, fun k hb => ?_⟩
  · rw [h.1 k (by omega) hb]; exact Below.heap_alloc w o k hk
  · rcases h.2 k hb with h | h
    · exact .inl h
    · right; omega
/-- Two slices that do not share a block. -/
def Apart (v u : Value) : Prop := ∀ k, blk v = some k → blk u ≠ some k
theorem Apart.nil (u : Value) (n c : Nat) : Apart (.slice none n c) u := fun k h => by cases h

/-- Bytes stay where rows of another type are turned. -/
theorem _root_.Go.Proofs.Ytlooblgdlfheaaa.Byt.Own.oth {w w' : World} {t : TypeId} {K n : Nat} {v : Value} {l : List UInt8} (h : Byt.Own w K v n l) (ho : Oth t w w') (ht : 5 ≠ t) : Byt.Own w' K v n l := by
  refine ⟨h.1, ?_⟩
  rcases h.2 with h | ⟨g, cap, cur, m, hv, hg, hh, r⟩
  · exact .inl h
  · exact .inr ⟨g, cap, cur, m, hv, hg, ho g _ hh (fun cs m' e => by injection e with _ e2; exact ht e2), r⟩
theorem Apart.symm {v u : Value} (h : Apart v u) : Apart u v := fun k hu hv => h k hv hu
end Go.Proofs.Ytlooblgdlfheaaa.Sls

namespace Go.Proofs.Ytlooblgdlfheaaa.Byt
open Go.RowKit Go.Proofs
open Go.Proofs.Ytlooblgdlfheaaa.Sls (Oth Oth.refl Oth.new Oth.put Oth.alloc Oth.trans)

/-- append of bytes onto a slice of the call's own. -/
theorem run_app2 (w : World) (K : Nat) (ty : TypeId) (v : Value) (n : Nat) (l : List UInt8) (hown : Own w K v n l) (hK : K ≤ w.heap.size)
    (ad : Addr) (k c : Nat) (src : List UInt8) (hl : src.length = k) (hc : ∀ j u, (enc src)[j]? = some u → w.cell? (ad.add j) = some u) (hsz : n + k ≤ 140737488355328) :
    ∃ v' w', (Builtin.append_ #[23, 23] ty #[v, .slice (some ad) k c]).run Try.prog w = .ok v' w' ∧ Own w' K v' (n + k) (l ++ src) ∧ Below K w w' ∧ Oth 5 w w' := by
  obtain ⟨i, hi, hz0, hz1, hz2⟩ := info_parts infoB
  have ht := Try.underlying23
  have hll := hown.1
  have hf := run_firstCells_some (P := Try.prog) w i.size k ad k c (enc src) (by rw [enc_length, hz1]; omega) hc
  have hnew : ∀ (olds : List Value) (cap : Nat), olds = enc l → n + k ≤ cap → cap ≤ maxLen →
      Own (w.drew.alloc (.cells (olds.toArray ++ (enc src).toArray ++ Builtin.zeroCells (Value.int .u8 0).cells (cap - (n + k))) 5)) K (.slice (some ⟨w.heap.size, 0, none⟩) (n + k) cap) (n + k) (l ++ src) := by
    intro olds cap ho hcap hm
    subst ho
    refine ⟨by rw [List.length_append]; omega, .inr ⟨w.heap.size, cap, _, (0, 0), rfl, hK, heap_alloc_new w.drew _, hcap, hm, ?_, ?_, fun j _ hj => by simp at hj⟩⟩
    · have h1 : (Value.int IntKind.u8 0).cells.size = 1 := rfl
      simp [size_zeroCells, enc_length, hll, hl, h1]; omega
    · rw [enc_append]
      simp only [Array.toList_append]
      rw [List.take_append_of_le_length (by simp [enc_length]; omega)]
      exact List.take_of_length_le (by simp [enc_length]; omega)
  have hgb : ∀ o, Below K w (w.drew.alloc o) := fun o => (Below.refl K w).drew.alloc hK o
  rcases hown.2 with ⟨rfl, rfl⟩ | ⟨g, cap, cur, m, rfl, hg, hh, hn, hm, hs, htk, hfr⟩
  · rcases Nat.eq_zero_or_pos k with rfl | hk
    · have : src = [] := List.eq_nil_of_length_eq_zero hl
      subst this
      refine ⟨.slice none 0 0, w, ?_, by simpa using hown, Below.refl _ _, Oth.refl _ _⟩
      simp [Builtin.append_, run_underlying ht, sizeOf, typeInfo, hi, Builtin.lenOf, hf]
    · have hr := run_append_nil (P := Try.prog) w 23 ty 5 i (.int .u8 0) ht hi hz0 ad k c (enc src) (by rw [enc_length, hz1]; omega) hc hk (by omega) (by rw [hz2]; omega)
      have hl0 : l = [] := List.eq_nil_of_length_eq_zero hll
      subst hl0
      have h0 := hnew [] (grownCap w k 0 5) rfl (by rw [Nat.zero_add]; exact grownCap_ge _ _ _ _) (grownCap_le_maxLen _ _ _ _ (by unfold maxLen; omega))
      exact ⟨_, _, hr, by simpa using h0, hgb _, Oth.new _ _ _⟩
  · have hz1' := hz1
    by_cases hroom : n + k ≤ cap
    · obtain ⟨w', cur', hrun, hg', hs', ht', hb', ho', hz'⟩ := run_put Try.prog g 5 m (enc src) n 0 cur w hh (by rw [enc_length]; omega) (fun j hj => hfr j (by rw [enc_length] at hj; omega)) enc_one
      refine ⟨.slice (some ⟨g, 0, none⟩) (n + k) cap, w', ?_, ⟨by rw [List.length_append]; omega, .inr ⟨g, cap, cur', m, rfl, hg, hg', hroom, hm, by omega, ?_, hfr⟩⟩, hb'.mono hg, Oth.put hh ho'⟩
      · rw [hz1] at hf
        simp [Builtin.append_, run_underlying ht, sizeOf, typeInfo, hi, hz1, Builtin.lenOf, hroom, Addr.add_lit, hf, hrun]
      · rw [enc_append, ← htk]
        rw [enc_length, hl] at ht'
        simpa using ht'
    · have hr := run_append_grow (P := Try.prog) w 23 ty 5 i (.int .u8 0) ht hi hz0 ⟨g, 0, none⟩ n cap (enc l) (by rw [enc_length, hz1]; omega)
        (fun j u hj => by
          have ha : (⟨g, 0, none⟩ : Addr).add j = ⟨g, j, none⟩ := by unfold Addr.add; split <;> simp_all
          rw [ha, cell_of_row w g j cur 5 m hh, ← Array.getElem?_toList]
          rw [← htk, List.getElem?_take] at hj
          split at hj
          · exact hj
          · cases hj) ad k c (enc src) (by rw [enc_length, hz1]; omega) hc (by omega) (by omega) (growslice_fits (by omega) (by rw [hz2]; omega))
      exact ⟨_, _, hr, hnew _ _ rfl (grownCap_ge _ _ _ _) (grownCap_le_maxLen _ _ _ _ (by unfold maxLen; omega)), hgb _, Oth.new _ _ _⟩

/-- append(s, x...), the source a byte slice that reads src. -/
theorem wpList_app2 {ops : Array Oper} {rest : List Oper} {o : Oper} {a : Act} {Q : Exit → Act → World → Prop} (w : World) (K : Nat) (v : Value) (n : Nat) (l : List UInt8)
    (hown : Own w K v n l) (hK : K ≤ w.heap.size) (A : Option Addr) (k c B : Nat) (src : List UInt8) (hr : Rd w B A k src) (hsz : n + k ≤ 140737488355328) (hgd : o.guard = none) (s x : Operand)
    (ho : o.op = .call { callee := .builtin .append, args := #[s, x], argTypes := #[23, 23] })
    (hs : a.eval s = v) (hx : a.eval x = .slice A k c)
    (h : ∀ v' w', Own w' K v' (n + k) (l ++ src) → Below K w w' → Oth 5 w w' → wpList Try.prog ops Q rest (a.put o.dst v') w') :
    wpList Try.prog ops Q (o :: rest) a w := by
  refine wpList_plain hgd fun K' hK' => ?_
  have hrun : ∃ v' w', (Builtin.append_ #[23, 23] o.type #[v, .slice A k c]).run Try.prog w = .ok v' w' ∧ Own w' K v' (n + k) (l ++ src) ∧ Below K w w' ∧ Oth 5 w w' := by
    rcases A with _ | ad
    · have hk : k = 0 := by
        rcases Nat.eq_zero_or_pos k with h0 | h0
        · exact h0
        · obtain ⟨b, o', e, _⟩ := hr.2 0 (by have := hr.1; omega)
          cases e
      subst hk
      have hn : src = [] := List.eq_nil_of_length_eq_zero hr.1
      subst hn
      obtain ⟨i, hi, hz0, hz1, hz2⟩ := info_parts infoB
      have ht := Try.underlying23
      refine ⟨v, w, ?_, by simpa using hown, Below.refl _ _, Oth.refl _ _⟩
      rcases hown.2 with ⟨rfl, rfl⟩ | ⟨g, cap, cur, m, rfl, _, _, hnc, _⟩
      · simp [Builtin.append_, run_underlying ht, sizeOf, typeInfo, hi, Builtin.lenOf, Builtin.firstCells]
      · simp [Builtin.append_, run_underlying ht, sizeOf, typeInfo, hi, Builtin.lenOf, Builtin.firstCells, hnc, storeCells]
    · refine run_app2 w K o.type v n l hown hK ad k c src hr.1 (fun j u hj => ?_) hsz
      unfold enc at hj
      rw [List.getElem?_map] at hj
      rcases hx : src[j]? with _ | y
      · rw [hx] at hj; cases hj
      · rw [hx] at hj
        obtain ⟨hlt, rfl⟩ := List.getElem?_eq_some_iff.1 hx
        obtain ⟨b, o', e, _, hc⟩ := hr.2 j hlt
        injection e with e
        subst e
        have ha : (⟨b, o', none⟩ : Addr).add j = ⟨b, o' + j, none⟩ := by unfold Addr.add; split <;> simp_all
        rw [ha, hc]
        exact hj
  obtain ⟨v', w', hrun, h1, h2, h3⟩ := hrun
  unfold Oper.wp execOp
  simp only [ho, resolve, invoke, builtin, Sem.run_bind, Sem.run_pure, Result.andThen_ok, List.map_toArray, List.map_cons, List.map_nil, hs, hx, hrun]
  exact hK' _ _ (h v' w' h1 h2 h3)

/-- append of one byte: the walk has laid it in a block of one cell. -/
theorem wpList_push2 {ops : Array Oper} {rest : List Oper} {o : Oper} {a : Act} {Q : Exit → Act → World → Prop} (w : World) (K : Nat) (v : Value) (n : Nat) (l : List UInt8) (u : UInt8) (X : Int) (hX : X = (u.toNat : Int))
    (hown : Own w K v n l) (hK : K ≤ w.heap.size) (hn : n < 140737488355328) (hgd : o.guard = none) (s x : Operand)
    (ho : o.op = .call { callee := .builtin .append, args := #[s, x], argTypes := #[23, 23] })
    (hs : a.eval s = v) (hx : a.eval x = .slice (some ⟨w.heap.size, 0, none⟩) 1 1)
    (h : ∀ v' w', Own w' K v' (n + 1) (l ++ [u]) → Below K w w' → Oth 5 w w' → wpList Try.prog ops Q rest (a.put o.dst v') w') :
    wpList Try.prog ops Q (o :: rest) a (w.alloc (.cells #[.int .u8 X] 5)) := by
  subst hX
  refine wpList_app2 _ K v n l (hown.alloc _) (by simp; omega) (some ⟨w.heap.size, 0, none⟩) 1 1 (w.heap.size + 1) [u] ⟨rfl, fun k hk => ⟨w.heap.size, 0, rfl, by omega, ?_⟩⟩ (by omega) hgd s x ho hs hx
    (fun v' w' h1 h2 h3 => h v' w' h1 (((Below.refl K w).alloc hK _).trans h2) ((Oth.alloc _ _ _).trans h3))
  simp only [List.length_singleton] at hk
  obtain rfl : k = 0 := by omega
  simp

theorem enc_str (s : ByteArray) : Lib.strCells s = enc s.data.toList := rfl
theorem run_apps2 (w : World) (K : Nat) (ty : TypeId) (v : Value) (n : Nat) (l : List UInt8) (hown : Own w K v n l) (hK : K ≤ w.heap.size) (s : ByteArray) (hsz : n + s.size ≤ 140737488355328) :
    ∃ v' w', (Builtin.append_ #[23, 9] ty #[v, .string s]).run Try.prog w = .ok v' w' ∧ Own w' K v' (n + s.size) (l ++ s.data.toList) ∧ Below K w w' ∧ Oth 5 w w' := by
  obtain ⟨i, hi, hz0, hz1, hz2⟩ := info_parts infoB
  have ht := Try.underlying23
  have hu := Try.underlying9
  have hll := hown.1
  have hsl : s.data.toList.length = s.size := (Array.length_toList (xs := s.data))
  have hnew : ∀ (olds : List Value) (cap : Nat), olds = enc l → n + s.size ≤ cap → cap ≤ maxLen →
      Own (w.drew.alloc (.cells (olds.toArray ++ (enc s.data.toList).toArray ++ Builtin.zeroCells (Value.int .u8 0).cells (cap - (n + s.size))) 5)) K (.slice (some ⟨w.heap.size, 0, none⟩) (n + s.size) cap) (n + s.size) (l ++ s.data.toList) := by
    intro olds cap ho hcap hm
    subst ho
    refine ⟨by rw [List.length_append]; omega, .inr ⟨w.heap.size, cap, _, (0, 0), rfl, hK, heap_alloc_new w.drew _, hcap, hm, ?_, ?_, fun j _ hj => by simp at hj⟩⟩
    · have h1 : (Value.int IntKind.u8 0).cells.size = 1 := rfl
      have h2 : (enc l).length = n := by rw [enc_length]; exact hll
      have h3 : (enc s.data.toList).length = s.size := by rw [enc_length]; exact hsl
      simp only [Array.size_append, size_zeroCells, h1, List.size_toArray, h2, h3]
      omega
    · rw [enc_append]
      simp only [Array.toList_append]
      rw [List.take_append_of_le_length (by simp only [List.length_append, enc_length]; omega)]
      exact List.take_of_length_le (by simp only [List.length_append, enc_length]; omega)
  have hgb : ∀ o, Below K w (w.drew.alloc o) := fun o => (Below.refl K w).drew.alloc hK o
  have hf := Lib.run_firstCells_string (P := Try.prog) w 1 s
  rcases hown.2 with ⟨rfl, rfl⟩ | ⟨g, cap, cur, m, rfl, hg, hh, hn, hm, hs, htk, hfr⟩
  · rcases Nat.eq_zero_or_pos s.size with h0 | hk
    · have : s.data.toList = [] := List.eq_nil_of_length_eq_zero (by omega)
      rw [this, h0]
      refine ⟨.slice none 0 0, w, ?_, by simpa using hown, Below.refl _ _, Oth.refl _ _⟩
      rw [hz1.symm] at hf
      rw [h0] at hf
      simp [Builtin.append_, run_underlying ht, run_underlying hu, sizeOf, typeInfo, hi, Builtin.lenOf, h0, hf]
    · have hr := run_append_nil_string (P := Try.prog) w 23 9 ty 5 i (.int .u8 0) ht hu hi hz0 s hk (by omega) (by rw [hz2]; omega)
      have hl0 : l = [] := List.eq_nil_of_length_eq_zero hll
      subst hl0
      have h0 := hnew [] (grownCap w s.size 0 5) rfl (by rw [Nat.zero_add]; exact grownCap_ge _ _ _ _) (grownCap_le_maxLen _ _ _ _ (by unfold maxLen; omega))
      have e : (s.data.map (fun b => Value.int .u8 b.toNat)) = #[] ++ (enc s.data.toList).toArray := by
        apply Array.ext'
        simp [enc]
      rw [e] at hr
      exact ⟨_, _, hr, by simpa using h0, hgb _, Oth.new _ _ _⟩
  · by_cases hroom : n + s.size ≤ cap
    · obtain ⟨w', cur', hrun, hg', hs', ht', hb', ho', hz'⟩ := run_put Try.prog g 5 m (enc s.data.toList) n 0 cur w hh (by rw [enc_length]; omega) (fun j hj => hfr j (by rw [enc_length] at hj; omega)) enc_one
      refine ⟨.slice (some ⟨g, 0, none⟩) (n + s.size) cap, w', ?_, ⟨by rw [List.length_append]; omega, .inr ⟨g, cap, cur', m, rfl, hg, hg', hroom, hm, by omega, ?_, hfr⟩⟩, hb'.mono hg, Oth.put hh ho'⟩
      · rw [enc_str] at hf
        simp [Builtin.append_, run_underlying ht, run_underlying hu, sizeOf, typeInfo, hi, hz1, Builtin.lenOf, hroom, Addr.add_lit, hf, hrun]
      · rw [enc_append, ← htk]
        rw [enc_length, hsl] at ht'
        simpa using ht'
    · have hr := Lib.run_append_grow_string (P := Try.prog) w 23 9 ty 5 i (.int .u8 0) ht hu hi hz0 ⟨g, 0, none⟩ n cap (enc l) (by rw [enc_length, hz1]; omega)
        (fun j u hj => by
          have ha : (⟨g, 0, none⟩ : Addr).add j = ⟨g, j, none⟩ := by unfold Addr.add; split <;> simp_all
          rw [ha, cell_of_row w g j cur 5 m hh, ← Array.getElem?_toList]
          rw [← htk, List.getElem?_take] at hj
          split at hj
          · exact hj
          · cases hj) s (by omega) (by omega) (growslice_fits (by omega) (by rw [hz2]; omega))
      exact ⟨_, _, hr, hnew _ _ rfl (grownCap_ge _ _ _ _) (grownCap_le_maxLen _ _ _ _ (by unfold maxLen; omega)), hgb _, Oth.new _ _ _⟩

/-- append(s, x...), the source a string. -/
theorem wpList_apps2 {ops : Array Oper} {rest : List Oper} {o : Oper} {a : Act} {Q : Exit → Act → World → Prop} (w : World) (K : Nat) (v : Value) (n : Nat) (l : List UInt8)
    (hown : Own w K v n l) (hK : K ≤ w.heap.size) (src : ByteArray) (hsz : n + src.size ≤ 140737488355328) (hgd : o.guard = none) (s x : Operand)
    (ho : o.op = .call { callee := .builtin .append, args := #[s, x], argTypes := #[23, 9] })
    (hs : a.eval s = v) (hx : a.eval x = .string src)
    (h : ∀ v' w', Own w' K v' (n + src.size) (l ++ src.data.toList) → Below K w w' → Oth 5 w w' → wpList Try.prog ops Q rest (a.put o.dst v') w') :
    wpList Try.prog ops Q (o :: rest) a w := by
  refine wpList_plain hgd fun K' hK' => ?_
  obtain ⟨v', w', hrun, h1, h2, h3⟩ := run_apps2 w K o.type v n l hown hK src hsz
  unfold Oper.wp execOp
  simp only [ho, resolve, invoke, builtin, Sem.run_bind, Sem.run_pure, Result.andThen_ok, List.map_toArray, List.map_cons, List.map_nil, hs, hx, hrun]
  exact hK' _ _ (h v' w' h1 h2 h3)

end Go.Proofs.Ytlooblgdlfheaaa.Byt

namespace Go.Proofs.Ytlooblgdlfheaaa.Cel
open Go.RowKit Go.Proofs
open Go.Proofs.Ytlooblgdlfheaaa.Byt (run_put hid take_all)
open Go.Proofs.Ytlooblgdlfheaaa.Sls (Oth Oth.refl Oth.new Oth.put Oth.alloc Oth.trans Fr Fr.refl Fr.new Fr.put Fr.ahead Apart blk)

/-- What is to be known of a type of slices: st the slices, t the elements, of sz cells and bs bytes, whose zero value has the cells z. -/
structure Kind (st t : TypeId) (sz bs : Nat) (z : Value) : Prop where
  under : Try.prog.underlying st = some (.slice t)
  info : (Try.prog.info? t).map (fun i => (i.zero, i.size, i.bytes)) = some (some z, sz, bs)
  cells : z.cells.size = sz
  pos : 0 < sz

/-- A slice of n elements that reads as the cells cs; it lies below block K. -/
def Rd (w : World) (K : Nat) (A : Option Addr) (n sz : Nat) (cs : List Value) : Prop :=
  cs.length = n * sz ∧ ∀ k (h : k < cs.length), ∃ b o : Nat, A = some ⟨b, o, none⟩ ∧ b < K ∧ w.cell? ⟨b, o + k, none⟩ = some cs[k]
theorem Rd.below {w w' : World} {K n sz : Nat} {A : Option Addr} {cs : List Value} (h : Rd w K A n sz cs) (hb : Below K w w') : Rd w' K A n sz cs :=
  ⟨h.1, fun k hk => by
    obtain ⟨b, o, e, hl, hc⟩ := h.2 k hk
    exact ⟨b, o, e, hl, by rw [hb.cell (p := ⟨b, o + k, none⟩) hl]; exact hc⟩⟩
theorem Rd.more {w : World} {K K' n sz : Nat} {A : Option Addr} {cs : List Value} (h : Rd w K A n sz cs) (hK : K ≤ K') : Rd w K' A n sz cs :=
  ⟨h.1, fun k hk => by
    obtain ⟨b, o, e, hl, hc⟩ := h.2 k hk
    exact ⟨b, o, e, by omega, hc⟩⟩
theorem Rd.nil (w : World) (K sz : Nat) (A : Option Addr) : Rd w K A 0 sz [] := ⟨by simp, fun k hk => absurd hk (by simp)⟩
theorem Rd.drewN {w : World} {K n sz : Nat} {A : Option Addr} {cs : List Value} (h : Rd w K A n sz cs) (m : Nat) : Rd (w.drewN m) K A n sz cs := h

/-- v is a slice of n elements that the call has made, in a block from K on, none of whose cells is frozen; it holds the cells cs. -/
def Own (t : TypeId) (sz : Nat) (w : World) (K : Nat) (v : Value) (n : Nat) (cs : List Value) : Prop :=
  cs.length = n * sz ∧ ((v = .slice none 0 0 ∧ n = 0) ∨
    ∃ (g cap : Nat) (cur : Array Value) (m : Nat × Nat), v = .slice (some ⟨g, 0, none⟩) n cap ∧ K ≤ g ∧ w.heap[g]? = some (.cells cur t m) ∧ n ≤ cap ∧ cap ≤ maxLen ∧ cur.size = cap * sz ∧ cur.toList.take (n * sz) = cs ∧
      ∀ j, j < cap * sz → ¬(m.1 ≤ j ∧ j < m.2))
theorem Own.nil (t : TypeId) (sz : Nat) (w : World) (K : Nat) : Own t sz w K (.slice none 0 0) 0 [] := ⟨by simp, .inl ⟨rfl, rfl⟩⟩

theorem Own.reads {t : TypeId} {sz : Nat} {w : World} {K n : Nat} {v : Value} {cs : List Value} (h : Own t sz w K v n cs) : ∃ A c, v = .slice A n c ∧ Rd w w.heap.size A n sz cs ∧ n ≤ c ∧ c ≤ maxLen := by
  obtain ⟨hl, h⟩ := h
  rcases h with ⟨rfl, rfl⟩ | ⟨g, cap, cur, m, rfl, hg, hh, hn, hm, hs, ht, _⟩
  · exact ⟨none, 0, rfl, ⟨hl, fun k hk => by omega⟩, by omega, by unfold maxLen; omega⟩
  · refine ⟨_, cap, rfl, ⟨hl, fun k hk => ⟨g, 0, rfl, (Array.getElem?_eq_some_iff.1 hh).1, ?_⟩⟩, hn, hm⟩
    rw [cell_of_row w g (0 + k) cur t m hh, Nat.zero_add, ← Array.getElem?_toList]
    have h1 : (cur.toList.take (n * sz))[k]? = some cs[k] := by rw [ht]; exact List.getElem?_eq_getElem hk
    rw [List.getElem?_take] at h1
    split at h1
    · exact h1
    · cases h1
theorem Own.keep {t : TypeId} {sz : Nat} {w w' : World} {K n : Nat} {v : Value} {cs : List Value} (h : Own t sz w K v n cs) (hk : ∀ g, K ≤ g → g < w.heap.size → w'.heap[g]? = w.heap[g]?) : Own t sz w' K v n cs := by
  refine ⟨h.1, ?_⟩
  rcases h.2 with h | ⟨g, cap, cur, m, hv, hg, hh, r⟩
  · exact .inl h
  · exact .inr ⟨g, cap, cur, m, hv, hg, (hk g hg (Array.getElem?_eq_some_iff.1 hh).1).trans hh, r⟩
theorem Own.alloc {t : TypeId} {sz : Nat} {w : World} {K n : Nat} {v : Value} {cs : List Value} (h : Own t sz w K v n cs) (o : Obj) : Own t sz (w.alloc o) K v n cs := h.keep fun g _ hlt => Below.heap_alloc w o g hlt
theorem Own.drewN {t : TypeId} {sz : Nat} {w : World} {K n : Nat} {v : Value} {cs : List Value} (h : Own t sz w K v n cs) (m : Nat) : Own t sz (w.drewN m) K v n cs := h
theorem Own.below {t : TypeId} {sz : Nat} {w w' : World} {K n : Nat} {v : Value} {cs : List Value} (h : Own t sz w K v n cs) (hb : Below w.heap.size w w') : Own t sz w' K v n cs := h.keep fun g _ hlt => hb.block g hlt
theorem Own.more {t : TypeId} {sz : Nat} {w : World} {K K' n : Nat} {v : Value} {cs : List Value} (h : Own t sz w K v n cs) (hK : K' ≤ K) : Own t sz w K' v n cs := by
  refine ⟨h.1, ?_⟩
  rcases h.2 with h | ⟨g, cap, cur, m, hv, hg, r⟩
  · exact .inl h
  · exact .inr ⟨g, cap, cur, m, hv, by omega, r⟩
/-- What is owned stays where rows of another type are turned, or another slice's block. -/
theorem Own.oth {t t' : TypeId} {sz : Nat} {w w' : World} {K n : Nat} {v : Value} {cs : List Value} (h : Own t sz w K v n cs) (ho : Oth t' w w') (ht : t ≠ t') : Own t sz w' K v n cs := by
  refine ⟨h.1, ?_⟩
  rcases h.2 with h | ⟨g, cap, cur, m, hv, hg, hh, r⟩
  · exact .inl h
  · exact .inr ⟨g, cap, cur, m, hv, hg, ho g _ hh (fun cs m' e => by injection e with _ e2; exact ht e2), r⟩
theorem Own.fr {t : TypeId} {sz : Nat} {w w' : World} {K n : Nat} {v u u' : Value} {cs : List Value} (h : Own t sz w K v n cs) (ho : Fr u w u' w') (ha : Apart v u) : Own t sz w' K v n cs := by
  refine ⟨h.1, ?_⟩
  rcases h.2 with h | ⟨g, cap, cur, m, hv, hg, hh, r⟩
  · exact .inl h
  · exact .inr ⟨g, cap, cur, m, hv, hg, (ho.1 g (Array.getElem?_eq_some_iff.1 hh).1 (ha g (by rw [hv]; rfl))).trans hh, r⟩
theorem Own.blk_lt {t : TypeId} {sz : Nat} {w : World} {K n : Nat} {v : Value} {cs : List Value} (h : Own t sz w K v n cs) {k : Nat} (hk : blk v = some k) : k < w.heap.size := by
  rcases h.2 with ⟨rfl, _⟩ | ⟨g, cap, cur, m, rfl, hg, hh, r⟩
  · cases hk
  · injection hk with hk; subst hk; exact (Array.getElem?_eq_some_iff.1 hh).1
theorem Own.setc {t t' : TypeId} {sz : Nat} {W : World} {K n : Nat} {v : Value} {cs : List Value} {g : Nat} {ds : Array Value} {m : Nat × Nat} (h : Own t sz W K v n cs) (hb : W.heap[g]? = some (.cells ds t' m)) (ht : t ≠ t') (i : Nat) (y : Value) : Own t sz (W.setCell ⟨g, i, none⟩ y) K v n cs := by
  refine ⟨h.1, ?_⟩
  rcases h.2 with h | ⟨g', cap, cur, m', hv, hgk, hh, r⟩
  · exact .inl h
  · refine .inr ⟨g', cap, cur, m', hv, hgk, (Below.heap_setCell W ⟨g, i, none⟩ y g' ?_).trans hh, r⟩
    intro e
    have e' : g' = g := e
    rw [e', hb] at hh
    injection hh with hh
    injection hh with _ e2
    exact ht e2.symm

set_option maxHeartbeats 1000000 in
/-- append of elements onto a slice of the call's own. -/
theorem run_app {st t : TypeId} {sz bs : Nat} {z : Value} (hk : Kind st t sz bs z) (w : World) (K : Nat) (ty : TypeId) (v : Value) (n : Nat) (l : List Value) (hown : Own t sz w K v n l) (hK : K ≤ w.heap.size)
    (ad : Addr) (k c : Nat) (src : List Value) (hl : src.length = k * sz) (h1 : ∀ u ∈ src, u.oneCell' = true) (hc : ∀ j u, src[j]? = some u → w.cell? (ad.add j) = some u) (hsz : n + k ≤ 1000000) (hby : (n + k) * bs ≤ 140737488355328) :
    ∃ v' w', (Builtin.append_ #[st, st] ty #[v, .slice (some ad) k c]).run Try.prog w = .ok v' w' ∧ Own t sz w' K v' (n + k) (l ++ src) ∧ Below K w w' ∧ Oth t w w' ∧ Fr v w v' w' := by
  obtain ⟨i, hi, hz0, hz1, hz2⟩ := info_parts hk.info
  have ht := hk.under
  have hzc := hk.cells
  have hll := hown.1
  have hpos := hk.pos
  have hf := run_firstCells_some (P := Try.prog) w i.size k ad k c src (by rw [hz1]; exact hl) hc
  have hnew : ∀ (olds : List Value) (cap : Nat), olds = l → n + k ≤ cap → cap ≤ maxLen →
      Own t sz (w.drew.alloc (.cells (olds.toArray ++ src.toArray ++ Builtin.zeroCells z.cells (cap - (n + k))) t)) K (.slice (some ⟨w.heap.size, 0, none⟩) (n + k) cap) (n + k) (l ++ src) := by
    intro olds cap ho hcap hm
    subst ho
    have hmul : (n + k) * sz = n * sz + k * sz := Nat.add_mul _ _ _
    refine ⟨by rw [List.length_append]; omega, .inr ⟨w.heap.size, cap, _, (0, 0), rfl, hK, heap_alloc_new w.drew _, hcap, hm, ?_, ?_, fun j _ hj => by simp at hj⟩⟩
    · simp only [Array.size_append, size_zeroCells, hzc, List.size_toArray, hll, hl]
      have : cap = (n + k) + (cap - (n + k)) := by omega
      conv => rhs; rw [this, Nat.add_mul, hmul]
    · simp only [Array.toList_append]
      rw [List.take_append_of_le_length (by simp only [List.length_append]; omega)]
      exact List.take_of_length_le (by simp only [List.length_append]; omega)
  have hgb : ∀ o, Below K w (w.drew.alloc o) := fun o => (Below.refl K w).drew.alloc hK o
  rcases hown.2 with ⟨rfl, rfl⟩ | ⟨g, cap, cur, m, rfl, hg, hh, hn, hm, hs, htk, hfr⟩
  · rcases Nat.eq_zero_or_pos k with rfl | hk0
    · have : src = [] := List.eq_nil_of_length_eq_zero (by rw [hl]; simp)
      subst this
      refine ⟨.slice none 0 0, w, ?_, by simpa using hown, Below.refl _ _, Oth.refl _ _, Fr.refl _ _⟩
      simp [Builtin.append_, run_underlying ht, sizeOf, typeInfo, hi, Builtin.lenOf, hf]
    · have hr := run_append_nil (P := Try.prog) w st ty t i z ht hi hz0 ad k c src (by rw [hz1]; exact hl) hc hk0 (by omega) (by rw [hz2]; rw [Nat.zero_add] at hby; omega)
      have hl0 : l = [] := List.eq_nil_of_length_eq_zero (by rw [hll]; simp)
      subst hl0
      have h0 := hnew [] (grownCap w k 0 t) rfl (by rw [Nat.zero_add]; exact grownCap_ge _ _ _ _) (grownCap_le_maxLen _ _ _ _ (by unfold maxLen; omega))
      exact ⟨_, _, hr, by simpa using h0, hgb _, Oth.new _ _ _, Fr.new _ _ _ _ _⟩
  · by_cases hroom : n + k ≤ cap
    · have hmul : (n + k) * sz = n * sz + k * sz := Nat.add_mul _ _ _
      have hle : (n + k) * sz ≤ cap * sz := Nat.mul_le_mul_right _ hroom
      obtain ⟨w', cur', hrun, hg', hs', ht', hb', ho', hz'⟩ := run_put Try.prog g t m src (n * sz) 0 cur w hh (by omega) (fun j hj => hfr j (by omega)) h1
      refine ⟨.slice (some ⟨g, 0, none⟩) (n + k) cap, w', ?_, ⟨by rw [List.length_append]; omega, .inr ⟨g, cap, cur', m, rfl, hg, hg', hroom, hm, by omega, ?_, hfr⟩⟩, hb'.mono hg, Oth.put hh ho', Fr.put ho' _ _ _⟩
      · rw [hz1] at hf
        simp [Builtin.append_, run_underlying ht, sizeOf, typeInfo, hi, hz1, Builtin.lenOf, hroom, Addr.add_lit, hf, hrun]
      · rw [← htk, hmul]
        rw [hl] at ht'
        simpa using ht'
    · have hr := run_append_grow (P := Try.prog) w st ty t i z ht hi hz0 ⟨g, 0, none⟩ n cap l (by rw [hz1]; exact hll)
        (fun j u hj => by
          have ha : (⟨g, 0, none⟩ : Addr).add j = ⟨g, j, none⟩ := by unfold Addr.add; split <;> simp_all
          rw [ha, cell_of_row w g j cur t m hh, ← Array.getElem?_toList]
          rw [← htk, List.getElem?_take] at hj
          split at hj
          · exact hj
          · cases hj) ad k c src (by rw [hz1]; exact hl) hc (by omega) (by omega) (growslice_fits (by omega) (by rw [hz2]; exact hby))
      exact ⟨_, _, hr, hnew _ _ rfl (grownCap_ge _ _ _ _) (grownCap_le_maxLen _ _ _ _ (by unfold maxLen; omega)), hgb _, Oth.new _ _ _, Fr.new _ _ _ _ _⟩

/-- append of elements that lie in a block which has just been laid (a literal of the elements). -/
theorem wpList_push {st t : TypeId} {sz bs : Nat} {z : Value} (hk : Kind st t sz bs z) {ops : Array Oper} {rest : List Oper} {o : Oper} {a : Act} {Q : Exit → Act → World → Prop} (w : World) (K : Nat) (v : Value) (n : Nat) (l : List Value)
    (hown : Own t sz w K v n l) (hK : K ≤ w.heap.size) (k c : Nat) (src : Array Value) (m : Nat × Nat) (hl : src.size = k * sz) (h1 : ∀ u ∈ src.toList, u.oneCell' = true) (hn : n + k ≤ 1000000) (hby : (n + k) * bs ≤ 140737488355328) (hgd : o.guard = none) (s x : Operand)
    (ho : o.op = .call { callee := .builtin .append, args := #[s, x], argTypes := #[st, st] })
    (hs : a.eval s = v) (hx : a.eval x = .slice (some ⟨w.heap.size, 0, none⟩) k c)
    (h : ∀ v' w', Own t sz w' K v' (n + k) (l ++ src.toList) → Below K w w' → Oth t w w' → Fr v w v' w' → wpList Try.prog ops Q rest (a.put o.dst v') w') :
    wpList Try.prog ops Q (o :: rest) a (w.alloc (.cells src t m)) := by
  refine wpList_plain hgd fun K' hK' => ?_
  obtain ⟨v', w', hrun, r1, r2, r3, r4⟩ := run_app hk (w.alloc (.cells src t m)) K o.type v n l (hown.alloc _) (by simp; omega) ⟨w.heap.size, 0, none⟩ k c src.toList (by rw [Array.length_toList]; exact hl) h1 (fun j u hj => by
    have ha : (⟨w.heap.size, 0, none⟩ : Addr).add j = ⟨w.heap.size, j, none⟩ := by unfold Addr.add; split <;> simp_all
    rw [ha, cell_of_row _ w.heap.size j src t m (heap_alloc_new w _), ← Array.getElem?_toList]
    exact hj) hn hby
  unfold Oper.wp execOp
  simp only [ho, resolve, invoke, builtin, Sem.run_bind, Sem.run_pure, Result.andThen_ok, List.map_toArray, List.map_cons, List.map_nil, hs, hx, hrun]
  exact hK' _ _ (h v' w' r1 (((Below.refl K w).alloc hK _).trans r2) ((Oth.alloc _ _ _).trans r3) (Fr.ahead _ r4))

/-- append at a step of a region that draws its order. -/
theorem step_app {st t : TypeId} {sz bs : Nat} {z : Value} (hk : Kind st t sz bs z) {ops : Array Oper} {o : Oper} {a : Act} {C : Act → World → Prop} {Q : Exit → Act → World → Prop} {E : Prop} (w : World) (K : Nat) (v : Value) (n : Nat) (l : List Value)
    (hown : Own t sz w K v n l) (hK : K ≤ w.heap.size) (ad : Addr) (k c : Nat) (src : List Value) (hl : src.length = k * sz) (h1 : ∀ u ∈ src, u.oneCell' = true) (hc : ∀ j u, src[j]? = some u → w.cell? (ad.add j) = some u) (hn : n + k ≤ 1000000) (hby : (n + k) * bs ≤ 140737488355328)
    (hgd : o.guard = none) (s x : Operand) (ho : o.op = .call { callee := .builtin .append, args := #[s, x], argTypes := #[st, st] }) (hs : a.eval s = v) (hx : a.eval x = .slice (some ad) k c)
    (h : ∀ v' w', Own t sz w' K v' (n + k) (l ++ src) → Below K w w' → Oth t w w' → Fr v w v' w' → C (a.put o.dst v') w') :
    if Region.wanted o (yielded ops a.tmps) = true then Oper.wp Try.prog o a w C Q else E := by
  have hw : Region.wanted o (yielded ops a.tmps) = true := by simp [Region.wanted, hgd]
  rw [if_pos hw]
  obtain ⟨v', w', hrun, r1, r2, r3, r4⟩ := run_app hk w K o.type v n l hown hK ad k c src hl h1 hc hn hby
  unfold Oper.wp execOp
  simp only [ho, resolve, invoke, builtin, Sem.run_bind, Sem.run_pure, Result.andThen_ok, List.map_toArray, List.map_cons, List.map_nil, hs, hx, hrun]
  exact h v' w' r1 r2 r3 r4
end Go.Proofs.Ytlooblgdlfheaaa.Cel
