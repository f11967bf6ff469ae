/-
  append onto a byte slice, once more: and what rows of other types hold stays.
-/
import Derived.Test.YtnkdcecpbjhdmaaDoorBys
import Derived.Test.YtnkdcecpbjhdmaaDoorSls
namespace Go.Proofs.YtnkdcecpbjhdmaaDoor.Byt
open Go.RowKit Go.Proofs
open Go.Proofs.YtnkdcecpbjhdmaaDoor.Sls (Oth Oth.refl Oth.new Oth.put Oth.alloc Oth.trans)

/-- append of bytes onto a slice of the call's own. -/
theorem run_app2 (w : World) (K : Nat) (ty : TypeId) (v : Value) (n : Nat) (l : List UInt8) (hown : Own w K v n l) (hK : K ≤ w.heap.size)
    (ad : Addr) (k c : Nat) (src : List UInt8) (hl : src.length = k) (hc : ∀ j u, (enc src)[j]? = some u → w.cell? (ad.add j) = some u) (hsz : n + k ≤ 140737488355328) :
    ∃ v' w', (Builtin.append_ #[23, 23] ty #[v, .slice (some ad) k c]).run Tryd.prog w = .ok v' w' ∧ Own w' K v' (n + k) (l ++ src) ∧ Below K w w' ∧ Oth 5 w w' := by
  obtain ⟨i, hi, hz0, hz1, hz2⟩ := info_parts infoB
  have ht := Tryd.underlying23
  have hll := hown.1
  have hf := run_firstCells_some (P := Tryd.prog) w i.size k ad k c (enc src) (by rw [enc_length, hz1]; omega) hc
  have hnew : ∀ (olds : List Value) (cap : Nat), olds = enc l → n + k ≤ cap → cap ≤ maxLen →
      Own (w.drew.alloc (.cells (olds.toArray ++ (enc src).toArray ++ Builtin.zeroCells (Value.int .u8 0).cells (cap - (n + k))) 5)) K (.slice (some ⟨w.heap.size, 0, none⟩) (n + k) cap) (n + k) (l ++ src) := by
    intro olds cap ho hcap hm
    subst ho
    refine ⟨by rw [List.length_append]; omega, .inr ⟨w.heap.size, cap, _, (0, 0), rfl, hK, heap_alloc_new w.drew _, hcap, hm, ?_, ?_, fun j _ hj => by simp at hj⟩⟩
    · have h1 : (Value.int IntKind.u8 0).cells.size = 1 := rfl
      simp [size_zeroCells, enc_length, hll, hl, h1]; omega
    · rw [enc_append]
      simp only [Array.toList_append]
      rw [List.take_append_of_le_length (by simp [enc_length]; omega)]
      exact List.take_of_length_le (by simp [enc_length]; omega)
  have hgb : ∀ o, Below K w (w.drew.alloc o) := fun o => (Below.refl K w).drew.alloc hK o
  rcases hown.2 with ⟨rfl, rfl⟩ | ⟨g, cap, cur, m, rfl, hg, hh, hn, hm, hs, htk, hfr⟩
  · rcases Nat.eq_zero_or_pos k with rfl | hk
    · have : src = [] := List.eq_nil_of_length_eq_zero hl
      subst this
      refine ⟨.slice none 0 0, w, ?_, by simpa using hown, Below.refl _ _, Oth.refl _ _⟩
      simp [Builtin.append_, run_underlying ht, sizeOf, typeInfo, hi, Builtin.lenOf, hf]
    · have hr := run_append_nil (P := Tryd.prog) w 23 ty 5 i (.int .u8 0) ht hi hz0 ad k c (enc src) (by rw [enc_length, hz1]; omega) hc hk (by omega) (by rw [hz2]; omega)
      have hl0 : l = [] := List.eq_nil_of_length_eq_zero hll
      subst hl0
      have h0 := hnew [] (grownCap w k 0 5) rfl (by rw [Nat.zero_add]; exact grownCap_ge _ _ _ _) (grownCap_le_maxLen _ _ _ _ (by unfold maxLen; omega))
      exact ⟨_, _, hr, by simpa using h0, hgb _, Oth.new _ _ _⟩
  · have hz1' := hz1
    by_cases hroom : n + k ≤ cap
    · obtain ⟨w', cur', hrun, hg', hs', ht', hb', ho', hz'⟩ := run_put Tryd.prog g 5 m (enc src) n 0 cur w hh (by rw [enc_length]; omega) (fun j hj => hfr j (by rw [enc_length] at hj; omega)) enc_one
      refine ⟨.slice (some ⟨g, 0, none⟩) (n + k) cap, w', ?_, ⟨by rw [List.length_append]; omega, .inr ⟨g, cap, cur', m, rfl, hg, hg', hroom, hm, by omega, ?_, hfr⟩⟩, hb'.mono hg, Oth.put hh ho'⟩
      · rw [hz1] at hf
        simp [Builtin.append_, run_underlying ht, sizeOf, typeInfo, hi, hz1, Builtin.lenOf, hroom, Addr.add_lit, hf, hrun]
      · rw [enc_append, ← htk]
        rw [enc_length, hl] at ht'
        simpa using ht'
    · have hr := run_append_grow (P := Tryd.prog) w 23 ty 5 i (.int .u8 0) ht hi hz0 ⟨g, 0, none⟩ n cap (enc l) (by rw [enc_length, hz1]; omega)
        (fun j u hj => by
          have ha : (⟨g, 0, none⟩ : Addr).add j = ⟨g, j, none⟩ := by unfold Addr.add; split <;> simp_all
          rw [ha, cell_of_row w g j cur 5 m hh, ← Array.getElem?_toList]
          rw [← htk, List.getElem?_take] at hj
          split at hj
          · exact hj
          · cases hj) ad k c (enc src) (by rw [enc_length, hz1]; omega) hc (by omega) (by omega) (growslice_fits (by omega) (by rw [hz2]; omega))
      exact ⟨_, _, hr, hnew _ _ rfl (grownCap_ge _ _ _ _) (grownCap_le_maxLen _ _ _ _ (by unfold maxLen; omega)), hgb _, Oth.new _ _ _⟩

/-- append(s, x...), the source a byte slice that reads src. -/
theorem wpList_app2 {ops : Array Oper} {rest : List Oper} {o : Oper} {a : Act} {Q : Exit → Act → World → Prop} (w : World) (K : Nat) (v : Value) (n : Nat) (l : List UInt8)
    (hown : Own w K v n l) (hK : K ≤ w.heap.size) (A : Option Addr) (k c B : Nat) (src : List UInt8) (hr : Rd w B A k src) (hsz : n + k ≤ 140737488355328) (hgd : o.guard = none) (s x : Operand)
    (ho : o.op = .call { callee := .builtin .append, args := #[s, x], argTypes := #[23, 23] })
    (hs : a.eval s = v) (hx : a.eval x = .slice A k c)
    (h : ∀ v' w', Own w' K v' (n + k) (l ++ src) → Below K w w' → Oth 5 w w' → wpList Tryd.prog ops Q rest (a.put o.dst v') w') :
    wpList Tryd.prog ops Q (o :: rest) a w := by
  refine wpList_plain hgd fun K' hK' => ?_
  have hrun : ∃ v' w', (Builtin.append_ #[23, 23] o.type #[v, .slice A k c]).run Tryd.prog w = .ok v' w' ∧ Own w' K v' (n + k) (l ++ src) ∧ Below K w w' ∧ Oth 5 w w' := by
    rcases A with _ | ad
    · have hk : k = 0 := by
        rcases Nat.eq_zero_or_pos k with h0 | h0
        · exact h0
        · obtain ⟨b, o', e, _⟩ := hr.2 0 (by have := hr.1; omega)
          cases e
      subst hk
      have hn : src = [] := List.eq_nil_of_length_eq_zero hr.1
      subst hn
      obtain ⟨i, hi, hz0, hz1, hz2⟩ := info_parts infoB
      have ht := Tryd.underlying23
      refine ⟨v, w, ?_, by simpa using hown, Below.refl _ _, Oth.refl _ _⟩
      rcases hown.2 with ⟨rfl, rfl⟩ | ⟨g, cap, cur, m, rfl, _, _, hnc, _⟩
      · simp [Builtin.append_, run_underlying ht, sizeOf, typeInfo, hi, Builtin.lenOf, Builtin.firstCells]
      · simp [Builtin.append_, run_underlying ht, sizeOf, typeInfo, hi, Builtin.lenOf, Builtin.firstCells, hnc, storeCells]
    · refine run_app2 w K o.type v n l hown hK ad k c src hr.1 (fun j u hj => ?_) hsz
      unfold enc at hj
      rw [List.getElem?_map] at hj
      rcases hx : src[j]? with _ | y
      · rw [hx] at hj; cases hj
      · rw [hx] at hj
        obtain ⟨hlt, rfl⟩ := List.getElem?_eq_some_iff.1 hx
        obtain ⟨b, o', e, _, hc⟩ := hr.2 j hlt
        injection e with e
        subst e
        have ha : (⟨b, o', none⟩ : Addr).add j = ⟨b, o' + j, none⟩ := by unfold Addr.add; split <;> simp_all
        rw [ha, hc]
        exact hj
  obtain ⟨v', w', hrun, h1, h2, h3⟩ := hrun
  unfold Oper.wp execOp
  simp only [ho, resolve, invoke, builtin, Sem.run_bind, Sem.run_pure, Result.andThen_ok, List.map_toArray, List.map_cons, List.map_nil, hs, hx, hrun]
  exact hK' _ _ (h v' w' h1 h2 h3)

/-- append of one byte: the walk has laid it in a block of one cell. -/
theorem wpList_push2 {ops : Array Oper} {rest : List Oper} {o : Oper} {a : Act} {Q : Exit → Act → World → Prop} (w : World) (K : Nat) (v : Value) (n : Nat) (l : List UInt8) (u : UInt8) (X : Int) (hX : X = (u.toNat : Int))
    (hown : Own w K v n l) (hK : K ≤ w.heap.size) (hn : n < 140737488355328) (hgd : o.guard = none) (s x : Operand)
    (ho : o.op = .call { callee := .builtin .append, args := #[s, x], argTypes := #[23, 23] })
    (hs : a.eval s = v) (hx : a.eval x = .slice (some ⟨w.heap.size, 0, none⟩) 1 1)
    (h : ∀ v' w', Own w' K v' (n + 1) (l ++ [u]) → Below K w w' → Oth 5 w w' → wpList Tryd.prog ops Q rest (a.put o.dst v') w') :
    wpList Tryd.prog ops Q (o :: rest) a (w.alloc (.cells #[.int .u8 X] 5)) := by
  subst hX
  refine wpList_app2 _ K v n l (hown.alloc _) (by simp; omega) (some ⟨w.heap.size, 0, none⟩) 1 1 (w.heap.size + 1) [u] ⟨rfl, fun k hk => ⟨w.heap.size, 0, rfl, by omega, ?_⟩⟩ (by omega) hgd s x ho hs hx
    (fun v' w' h1 h2 h3 => h v' w' h1 (((Below.refl K w).alloc hK _).trans h2) ((Oth.alloc _ _ _).trans h3))
  simp only [List.length_singleton] at hk
  obtain rfl : k = 0 := by omega
  simp

theorem run_apps2 (w : World) (K : Nat) (ty : TypeId) (v : Value) (n : Nat) (l : List UInt8) (hown : Own w K v n l) (hK : K ≤ w.heap.size) (s : ByteArray) (hsz : n + s.size ≤ 140737488355328) :
    ∃ v' w', (Builtin.append_ #[23, 9] ty #[v, .string s]).run Tryd.prog w = .ok v' w' ∧ Own w' K v' (n + s.size) (l ++ s.data.toList) ∧ Below K w w' ∧ Oth 5 w w' := by
  obtain ⟨i, hi, hz0, hz1, hz2⟩ := info_parts infoB
  have ht := Tryd.underlying23
  have hu := Tryd.underlying9
  have hll := hown.1
  have hsl : s.data.toList.length = s.size := (Array.length_toList (xs := s.data))
  have hnew : ∀ (olds : List Value) (cap : Nat), olds = enc l → n + s.size ≤ cap → cap ≤ maxLen →
      Own (w.drew.alloc (.cells (olds.toArray ++ (enc s.data.toList).toArray ++ Builtin.zeroCells (Value.int .u8 0).cells (cap - (n + s.size))) 5)) K (.slice (some ⟨w.heap.size, 0, none⟩) (n + s.size) cap) (n + s.size) (l ++ s.data.toList) := by
    intro olds cap ho hcap hm
    subst ho
    refine ⟨by rw [List.length_append]; omega, .inr ⟨w.heap.size, cap, _, (0, 0), rfl, hK, heap_alloc_new w.drew _, hcap, hm, ?_, ?_, fun j _ hj => by simp at hj⟩⟩
    · have h1 : (Value.int IntKind.u8 0).cells.size = 1 := rfl
      have h2 : (enc l).length = n := by rw [enc_length]; exact hll
      have h3 : (enc s.data.toList).length = s.size := by rw [enc_length]; exact hsl
      simp only [Array.size_append, size_zeroCells, h1, List.size_toArray, h2, h3]
      omega
    · rw [enc_append]
      simp only [Array.toList_append]
      rw [List.take_append_of_le_length (by simp only [List.length_append, enc_length]; omega)]
      exact List.take_of_length_le (by simp only [List.length_append, enc_length]; omega)
  have hgb : ∀ o, Below K w (w.drew.alloc o) := fun o => (Below.refl K w).drew.alloc hK o
  have hf := Lib.run_firstCells_string (P := Tryd.prog) w 1 s
  rcases hown.2 with ⟨rfl, rfl⟩ | ⟨g, cap, cur, m, rfl, hg, hh, hn, hm, hs, htk, hfr⟩
  · rcases Nat.eq_zero_or_pos s.size with h0 | hk
    · have : s.data.toList = [] := List.eq_nil_of_length_eq_zero (by omega)
      rw [this, h0]
      refine ⟨.slice none 0 0, w, ?_, by simpa using hown, Below.refl _ _, Oth.refl _ _⟩
      rw [hz1.symm] at hf
      rw [h0] at hf
      simp [Builtin.append_, run_underlying ht, run_underlying hu, sizeOf, typeInfo, hi, Builtin.lenOf, h0, hf]
    · have hr := run_append_nil_string (P := Tryd.prog) w 23 9 ty 5 i (.int .u8 0) ht hu hi hz0 s hk (by omega) (by rw [hz2]; omega)
      have hl0 : l = [] := List.eq_nil_of_length_eq_zero hll
      subst hl0
      have h0 := hnew [] (grownCap w s.size 0 5) rfl (by rw [Nat.zero_add]; exact grownCap_ge _ _ _ _) (grownCap_le_maxLen _ _ _ _ (by unfold maxLen; omega))
      have e : (s.data.map (fun b => Value.int .u8 b.toNat)) = #[] ++ (enc s.data.toList).toArray := by
        apply Array.ext'
        simp [enc]
      rw [e] at hr
      exact ⟨_, _, hr, by simpa using h0, hgb _, Oth.new _ _ _⟩
  · by_cases hroom : n + s.size ≤ cap
    · obtain ⟨w', cur', hrun, hg', hs', ht', hb', ho', hz'⟩ := run_put Tryd.prog g 5 m (enc s.data.toList) n 0 cur w hh (by rw [enc_length]; omega) (fun j hj => hfr j (by rw [enc_length] at hj; omega)) enc_one
      refine ⟨.slice (some ⟨g, 0, none⟩) (n + s.size) cap, w', ?_, ⟨by rw [List.length_append]; omega, .inr ⟨g, cap, cur', m, rfl, hg, hg', hroom, hm, by omega, ?_, hfr⟩⟩, hb'.mono hg, Oth.put hh ho'⟩
      · rw [enc_str] at hf
        simp [Builtin.append_, run_underlying ht, run_underlying hu, sizeOf, typeInfo, hi, hz1, Builtin.lenOf, hroom, Addr.add_lit, hf, hrun]
      · rw [enc_append, ← htk]
        rw [enc_length, hsl] at ht'
        simpa using ht'
    · have hr := Lib.run_append_grow_string (P := Tryd.prog) w 23 9 ty 5 i (.int .u8 0) ht hu hi hz0 ⟨g, 0, none⟩ n cap (enc l) (by rw [enc_length, hz1]; omega)
        (fun j u hj => by
          have ha : (⟨g, 0, none⟩ : Addr).add j = ⟨g, j, none⟩ := by unfold Addr.add; split <;> simp_all
          rw [ha, cell_of_row w g j cur 5 m hh, ← Array.getElem?_toList]
          rw [← htk, List.getElem?_take] at hj
          split at hj
          · exact hj
          · cases hj) s (by omega) (by omega) (growslice_fits (by omega) (by rw [hz2]; omega))
      exact ⟨_, _, hr, hnew _ _ rfl (grownCap_ge _ _ _ _) (grownCap_le_maxLen _ _ _ _ (by unfold maxLen; omega)), hgb _, Oth.new _ _ _⟩

/-- append(s, x...), the source a string. -/
theorem wpList_apps2 {ops : Array Oper} {rest : List Oper} {o : Oper} {a : Act} {Q : Exit → Act → World → Prop} (w : World) (K : Nat) (v : Value) (n : Nat) (l : List UInt8)
    (hown : Own w K v n l) (hK : K ≤ w.heap.size) (src : ByteArray) (hsz : n + src.size ≤ 140737488355328) (hgd : o.guard = none) (s x : Operand)
    (ho : o.op = .call { callee := .builtin .append, args := #[s, x], argTypes := #[23, 9] })
    (hs : a.eval s = v) (hx : a.eval x = .string src)
    (h : ∀ v' w', Own w' K v' (n + src.size) (l ++ src.data.toList) → Below K w w' → Oth 5 w w' → wpList Tryd.prog ops Q rest (a.put o.dst v') w') :
    wpList Tryd.prog ops Q (o :: rest) a w := by
  refine wpList_plain hgd fun K' hK' => ?_
  obtain ⟨v', w', hrun, h1, h2, h3⟩ := run_apps2 w K o.type v n l hown hK src hsz
  unfold Oper.wp execOp
  simp only [ho, resolve, invoke, builtin, Sem.run_bind, Sem.run_pure, Result.andThen_ok, List.map_toArray, List.map_cons, List.map_nil, hs, hx, hrun]
  exact hK' _ _ (h v' w' h1 h2 h3)

end Go.Proofs.YtnkdcecpbjhdmaaDoor.Byt
