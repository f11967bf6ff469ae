/-
  append of a string's bytes onto a byte slice of the call's own.
-/
import Derived.Test.YtnkdcecpbjhdmaaDoorByt
import Derived.Lib.AppendStr
namespace Go.Proofs.YtnkdcecpbjhdmaaDoor.Byt
open Go.RowKit Go.Proofs

theorem enc_str (s : ByteArray) : Lib.strCells s = enc s.data.toList := rfl

theorem run_apps (w : World) (K : Nat) (ty : TypeId) (v : Value) (n : Nat) (l : List UInt8) (hown : Own w K v n l) (hK : K ≤ w.heap.size) (s : ByteArray) (hsz : n + s.size ≤ 140737488355328) :
    ∃ v' w', (Builtin.append_ #[23, 9] ty #[v, .string s]).run Tryd.prog w = .ok v' w' ∧ Own w' K v' (n + s.size) (l ++ s.data.toList) ∧ Below K w w' := by
  obtain ⟨i, hi, hz0, hz1, hz2⟩ := info_parts infoB
  have ht := Tryd.underlying23
  have hu := Tryd.underlying9
  have hll := hown.1
  have hsl : s.data.toList.length = s.size := (Array.length_toList (xs := s.data))
  have hnew : ∀ (olds : List Value) (cap : Nat), olds = enc l → n + s.size ≤ cap → cap ≤ maxLen →
      Own (w.drew.alloc (.cells (olds.toArray ++ (enc s.data.toList).toArray ++ Builtin.zeroCells (Value.int .u8 0).cells (cap - (n + s.size))) 5)) K (.slice (some ⟨w.heap.size, 0, none⟩) (n + s.size) cap) (n + s.size) (l ++ s.data.toList) := by
    intro olds cap ho hcap hm
    subst ho
    refine ⟨by rw [List.length_append]; omega, .inr ⟨w.heap.size, cap, _, (0, 0), rfl, hK, heap_alloc_new w.drew _, hcap, hm, ?_, ?_, fun j _ hj => by simp at hj⟩⟩
    · have h1 : (Value.int IntKind.u8 0).cells.size = 1 := rfl
      have h2 : (enc l).length = n := by rw [enc_length]; exact hll
      have h3 : (enc s.data.toList).length = s.size := by rw [enc_length]; exact hsl
      simp only [Array.size_append, size_zeroCells, h1, List.size_toArray, h2, h3]
      omega
    · rw [enc_append]
      simp only [Array.toList_append]
      rw [List.take_append_of_le_length (by simp only [List.length_append, enc_length]; omega)]
      exact List.take_of_length_le (by simp only [List.length_append, enc_length]; omega)
  have hgb : ∀ o, Below K w (w.drew.alloc o) := fun o => (Below.refl K w).drew.alloc hK o
  have hf := Lib.run_firstCells_string (P := Tryd.prog) w 1 s
  rcases hown.2 with ⟨rfl, rfl⟩ | ⟨g, cap, cur, m, rfl, hg, hh, hn, hm, hs, htk, hfr⟩
  · rcases Nat.eq_zero_or_pos s.size with h0 | hk
    · have : s.data.toList = [] := List.eq_nil_of_length_eq_zero (by omega)
      rw [this, h0]
      refine ⟨.slice none 0 0, w, ?_, by simpa using hown, Below.refl _ _⟩
      rw [hz1.symm] at hf
      rw [h0] at hf
      simp [Builtin.append_, run_underlying ht, run_underlying hu, sizeOf, typeInfo, hi, Builtin.lenOf, h0, hf]
    · have hr := run_append_nil_string (P := Tryd.prog) w 23 9 ty 5 i (.int .u8 0) ht hu hi hz0 s hk (by omega) (by rw [hz2]; omega)
      have hl0 : l = [] := List.eq_nil_of_length_eq_zero hll
      subst hl0
      have h0 := hnew [] (grownCap w s.size 0 5) rfl (by rw [Nat.zero_add]; exact grownCap_ge _ _ _ _) (grownCap_le_maxLen _ _ _ _ (by unfold maxLen; omega))
      have e : (s.data.map (fun b => Value.int .u8 b.toNat)) = #[] ++ (enc s.data.toList).toArray := by
        apply Array.ext'
        simp [enc]
      rw [e] at hr
      exact ⟨_, _, hr, by simpa using h0, hgb _⟩
  · by_cases hroom : n + s.size ≤ cap
    · obtain ⟨w', cur', hrun, hg', hs', ht', hb', ho', hz'⟩ := run_put Tryd.prog g 5 m (enc s.data.toList) n 0 cur w hh (by rw [enc_length]; omega) (fun j hj => hfr j (by rw [enc_length] at hj; omega)) enc_one
      refine ⟨.slice (some ⟨g, 0, none⟩) (n + s.size) cap, w', ?_, ⟨by rw [List.length_append]; omega, .inr ⟨g, cap, cur', m, rfl, hg, hg', hroom, hm, by omega, ?_, hfr⟩⟩, hb'.mono hg⟩
      · rw [enc_str] at hf
        simp [Builtin.append_, run_underlying ht, run_underlying hu, sizeOf, typeInfo, hi, hz1, Builtin.lenOf, hroom, Addr.add_lit, hf, hrun]
      · rw [enc_append, ← htk]
        rw [enc_length, hsl] at ht'
        simpa using ht'
    · have hr := Lib.run_append_grow_string (P := Tryd.prog) w 23 9 ty 5 i (.int .u8 0) ht hu hi hz0 ⟨g, 0, none⟩ n cap (enc l) (by rw [enc_length, hz1]; omega)
        (fun j u hj => by
          have ha : (⟨g, 0, none⟩ : Addr).add j = ⟨g, j, none⟩ := by unfold Addr.add; split <;> simp_all
          rw [ha, cell_of_row w g j cur 5 m hh, ← Array.getElem?_toList]
          rw [← htk, List.getElem?_take] at hj
          split at hj
          · exact hj
          · cases hj) s (by omega) (by omega) (growslice_fits (by omega) (by rw [hz2]; omega))
      exact ⟨_, _, hr, hnew _ _ rfl (grownCap_ge _ _ _ _) (grownCap_le_maxLen _ _ _ _ (by unfold maxLen; omega)), hgb _⟩

/-- append(s, x...), the source a string. -/
theorem wpList_apps {ops : Array Oper} {rest : List Oper} {o : Oper} {a : Act} {Q : Exit → Act → World → Prop} (w : World) (K : Nat) (v : Value) (n : Nat) (l : List UInt8)
    (hown : Own w K v n l) (hK : K ≤ w.heap.size) (src : ByteArray) (hsz : n + src.size ≤ 140737488355328) (hgd : o.guard = none) (s x : Operand)
    (ho : o.op = .call { callee := .builtin .append, args := #[s, x], argTypes := #[23, 9] })
    (hs : a.eval s = v) (hx : a.eval x = .string src)
    (h : ∀ v' w', Own w' K v' (n + src.size) (l ++ src.data.toList) → Below K w w' → wpList Tryd.prog ops Q rest (a.put o.dst v') w') :
    wpList Tryd.prog ops Q (o :: rest) a w := by
  refine wpList_plain hgd fun K' hK' => ?_
  obtain ⟨v', w', hrun, h1, h2⟩ := run_apps w K o.type v n l hown hK src hsz
  unfold Oper.wp execOp
  simp only [ho, resolve, invoke, builtin, Sem.run_bind, Sem.run_pure, Result.andThen_ok, List.map_toArray, List.map_cons, List.map_nil, hs, hx, hrun]
  exact hK' _ _ (h v' w' h1 h2)

end Go.Proofs.YtnkdcecpbjhdmaaDoor.Byt
