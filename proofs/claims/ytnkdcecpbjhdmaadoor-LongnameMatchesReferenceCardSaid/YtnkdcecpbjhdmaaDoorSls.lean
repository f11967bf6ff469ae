/-
  Slices of strings in memory: what reads as a list of strings, and what the call has made itself; append. After the byte slices' text.
-/
import Derived.Test.YtnkdcecpbjhdmaaDoorByt
namespace Go.Proofs.YtnkdcecpbjhdmaaDoor.Sls
open Go.RowKit Go.Proofs
open Go.Proofs.YtnkdcecpbjhdmaaDoor.Byt (run_put hid take_all)

/-- Blocks that are no rows of type t stay as they were. -/
def Oth (t : TypeId) (w w' : World) : Prop := ∀ (g : Nat) (o : Obj), w.heap[g]? = some o → (∀ cs m, o ≠ .cells cs t m) → w'.heap[g]? = some o
theorem Oth.refl (t : TypeId) (w : World) : Oth t w w := fun _ _ h _ => h
theorem Oth.trans {t : TypeId} {a b c : World} (h : Oth t a b) (k : Oth t b c) : Oth t a c := fun g o hg ho => k g o (h g o hg ho) ho
theorem Oth.below {t : TypeId} {w w' : World} (h : Below w.heap.size w w') : Oth t w w' := fun g o hg _ => by rw [h.block g (Array.getElem?_eq_some_iff.1 hg).1]; exact hg
theorem Oth.new (t : TypeId) (w : World) (o : Obj) : Oth t w (w.drew.alloc o) := Oth.below ((Below.refl _ w).drew.alloc (Nat.le_refl _) o)
theorem Oth.alloc (t : TypeId) (w : World) (o : Obj) : Oth t w (w.alloc o) := Oth.below ((Below.refl _ w).alloc (Nat.le_refl _) o)
theorem Oth.put {t : TypeId} {w w' : World} {g : Nat} {cs : Array Value} {m : Nat × Nat} (h : w.heap[g]? = some (.cells cs t m)) (ho : ∀ k, k ≠ g → w'.heap[k]? = w.heap[k]?) : Oth t w w' := fun k o hk hne => by
  by_cases e : k = g
  · subst e
    rw [h] at hk
    injection hk with hk
    exact absurd hk.symm (hne _ _)
  · rw [ho k e]; exact hk

/-- The block of a slice. -/
def blk : Value → Option Nat
  | .slice (some a) _ _ => some a.block
  | _ => none
/-- What an append may turn: the block of the slice; and where the result lies. -/
def Fr (v : Value) (w : World) (v' : Value) (w' : World) : Prop :=
  (∀ k, k < w.heap.size → blk v ≠ some k → w'.heap[k]? = w.heap[k]?) ∧ (∀ k, blk v' = some k → blk v = some k ∨ w.heap.size ≤ k)
theorem Fr.refl (v : Value) (w : World) : Fr v w v w := ⟨fun _ _ _ => rfl, fun _ h => .inl h⟩
theorem Fr.new (v : Value) (w : World) (o : Obj) (n c : Nat) : Fr v w (.slice (some ⟨w.heap.size, 0, none⟩) n c) (w.drew.alloc o) :=
  ⟨fun k hk _ => Below.heap_alloc w.drew o k hk, fun k h => .inr (by injection h with h; exact Nat.le_of_eq h)⟩
theorem Fr.put {w w' : World} {g : Nat} (ho : ∀ k, k ≠ g → w'.heap[k]? = w.heap[k]?) (n m c : Nat) : Fr (.slice (some ⟨g, 0, none⟩) n c) w (.slice (some ⟨g, 0, none⟩) m c) w' :=
  ⟨fun k _ hb => ho k fun e => hb (by rw [e]; rfl), fun _ h => .inl h⟩
theorem Fr.ahead {v v' : Value} {w w' : World} (o : Obj) (h : Fr v (w.alloc o) v' w') : Fr v w v' w' := by
  have hs : (w.alloc o).heap.size = w.heap.size + 1 := by simp
  refine ⟨fun k hk hb => ?_, fun k hb => ?_⟩
  · rw [h.1 k (by omega) hb]; exact Below.heap_alloc w o k hk
  · rcases h.2 k hb with h | h
    · exact .inl h
    · right; omega
/-- Two slices that do not share a block. -/
def Apart (v u : Value) : Prop := ∀ k, blk v = some k → blk u ≠ some k
theorem Apart.nil (u : Value) (n c : Nat) : Apart (.slice none n c) u := fun k h => by cases h

/-- A string slice that reads as a list of strings; it lies below block K. -/
def Rd (w : World) (K : Nat) (A : Option Addr) (n : Nat) (xs : List ByteArray) : Prop :=
  xs.length = n ∧ ∀ k (h : k < xs.length), ∃ b o : Nat, A = some ⟨b, o, none⟩ ∧ b < K ∧ w.cell? ⟨b, o + k, none⟩ = some (.string xs[k])

theorem Rd.below {w w' : World} {K n : Nat} {A : Option Addr} {xs : List ByteArray} (h : Rd w K A n xs) (hb : Below K w w') : Rd w' K A n xs :=
  ⟨h.1, fun k hk => by
    obtain ⟨b, o, e, hl, hc⟩ := h.2 k hk
    exact ⟨b, o, e, hl, by rw [hb.cell (p := ⟨b, o + k, none⟩) hl]; exact hc⟩⟩
theorem Rd.more {w : World} {K K' n : Nat} {A : Option Addr} {xs : List ByteArray} (h : Rd w K A n xs) (hK : K ≤ K') : Rd w K' A n xs :=
  ⟨h.1, fun k hk => by
    obtain ⟨b, o, e, hl, hc⟩ := h.2 k hk
    exact ⟨b, o, e, by omega, hc⟩⟩
theorem Rd.nil (w : World) (K : Nat) (A : Option Addr) : Rd w K A 0 [] := ⟨rfl, fun k hk => absurd hk (by simp)⟩
/-- A cut within. -/
theorem Rd.cut {w : World} {K n b o : Nat} {xs : List ByteArray} (h : Rd w K (some ⟨b, o, none⟩) n xs) (k : Nat) : Rd w K (some ⟨b, o + k, none⟩) (n - k) (xs.drop k) := by
  refine ⟨by rw [List.length_drop, h.1], fun j hj => ?_⟩
  rw [List.length_drop] at hj
  obtain ⟨b', o', e, hl, hcell⟩ := h.2 (k + j) (by omega)
  injection e with e
  injection e with e1 e2
  subst e1
  subst e2
  refine ⟨_, _, rfl, hl, ?_⟩
  rw [Nat.add_assoc, hcell, List.getElem_drop]
/-- The first bytes. -/
theorem Rd.pre {w : World} {K n m : Nat} {A : Option Addr} {xs : List ByteArray} (h : Rd w K A n xs) (hm : m ≤ n) : Rd w K A m (xs.take m) := by
  refine ⟨by rw [List.length_take, h.1]; omega, fun j hj => ?_⟩
  rw [List.length_take] at hj
  obtain ⟨b', o', e, hl, hcell⟩ := h.2 j (by omega)
  exact ⟨b', o', e, hl, by rw [hcell, List.getElem_take]⟩
/-- A cut at the end. -/
theorem Rd.cut_at {w : World} {K n : Nat} {A B : Option Addr} {xs : List ByteArray} (h : Rd w K A n xs) (k : Nat) (hk : n ≤ k) : Rd w K B (n - k) (xs.drop k) := by
  refine ⟨by rw [List.length_drop, h.1], fun j hj => ?_⟩
  rw [List.length_drop, h.1] at hj
  omega
theorem Rd.drewN {w : World} {K n : Nat} {A : Option Addr} {xs : List ByteArray} (h : Rd w K A n xs) (m : Nat) : Rd (w.drewN m) K A n xs := h


/-- Strings as cells. -/
def enc (l : List ByteArray) : List Value := l.map fun c => Value.string c
theorem enc_append (a b : List ByteArray) : enc (a ++ b) = enc a ++ enc b := by simp [enc]
theorem enc_length (a : List ByteArray) : (enc a).length = a.length := by simp [enc]
theorem enc_one {l : List ByteArray} : ∀ v ∈ enc l, v.oneCell' = true := by
  intro v hv
  unfold enc at hv
  rw [List.mem_map] at hv
  obtain ⟨c, _, rfl⟩ := hv
  rfl

/-- v is a string slice of n elements that the call has made, in a block from K on, none of whose cells is frozen; it reads l. -/
def Own (w : World) (K : Nat) (v : Value) (n : Nat) (l : List ByteArray) : Prop :=
  l.length = n ∧ ((v = .slice none 0 0 ∧ n = 0) ∨
    ∃ (g cap : Nat) (cur : Array Value) (m : Nat × Nat), v = .slice (some ⟨g, 0, none⟩) n cap ∧ K ≤ g ∧ w.heap[g]? = some (.cells cur 9 m) ∧ n ≤ cap ∧ cap ≤ maxLen ∧ cur.size = cap ∧ cur.toList.take n = enc l ∧
      ∀ j, j < cap → ¬(m.1 ≤ j ∧ j < m.2))

theorem infoB : (Tryd.prog.info? 9).map (fun i => (i.zero, i.size, i.bytes)) = some (some (.string ⟨#[]⟩), 1, 16) := by kernel_rfl

theorem Own.nil (w : World) (K : Nat) : Own w K (.slice none 0 0) 0 [] := ⟨rfl, .inl ⟨rfl, rfl⟩⟩
theorem Own.of_row {w : World} {K n : Nat} {v : Value} {l : List ByteArray} (h : w.ownsRow K 9 1 v n (enc l)) : Own w K v n l := by
  refine ⟨by have := h.1; rw [enc_length] at this; omega, ?_⟩
  rcases h.2 with h | ⟨g, cap, cur, hv, hg, hh, hn, hm, hs, ht⟩
  · exact .inl h
  · exact .inr ⟨g, cap, cur, (0, 0), hv, hg, hh, hn, hm, by omega, by rw [← ht]; simp, fun j _ hj => by simp at hj⟩

/-- A slice that was made reads as its bytes. -/
theorem Own.reads {w : World} {K n : Nat} {v : Value} {l : List ByteArray} (h : Own w K v n l) : ∃ A c, v = .slice A n c ∧ Rd w w.heap.size A n l ∧ n ≤ c ∧ c ≤ maxLen := by
  obtain ⟨hl, h⟩ := h
  rcases h with ⟨rfl, rfl⟩ | ⟨g, cap, cur, m, rfl, hg, hh, hn, hm, hs, ht, _⟩
  · exact ⟨none, 0, rfl, ⟨hl, fun k hk => by omega⟩, by omega, by unfold maxLen; omega⟩
  · refine ⟨_, cap, rfl, ⟨hl, fun k hk => ⟨g, 0, rfl, (Array.getElem?_eq_some_iff.1 hh).1, ?_⟩⟩, hn, hm⟩
    rw [cell_of_row w g (0 + k) cur 9 m hh, Nat.zero_add, ← Array.getElem?_toList]
    have h1 : (cur.toList.take n)[k]? = some (Value.string l[k]) := by rw [ht]; simp [enc, List.getElem?_eq_getElem hk]
    rw [List.getElem?_take] at h1
    split at h1
    · exact h1
    · cases h1

theorem Own.keep {w w' : World} {K n : Nat} {v : Value} {l : List ByteArray} (h : Own w K v n l) (hk : ∀ g, K ≤ g → g < w.heap.size → w'.heap[g]? = w.heap[g]?) : Own w' K v n l := by
  refine ⟨h.1, ?_⟩
  rcases h.2 with h | ⟨g, cap, cur, m, hv, hg, hh, r⟩
  · exact .inl h
  · exact .inr ⟨g, cap, cur, m, hv, hg, (hk g hg (Array.getElem?_eq_some_iff.1 hh).1).trans hh, r⟩
theorem Own.alloc {w : World} {K n : Nat} {v : Value} {l : List ByteArray} (h : Own w K v n l) (o : Obj) : Own (w.alloc o) K v n l := h.keep fun g _ hlt => Below.heap_alloc w o g hlt
theorem Own.drewN {w : World} {K n : Nat} {v : Value} {l : List ByteArray} (h : Own w K v n l) (m : Nat) : Own (w.drewN m) K v n l := h
theorem Own.below {w w' : World} {K n : Nat} {v : Value} {l : List ByteArray} (h : Own w K v n l) (hb : Below w.heap.size w w') : Own w' K v n l := h.keep fun g _ hlt => hb.block g hlt
theorem Own.more {w : World} {K K' n : Nat} {v : Value} {l : List ByteArray} (h : Own w K v n l) (hK : K' ≤ K) : Own w K' v n l := by
  refine ⟨h.1, ?_⟩
  rcases h.2 with h | ⟨g, cap, cur, m, hv, hg, r⟩
  · exact .inl h
  · exact .inr ⟨g, cap, cur, m, hv, by omega, r⟩

/-- append of bytes onto a slice of the call's own. -/
theorem run_app (w : World) (K : Nat) (ty : TypeId) (v : Value) (n : Nat) (l : List ByteArray) (hown : Own w K v n l) (hK : K ≤ w.heap.size)
    (ad : Addr) (k c : Nat) (src : List ByteArray) (hl : src.length = k) (hc : ∀ j u, (enc src)[j]? = some u → w.cell? (ad.add j) = some u) (hsz : n + k ≤ 1000000) :
    ∃ v' w', (Builtin.append_ #[22, 22] ty #[v, .slice (some ad) k c]).run Tryd.prog w = .ok v' w' ∧ Own w' K v' (n + k) (l ++ src) ∧ Below K w w' ∧ Oth 9 w w' ∧ Fr v w v' w' := by
  obtain ⟨i, hi, hz0, hz1, hz2⟩ := info_parts infoB
  have ht := Tryd.underlying22
  have hll := hown.1
  have hf := run_firstCells_some (P := Tryd.prog) w i.size k ad k c (enc src) (by rw [enc_length, hz1]; omega) hc
  have hnew : ∀ (olds : List Value) (cap : Nat), olds = enc l → n + k ≤ cap → cap ≤ maxLen →
      Own (w.drew.alloc (.cells (olds.toArray ++ (enc src).toArray ++ Builtin.zeroCells (Value.string ⟨#[]⟩).cells (cap - (n + k))) 9)) K (.slice (some ⟨w.heap.size, 0, none⟩) (n + k) cap) (n + k) (l ++ src) := by
    intro olds cap ho hcap hm
    subst ho
    refine ⟨by rw [List.length_append]; omega, .inr ⟨w.heap.size, cap, _, (0, 0), rfl, hK, heap_alloc_new w.drew _, hcap, hm, ?_, ?_, fun j _ hj => by simp at hj⟩⟩
    · have h1 : (Value.string ⟨#[]⟩).cells.size = 1 := rfl
      simp [size_zeroCells, enc_length, hll, hl, h1]; omega
    · rw [enc_append]
      simp only [Array.toList_append]
      rw [List.take_append_of_le_length (by simp [enc_length]; omega)]
      exact List.take_of_length_le (by simp [enc_length]; omega)
  have hgb : ∀ o, Below K w (w.drew.alloc o) := fun o => (Below.refl K w).drew.alloc hK o
  rcases hown.2 with ⟨rfl, rfl⟩ | ⟨g, cap, cur, m, rfl, hg, hh, hn, hm, hs, htk, hfr⟩
  · rcases Nat.eq_zero_or_pos k with rfl | hk
    · have : src = [] := List.eq_nil_of_length_eq_zero hl
      subst this
      refine ⟨.slice none 0 0, w, ?_, by simpa using hown, Below.refl _ _, Oth.refl _ _, Fr.refl _ _⟩
      simp [Builtin.append_, run_underlying ht, sizeOf, typeInfo, hi, Builtin.lenOf, hf]
    · have hr := run_append_nil (P := Tryd.prog) w 22 ty 9 i (.string ⟨#[]⟩) ht hi hz0 ad k c (enc src) (by rw [enc_length, hz1]; omega) hc hk (by omega) (by rw [hz2]; omega)
      have hl0 : l = [] := List.eq_nil_of_length_eq_zero hll
      subst hl0
      have h0 := hnew [] (grownCap w k 0 9) rfl (by rw [Nat.zero_add]; exact grownCap_ge _ _ _ _) (grownCap_le_maxLen _ _ _ _ (by unfold maxLen; omega))
      exact ⟨_, _, hr, by simpa using h0, hgb _, Oth.new _ _ _, Fr.new _ _ _ _ _⟩
  · have hz1' := hz1
    by_cases hroom : n + k ≤ cap
    · obtain ⟨w', cur', hrun, hg', hs', ht', hb', ho', hz'⟩ := run_put Tryd.prog g 9 m (enc src) n 0 cur w hh (by rw [enc_length]; omega) (fun j hj => hfr j (by rw [enc_length] at hj; omega)) enc_one
      refine ⟨.slice (some ⟨g, 0, none⟩) (n + k) cap, w', ?_, ⟨by rw [List.length_append]; omega, .inr ⟨g, cap, cur', m, rfl, hg, hg', hroom, hm, by omega, ?_, hfr⟩⟩, hb'.mono hg, Oth.put hh ho', Fr.put ho' _ _ _⟩
      · rw [hz1] at hf
        simp [Builtin.append_, run_underlying ht, sizeOf, typeInfo, hi, hz1, Builtin.lenOf, hroom, Addr.add_lit, hf, hrun]
      · rw [enc_append, ← htk]
        rw [enc_length, hl] at ht'
        simpa using ht'
    · have hr := run_append_grow (P := Tryd.prog) w 22 ty 9 i (.string ⟨#[]⟩) ht hi hz0 ⟨g, 0, none⟩ n cap (enc l) (by rw [enc_length, hz1]; omega)
        (fun j u hj => by
          have ha : (⟨g, 0, none⟩ : Addr).add j = ⟨g, j, none⟩ := by unfold Addr.add; split <;> simp_all
          rw [ha, cell_of_row w g j cur 9 m hh, ← Array.getElem?_toList]
          rw [← htk, List.getElem?_take] at hj
          split at hj
          · exact hj
          · cases hj) ad k c (enc src) (by rw [enc_length, hz1]; omega) hc (by omega) (by omega) (growslice_fits (by omega) (by rw [hz2]; omega))
      exact ⟨_, _, hr, hnew _ _ rfl (grownCap_ge _ _ _ _) (grownCap_le_maxLen _ _ _ _ (by unfold maxLen; omega)), hgb _, Oth.new _ _ _, Fr.new _ _ _ _ _⟩

/-- append(s, x...), the source a string slice that reads src. -/
theorem wpList_app {ops : Array Oper} {rest : List Oper} {o : Oper} {a : Act} {Q : Exit → Act → World → Prop} (w : World) (K : Nat) (v : Value) (n : Nat) (l : List ByteArray)
    (hown : Own w K v n l) (hK : K ≤ w.heap.size) (A : Option Addr) (k c B : Nat) (src : List ByteArray) (hr : Rd w B A k src) (hsz : n + k ≤ 1000000) (hgd : o.guard = none) (s x : Operand)
    (ho : o.op = .call { callee := .builtin .append, args := #[s, x], argTypes := #[22, 22] })
    (hs : a.eval s = v) (hx : a.eval x = .slice A k c)
    (h : ∀ v' w', Own w' K v' (n + k) (l ++ src) → Below K w w' → Oth 9 w w' → Fr v w v' w' → wpList Tryd.prog ops Q rest (a.put o.dst v') w') :
    wpList Tryd.prog ops Q (o :: rest) a w := by
  refine wpList_plain hgd fun K' hK' => ?_
  have hrun : ∃ v' w', (Builtin.append_ #[22, 22] o.type #[v, .slice A k c]).run Tryd.prog w = .ok v' w' ∧ Own w' K v' (n + k) (l ++ src) ∧ Below K w w' ∧ Oth 9 w w' ∧ Fr v w v' w' := by
    rcases A with _ | ad
    · have hk : k = 0 := by
        rcases Nat.eq_zero_or_pos k with h0 | h0
        · exact h0
        · obtain ⟨b, o', e, _⟩ := hr.2 0 (by have := hr.1; omega)
          cases e
      subst hk
      have hn : src = [] := List.eq_nil_of_length_eq_zero hr.1
      subst hn
      obtain ⟨i, hi, hz0, hz1, hz2⟩ := info_parts infoB
      have ht := Tryd.underlying22
      refine ⟨v, w, ?_, by simpa using hown, Below.refl _ _, Oth.refl _ _, Fr.refl _ _⟩
      rcases hown.2 with ⟨rfl, rfl⟩ | ⟨g, cap, cur, m, rfl, _, _, hnc, _⟩
      · simp [Builtin.append_, run_underlying ht, sizeOf, typeInfo, hi, Builtin.lenOf, Builtin.firstCells]
      · simp [Builtin.append_, run_underlying ht, sizeOf, typeInfo, hi, Builtin.lenOf, Builtin.firstCells, hnc, storeCells]
    · refine run_app w K o.type v n l hown hK ad k c src hr.1 (fun j u hj => ?_) hsz
      unfold enc at hj
      rw [List.getElem?_map] at hj
      rcases hx : src[j]? with _ | y
      · rw [hx] at hj; cases hj
      · rw [hx] at hj
        obtain ⟨hlt, rfl⟩ := List.getElem?_eq_some_iff.1 hx
        obtain ⟨b, o', e, _, hc⟩ := hr.2 j hlt
        injection e with e
        subst e
        have ha : (⟨b, o', none⟩ : Addr).add j = ⟨b, o' + j, none⟩ := by unfold Addr.add; split <;> simp_all
        rw [ha, hc]
        exact hj
  obtain ⟨v', w', hrun, h1, h2, h3, h4⟩ := hrun
  unfold Oper.wp execOp
  simp only [ho, resolve, invoke, builtin, Sem.run_bind, Sem.run_pure, Result.andThen_ok, List.map_toArray, List.map_cons, List.map_nil, hs, hx, hrun]
  exact hK' _ _ (h v' w' h1 h2 h3 h4)

/-- append of one byte: the walk has laid it in a block of one cell. -/
theorem wpList_push {ops : Array Oper} {rest : List Oper} {o : Oper} {a : Act} {Q : Exit → Act → World → Prop} (w : World) (K : Nat) (v : Value) (n : Nat) (l : List ByteArray) (u : ByteArray)
    (hown : Own w K v n l) (hK : K ≤ w.heap.size) (hn : n < 1000000) (hgd : o.guard = none) (s x : Operand)
    (ho : o.op = .call { callee := .builtin .append, args := #[s, x], argTypes := #[22, 22] })
    (hs : a.eval s = v) (hx : a.eval x = .slice (some ⟨w.heap.size, 0, none⟩) 1 1)
    (h : ∀ v' w', Own w' K v' (n + 1) (l ++ [u]) → Below K w w' → Oth 9 w w' → Fr v w v' w' → wpList Tryd.prog ops Q rest (a.put o.dst v') w') :
    wpList Tryd.prog ops Q (o :: rest) a (w.alloc (.cells #[.string u] 9)) := by
  refine wpList_app _ K v n l (hown.alloc _) (by simp; omega) (some ⟨w.heap.size, 0, none⟩) 1 1 (w.heap.size + 1) [u] ⟨rfl, fun k hk => ⟨w.heap.size, 0, rfl, by omega, ?_⟩⟩ (by omega) hgd s x ho hs hx
    (fun v' w' h1 h2 h3 h4 => h v' w' h1 (((Below.refl K w).alloc hK _).trans h2) ((Oth.alloc _ _ _).trans h3) (Fr.ahead _ h4))
  simp only [List.length_singleton] at hk
  obtain rfl : k = 0 := by omega
  simp

/-- A slice literal that has just been laid. -/
theorem Rd.lit (w : World) (l : List ByteArray) (cs : Array Value) (h : cs = (enc l).toArray) (n : Nat) (hn : l.length = n) (m : Nat × Nat := (0, 0)) : Rd (w.alloc (.cells cs 9 m)) (w.heap.size + 1) (some ⟨w.heap.size, 0, none⟩) n l := by
  subst h
  refine ⟨hn, fun k hk => ⟨_, 0, rfl, by omega, ?_⟩⟩
  rw [cell_of_row _ w.heap.size (0 + k) _ 9 m (heap_alloc_new w _), Nat.zero_add]
  simp [enc, List.getElem?_eq_getElem hk]

/-- A byte of a slice of the call's own may be read and written. -/
theorem Own.at_ {w : World} {K n : Nat} {v : Value} {l : List ByteArray} (h : Own w K v n l) {i : Nat} (hi : i < l.length) :
    ∃ g cap, v = .slice (some ⟨g, 0, none⟩) n cap ∧ K ≤ g ∧ w.cell? ⟨g, i, none⟩ = some (.string l[i]) ∧ w.frozen? ⟨g, i, none⟩ = false ∧
      ∀ u : ByteArray, Own (w.setCell ⟨g, i, none⟩ (.string u)) K v n (l.set i u) := by
  have hl := h.1
  rcases h.2 with ⟨rfl, rfl⟩ | ⟨g, cap, cur, m, rfl, hg, hh, hn, hm, hs, ht, hf⟩
  · omega
  · have hc : cur[i]? = some (Value.string l[i]) := by
      have h1 : (cur.toList.take n)[i]? = some (Value.string l[i]) := by rw [ht]; simp [enc, List.getElem?_eq_getElem hi]
      rw [List.getElem?_take, if_pos (by omega)] at h1
      simpa using h1
    refine ⟨g, cap, rfl, hg, by rw [cell_of_row w g i cur 9 m hh]; exact hc, ?_, fun u => ⟨by rw [List.length_set]; exact hl, .inr ⟨g, cap, cur.setIfInBounds i (.string u), m, rfl, hg, ?_, hn, hm, by simpa using hs, ?_, hf⟩⟩⟩
    · have := hf i (by omega)
      simp [World.frozen?, hh]
      omega
    · simp [World.setCell, Array.getElem?_modify, hh]
    · rw [Array.toList_setIfInBounds, List.take_set, ht]
      simp [enc, List.map_set]

/-- A slice literal without elements. -/
theorem Own.lit0 (w : World) (K : Nat) (hK : K ≤ w.heap.size) : Own (w.alloc (.cells #[] 9)) K (.slice (some ⟨w.heap.size, 0, none⟩) 0 0) 0 [] :=
  ⟨rfl, .inr ⟨w.heap.size, 0, #[], (0, 0), rfl, hK, heap_alloc_new w _, by omega, by unfold maxLen; omega, rfl, rfl, fun j hj => by omega⟩⟩
theorem Own.oth {w w' : World} {K n : Nat} {v : Value} {l : List ByteArray} (h : Own w K v n l) (ho : Oth 5 w w') : Own w' K v n l := by
  refine ⟨h.1, ?_⟩
  rcases h.2 with h | ⟨g, cap, cur, m, hv, hg, hh, r⟩
  · exact .inl h
  · exact .inr ⟨g, cap, cur, m, hv, hg, ho g _ hh (fun cs m' e => by injection e with _ e2; exact absurd e2 (by decide)), r⟩
theorem _root_.Go.Proofs.YtnkdcecpbjhdmaaDoor.Byt.Own.oth {w w' : World} {K n : Nat} {v : Value} {l : List UInt8} (h : Byt.Own w K v n l) (ho : Oth 9 w w') : Byt.Own w' K v n l := by
  refine ⟨h.1, ?_⟩
  rcases h.2 with h | ⟨g, cap, cur, m, hv, hg, hh, r⟩
  · exact .inl h
  · exact .inr ⟨g, cap, cur, m, hv, hg, ho g _ hh (fun cs m' e => by injection e with _ e2; exact absurd e2 (by decide)), r⟩
/-- What is owned stays behind an append onto another slice. -/
theorem Own.fr {w w' : World} {K n : Nat} {v u u' : Value} {l : List ByteArray} (h : Own w K v n l) (ho : Fr u w u' w') (ha : Apart v u) : Own w' K v n l := by
  refine ⟨h.1, ?_⟩
  rcases h.2 with h | ⟨g, cap, cur, m, hv, hg, hh, r⟩
  · exact .inl h
  · refine .inr ⟨g, cap, cur, m, hv, hg, (ho.1 g (Array.getElem?_eq_some_iff.1 hh).1 (ha g (by rw [hv]; rfl))).trans hh, r⟩
theorem Own.blk_lt {w : World} {K n : Nat} {v : Value} {l : List ByteArray} (h : Own w K v n l) {k : Nat} (hk : blk v = some k) : k < w.heap.size := by
  rcases h.2 with ⟨rfl, _⟩ | ⟨g, cap, cur, m, rfl, hg, hh, r⟩
  · cases hk
  · injection hk with hk; subst hk; exact (Array.getElem?_eq_some_iff.1 hh).1
theorem Apart.fr {w w' : World} {K n : Nat} {v u u' : Value} {l : List ByteArray} (ha : Apart v u) (h : Own w K v n l) (ho : Fr u w u' w') : Apart v u' := fun k hk hu => by
  rcases ho.2 k hu with h1 | h1
  · exact ha k hk h1
  · have := h.blk_lt hk; omega
theorem Apart.symm {v u : Value} (h : Apart v u) : Apart u v := fun k hu hv => h k hv hu
end Go.Proofs.YtnkdcecpbjhdmaaDoor.Sls
