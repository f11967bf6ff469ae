/-
  Byte slices in memory: what reads as a list of bytes, and what the call has made itself; append, make, and the conversions from and to strings. Plain mathematics of decimal and octal fields: the digits of a number, their values, and what is accepted as a field. No program is named here. The small functions of decfield: what they answer at every argument. Functions that only read byte slices: Blank and the comparison of byte slices. decfield.appendDigits and decfield.Format: the bytes that they make. decfield.Format: the field and the error number, at every argument. The reference's Text, Format and Parse. The reference's Format and Parse, at every argument. decfield.Parse, at every argument. The reference's Parse, at every argument. Format, Parse and Digits in the forms that callers want. The reference's joining of two byte slices.
-/
import Derived.Test.YtbcjbembhajgcaaDoorChecked
import Derived.WalkKit
import Derived.WalkSpells
import Derived.BigQuiet
import Derived.Deep.QuietTactic
import Derived.Lib.SlBytesConst
namespace Go.Proofs.YtbcjbembhajgcaaDoor.Byt
open Go.RowKit Go.Proofs

/-- Put a fact out of the walk's reach. -/
theorem hid {p : Prop} (h : p) : Hid p := h
theorem ret_bool {a b : Bool} (h : a = b) : Ending.returned (.bool a) = .returned (.bool b) := by rw [h]
theorem ret_int {k : IntKind} {a b : Int} (h : a = b) : Ending.returned (.int k a) = .returned (.int k b) := by rw [h]
theorem ret_str {a b : ByteArray} (h : a = b) : Ending.returned (.string a) = .returned (.string b) := by rw [h]

/-- A byte slice that reads as a list of bytes; it lies below block K. -/
def Rd (w : World) (K : Nat) (A : Option Addr) (n : Nat) (xs : List UInt8) : Prop :=
  xs.length = n ∧ ∀ k (h : k < xs.length), ∃ b o : Nat, A = some ⟨b, o, none⟩ ∧ b < K ∧ w.cell? ⟨b, o + k, none⟩ = some (.int .u8 (xs[k].toNat : Int))

theorem Rd.below {w w' : World} {K n : Nat} {A : Option Addr} {xs : List UInt8} (h : Rd w K A n xs) (hb : Below K w w') : Rd w' K A n xs :=
  ⟨h.1, fun k hk => by
    obtain ⟨b, o, e, hl, hc⟩ := h.2 k hk
    exact ⟨b, o, e, hl, by rw [hb.cell (p := ⟨b, o + k, none⟩) hl]; exact hc⟩⟩
theorem Rd.more {w : World} {K K' n : Nat} {A : Option Addr} {xs : List UInt8} (h : Rd w K A n xs) (hK : K ≤ K') : Rd w K' A n xs :=
  ⟨h.1, fun k hk => by
    obtain ⟨b, o, e, hl, hc⟩ := h.2 k hk
    exact ⟨b, o, e, by omega, hc⟩⟩
theorem Rd.nil (w : World) (K : Nat) (A : Option Addr) : Rd w K A 0 [] := ⟨rfl, fun k hk => absurd hk (by simp)⟩
/-- The first bytes. -/
theorem Rd.pre {w : World} {K n m : Nat} {A : Option Addr} {xs : List UInt8} (h : Rd w K A n xs) (hm : m ≤ n) : Rd w K A m (xs.take m) := by
  refine ⟨by rw [List.length_take, h.1]; omega, fun j hj => ?_⟩
  rw [List.length_take] at hj
  obtain ⟨b', o', e, hl, hcell⟩ := h.2 j (by omega)
  exact ⟨b', o', e, hl, by rw [hcell, List.getElem_take]⟩
theorem Rd.drewN {w : World} {K n : Nat} {A : Option Addr} {xs : List UInt8} (h : Rd w K A n xs) (m : Nat) : Rd (w.drewN m) K A n xs := h

theorem take_all {α : Type} {xs : List α} {n : Nat} (h : xs.length = n) : xs.take n = xs := List.take_of_length_le (by omega)

/-- Bytes as cells. -/
def enc (l : List UInt8) : List Value := l.map fun c => Value.int .u8 (c.toNat : Int)
theorem enc_append (a b : List UInt8) : enc (a ++ b) = enc a ++ enc b := by simp [enc]
theorem enc_length (a : List UInt8) : (enc a).length = a.length := by simp [enc]
theorem enc_one {l : List UInt8} : ∀ v ∈ enc l, v.oneCell' = true := by
  intro v hv
  unfold enc at hv
  rw [List.mem_map] at hv
  obtain ⟨c, _, rfl⟩ := hv
  rfl

/-- v is a byte slice of n elements that the call has made, in a block from K on, none of whose cells is frozen; it reads l. -/
def Own (w : World) (K : Nat) (v : Value) (n : Nat) (l : List UInt8) : Prop :=
  l.length = n ∧ ((v = .slice none 0 0 ∧ n = 0) ∨
    ∃ (g cap : Nat) (cur : Array Value) (m : Nat × Nat), v = .slice (some ⟨g, 0, none⟩) n cap ∧ K ≤ g ∧ w.heap[g]? = some (.cells cur 5 m) ∧ n ≤ cap ∧ cap ≤ maxLen ∧ cur.size = cap ∧ cur.toList.take n = enc l ∧
      ∀ j, j < cap → ¬(m.1 ≤ j ∧ j < m.2))

theorem infoB : (Tryd.prog.info? 5).map (fun i => (i.zero, i.size, i.bytes)) = some (some (.int .u8 0), 1, 1) := by kernel_rfl

theorem Own.nil (w : World) (K : Nat) : Own w K (.slice none 0 0) 0 [] := ⟨rfl, .inl ⟨rfl, rfl⟩⟩
/-- A slice that was made reads as its bytes. -/
theorem Own.reads {w : World} {K n : Nat} {v : Value} {l : List UInt8} (h : Own w K v n l) : ∃ A c, v = .slice A n c ∧ Rd w w.heap.size A n l ∧ n ≤ c ∧ c ≤ maxLen := by
  obtain ⟨hl, h⟩ := h
  rcases h with ⟨rfl, rfl⟩ | ⟨g, cap, cur, m, rfl, hg, hh, hn, hm, hs, ht, _⟩
  · exact ⟨none, 0, rfl, ⟨hl, fun k hk => by omega⟩, by omega, by unfold maxLen; omega⟩
  · refine ⟨_, cap, rfl, ⟨hl, fun k hk => ⟨g, 0, rfl, (Array.getElem?_eq_some_iff.1 hh).1, ?_⟩⟩, hn, hm⟩
    rw [cell_of_row w g (0 + k) cur 5 m hh, Nat.zero_add, ← Array.getElem?_toList]
    have h1 : (cur.toList.take n)[k]? = some (Value.int .u8 (l[k].toNat : Int)) := by rw [ht]; simp [enc, List.getElem?_eq_getElem hk]
    rw [List.getElem?_take] at h1
    split at h1
    · exact h1
    · cases h1

theorem Own.keep {w w' : World} {K n : Nat} {v : Value} {l : List UInt8} (h : Own w K v n l) (hk : ∀ g, K ≤ g → g < w.heap.size → w'.heap[g]? = w.heap[g]?) : Own w' K v n l := by
  refine ⟨h.1, ?_⟩
  rcases h.2 with h | ⟨g, cap, cur, m, hv, hg, hh, r⟩
  · exact .inl h
  · exact .inr ⟨g, cap, cur, m, hv, hg, (hk g hg (Array.getElem?_eq_some_iff.1 hh).1).trans hh, r⟩
theorem Own.alloc {w : World} {K n : Nat} {v : Value} {l : List UInt8} (h : Own w K v n l) (o : Obj) : Own (w.alloc o) K v n l := h.keep fun g _ hlt => Below.heap_alloc w o g hlt
theorem Own.drewN {w : World} {K n : Nat} {v : Value} {l : List UInt8} (h : Own w K v n l) (m : Nat) : Own (w.drewN m) K v n l := h
theorem Own.below {w w' : World} {K n : Nat} {v : Value} {l : List UInt8} (h : Own w K v n l) (hb : Below w.heap.size w w') : Own w' K v n l := h.keep fun g _ hlt => hb.block g hlt
theorem Own.more {w : World} {K K' n : Nat} {v : Value} {l : List UInt8} (h : Own w K v n l) (hK : K' ≤ K) : Own w K' v n l := by
  refine ⟨h.1, ?_⟩
  rcases h.2 with h | ⟨g, cap, cur, m, hv, hg, r⟩
  · exact .inl h
  · exact .inr ⟨g, cap, cur, m, hv, by omega, r⟩

/-- Cells put side by side into a row, none of them frozen. -/
theorem run_put (P : Program) (g : Nat) (t : TypeId) (m : Nat × Nat) : ∀ (vs : List Value) (o i : Nat) (cur : Array Value) (w : World), w.heap[g]? = some (.cells cur t m) → o + i + vs.length ≤ cur.size →
    (∀ j, j < o + i + vs.length → ¬(m.1 ≤ j ∧ j < m.2)) → (∀ v ∈ vs, v.oneCell' = true) →
    ∃ w' cur', (storeCells ⟨g, o, none⟩ vs i).run P w = .ok () w' ∧ w'.heap[g]? = some (.cells cur' t m) ∧ cur'.size = cur.size ∧ cur'.toList.take (o + i + vs.length) = cur.toList.take (o + i) ++ vs ∧ Below g w w' ∧
      (∀ k, k ≠ g → w'.heap[k]? = w.heap[k]?) ∧ w'.heap.size = w.heap.size := by
  intro vs
  induction vs with
  | nil =>
    intro o i cur w hg hl hm h1
    exact ⟨w, cur, by simp [storeCells], hg, rfl, by simp, Below.refl _ _, fun _ _ => rfl, rfl⟩
  | cons v rest ih =>
    intro o i cur w hg hl hm h1
    rw [List.length_cons] at hl hm
    have hi : o + i < cur.size := by omega
    have hadd : (⟨g, o, none⟩ : Addr).add i = ⟨g, o + i, none⟩ := by unfold Addr.add; split <;> simp_all
    have hcell : w.cell? ⟨g, o + i, none⟩ = some cur[o + i] := by simp [World.cell?, hg, hi]
    have hfro : w.frozen? ⟨g, o + i, none⟩ = false := by
      have := hm (o + i) (by omega)
      simp [World.frozen?, hg]
      omega
    have hst : (store ((⟨g, o, none⟩ : Addr).add i) v).run P w = .ok () (w.setCell ⟨g, o + i, none⟩ v) := by
      rw [hadd, run_store P w _ v _ (h1 v (by simp)), hcell]
      simp [hfro]
    have hg1 : (w.setCell ⟨g, o + i, none⟩ v).heap[g]? = some (.cells (cur.setIfInBounds (o + i) v) t m) := by
      simp [World.setCell, Array.getElem?_modify, hg]
    obtain ⟨w', cur', hrun, hg', hs', ht', hb', ho', hz'⟩ := ih o (i + 1) (cur.setIfInBounds (o + i) v) (w.setCell ⟨g, o + i, none⟩ v) hg1 (by simp; omega) (fun j hj => hm j (by omega)) (fun x hx => h1 x (by simp [hx]))
    refine ⟨w', cur', ?_, hg', by rw [hs']; simp, ?_, ((Below.refl g w).setCell (p := ⟨g, o + i, none⟩) (Nat.le_refl _) v).trans hb', fun k hk => ?_, ?_⟩
    · simp only [storeCells, Sem.run_bind, hst, Result.andThen_ok, hrun]
    · rw [show o + i + (v :: rest).length = o + (i + 1) + rest.length by rw [List.length_cons]; omega, ht', Array.toList_setIfInBounds, show o + (i + 1) = o + i + 1 by omega,
        List.take_succ_eq_append_getElem (by simp; omega), List.take_set_of_le (by omega)]
      simp
    · rw [ho' k hk, Below.heap_setCell _ _ _ _ (by exact hk)]
    · rw [hz']; simp [World.setCell]

/-- append of bytes onto a slice of the call's own. -/
theorem run_app (w : World) (K : Nat) (ty : TypeId) (v : Value) (n : Nat) (l : List UInt8) (hown : Own w K v n l) (hK : K ≤ w.heap.size)
    (ad : Addr) (k c : Nat) (src : List UInt8) (hl : src.length = k) (hc : ∀ j u, (enc src)[j]? = some u → w.cell? (ad.add j) = some u) (hsz : n + k ≤ 140737488355328) :
    ∃ v' w', (Builtin.append_ #[33, 33] ty #[v, .slice (some ad) k c]).run Tryd.prog w = .ok v' w' ∧ Own w' K v' (n + k) (l ++ src) ∧ Below K w w' := by
  obtain ⟨i, hi, hz0, hz1, hz2⟩ := info_parts infoB
  have ht := Tryd.underlying33
  have hll := hown.1
  have hf := run_firstCells_some (P := Tryd.prog) w i.size k ad k c (enc src) (by rw [enc_length, hz1]; omega) hc
  have hnew : ∀ (olds : List Value) (cap : Nat), olds = enc l → n + k ≤ cap → cap ≤ maxLen →
      Own (w.drew.alloc (.cells (olds.toArray ++ (enc src).toArray ++ Builtin.zeroCells (Value.int .u8 0).cells (cap - (n + k))) 5)) K (.slice (some ⟨w.heap.size, 0, none⟩) (n + k) cap) (n + k) (l ++ src) := by
    intro olds cap ho hcap hm
    subst ho
    refine ⟨by rw [List.length_append]; omega, .inr ⟨w.heap.size, cap, _, (0, 0), rfl, hK, heap_alloc_new w.drew _, hcap, hm, ?_, ?_, fun j _ hj => by simp at hj⟩⟩
    · have h1 : (Value.int IntKind.u8 0).cells.size = 1 := rfl
      simp [size_zeroCells, enc_length, hll, hl, h1]; omega
    · rw [enc_append]
      simp only [Array.toList_append]
      rw [List.take_append_of_le_length (by simp [enc_length]; omega)]
      exact List.take_of_length_le (by simp [enc_length]; omega)
  have hgb : ∀ o, Below K w (w.drew.alloc o) := fun o => (Below.refl K w).drew.alloc hK o
  rcases hown.2 with ⟨rfl, rfl⟩ | ⟨g, cap, cur, m, rfl, hg, hh, hn, hm, hs, htk, hfr⟩
  · rcases Nat.eq_zero_or_pos k with rfl | hk
    · have : src = [] := List.eq_nil_of_length_eq_zero hl
      subst this
      refine ⟨.slice none 0 0, w, ?_, by simpa using hown, Below.refl _ _⟩
      simp [Builtin.append_, run_underlying ht, sizeOf, typeInfo, hi, Builtin.lenOf, hf]
    · have hr := run_append_nil (P := Tryd.prog) w 33 ty 5 i (.int .u8 0) ht hi hz0 ad k c (enc src) (by rw [enc_length, hz1]; omega) hc hk (by omega) (by rw [hz2]; omega)
      have hl0 : l = [] := List.eq_nil_of_length_eq_zero hll
      subst hl0
      have h0 := hnew [] (grownCap w k 0 5) rfl (by rw [Nat.zero_add]; exact grownCap_ge _ _ _ _) (grownCap_le_maxLen _ _ _ _ (by unfold maxLen; omega))
      exact ⟨_, _, hr, by simpa using h0, hgb _⟩
  · have hz1' := hz1
    by_cases hroom : n + k ≤ cap
    · obtain ⟨w', cur', hrun, hg', hs', ht', hb', ho', hz'⟩ := run_put Tryd.prog g 5 m (enc src) n 0 cur w hh (by rw [enc_length]; omega) (fun j hj => hfr j (by rw [enc_length] at hj; omega)) enc_one
      refine ⟨.slice (some ⟨g, 0, none⟩) (n + k) cap, w', ?_, ⟨by rw [List.length_append]; omega, .inr ⟨g, cap, cur', m, rfl, hg, hg', hroom, hm, by omega, ?_, hfr⟩⟩, hb'.mono hg⟩
      · rw [hz1] at hf
        simp [Builtin.append_, run_underlying ht, sizeOf, typeInfo, hi, hz1, Builtin.lenOf, hroom, Addr.add_lit, hf, hrun]
      · rw [enc_append, ← htk]
        rw [enc_length, hl] at ht'
        simpa using ht'
    · have hr := run_append_grow (P := Tryd.prog) w 33 ty 5 i (.int .u8 0) ht hi hz0 ⟨g, 0, none⟩ n cap (enc l) (by rw [enc_length, hz1]; omega)
        (fun j u hj => by
          have ha : (⟨g, 0, none⟩ : Addr).add j = ⟨g, j, none⟩ := by unfold Addr.add; split <;> simp_all
          rw [ha, cell_of_row w g j cur 5 m hh, ← Array.getElem?_toList]
          rw [← htk, List.getElem?_take] at hj
          split at hj
          · exact hj
          · cases hj) ad k c (enc src) (by rw [enc_length, hz1]; omega) hc (by omega) (by omega) (growslice_fits (by omega) (by rw [hz2]; omega))
      exact ⟨_, _, hr, hnew _ _ rfl (grownCap_ge _ _ _ _) (grownCap_le_maxLen _ _ _ _ (by unfold maxLen; omega)), hgb _⟩

/-- append(s, x...), the source a byte slice that reads src. -/
theorem wpList_app {ops : Array Oper} {rest : List Oper} {o : Oper} {a : Act} {Q : Exit → Act → World → Prop} (w : World) (K : Nat) (v : Value) (n : Nat) (l : List UInt8)
    (hown : Own w K v n l) (hK : K ≤ w.heap.size) (A : Option Addr) (k c B : Nat) (src : List UInt8) (hr : Rd w B A k src) (hsz : n + k ≤ 140737488355328) (hgd : o.guard = none) (s x : Operand)
    (ho : o.op = .call { callee := .builtin .append, args := #[s, x], argTypes := #[33, 33] })
    (hs : a.eval s = v) (hx : a.eval x = .slice A k c)
    (h : ∀ v' w', Own w' K v' (n + k) (l ++ src) → Below K w w' → wpList Tryd.prog ops Q rest (a.put o.dst v') w') :
    wpList Tryd.prog ops Q (o :: rest) a w := by
  refine wpList_plain hgd fun K' hK' => ?_
  have hrun : ∃ v' w', (Builtin.append_ #[33, 33] o.type #[v, .slice A k c]).run Tryd.prog w = .ok v' w' ∧ Own w' K v' (n + k) (l ++ src) ∧ Below K w w' := by
    rcases A with _ | ad
    · have hk : k = 0 := by
        rcases Nat.eq_zero_or_pos k with h0 | h0
        · exact h0
        · obtain ⟨b, o', e, _⟩ := hr.2 0 (by have := hr.1; omega)
          cases e
      subst hk
      have hn : src = [] := List.eq_nil_of_length_eq_zero hr.1
      subst hn
      obtain ⟨i, hi, hz0, hz1, hz2⟩ := info_parts infoB
      have ht := Tryd.underlying33
      refine ⟨v, w, ?_, by simpa using hown, Below.refl _ _⟩
      rcases hown.2 with ⟨rfl, rfl⟩ | ⟨g, cap, cur, m, rfl, _, _, hnc, _⟩
      · simp [Builtin.append_, run_underlying ht, sizeOf, typeInfo, hi, Builtin.lenOf, Builtin.firstCells]
      · simp [Builtin.append_, run_underlying ht, sizeOf, typeInfo, hi, Builtin.lenOf, Builtin.firstCells, hnc, storeCells]
    · refine run_app w K o.type v n l hown hK ad k c src hr.1 (fun j u hj => ?_) hsz
      unfold enc at hj
      rw [List.getElem?_map] at hj
      rcases hx : src[j]? with _ | y
      · rw [hx] at hj; cases hj
      · rw [hx] at hj
        obtain ⟨hlt, rfl⟩ := List.getElem?_eq_some_iff.1 hx
        obtain ⟨b, o', e, _, hc⟩ := hr.2 j hlt
        injection e with e
        subst e
        have ha : (⟨b, o', none⟩ : Addr).add j = ⟨b, o' + j, none⟩ := by unfold Addr.add; split <;> simp_all
        rw [ha, hc]
        exact hj
  obtain ⟨v', w', hrun, h1, h2⟩ := hrun
  unfold Oper.wp execOp
  simp only [ho, resolve, invoke, builtin, Sem.run_bind, Sem.run_pure, Result.andThen_ok, List.map_toArray, List.map_cons, List.map_nil, hs, hx, hrun]
  exact hK' _ _ (h v' w' h1 h2)

/-- append of one byte: the walk has laid it in a block of one cell. -/
theorem wpList_push {ops : Array Oper} {rest : List Oper} {o : Oper} {a : Act} {Q : Exit → Act → World → Prop} (w : World) (K : Nat) (v : Value) (n : Nat) (l : List UInt8) (u : UInt8) (X : Int) (hX : X = (u.toNat : Int))
    (hown : Own w K v n l) (hK : K ≤ w.heap.size) (hn : n < 140737488355328) (hgd : o.guard = none) (s x : Operand)
    (ho : o.op = .call { callee := .builtin .append, args := #[s, x], argTypes := #[33, 33] })
    (hs : a.eval s = v) (hx : a.eval x = .slice (some ⟨w.heap.size, 0, none⟩) 1 1)
    (h : ∀ v' w', Own w' K v' (n + 1) (l ++ [u]) → Below K w w' → wpList Tryd.prog ops Q rest (a.put o.dst v') w') :
    wpList Tryd.prog ops Q (o :: rest) a (w.alloc (.cells #[.int .u8 X] 5)) := by
  subst hX
  refine wpList_app _ K v n l (hown.alloc _) (by simp; omega) (some ⟨w.heap.size, 0, none⟩) 1 1 (w.heap.size + 1) [u] ⟨rfl, fun k hk => ⟨w.heap.size, 0, rfl, by omega, ?_⟩⟩ (by omega) hgd s x ho hs hx
    (fun v' w' h1 h2 => h v' w' h1 (((Below.refl K w).alloc hK _).trans h2))
  simp only [List.length_singleton] at hk
  obtain rfl : k = 0 := by omega
  simp

/-- A slice literal that has just been laid. -/
theorem Rd.lit (w : World) (l : List UInt8) (cs : Array Value) (h : cs = (enc l).toArray) (n : Nat) (hn : l.length = n) (m : Nat × Nat := (0, 0)) : Rd (w.alloc (.cells cs 5 m)) (w.heap.size + 1) (some ⟨w.heap.size, 0, none⟩) n l := by
  subst h
  refine ⟨hn, fun k hk => ⟨_, 0, rfl, by omega, ?_⟩⟩
  rw [cell_of_row _ w.heap.size (0 + k) _ 5 m (heap_alloc_new w _), Nat.zero_add]
  simp [enc, List.getElem?_eq_getElem hk]

/-- A byte of a slice of the call's own may be read and written. -/
theorem Own.at_ {w : World} {K n : Nat} {v : Value} {l : List UInt8} (h : Own w K v n l) {i : Nat} (hi : i < l.length) :
    ∃ g cap, v = .slice (some ⟨g, 0, none⟩) n cap ∧ K ≤ g ∧ w.cell? ⟨g, i, none⟩ = some (.int .u8 (l[i].toNat : Int)) ∧ w.frozen? ⟨g, i, none⟩ = false ∧
      ∀ u : UInt8, Own (w.setCell ⟨g, i, none⟩ (.int .u8 (u.toNat : Int))) K v n (l.set i u) := by
  have hl := h.1
  rcases h.2 with ⟨rfl, rfl⟩ | ⟨g, cap, cur, m, rfl, hg, hh, hn, hm, hs, ht, hf⟩
  · omega
  · have hc : cur[i]? = some (Value.int .u8 (l[i].toNat : Int)) := by
      have h1 : (cur.toList.take n)[i]? = some (Value.int .u8 (l[i].toNat : Int)) := by rw [ht]; simp [enc, List.getElem?_eq_getElem hi]
      rw [List.getElem?_take, if_pos (by omega)] at h1
      simpa using h1
    refine ⟨g, cap, rfl, hg, by rw [cell_of_row w g i cur 5 m hh]; exact hc, ?_, fun u => ⟨by rw [List.length_set]; exact hl, .inr ⟨g, cap, cur.setIfInBounds i (.int .u8 (u.toNat : Int)), m, rfl, hg, ?_, hn, hm, by simpa using hs, ?_, hf⟩⟩⟩
    · have := hf i (by omega)
      simp [World.frozen?, hh]
      omega
    · simp [World.setCell, Array.getElem?_modify, hh]
    · rw [Array.toList_setIfInBounds, List.take_set, ht]
      simp [enc, List.map_set]

/-- A slice literal without elements. -/
theorem Own.lit0 (w : World) (K : Nat) (hK : K ≤ w.heap.size) : Own (w.alloc (.cells #[] 5)) K (.slice (some ⟨w.heap.size, 0, none⟩) 0 0) 0 [] :=
  ⟨rfl, .inr ⟨w.heap.size, 0, #[], (0, 0), rfl, hK, heap_alloc_new w _, by omega, by unfold maxLen; omega, rfl, rfl, fun j hj => by omega⟩⟩
end Go.Proofs.YtbcjbembhajgcaaDoor.Byt

namespace Go.Proofs.YtbcjbembhajgcaaDoor.Dec

/-- Induction by the last element. -/
theorem by_snoc {α : Type} {P : List α → Prop} (h0 : P []) (hs : ∀ l c, P l → P (l ++ [c])) : ∀ l, P l := by
  have h : ∀ l : List α, P l.reverse := fun l => by
    induction l with
    | nil => exact h0
    | cons c l ih => rw [List.reverse_cons]; exact hs _ _ ih
  intro l
  have := h l.reverse
  rwa [List.reverse_reverse] at this

end Go.Proofs.YtbcjbembhajgcaaDoor.Dec

namespace Go.Proofs.YtbcjbembhajgcaaDoor.Dec
open Go.RowKit Go.Proofs Go.Proofs.YtbcjbembhajgcaaDoor.Byt

/-- The numbers that are bases. -/
def vb (b : Int) : Bool := b == 8 || b == 10
end Go.Proofs.YtbcjbembhajgcaaDoor.Dec

namespace Go.Proofs.YtbcjbembhajgcaaDoor.Dec
open Go.RowKit Go.Proofs Go.Proofs.YtbcjbembhajgcaaDoor.Byt

end Go.Proofs.YtbcjbembhajgcaaDoor.Dec

namespace Go.Proofs.YtbcjbembhajgcaaDoor.Dec
open Go.RowKit Go.Proofs Go.Proofs.YtbcjbembhajgcaaDoor.Byt

end Go.Proofs.YtbcjbembhajgcaaDoor.Dec

namespace Go.Proofs.YtbcjbembhajgcaaDoor.Dec
open Go.RowKit Go.Proofs Go.Proofs.YtbcjbembhajgcaaDoor.Byt

/-- The length in a slot. -/
def lenOf : Value → Nat | .slice _ n _ => n | _ => 0

end Go.Proofs.YtbcjbembhajgcaaDoor.Dec

namespace Go.Proofs.YtbcjbembhajgcaaDoor.Dec
open Go.RowKit Go.Proofs Go.Proofs.YtbcjbembhajgcaaDoor.Byt

end Go.Proofs.YtbcjbembhajgcaaDoor.Dec

namespace Go.Proofs.YtbcjbembhajgcaaDoor.Dec
open Go.RowKit Go.Proofs Go.Proofs.YtbcjbembhajgcaaDoor.Byt

end Go.Proofs.YtbcjbembhajgcaaDoor.Dec

namespace Go.Proofs.YtbcjbembhajgcaaDoor.Dec
open Go.RowKit Go.Proofs Go.Proofs.YtbcjbembhajgcaaDoor.Byt

end Go.Proofs.YtbcjbembhajgcaaDoor.Dec

namespace Go.Proofs.YtbcjbembhajgcaaDoor.Dec
open Go.RowKit Go.Proofs Go.Proofs.YtbcjbembhajgcaaDoor.Byt

end Go.Proofs.YtbcjbembhajgcaaDoor.Dec

namespace Go.Proofs.YtbcjbembhajgcaaDoor.Dec
open Go.RowKit Go.Proofs Go.Proofs.YtbcjbembhajgcaaDoor.Byt

end Go.Proofs.YtbcjbembhajgcaaDoor.Dec

namespace Go.Proofs.YtbcjbembhajgcaaDoor.Byt
open Go.RowKit Go.Proofs

end Go.Proofs.YtbcjbembhajgcaaDoor.Byt
