/-
  Byte slices in memory: what reads as a list of bytes, and what the call has made itself; append, make, and the conversions from and to strings.
  Plain mathematics of decimal and octal fields: the digits of a number, their values, and what is accepted as a field. No program is named here.
  The small functions of decfield: what they answer at every argument.
  Functions that only read byte slices: Blank and the comparison of byte slices.
  decfield.appendDigits and decfield.Format: the bytes that they make.
  decfield.Format: the field and the error number, at every argument.
  The reference's Text, Format and Parse.
  The reference's Format and Parse, at every argument.
  decfield.Parse, at every argument.
  The reference's Parse, at every argument.
  Format, Parse and Digits in the forms that callers want.
  The reference's joining of two byte slices.
-/
import Derived.Test.YtcaepgggffkjpaaChecked
import Derived.WalkKit
import Derived.WalkSpells
import Derived.BigQuiet
import Derived.Deep.QuietTactic
import Derived.Lib.SlBytesConst
namespace Go.Proofs.Ytcaepgggffkjpaa.Byt
open Go.RowKit Go.Proofs

/-- Put a fact out of the walk's reach. -/
theorem hid {p : Prop} (h : p) : Hid p := h
theorem ret_bool {a b : Bool} (h : a = b) : Ending.returned (.bool a) = .returned (.bool b) := by rw [h]
theorem ret_int {k : IntKind} {a b : Int} (h : a = b) : Ending.returned (.int k a) = .returned (.int k b) := by rw [h]
theorem ret_str {a b : ByteArray} (h : a = b) : Ending.returned (.string a) = .returned (.string b) := by rw [h]

/-- A byte slice that reads as a list of bytes; it lies below block K. -/
def Rd (w : World) (K : Nat) (A : Option Addr) (n : Nat) (xs : List UInt8) : Prop :=
  xs.length = n ∧ ∀ k (h : k < xs.length), ∃ b o : Nat, A = some ⟨b, o, none⟩ ∧ b < K ∧ w.cell? ⟨b, o + k, none⟩ = some (.int .u8 (xs[k].toNat : Int))

theorem Rd.below {w w' : World} {K n : Nat} {A : Option Addr} {xs : List UInt8} (h : Rd w K A n xs) (hb : Below K w w') : Rd w' K A n xs :=
  ⟨h.1, fun k hk => by
    obtain ⟨b, o, e, hl, hc⟩ := h.2 k hk
    exact ⟨b, o, e, hl, by rw [hb.cell (p := ⟨b, o + k, none⟩) hl]; exact hc⟩⟩
theorem Rd.more {w : World} {K K' n : Nat} {A : Option Addr} {xs : List UInt8} (h : Rd w K A n xs) (hK : K ≤ K') : Rd w K' A n xs :=
  ⟨h.1, fun k hk => by
    obtain ⟨b, o, e, hl, hc⟩ := h.2 k hk
    exact ⟨b, o, e, by omega, hc⟩⟩
theorem Rd.nil (w : World) (K : Nat) (A : Option Addr) : Rd w K A 0 [] := ⟨rfl, fun k hk => absurd hk (by simp)⟩
/-- A cut within. -/
theorem Rd.cut {w : World} {K n b o : Nat} {xs : List UInt8} (h : Rd w K (some ⟨b, o, none⟩) n xs) (k : Nat) : Rd w K (some ⟨b, o + k, none⟩) (n - k) (xs.drop k) := by
  refine ⟨by rw [List.length_drop, h.1], fun j hj => ?_⟩
  rw [List.length_drop] at hj
  obtain ⟨b', o', e, hl, hcell⟩ := h.2 (k + j) (by omega)
  injection e with e
  injection e with e1 e2
  subst e1
  subst e2
  refine ⟨_, _, rfl, hl, ?_⟩
  rw [Nat.add_assoc, hcell, List.getElem_drop]
/-- The first bytes. -/
theorem Rd.pre {w : World} {K n m : Nat} {A : Option Addr} {xs : List UInt8} (h : Rd w K A n xs) (hm : m ≤ n) : Rd w K A m (xs.take m) := by
  refine ⟨by rw [List.length_take, h.1]; omega, fun j hj => ?_⟩
  rw [List.length_take] at hj
  obtain ⟨b', o', e, hl, hcell⟩ := h.2 j (by omega)
  exact ⟨b', o', e, hl, by rw [hcell, List.getElem_take]⟩
/-- A cut at the end. -/
theorem Rd.cut_at {w : World} {K n : Nat} {A B : Option Addr} {xs : List UInt8} (h : Rd w K A n xs) (k : Nat) (hk : n ≤ k) : Rd w K B (n - k) (xs.drop k) := by
  refine ⟨by rw [List.length_drop, h.1], fun j hj => ?_⟩
  rw [List.length_drop, h.1] at hj
  omega
theorem Rd.drewN {w : World} {K n : Nat} {A : Option Addr} {xs : List UInt8} (h : Rd w K A n xs) (m : Nat) : Rd (w.drewN m) K A n xs := h

theorem take_all {α : Type} {xs : List α} {n : Nat} (h : xs.length = n) : xs.take n = xs := List.take_of_length_le (by omega)

/-- Bytes as cells. -/
def enc (l : List UInt8) : List Value := l.map fun c => Value.int .u8 (c.toNat : Int)
theorem enc_append (a b : List UInt8) : enc (a ++ b) = enc a ++ enc b := by simp [enc]
theorem enc_length (a : List UInt8) : (enc a).length = a.length := by simp [enc]
theorem enc_one {l : List UInt8} : ∀ v ∈ enc l, v.oneCell' = true := by
  intro v hv
  unfold enc at hv
  rw [List.mem_map] at hv
  obtain ⟨c, _, rfl⟩ := hv
  rfl

/-- v is a byte slice of n elements that the call has made, in a block from K on, none of whose cells is frozen; it reads l. -/
def Own (w : World) (K : Nat) (v : Value) (n : Nat) (l : List UInt8) : Prop :=
  l.length = n ∧ ((v = .slice none 0 0 ∧ n = 0) ∨
    ∃ (g cap : Nat) (cur : Array Value) (m : Nat × Nat), v = .slice (some ⟨g, 0, none⟩) n cap ∧ K ≤ g ∧ w.heap[g]? = some (.cells cur 5 m) ∧ n ≤ cap ∧ cap ≤ maxLen ∧ cur.size = cap ∧ cur.toList.take n = enc l ∧
      ∀ j, j < cap → ¬(m.1 ≤ j ∧ j < m.2))

theorem infoB : (Try.prog.info? 5).map (fun i => (i.zero, i.size, i.bytes)) = some (some (.int .u8 0), 1, 1) := by kernel_rfl

theorem Own.nil (w : World) (K : Nat) : Own w K (.slice none 0 0) 0 [] := ⟨rfl, .inl ⟨rfl, rfl⟩⟩
theorem Own.of_row {w : World} {K n : Nat} {v : Value} {l : List UInt8} (h : w.ownsRow K 5 1 v n (enc l)) : Own w K v n l := by
  refine ⟨by have := h.1; rw [enc_length] at this; omega, ?_⟩
  rcases h.2 with h | ⟨g, cap, cur, hv, hg, hh, hn, hm, hs, ht⟩
  · exact .inl h
  · exact .inr ⟨g, cap, cur, (0, 0), hv, hg, hh, hn, hm, by omega, by rw [← ht]; simp, fun j _ hj => by simp at hj⟩

/-- A slice that was made reads as its bytes. -/
theorem Own.reads {w : World} {K n : Nat} {v : Value} {l : List UInt8} (h : Own w K v n l) : ∃ A c, v = .slice A n c ∧ Rd w w.heap.size A n l ∧ n ≤ c ∧ c ≤ maxLen := by
  obtain ⟨hl, h⟩ := h
  rcases h with ⟨rfl, rfl⟩ | ⟨g, cap, cur, m, rfl, hg, hh, hn, hm, hs, ht, _⟩
  · exact ⟨none, 0, rfl, ⟨hl, fun k hk => by omega⟩, by omega, by unfold maxLen; omega⟩
  · refine ⟨_, cap, rfl, ⟨hl, fun k hk => ⟨g, 0, rfl, (Array.getElem?_eq_some_iff.1 hh).1, ?_⟩⟩, hn, hm⟩
    rw [cell_of_row w g (0 + k) cur 5 m hh, Nat.zero_add, ← Array.getElem?_toList]
    have h1 : (cur.toList.take n)[k]? = some (Value.int .u8 (l[k].toNat : Int)) := by rw [ht]; simp [enc, List.getElem?_eq_getElem hk]
    rw [List.getElem?_take] at h1
    split at h1
    · exact h1
    · cases h1

theorem Own.keep {w w' : World} {K n : Nat} {v : Value} {l : List UInt8} (h : Own w K v n l) (hk : ∀ g, K ≤ g → g < w.heap.size → w'.heap[g]? = w.heap[g]?) : Own w' K v n l := by
  refine ⟨h.1, ?_⟩
  rcases h.2 with h | ⟨g, cap, cur, m, hv, hg, hh, r⟩
  · exact .inl h
  · exact .inr ⟨g, cap, cur, m, hv, hg, (hk g hg (Array.getElem?_eq_some_iff.1 hh).1).trans hh, r⟩
theorem Own.alloc {w : World} {K n : Nat} {v : Value} {l : List UInt8} (h : Own w K v n l) (o : Obj) : Own (w.alloc o) K v n l := h.keep fun g _ hlt => Below.heap_alloc w o g hlt
theorem Own.drewN {w : World} {K n : Nat} {v : Value} {l : List UInt8} (h : Own w K v n l) (m : Nat) : Own (w.drewN m) K v n l := h
theorem Own.below {w w' : World} {K n : Nat} {v : Value} {l : List UInt8} (h : Own w K v n l) (hb : Below w.heap.size w w') : Own w' K v n l := h.keep fun g _ hlt => hb.block g hlt
theorem Own.more {w : World} {K K' n : Nat} {v : Value} {l : List UInt8} (h : Own w K v n l) (hK : K' ≤ K) : Own w K' v n l := by
  refine ⟨h.1, ?_⟩
  rcases h.2 with h | ⟨g, cap, cur, m, hv, hg, r⟩
  · exact .inl h
  · exact .inr ⟨g, cap, cur, m, hv, by omega, r⟩

/-- Cells put side by side into a row, none of them frozen. -/
theorem run_put (P : Program) (g : Nat) (t : TypeId) (m : Nat × Nat) : ∀ (vs : List Value) (o i : Nat) (cur : Array Value) (w : World), w.heap[g]? = some (.cells cur t m) → o + i + vs.length ≤ cur.size →
    (∀ j, j < o + i + vs.length → ¬(m.1 ≤ j ∧ j < m.2)) → (∀ v ∈ vs, v.oneCell' = true) →
    ∃ w' cur', (storeCells ⟨g, o, none⟩ vs i).run P w = .ok () w' ∧ w'.heap[g]? = some (.cells cur' t m) ∧ cur'.size = cur.size ∧ cur'.toList.take (o + i + vs.length) = cur.toList.take (o + i) ++ vs ∧ Below g w w' ∧
      (∀ k, k ≠ g → w'.heap[k]? = w.heap[k]?) ∧ w'.heap.size = w.heap.size := by
  intro vs
  induction vs with
  | nil =>
    intro o i cur w hg hl hm h1
    exact ⟨w, cur, by simp [storeCells], hg, rfl, by simp, Below.refl _ _, fun _ _ => rfl, rfl⟩
  | cons v rest ih =>
    intro o i cur w hg hl hm h1
    rw [List.length_cons] at hl hm
    have hi : o + i < cur.size := by omega
    have hadd : (⟨g, o, none⟩ : Addr).add i = ⟨g, o + i, none⟩ := by unfold Addr.add; split <;> simp_all
    have hcell : w.cell? ⟨g, o + i, none⟩ = some cur[o + i] := by simp [World.cell?, hg, hi]
    have hfro : w.frozen? ⟨g, o + i, none⟩ = false := by
      have := hm (o + i) (by omega)
      simp [World.frozen?, hg]
      omega
    have hst : (store ((⟨g, o, none⟩ : Addr).add i) v).run P w = .ok () (w.setCell ⟨g, o + i, none⟩ v) := by
      rw [hadd, run_store P w _ v _ (h1 v (by simp)), hcell]
      simp [hfro]
    have hg1 : (w.setCell ⟨g, o + i, none⟩ v).heap[g]? = some (.cells (cur.setIfInBounds (o + i) v) t m) := by
      simp [World.setCell, Array.getElem?_modify, hg]
    obtain ⟨w', cur', hrun, hg', hs', ht', hb', ho', hz'⟩ := ih o (i + 1) (cur.setIfInBounds (o + i) v) (w.setCell ⟨g, o + i, none⟩ v) hg1 (by simp; omega) (fun j hj => hm j (by omega)) (fun x hx => h1 x (by simp [hx]))
    refine ⟨w', cur', ?_, hg', by rw [hs']; simp, ?_, ((Below.refl g w).setCell (p := ⟨g, o + i, none⟩) (Nat.le_refl _) v).trans hb', fun k hk => ?_, ?_⟩
    · simp only [storeCells, Sem.run_bind, hst, Result.andThen_ok, hrun]
    · rw [show o + i + (v :: rest).length = o + (i + 1) + rest.length by rw [List.length_cons]; omega, ht', Array.toList_setIfInBounds, show o + (i + 1) = o + i + 1 by omega,
        List.take_succ_eq_append_getElem (by simp; omega), List.take_set_of_le (by omega)]
      simp
    · rw [ho' k hk, Below.heap_setCell _ _ _ _ (by exact hk)]
    · rw [hz']; simp [World.setCell]

/-- A slice literal that has just been laid. -/
theorem Rd.lit (w : World) (l : List UInt8) (cs : Array Value) (h : cs = (enc l).toArray) (n : Nat) (hn : l.length = n) (m : Nat × Nat := (0, 0)) : Rd (w.alloc (.cells cs 5 m)) (w.heap.size + 1) (some ⟨w.heap.size, 0, none⟩) n l := by
  subst h
  refine ⟨hn, fun k hk => ⟨_, 0, rfl, by omega, ?_⟩⟩
  rw [cell_of_row _ w.heap.size (0 + k) _ 5 m (heap_alloc_new w _), Nat.zero_add]
  simp [enc, List.getElem?_eq_getElem hk]

/-- A byte of a slice of the call's own may be read and written. -/
theorem Own.at_ {w : World} {K n : Nat} {v : Value} {l : List UInt8} (h : Own w K v n l) {i : Nat} (hi : i < l.length) :
    ∃ g cap, v = .slice (some ⟨g, 0, none⟩) n cap ∧ K ≤ g ∧ w.cell? ⟨g, i, none⟩ = some (.int .u8 (l[i].toNat : Int)) ∧ w.frozen? ⟨g, i, none⟩ = false ∧
      ∀ u : UInt8, Own (w.setCell ⟨g, i, none⟩ (.int .u8 (u.toNat : Int))) K v n (l.set i u) := by
  have hl := h.1
  rcases h.2 with ⟨rfl, rfl⟩ | ⟨g, cap, cur, m, rfl, hg, hh, hn, hm, hs, ht, hf⟩
  · omega
  · have hc : cur[i]? = some (Value.int .u8 (l[i].toNat : Int)) := by
      have h1 : (cur.toList.take n)[i]? = some (Value.int .u8 (l[i].toNat : Int)) := by rw [ht]; simp [enc, List.getElem?_eq_getElem hi]
      rw [List.getElem?_take, if_pos (by omega)] at h1
      simpa using h1
    refine ⟨g, cap, rfl, hg, by rw [cell_of_row w g i cur 5 m hh]; exact hc, ?_, fun u => ⟨by rw [List.length_set]; exact hl, .inr ⟨g, cap, cur.setIfInBounds i (.int .u8 (u.toNat : Int)), m, rfl, hg, ?_, hn, hm, by simpa using hs, ?_, hf⟩⟩⟩
    · have := hf i (by omega)
      simp [World.frozen?, hh]
      omega
    · simp [World.setCell, Array.getElem?_modify, hh]
    · rw [Array.toList_setIfInBounds, List.take_set, ht]
      simp [enc, List.map_set]

/-- A slice literal without elements. -/
theorem Own.lit0 (w : World) (K : Nat) (hK : K ≤ w.heap.size) : Own (w.alloc (.cells #[] 5)) K (.slice (some ⟨w.heap.size, 0, none⟩) 0 0) 0 [] :=
  ⟨rfl, .inr ⟨w.heap.size, 0, #[], (0, 0), rfl, hK, heap_alloc_new w _, by omega, by unfold maxLen; omega, rfl, rfl, fun j hj => by omega⟩⟩
theorem u8_wrap (z : Int) : ∃ u : UInt8, IntKind.u8.wrap z = (u.toNat : Int) := by
  refine ⟨UInt8.ofNat (z % 256).toNat, ?_⟩
  rw [UInt8.toNat_ofNat']
  simp [IntKind.wrap, IntKind.bits, IntKind.signed]
  omega
end Go.Proofs.Ytcaepgggffkjpaa.Byt

namespace Go.Proofs.Ytcaepgggffkjpaa.Dec

/-- The number of digits of n in base B, by fuel. -/
def ndF (B : Nat) : Nat → Nat → Nat
  | 0, _ => 1
  | f + 1, n => if n < B then 1 else ndF B f (n / B) + 1
def nd (B n : Nat) : Nat := ndF B n n

/-- The digits of n in base B, by fuel. -/
def txF (B : Nat) : Nat → Nat → List UInt8
  | 0, n => [UInt8.ofNat (48 + n % B)]
  | f + 1, n => if n < B then [UInt8.ofNat (48 + n % B)] else txF B f (n / B) ++ [UInt8.ofNat (48 + n % B)]
def tx (B n : Nat) : List UInt8 := txF B n n

theorem ndF_more (B : Nat) (hB : 2 ≤ B) : ∀ f g n, n ≤ f → n ≤ g → ndF B f n = ndF B g n := by
  intro f
  induction f with
  | zero =>
    intro g n hf _
    obtain rfl : n = 0 := by omega
    cases g with
    | zero => rfl
    | succ g => simp [ndF]; omega
  | succ f ih =>
    intro g n hf hg
    cases g with
    | zero =>
      obtain rfl : n = 0 := by omega
      simp [ndF]; omega
    | succ g =>
      simp only [ndF]
      by_cases h : n < B
      · rw [if_pos h, if_pos h]
      · have hl : n / B < n := Nat.div_lt_self (by omega) hB
        rw [if_neg h, if_neg h, ih g (n / B) (by omega) (by omega)]

theorem txF_more (B : Nat) (hB : 2 ≤ B) : ∀ f g n, n ≤ f → n ≤ g → txF B f n = txF B g n := by
  intro f
  induction f with
  | zero =>
    intro g n hf _
    obtain rfl : n = 0 := by omega
    cases g with
    | zero => rfl
    | succ g => simp [txF]; omega
  | succ f ih =>
    intro g n hf hg
    cases g with
    | zero =>
      obtain rfl : n = 0 := by omega
      simp [txF]; omega
    | succ g =>
      simp only [txF]
      by_cases h : n < B
      · rw [if_pos h, if_pos h]
      · have hl : n / B < n := Nat.div_lt_self (by omega) hB
        rw [if_neg h, if_neg h, ih g (n / B) (by omega) (by omega)]

theorem nd_small {B n : Nat} (h : n < B) : nd B n = 1 := by
  unfold nd
  cases n with
  | zero => rfl
  | succ n => simp only [ndF]; rw [if_pos h]
theorem nd_big {B n : Nat} (hB : 2 ≤ B) (h : B ≤ n) : nd B n = nd B (n / B) + 1 := by
  have hl : n / B < n := Nat.div_lt_self (by omega) hB
  unfold nd
  cases n with
  | zero => omega
  | succ n =>
    rw [ndF, if_neg (by omega), ndF_more B hB n ((n + 1) / B) ((n + 1) / B) (by omega) (Nat.le_refl _)]
theorem tx_small {B n : Nat} (h : n < B) : tx B n = [UInt8.ofNat (48 + n)] := by
  unfold tx
  cases n with
  | zero => simp [txF]
  | succ n => simp only [txF]; rw [if_pos h, Nat.mod_eq_of_lt h]
theorem tx_big {B n : Nat} (hB : 2 ≤ B) (h : B ≤ n) : tx B n = tx B (n / B) ++ [UInt8.ofNat (48 + n % B)] := by
  have hl : n / B < n := Nat.div_lt_self (by omega) hB
  unfold tx
  cases n with
  | zero => omega
  | succ n =>
    rw [txF, if_neg (by omega), txF_more B hB n ((n + 1) / B) ((n + 1) / B) (by omega) (Nat.le_refl _)]

theorem nd_pos (B n : Nat) : 1 ≤ nd B n := by
  unfold nd
  cases n with
  | zero => exact Nat.le_refl _
  | succ n => simp only [ndF]; split <;> omega

/-- A rule of induction: small numbers, and numbers whose quotient has been treated. -/
theorem by_digits {B : Nat} (hB : 2 ≤ B) {P : Nat → Prop} (hs : ∀ n, n < B → P n) (hb : ∀ n, B ≤ n → P (n / B) → P n) : ∀ n, P n := by
  intro n
  induction n using Nat.strongRecOn with
  | _ n ih =>
    by_cases h : n < B
    · exact hs n h
    · exact hb n (by omega) (ih _ (Nat.div_lt_self (by omega) hB))

theorem tx_length {B : Nat} (hB : 2 ≤ B) : ∀ n, (tx B n).length = nd B n :=
  by_digits hB (fun n h => by rw [tx_small h, nd_small h]; rfl) (fun n h ih => by rw [tx_big hB h, nd_big hB h, List.length_append, ih]; rfl)

/-- The powers of the base about a number. -/
theorem pow_le {B : Nat} (hB : 2 ≤ B) : ∀ n, 1 ≤ n → B ^ (nd B n - 1) ≤ n := by
  refine by_digits hB (fun n h h1 => ?_) (fun n h ih _ => ?_)
  · rw [nd_small h]; simpa using h1
  · have h1 : 1 ≤ n / B := (Nat.le_div_iff_mul_le (by omega)).2 (by omega)
    have := ih h1
    rw [nd_big hB h, Nat.add_sub_cancel]
    have hp := nd_pos B (n / B)
    obtain ⟨k, hk⟩ : ∃ k, nd B (n / B) = k + 1 := ⟨nd B (n / B) - 1, by omega⟩
    rw [hk] at this ⊢
    rw [Nat.add_sub_cancel] at this
    rw [Nat.pow_succ]
    exact (Nat.le_div_iff_mul_le (by omega)).1 this
theorem lt_pow {B : Nat} (hB : 2 ≤ B) : ∀ n, n < B ^ nd B n := by
  refine by_digits hB (fun n h => ?_) (fun n h ih => ?_)
  · rw [nd_small h]; simpa using h
  · rw [nd_big hB h, Nat.pow_succ]
    exact (Nat.div_lt_iff_lt_mul (by omega)).1 ih
theorem nd_le_of_lt {B : Nat} (hB : 2 ≤ B) {n k : Nat} (h1 : 1 ≤ k) (h : n < B ^ k) : nd B n ≤ k := by
  by_cases h0 : n = 0
  · subst h0; rw [nd_small (by omega)]; exact h1
  · have hp := pow_le hB n (by omega)
    by_cases hk : nd B n ≤ k
    · exact hk
    · have : B ^ k ≤ B ^ (nd B n - 1) := Nat.pow_le_pow_right (by omega) (by omega)
      omega
theorem nd_mono {B : Nat} (hB : 2 ≤ B) {n m : Nat} (h : n ≤ m) : nd B n ≤ nd B m :=
  nd_le_of_lt hB (nd_pos B m) (Nat.lt_of_le_of_lt h (lt_pow hB m))
theorem nd_lt_64 {B n : Nat} (hB : 2 ≤ B) (hn : n < 9223372036854775808) : nd B n ≤ 63 := by
  refine nd_le_of_lt hB (by omega) (Nat.lt_of_lt_of_le hn ?_)
  calc 9223372036854775808 = 2 ^ 63 := by decide +kernel
    _ ≤ B ^ 63 := Nat.pow_le_pow_left hB 63

/-- The digit at a place. -/
theorem tx_at {B : Nat} (hB : 2 ≤ B) : ∀ n k, k < nd B n → (tx B n)[k]? = some (UInt8.ofNat (48 + n / B ^ (nd B n - 1 - k) % B)) := by
  refine by_digits hB (fun n h k hk => ?_) (fun n h ih k hk => ?_)
  · rw [nd_small h] at hk ⊢
    obtain rfl : k = 0 := by omega
    rw [tx_small h]; simp [Nat.mod_eq_of_lt h]
  · rw [nd_big hB h] at hk ⊢
    rw [tx_big hB h, List.getElem?_append, tx_length hB]
    by_cases h1 : k < nd B (n / B)
    · rw [if_pos h1, ih k h1, Nat.div_div_eq_div_mul]
      congr 5
      obtain ⟨j, hj⟩ : ∃ j, nd B (n / B) = k + j + 1 := ⟨nd B (n / B) - 1 - k, by omega⟩
      rw [hj, show k + j + 1 - 1 - k = j by omega, show k + j + 1 + 1 - 1 - k = j + 1 by omega, Nat.pow_succ, Nat.mul_comm]
    · obtain rfl : k = nd B (n / B) := by omega
      rw [if_neg h1, Nat.sub_self, Nat.add_sub_cancel, Nat.sub_self]
      simp

/-- Induction by the last element. -/
theorem by_snoc {α : Type} {P : List α → Prop} (h0 : P []) (hs : ∀ l c, P l → P (l ++ [c])) : ∀ l, P l := by
  have h : ∀ l : List α, P l.reverse := fun l => by
    induction l with
    | nil => exact h0
    | cons c l ih => rw [List.reverse_cons]; exact hs _ _ ih
  intro l
  have := h l.reverse
  rwa [List.reverse_reverse] at this

/-- A digit of the base. -/
def isD (B : Nat) (c : UInt8) : Bool := decide (48 ≤ c.toNat) && decide (c.toNat < 48 + B)
/-- The number that digits denote. -/
def val (B : Nat) (l : List UInt8) : Nat := l.foldl (fun n c => n * B + (c.toNat - 48)) 0
theorem val_snoc (B : Nat) (l : List UInt8) (c : UInt8) : val B (l ++ [c]) = val B l * B + (c.toNat - 48) := by simp [val]
theorem val_nil (B : Nat) : val B [] = 0 := rfl
theorem isD_iff {B : Nat} {c : UInt8} : isD B c = true ↔ 48 ≤ c.toNat ∧ c.toNat < 48 + B := by simp [isD]

theorem toNat_dig {B n : Nat} (hB : B ≤ 10) (h : n < B) : (UInt8.ofNat (48 + n)).toNat = 48 + n := by
  rw [UInt8.toNat_ofNat']; omega

theorem tx_digits {B : Nat} (hB : 2 ≤ B) (hB' : B ≤ 10) : ∀ n, ∀ c ∈ tx B n, isD B c = true := by
  refine by_digits hB (fun n h c hc => ?_) (fun n h ih c hc => ?_)
  · rw [tx_small h, List.mem_singleton] at hc
    subst hc
    rw [isD_iff, toNat_dig hB' h]; omega
  · rw [tx_big hB h, List.mem_append, List.mem_singleton] at hc
    rcases hc with hc | rfl
    · exact ih c hc
    · have := Nat.mod_lt n (show 0 < B by omega)
      rw [isD_iff, toNat_dig hB' this]; omega
theorem val_tx {B : Nat} (hB : 2 ≤ B) (hB' : B ≤ 10) : ∀ n, val B (tx B n) = n := by
  refine by_digits hB (fun n h => ?_) (fun n h ih => ?_)
  · rw [tx_small h, ← List.nil_append [_], val_snoc, val_nil, toNat_dig hB' h]; omega
  · rw [tx_big hB h, val_snoc, ih, toNat_dig hB' (Nat.mod_lt n (by omega))]
    have := Nat.div_add_mod n B
    rw [Nat.mul_comm] at this
    omega

/-- A value of digits is less than the power. -/
theorem val_lt {B : Nat} : ∀ l : List UInt8, (∀ c ∈ l, isD B c = true) → val B l < B ^ l.length := by
  refine by_snoc (fun _ => by simp [val]) (fun l c ih h => ?_)
  · have h1 := ih fun x hx => h x (by simp [hx])
    have hc := isD_iff.1 (h c (by simp))
    rw [val_snoc, List.length_append, List.length_singleton, Nat.pow_succ]
    have : (val B l + 1) * B ≤ B ^ l.length * B := Nat.mul_le_mul_right B h1
    rw [Nat.add_mul] at this
    omega

/-- The leading digits end where the first other byte stands. -/
theorem takeWhile_at {α : Type} {p : α → Bool} : ∀ (l : List α) (i : Nat), (∀ c ∈ l.take i, p c = true) → (∀ c, l[i]? = some c → p c = false) → l.takeWhile p = l.take i ∧ l.dropWhile p = l.drop i := by
  intro l
  induction l with
  | nil => intro i _ _; simp
  | cons x l ih =>
    intro i h1 h2
    cases i with
    | zero =>
      have := h2 x (by simp)
      simp [this]
    | succ i =>
      have hx := h1 x (by simp)
      have := ih i (fun c hc => h1 c (by simp [hc])) (fun c hc => h2 c (by simpa using hc))
      simp [hx, this]

/-- What is accepted as a field: digits without superfluous ones, then spaces. -/
def parse (B : Nat) (l : List UInt8) : Option Nat :=
  if ((l.dropWhile (isD B)).all (· == 32) && (l.takeWhile (isD B)).length == nd B (val B (l.takeWhile (isD B)))) = true then some (val B (l.takeWhile (isD B))) else none

theorem space_not_digit {B : Nat} : isD B 32 = false := by
  simp [isD]

/-- Digits in the right number are the digits of their value. -/
theorem tx_val {B : Nat} (hB : 2 ≤ B) (hB' : B ≤ 10) : ∀ l : List UInt8, (∀ c ∈ l, isD B c = true) → l.length = nd B (val B l) → tx B (val B l) = l := by
  refine by_snoc (fun _ h => ?_) (fun l c ih hd hl => ?_)
  · have := nd_pos B (val B []); simp at h; omega
  · have hc := isD_iff.1 (hd c (by simp))
    have hdl : ∀ c ∈ l, isD B c = true := fun x hx => hd x (by simp [hx])
    rw [val_snoc] at hl ⊢
    rw [List.length_append, List.length_singleton] at hl
    have hq : (val B l * B + (c.toNat - 48)) / B = val B l := by
      rw [Nat.mul_comm, Nat.mul_add_div (by omega), Nat.div_eq_of_lt (by omega)]; omega
    have hm : (val B l * B + (c.toNat - 48)) % B = c.toNat - 48 := by
      rw [Nat.mul_comm, Nat.mul_add_mod, Nat.mod_eq_of_lt (by omega)]
    have hcc : UInt8.ofNat (48 + (c.toNat - 48)) = c := by
      rw [show 48 + (c.toNat - 48) = c.toNat by omega]; simp
    by_cases h : val B l * B + (c.toNat - 48) < B
    · rw [nd_small h] at hl
      obtain rfl : l = [] := List.eq_nil_of_length_eq_zero (by omega)
      rw [tx_small h, val_nil, Nat.zero_mul, Nat.zero_add, hcc]; rfl
    · rw [nd_big hB (by omega), hq] at hl
      rw [tx_big hB (by omega), hq, hm, hcc, ih hdl (by omega)]

theorem parse_some {B : Nat} (hB : 2 ≤ B) (hB' : B ≤ 10) {l : List UInt8} {n : Nat} (h : parse B l = some n) :
    nd B n ≤ l.length ∧ l = tx B n ++ List.replicate (l.length - nd B n) 32 := by
  unfold parse at h
  split at h
  · rename_i hc
    rw [Bool.and_eq_true, List.all_eq_true, beq_iff_eq] at hc
    obtain ⟨h1, h2⟩ := hc
    injection h with h
    have hd : ∀ c ∈ l.takeWhile (isD B), isD B c = true := fun c hc => by
      have := List.all_takeWhile (p := isD B) (l := l)
      exact List.all_eq_true.1 this c hc
    have ht := tx_val hB hB' _ hd h2
    rw [h] at ht h2
    have hsplit : l.takeWhile (isD B) ++ l.dropWhile (isD B) = l := List.takeWhile_append_dropWhile
    have hlen := congrArg List.length hsplit
    rw [List.length_append, h2] at hlen
    refine ⟨by omega, ?_⟩
    rw [ht]
    refine hsplit.symm.trans ?_
    congr 1
    refine List.eq_replicate_iff.2 ⟨by omega, fun b hb => by simpa using h1 b hb⟩
  · cases h

theorem parse_tx {B : Nat} (hB : 2 ≤ B) (hB' : B ≤ 10) (n k : Nat) : parse B (tx B n ++ List.replicate k 32) = some n := by
  have h := takeWhile_at (p := isD B) (tx B n ++ List.replicate k 32) (tx B n).length
    (fun c hc => tx_digits hB hB' n c (by simpa using hc))
    (fun c hc => by
      rw [List.getElem?_append_right (Nat.le_refl _), Nat.sub_self] at hc
      have := List.mem_of_getElem? hc
      rw [List.mem_replicate] at this
      rw [this.2]; exact space_not_digit)
  rw [List.take_left', List.drop_left'] at h <;> try rfl
  unfold parse
  rw [h.1, h.2, val_tx hB hB', tx_length hB]
  simp

/-- Accepting is being the field of the number. -/
theorem parse_iff {B : Nat} (hB : 2 ≤ B) (hB' : B ≤ 10) {l : List UInt8} {n : Nat} :
    parse B l = some n ↔ nd B n ≤ l.length ∧ l = tx B n ++ List.replicate (l.length - nd B n) 32 :=
  ⟨parse_some hB hB', fun h => by rw [h.2]; exact parse_tx hB hB' _ _⟩

/-- The field of a number in a width. -/
def field (B n w : Nat) : List UInt8 := tx B n ++ List.replicate (w - nd B n) 32
theorem field_length {B n w : Nat} (hB : 2 ≤ B) (h : nd B n ≤ w) : (field B n w).length = w := by
  rw [field, List.length_append, tx_length hB, List.length_replicate]; omega
theorem parse_field {B : Nat} (hB : 2 ≤ B) (hB' : B ≤ 10) (n w : Nat) : parse B (field B n w) = some n := parse_tx hB hB' _ _

/-- The value of no more than 18 digits. -/
theorem val_small {B : Nat} (hB' : B ≤ 10) {l : List UInt8} (h : ∀ c ∈ l, isD B c = true) (hl : l.length ≤ 18) : val B l < 1000000000000000000 := by
  refine Nat.lt_of_lt_of_le (val_lt l h) (Nat.le_trans (Nat.pow_le_pow_left hB' _) (Nat.le_trans (Nat.pow_le_pow_right (by omega) hl) (by decide +kernel)))

/-- What is accepted, told at the end of the leading digits. -/
theorem parse_at {B : Nat} {l : List UInt8} {k : Nat} (h1 : ∀ c ∈ l.take k, isD B c = true) (h2 : ∀ c, l[k]? = some c → isD B c = false) (hk : k ≤ l.length) :
    parse B l = if ((l.drop k).all (· == 32)) = true ∧ k = nd B (val B (l.take k)) then some (val B (l.take k)) else none := by
  obtain ⟨e1, e2⟩ := takeWhile_at l k h1 h2
  unfold parse
  rw [e1, e2, List.length_take, Nat.min_eq_left hk]
  simp only [Bool.and_eq_true, beq_iff_eq]
/-- Digits, then something that is neither a digit nor followed by spaces alone. -/
theorem parse_bad {B : Nat} {l : List UInt8} {k : Nat} (h1 : ∀ c ∈ l.take k, isD B c = true) (h2 : ∀ c, l[k]? = some c → isD B c = false) (hk : k ≤ l.length) (h3 : (l.drop k).all (· == 32) = false) : parse B l = none := by
  rw [parse_at h1 h2 hk, if_neg (by rw [h3]; simp)]
end Go.Proofs.Ytcaepgggffkjpaa.Dec

namespace Go.Proofs.Ytcaepgggffkjpaa.Dec
open Go.RowKit Go.Proofs Go.Proofs.Ytcaepgggffkjpaa.Byt

/-- The numbers that are bases. -/
def vb (b : Int) : Bool := b == 8 || b == 10
theorem vb_iff {b : Int} : vb b = true ↔ b = 8 ∨ b = 10 := by simp [vb]

/-- The numbers that are widths. -/
def vw (n : Int) : Bool := decide (1 ≤ n) && decide (n ≤ 18)
theorem vw_iff {b : Int} : vw b = true ↔ 1 ≤ b ∧ b ≤ 18 := by simp [vw]
/-- Digits: the number of digits, where there are any. -/
def dgs (n b : Int) : Int := if 0 ≤ n ∧ vb b = true then (nd b.toNat n.toNat : Int) else 0

/-- After some divisions: what is left, and how many digits have been counted. -/
def DgRel (B n : Nat) (c r : Value) : Prop := ∃ k q : Nat, c = .int .i64 (k : Int) ∧ r = .int .i64 (q : Int) ∧ q ≤ n ∧ k ≤ 64 ∧ ((q = 0 ∧ k = nd B n) ∨ (0 < q ∧ k + nd B q = nd B n))
theorem DgRel.start {B n : Nat} (hB : 2 ≤ B) : DgRel B n (.int .i64 1) (.int .i64 ((n / B : Nat) : Int)) := by
  refine ⟨1, n / B, rfl, rfl, Nat.div_le_self _ _, by omega, ?_⟩
  by_cases h : n < B
  · exact .inl ⟨Nat.div_eq_of_lt h, (nd_small h).symm⟩
  · have := nd_big hB (n := n) (by omega)
    exact .inr ⟨(Nat.le_div_iff_mul_le (by omega)).2 (by omega), by omega⟩
theorem DgRel.next {B n k q : Nat} (hB : 2 ≤ B) (hn : n < 9223372036854775808) (hq : q ≤ n) (h : k + nd B q = nd B n) :
    DgRel B n (.int .i64 ((k : Int) + 1)) (.int .i64 ((q / B : Nat) : Int)) := by
  have h64 := nd_lt_64 hB hn
  have hp := nd_pos B q
  refine ⟨k + 1, q / B, by simp, rfl, Nat.le_trans (Nat.div_le_self _ _) hq, by omega, ?_⟩
  by_cases hs : q < B
  · rw [nd_small hs] at h
    exact .inl ⟨Nat.div_eq_of_lt hs, h⟩
  · refine .inr ⟨(Nat.le_div_iff_mul_le (by omega)).2 (by omega), ?_⟩
    rw [nd_big hB (by omega)] at h
    omega

theorem quo_bd (q b : Nat) : 0 ≤ (q : Int) / (b : Int) ∧ (q : Int) / (b : Int) ≤ q :=
  ⟨Int.ediv_nonneg (by omega) (by omega), Int.ediv_le_self _ (by omega)⟩

end Go.Proofs.Ytcaepgggffkjpaa.Dec

namespace Go.Proofs.Ytcaepgggffkjpaa.Dec
open Go.RowKit Go.Proofs Go.Proofs.Ytcaepgggffkjpaa.Byt

/-- Only spaces. -/
def spaces (xs : List UInt8) : Bool := xs.all (· == 32)

end Go.Proofs.Ytcaepgggffkjpaa.Dec

namespace Go.Proofs.Ytcaepgggffkjpaa.Dec
open Go.RowKit Go.Proofs Go.Proofs.Ytcaepgggffkjpaa.Byt

/-- The powers in the loops: the quotient by a power, its digit. -/
theorem pow_step {b n d j : Nat} (hb : 8 ≤ b) (hd : d = nd b n) (hj : j + 1 < d) : b ^ j * b ≤ n := by
  have hn : 1 ≤ n := by
    rcases Nat.eq_zero_or_pos n with h | h
    · subst h; rw [nd_small (by omega)] at hd; omega
    · exact h
  have h := pow_le (B := b) (by omega) n hn
  rw [← Nat.pow_succ]
  exact Nat.le_trans (Nat.pow_le_pow_right (by omega) (by omega)) h

/-- The first loop: the unit is a power. -/
def Unit1 (b d : Nat) (u j : Value) : Prop := ∃ k : Nat, j = .int .i64 (k : Int) ∧ k + 1 ≤ d ∧ u = .int .i64 ((b ^ k : Nat) : Int)

/-- The second loop: what has been appended, and the unit of the next digit. -/
def Unit2 (w : World) (K b n m d : Nat) (l : List UInt8) (v u j : Value) (W : World) : Prop :=
  ∃ k q : Nat, j = .int .i64 (k : Int) ∧ k ≤ d ∧ u = .int .i64 (q : Int) ∧ q = (if k < d then b ^ (d - 1 - k) else 0) ∧ Own W K v (m + k) (l ++ (tx b n).take k) ∧ Below K w W

theorem digit_at {b n d k q : Nat} (hb : 8 ≤ b) (hb3 : b ≤ 10) (hd : d = nd b n) (hk : k < d) (hq : q = (if k < d then b ^ (d - 1 - k) else 0)) :
    1 ≤ q ∧ ∃ p r c : Nat, ((n : Int) / (q : Int) = (p : Int) ∧ (p : Int) % (b : Int) = (r : Int) ∧ (q : Int) / (b : Int) = (c : Int)) ∧ (r < 10 ∧ p ≤ n ∧ c ≤ n) ∧ (tx b n)[k]? = some (UInt8.ofNat (48 + r)) ∧
      c = (if k + 1 < d then b ^ (d - 1 - (k + 1)) else 0) := by
  rw [if_pos hk] at hq
  have hpos : 1 ≤ q := by rw [hq]; exact Nat.pow_pos (by omega)
  refine ⟨hpos, n / q, n / q % b, q / b, ⟨by simp, by simp, by simp⟩, ⟨?_, Nat.div_le_self _ _, ?_⟩, ?_, ?_⟩
  · have := Nat.mod_lt (n / q) (show 0 < b by omega); omega
  · have hqn : q ≤ n + 1 := by
      rcases Nat.eq_zero_or_pos n with h | h
      · subst h
        rw [nd_small (by omega)] at hd
        rw [hq, show d - 1 - k = 0 by omega]; simp
      · have := pow_le (B := b) (by omega) n h
        have h2 : b ^ (d - 1 - k) ≤ b ^ (nd b n - 1) := Nat.pow_le_pow_right (by omega) (by omega)
        omega
    have h8 : q / b ≤ q / 8 := Nat.div_le_div_left hb (by omega)
    omega
  · rw [tx_at (by omega) n k (by omega), hq, hd]
  · by_cases h1 : k + 1 < d
    · rw [if_pos h1, hq]
      obtain ⟨j, hj⟩ : ∃ j, d - 1 - k = j + 1 := ⟨d - 1 - (k + 1), by omega⟩
      rw [hj, show d - 1 - (k + 1) = j by omega, Nat.pow_succ, Nat.mul_div_cancel _ (by omega)]
    · rw [if_neg h1, hq, show d - 1 - k = 0 by omega, Nat.pow_zero]
      exact Nat.div_eq_of_lt (by omega)

end Go.Proofs.Ytcaepgggffkjpaa.Dec

namespace Go.Proofs.Ytcaepgggffkjpaa.Dec
open Go.RowKit Go.Proofs Go.Proofs.Ytcaepgggffkjpaa.Byt

/-- The error number of Format. -/
def ferr (n b w : Int) : Int := if vb b = true ∧ vw w = true then (if 0 ≤ n ∧ (nd b.toNat n.toNat : Int) ≤ w then 0 else 9) else 13
/-- The bytes of Format. -/
def fout (n b w : Int) : List UInt8 := if ferr n b w = 0 then field b.toNat n.toNat w.toNat else []

theorem ferr_13 {n b w : Int} (h : ¬(vb b = true ∧ vw w = true)) : ferr n b w = 13 ∧ fout n b w = [] := by
  have : ferr n b w = 13 := if_neg h
  exact ⟨this, by unfold fout; rw [this]; rfl⟩
theorem ferr_9 {n b w : Int} (h : vb b = true ∧ vw w = true) (h2 : ¬(0 ≤ n ∧ (nd b.toNat n.toNat : Int) ≤ w)) : ferr n b w = 9 ∧ fout n b w = [] := by
  have : ferr n b w = 9 := by unfold ferr; rw [if_pos h, if_neg h2]
  exact ⟨this, by unfold fout; rw [this]; rfl⟩
theorem ferr_0 {n b w : Int} (h : vb b = true ∧ vw w = true) (h2 : 0 ≤ n ∧ (nd b.toNat n.toNat : Int) ≤ w) : ferr n b w = 0 ∧ fout n b w = field b.toNat n.toNat w.toNat := by
  have : ferr n b w = 0 := by unfold ferr; rw [if_pos h, if_pos h2]
  exact ⟨this, by unfold fout; rw [this]; rfl⟩

/-- What Format gives. -/
def Formats (n b wd : Int) (w : World) (e : Ending) (w' : World) : Prop :=
  ∃ v, e = .returned (.tuple #[v, .int .i64 (ferr n b wd)]) ∧ Own w' w.heap.size v (fout n b wd).length (fout n b wd) ∧ Below w.heap.size w w'

theorem Formats.empty {n b wd : Int} {w : World} {k : Int} (h : ferr n b wd = k ∧ fout n b wd = []) : Formats n b wd w (.returned (.tuple #[.slice none 0 0, .int .i64 k])) w := by
  refine ⟨_, by rw [h.1], ?_, Below.refl _ _⟩
  rw [h.2]; exact Own.nil _ _

/-- The length in a slot. -/
def lenOf : Value → Nat | .slice _ n _ => n | _ => 0

end Go.Proofs.Ytcaepgggffkjpaa.Dec

namespace Go.Proofs.Ytcaepgggffkjpaa.Dec
open Go.RowKit Go.Proofs Go.Proofs.Ytcaepgggffkjpaa.Byt

theorem digit_str : ∀ n : Nat, n < 10 → (ByteArray.mk #[48, 49, 50, 51, 52, 53, 54, 55, 56, 57]).extract n (n + 1) = ByteArray.mk #[UInt8.ofNat (48 + n)] := by decide +kernel

theorem str_append (a b : List UInt8) : ByteArray.mk a.toArray ++ ByteArray.mk b.toArray = ByteArray.mk (a ++ b).toArray := by
  apply ByteArray.ext
  simp

end Go.Proofs.Ytcaepgggffkjpaa.Dec

namespace Go.Proofs.Ytcaepgggffkjpaa.Dec
open Go.RowKit Go.Proofs Go.Proofs.Ytcaepgggffkjpaa.Byt

theorem below_drewN {K : Nat} (w : World) (m : Nat) : Below K w (w.drewN m) := ⟨rfl, rfl, rfl, Nat.le_refl _, fun _ _ => rfl⟩

theorem Formats.drewN {n b wd : Int} {w : World} {k : Int} (m : Nat) (h : ferr n b wd = k ∧ fout n b wd = []) : Formats n b wd w (.returned (.tuple #[.slice none 0 0, .int .i64 k])) (w.drewN m) := by
  refine ⟨_, by rw [h.1], ?_, below_drewN _ _⟩
  rw [h.2]; exact Own.nil _ _

end Go.Proofs.Ytcaepgggffkjpaa.Dec

namespace Go.Proofs.Ytcaepgggffkjpaa.Dec
open Go.RowKit Go.Proofs Go.Proofs.Ytcaepgggffkjpaa.Byt

/-- The error number of Parse. -/
def perr (l : List UInt8) (b : Int) : Int := if vb b = true ∧ vw (l.length : Int) = true then (if (parse b.toNat l).isSome = true then 0 else 3) else 13
/-- The number of Parse. -/
def pval (l : List UInt8) (b : Int) : Int := if vb b = true ∧ vw (l.length : Int) = true then (((parse b.toNat l).getD 0 : Nat) : Int) else 0

theorem perr_13 {l : List UInt8} {b : Int} (h : ¬(vb b = true ∧ vw (l.length : Int) = true)) : perr l b = 13 ∧ pval l b = 0 := ⟨if_neg h, if_neg h⟩
theorem perr_3 {l : List UInt8} {b : Int} (h : vb b = true ∧ vw (l.length : Int) = true) (h2 : parse b.toNat l = none) : perr l b = 3 ∧ pval l b = 0 := by
  unfold perr pval
  rw [if_pos h, if_pos h, h2]
  exact ⟨rfl, rfl⟩
theorem perr_0 {l : List UInt8} {b : Int} (h : vb b = true ∧ vw (l.length : Int) = true) {n : Nat} (h2 : parse b.toNat l = some n) : perr l b = 0 ∧ pval l b = (n : Int) := by
  unfold perr pval
  rw [if_pos h, if_pos h, h2]
  exact ⟨rfl, rfl⟩

theorem ret_ints {k : IntKind} {a b c d : Int} (h : a = c) (h2 : b = d) : Ending.returned (.tuple #[.int k a, .int k b]) = .returned (.tuple #[.int k c, .int k d]) := by rw [h, h2]

/-- After k digits. -/
def PRel (b n : Nat) (l : List UInt8) (v c i : Value) : Prop :=
  ∃ k x : Nat, v = .int .i64 (x : Int) ∧ c = .int .i64 (k : Int) ∧ i = .int .i64 (k : Int) ∧ k ≤ n ∧ x < 1000000000000000000 ∧ Hid (x = val b (l.take k) ∧ ∀ u ∈ l.take k, isD b u = true)

theorem PRel.step {b n : Nat} {l : List UInt8} {k x : Nat} (hb3 : b ≤ 10) (hl : l.length = n) (hn : n ≤ 18) (hk : k < n) (h : x = val b (l.take k) ∧ ∀ u ∈ l.take k, isD b u = true) (hd : isD b (l[k]'(by omega)) = true) :
    x * b + ((l[k]'(by omega)).toNat - 48) < 1000000000000000000 ∧ (x * b + ((l[k]'(by omega)).toNat - 48) = val b (l.take (k + 1)) ∧ ∀ u ∈ l.take (k + 1), isD b u = true) := by
  have ht : l.take (k + 1) = l.take k ++ [l[k]'(by omega)] := List.take_succ_eq_append_getElem (by omega)
  have h2 : ∀ u ∈ l.take (k + 1), isD b u = true := by
    rw [ht]
    intro u hu
    rw [List.mem_append, List.mem_singleton] at hu
    rcases hu with hu | rfl
    · exact h.2 u hu
    · exact hd
  have hv : x * b + ((l[k]'(by omega)).toNat - 48) = val b (l.take (k + 1)) := by rw [ht, val_snoc, h.1]
  refine ⟨?_, hv, h2⟩
  rw [hv]
  exact val_small hb3 h2 (by rw [List.length_take]; omega)

end Go.Proofs.Ytcaepgggffkjpaa.Dec

namespace Go.Proofs.Ytcaepgggffkjpaa.Dec
open Go.RowKit Go.Proofs Go.Proofs.Ytcaepgggffkjpaa.Byt

/-- What the reference's Parse gives. -/
def Parses (l : List UInt8) (b : Int) (w : World) (e : Ending) (w' : World) : Prop :=
  e = .returned (.tuple #[.int .i64 (pval l b), .int .i64 (perr l b)]) ∧ Below w.heap.size w w'

def QRel (b n : Nat) (l : List UInt8) (v i : Value) : Prop :=
  ∃ k x : Nat, v = .int .i64 (x : Int) ∧ i = .int .i64 (k : Int) ∧ k ≤ n ∧ x < 1000000000000000000 ∧ Hid (x = val b (l.take k) ∧ ∀ u ∈ l.take k, isD b u = true)

/-- The reference's test at the end of the digits. -/
theorem rparse_end {b n k x : Nat} {l : List UInt8} (hb2 : 2 ≤ b) (hb3 : b ≤ 10) (hl : l.length = n) (hk : k ≤ n) (hx : x = val b (l.take k)) (h1 : ∀ u ∈ l.take k, isD b u = true) (h2 : ∀ c, l[k]? = some c → isD b c = false) :
    (k = 0 → parse b l = none) ∧ (n < nd b x → parse b l = none) ∧ (nd b x ≤ n → (field b x n == l) = true → parse b l = some x) ∧ (nd b x ≤ n → (field b x n == l) = false → parse b l = none) := by
  have hp := parse_at h1 h2 (by omega)
  rw [← hx] at hp
  refine ⟨fun h => ?_, fun h => ?_, fun h h3 => ?_, fun h h3 => ?_⟩
  · rw [hp, if_neg]; rintro ⟨_, h4⟩; have := nd_pos b x; omega
  · rw [hp, if_neg]; rintro ⟨_, h4⟩; omega
  · rw [beq_iff_eq] at h3
    rw [← h3]; exact parse_field hb2 hb3 _ _
  · rw [hp, if_neg]
    intro h4
    rw [if_pos h4] at hp
    have := (parse_some hb2 hb3 hp).2
    rw [hl] at this
    rw [beq_eq_false_iff_ne] at h3
    exact h3 this.symm

end Go.Proofs.Ytcaepgggffkjpaa.Dec

namespace Go.Proofs.Ytcaepgggffkjpaa.Dec
open Go.RowKit Go.Proofs Go.Proofs.Ytcaepgggffkjpaa.Byt

theorem fout_small (a b wd : Int) : (fout a b wd).length ≤ 140737488355328 := by
  unfold fout
  split
  · rename_i h
    unfold ferr at h
    split at h
    · rename_i hv
      split at h
      · rename_i h2
        have := vw_iff.1 hv.2
        rw [field_length (by have := vb_iff.1 hv.1; omega) (by omega)]
        omega
      · omega
    · omega
  · simp

end Go.Proofs.Ytcaepgggffkjpaa.Dec

namespace Go.Proofs.Ytcaepgggffkjpaa.Byt
open Go.RowKit Go.Proofs

end Go.Proofs.Ytcaepgggffkjpaa.Byt
