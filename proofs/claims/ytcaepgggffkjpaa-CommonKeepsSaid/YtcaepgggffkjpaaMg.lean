/-
  Slices of strings in memory: what reads as a list of strings, and what the call has made itself; append. After the byte slices' text.
  append onto a byte slice, once more: and what rows of other types hold stays.
  strings.IndexRune in the three bytes 47, 10, 0, at a rune beyond ASCII: it is not there.
  strings.ContainsAny at the three bytes 47, 10, 0: whether one of them is among the bytes of a string, whatever its bytes are.
  Slices in memory whatever their elements' type, told by their cells: what reads so, what the call has made itself; append. For slices of structs, of numbers, of slices.
  Regions that draw their order and whose last operation, number z, writes what others of them read: a condition on the world that holds till then.
-/
import Derived.Test.YtcaepgggffkjpaaMa
import Derived.Test.YtcaepgggffkjpaaMb
import Derived.Test.YtcaepgggffkjpaaShelf
import Derived.Laws.Runes
import Derived.Laws.RangeAny
import Derived.Deep.LoopGhost
import Derived.Lib.DecodeN
import Derived.Deep.RegionHeld3
namespace Go.Proofs.Ytcaepgggffkjpaa.Sls
open Go.RowKit Go.Proofs
open Go.Proofs.Ytcaepgggffkjpaa.Byt (run_put hid take_all)

/-- Blocks that are no rows of type t stay as they were. -/
def Oth (t : TypeId) (w w' : World) : Prop := ∀ (g : Nat) (o : Obj), w.heap[g]? = some o → (∀ cs m, o ≠ .cells cs t m) → w'.heap[g]? = some o
theorem Oth.refl (t : TypeId) (w : World) : Oth t w w := fun _ _ h _ => h
theorem Oth.trans {t : TypeId} {a b c : World} (h : Oth t a b) (k : Oth t b c) : Oth t a c := fun g o hg ho => k g o (h g o hg ho) ho
theorem Oth.below {t : TypeId} {w w' : World} (h : Below w.heap.size w w') : Oth t w w' := fun g o hg _ => by rw [h.block g (Array.getElem?_eq_some_iff.1 hg).1]; exact hg
theorem Oth.new (t : TypeId) (w : World) (o : Obj) : Oth t w (w.drew.alloc o) := Oth.below ((Below.refl _ w).drew.alloc (Nat.le_refl _) o)
theorem Oth.alloc (t : TypeId) (w : World) (o : Obj) : Oth t w (w.alloc o) := Oth.below ((Below.refl _ w).alloc (Nat.le_refl _) o)
theorem Oth.put {t : TypeId} {w w' : World} {g : Nat} {cs : Array Value} {m : Nat × Nat} (h : w.heap[g]? = some (.cells cs t m)) (ho : ∀ k, k ≠ g → w'.heap[k]? = w.heap[k]?) : Oth t w w' := fun k o hk hne => by
  by_cases e : k = g
  · subst e
    rw [h] at hk
    injection hk with hk
    exact absurd hk.symm (hne _ _)
  · rw [ho k e]; exact hk

/-- The block of a slice. -/
def blk : Value → Option Nat
  | .slice (some a) _ _ => some a.block
  | _ => none
/-- What an append may turn: the block of the slice; and where the result lies. -/
def Fr (v : Value) (w : World) (v' : Value) (w' : World) : Prop :=
  (∀ k, k < w.heap.size → blk v ≠ some k → w'.heap[k]? = w.heap[k]?) ∧ (∀ k, blk v' = some k → blk v = some k ∨ w.heap.size ≤ k)
theorem Fr.refl (v : Value) (w : World) : Fr v w v w := ⟨fun _ _ _ => rfl, fun _ h => .inl h⟩
theorem Fr.new (v : Value) (w : World) (o : Obj) (n c : Nat) : Fr v w (.slice (some ⟨w.heap.size, 0, none⟩) n c) (w.drew.alloc o) :=
  ⟨fun k hk _ => Below.heap_alloc w.drew o k hk, fun k h => .inr (by injection h with h; exact Nat.le_of_eq h)⟩
theorem Fr.put {w w' : World} {g : Nat} (ho : ∀ k, k ≠ g → w'.heap[k]? = w.heap[k]?) (n m c : Nat) : Fr (.slice (some ⟨g, 0, none⟩) n c) w (.slice (some ⟨g, 0, none⟩) m c) w' :=
  ⟨fun k _ hb => ho k fun e => hb (by rw [e]; rfl), fun _ h => .inl h⟩
theorem Fr.ahead {v v' : Value} {w w' : World} (o : Obj) (h : Fr v (w.alloc o) v' w') : Fr v w v' w' := by
  have hs : (w.alloc o).heap.size = w.heap.size + 1 := by simp
  refine ⟨fun k hk hb => ?_, fun k hb => ?_⟩
  · rw [h.1 k (by omega) hb]; exact Below.heap_alloc w o k hk
  · rcases h.2 k hb with h | h
    · exact .inl h
    · right; omega
/-- Two slices that do not share a block. -/
def Apart (v u : Value) : Prop := ∀ k, blk v = some k → blk u ≠ some k
theorem Apart.nil (u : Value) (n c : Nat) : Apart (.slice none n c) u := fun k h => by cases h

/-- A string slice that reads as a list of strings; it lies below block K. -/
def Rd (w : World) (K : Nat) (A : Option Addr) (n : Nat) (xs : List ByteArray) : Prop :=
  xs.length = n ∧ ∀ k (h : k < xs.length), ∃ b o : Nat, A = some ⟨b, o, none⟩ ∧ b < K ∧ w.cell? ⟨b, o + k, none⟩ = some (.string xs[k])

theorem Rd.below {w w' : World} {K n : Nat} {A : Option Addr} {xs : List ByteArray} (h : Rd w K A n xs) (hb : Below K w w') : Rd w' K A n xs :=
  ⟨h.1, fun k hk => by
    obtain ⟨b, o, e, hl, hc⟩ := h.2 k hk
    exact ⟨b, o, e, hl, by rw [hb.cell (p := ⟨b, o + k, none⟩) hl]; exact hc⟩⟩
theorem Rd.more {w : World} {K K' n : Nat} {A : Option Addr} {xs : List ByteArray} (h : Rd w K A n xs) (hK : K ≤ K') : Rd w K' A n xs :=
  ⟨h.1, fun k hk => by
    obtain ⟨b, o, e, hl, hc⟩ := h.2 k hk
    exact ⟨b, o, e, by omega, hc⟩⟩
theorem Rd.nil (w : World) (K : Nat) (A : Option Addr) : Rd w K A 0 [] := ⟨rfl, fun k hk => absurd hk (by simp)⟩
/-- A cut within. -/
theorem Rd.cut {w : World} {K n b o : Nat} {xs : List ByteArray} (h : Rd w K (some ⟨b, o, none⟩) n xs) (k : Nat) : Rd w K (some ⟨b, o + k, none⟩) (n - k) (xs.drop k) := by
  refine ⟨by rw [List.length_drop, h.1], fun j hj => ?_⟩
  rw [List.length_drop] at hj
  obtain ⟨b', o', e, hl, hcell⟩ := h.2 (k + j) (by omega)
  injection e with e
  injection e with e1 e2
  subst e1
  subst e2
  refine ⟨_, _, rfl, hl, ?_⟩
  rw [Nat.add_assoc, hcell, List.getElem_drop]
/-- The first bytes. -/
theorem Rd.pre {w : World} {K n m : Nat} {A : Option Addr} {xs : List ByteArray} (h : Rd w K A n xs) (hm : m ≤ n) : Rd w K A m (xs.take m) := by
  refine ⟨by rw [List.length_take, h.1]; omega, fun j hj => ?_⟩
  rw [List.length_take] at hj
  obtain ⟨b', o', e, hl, hcell⟩ := h.2 j (by omega)
  exact ⟨b', o', e, hl, by rw [hcell, List.getElem_take]⟩
/-- A cut at the end. -/
theorem Rd.cut_at {w : World} {K n : Nat} {A B : Option Addr} {xs : List ByteArray} (h : Rd w K A n xs) (k : Nat) (hk : n ≤ k) : Rd w K B (n - k) (xs.drop k) := by
  refine ⟨by rw [List.length_drop, h.1], fun j hj => ?_⟩
  rw [List.length_drop, h.1] at hj
  omega
theorem Rd.drewN {w : World} {K n : Nat} {A : Option Addr} {xs : List ByteArray} (h : Rd w K A n xs) (m : Nat) : Rd (w.drewN m) K A n xs := h


/-- Strings as cells. -/
def enc (l : List ByteArray) : List Value := l.map fun c => Value.string c
theorem enc_append (a b : List ByteArray) : enc (a ++ b) = enc a ++ enc b := by simp [enc]
theorem enc_length (a : List ByteArray) : (enc a).length = a.length := by simp [enc]
theorem enc_one {l : List ByteArray} : ∀ v ∈ enc l, v.oneCell' = true := by
  intro v hv
  unfold enc at hv
  rw [List.mem_map] at hv
  obtain ⟨c, _, rfl⟩ := hv
  rfl

/-- v is a string slice of n elements that the call has made, in a block from K on, none of whose cells is frozen; it reads l. -/
def Own (w : World) (K : Nat) (v : Value) (n : Nat) (l : List ByteArray) : Prop :=
  l.length = n ∧ ((v = .slice none 0 0 ∧ n = 0) ∨
    ∃ (g cap : Nat) (cur : Array Value) (m : Nat × Nat), v = .slice (some ⟨g, 0, none⟩) n cap ∧ K ≤ g ∧ w.heap[g]? = some (.cells cur 9 m) ∧ n ≤ cap ∧ cap ≤ maxLen ∧ cur.size = cap ∧ cur.toList.take n = enc l ∧
      ∀ j, j < cap → ¬(m.1 ≤ j ∧ j < m.2))

theorem infoB : (Try.prog.info? 9).map (fun i => (i.zero, i.size, i.bytes)) = some (some (.string ⟨#[]⟩), 1, 16) := by kernel_rfl

theorem Own.nil (w : World) (K : Nat) : Own w K (.slice none 0 0) 0 [] := ⟨rfl, .inl ⟨rfl, rfl⟩⟩
theorem Own.of_row {w : World} {K n : Nat} {v : Value} {l : List ByteArray} (h : w.ownsRow K 9 1 v n (enc l)) : Own w K v n l := by
  refine ⟨by have := h.1; rw [enc_length] at this; omega, ?_⟩
  rcases h.2 with h | ⟨g, cap, cur, hv, hg, hh, hn, hm, hs, ht⟩
  · exact .inl h
  · exact .inr ⟨g, cap, cur, (0, 0), hv, hg, hh, hn, hm, by omega, by rw [← ht]; simp, fun j _ hj => by simp at hj⟩

/-- A slice that was made reads as its bytes. -/
theorem Own.reads {w : World} {K n : Nat} {v : Value} {l : List ByteArray} (h : Own w K v n l) : ∃ A c, v = .slice A n c ∧ Rd w w.heap.size A n l ∧ n ≤ c ∧ c ≤ maxLen := by
  obtain ⟨hl, h⟩ := h
  rcases h with ⟨rfl, rfl⟩ | ⟨g, cap, cur, m, rfl, hg, hh, hn, hm, hs, ht, _⟩
  · exact ⟨none, 0, rfl, ⟨hl, fun k hk => by omega⟩, by omega, by unfold maxLen; omega⟩
  · refine ⟨_, cap, rfl, ⟨hl, fun k hk => ⟨g, 0, rfl, (Array.getElem?_eq_some_iff.1 hh).1, ?_⟩⟩, hn, hm⟩
    rw [cell_of_row w g (0 + k) cur 9 m hh, Nat.zero_add, ← Array.getElem?_toList]
    have h1 : (cur.toList.take n)[k]? = some (Value.string l[k]) := by rw [ht]; simp [enc, List.getElem?_eq_getElem hk]
    rw [List.getElem?_take] at h1
    split at h1
    · exact h1
    · cases h1

theorem Own.keep {w w' : World} {K n : Nat} {v : Value} {l : List ByteArray} (h : Own w K v n l) (hk : ∀ g, K ≤ g → g < w.heap.size → w'.heap[g]? = w.heap[g]?) : Own w' K v n l := by
  refine ⟨h.1, ?_⟩
  rcases h.2 with h | ⟨g, cap, cur, m, hv, hg, hh, r⟩
  · exact .inl h
  · exact .inr ⟨g, cap, cur, m, hv, hg, (hk g hg (Array.getElem?_eq_some_iff.1 hh).1).trans hh, r⟩
theorem Own.alloc {w : World} {K n : Nat} {v : Value} {l : List ByteArray} (h : Own w K v n l) (o : Obj) : Own (w.alloc o) K v n l := h.keep fun g _ hlt => Below.heap_alloc w o g hlt
theorem Own.drewN {w : World} {K n : Nat} {v : Value} {l : List ByteArray} (h : Own w K v n l) (m : Nat) : Own (w.drewN m) K v n l := h
theorem Own.below {w w' : World} {K n : Nat} {v : Value} {l : List ByteArray} (h : Own w K v n l) (hb : Below w.heap.size w w') : Own w' K v n l := h.keep fun g _ hlt => hb.block g hlt
theorem Own.more {w : World} {K K' n : Nat} {v : Value} {l : List ByteArray} (h : Own w K v n l) (hK : K' ≤ K) : Own w K' v n l := by
  refine ⟨h.1, ?_⟩
  rcases h.2 with h | ⟨g, cap, cur, m, hv, hg, r⟩
  · exact .inl h
  · exact .inr ⟨g, cap, cur, m, hv, by omega, r⟩

/-- A slice literal that has just been laid. -/
theorem Rd.lit (w : World) (l : List ByteArray) (cs : Array Value) (h : cs = (enc l).toArray) (n : Nat) (hn : l.length = n) (m : Nat × Nat := (0, 0)) : Rd (w.alloc (.cells cs 9 m)) (w.heap.size + 1) (some ⟨w.heap.size, 0, none⟩) n l := by
  subst h
  refine ⟨hn, fun k hk => ⟨_, 0, rfl, by omega, ?_⟩⟩
  rw [cell_of_row _ w.heap.size (0 + k) _ 9 m (heap_alloc_new w _), Nat.zero_add]
  simp [enc, List.getElem?_eq_getElem hk]

/-- A byte of a slice of the call's own may be read and written. -/
theorem Own.at_ {w : World} {K n : Nat} {v : Value} {l : List ByteArray} (h : Own w K v n l) {i : Nat} (hi : i < l.length) :
    ∃ g cap, v = .slice (some ⟨g, 0, none⟩) n cap ∧ K ≤ g ∧ w.cell? ⟨g, i, none⟩ = some (.string l[i]) ∧ w.frozen? ⟨g, i, none⟩ = false ∧
      ∀ u : ByteArray, Own (w.setCell ⟨g, i, none⟩ (.string u)) K v n (l.set i u) := by
  have hl := h.1
  rcases h.2 with ⟨rfl, rfl⟩ | ⟨g, cap, cur, m, rfl, hg, hh, hn, hm, hs, ht, hf⟩
  · omega
  · have hc : cur[i]? = some (Value.string l[i]) := by
      have h1 : (cur.toList.take n)[i]? = some (Value.string l[i]) := by rw [ht]; simp [enc, List.getElem?_eq_getElem hi]
      rw [List.getElem?_take, if_pos (by omega)] at h1
      simpa using h1
    refine ⟨g, cap, rfl, hg, by rw [cell_of_row w g i cur 9 m hh]; exact hc, ?_, fun u => ⟨by rw [List.length_set]; exact hl, .inr ⟨g, cap, cur.setIfInBounds i (.string u), m, rfl, hg, ?_, hn, hm, by simpa using hs, ?_, hf⟩⟩⟩
    · have := hf i (by omega)
      simp [World.frozen?, hh]
      omega
    · simp [World.setCell, Array.getElem?_modify, hh]
    · rw [Array.toList_setIfInBounds, List.take_set, ht]
      simp [enc, List.map_set]

/-- A slice literal without elements. -/
theorem Own.lit0 (w : World) (K : Nat) (hK : K ≤ w.heap.size) : Own (w.alloc (.cells #[] 9)) K (.slice (some ⟨w.heap.size, 0, none⟩) 0 0) 0 [] :=
  ⟨rfl, .inr ⟨w.heap.size, 0, #[], (0, 0), rfl, hK, heap_alloc_new w _, by omega, by unfold maxLen; omega, rfl, rfl, fun j hj => by omega⟩⟩
theorem Own.oth {w w' : World} {K n : Nat} {v : Value} {l : List ByteArray} (h : Own w K v n l) (ho : Oth 5 w w') : Own w' K v n l := by
  refine ⟨h.1, ?_⟩
  rcases h.2 with h | ⟨g, cap, cur, m, hv, hg, hh, r⟩
  · exact .inl h
  · exact .inr ⟨g, cap, cur, m, hv, hg, ho g _ hh (fun cs m' e => by injection e with _ e2; exact absurd e2 (by decide)), r⟩
theorem _root_.Go.Proofs.Ytcaepgggffkjpaa.Byt.Own.oth {w w' : World} {t : TypeId} {K n : Nat} {v : Value} {l : List UInt8} (h : Byt.Own w K v n l) (ho : Oth t w w') (ht : 5 ≠ t := by decide) : Byt.Own w' K v n l := by
  refine ⟨h.1, ?_⟩
  rcases h.2 with h | ⟨g, cap, cur, m, hv, hg, hh, r⟩
  · exact .inl h
  · exact .inr ⟨g, cap, cur, m, hv, hg, ho g _ hh (fun cs m' e => by injection e with _ e2; exact ht e2), r⟩
/-- What is owned stays behind an append onto another slice. -/
theorem Own.fr {w w' : World} {K n : Nat} {v u u' : Value} {l : List ByteArray} (h : Own w K v n l) (ho : Fr u w u' w') (ha : Apart v u) : Own w' K v n l := by
  refine ⟨h.1, ?_⟩
  rcases h.2 with h | ⟨g, cap, cur, m, hv, hg, hh, r⟩
  · exact .inl h
  · refine .inr ⟨g, cap, cur, m, hv, hg, (ho.1 g (Array.getElem?_eq_some_iff.1 hh).1 (ha g (by rw [hv]; rfl))).trans hh, r⟩
theorem Own.blk_lt {w : World} {K n : Nat} {v : Value} {l : List ByteArray} (h : Own w K v n l) {k : Nat} (hk : blk v = some k) : k < w.heap.size := by
  rcases h.2 with ⟨rfl, _⟩ | ⟨g, cap, cur, m, rfl, hg, hh, r⟩
  · cases hk
  · injection hk with hk; subst hk; exact (Array.getElem?_eq_some_iff.1 hh).1
theorem Apart.fr {w w' : World} {K n : Nat} {v u u' : Value} {l : List ByteArray} (ha : Apart v u) (h : Own w K v n l) (ho : Fr u w u' w') : Apart v u' := fun k hk hu => by
  rcases ho.2 k hu with h1 | h1
  · exact ha k hk h1
  · have := h.blk_lt hk; omega
theorem Apart.symm {v u : Value} (h : Apart v u) : Apart u v := fun k hu hv => h k hv hu
end Go.Proofs.Ytcaepgggffkjpaa.Sls

namespace Go.Proofs.Ytcaepgggffkjpaa.Byt
open Go.RowKit Go.Proofs
open Go.Proofs.Ytcaepgggffkjpaa.Sls (Oth Oth.refl Oth.new Oth.put Oth.alloc Oth.trans)

end Go.Proofs.Ytcaepgggffkjpaa.Byt

namespace Go.Proofs.Ytcaepgggffkjpaa.Str3
open Go.RowKit Go.Proofs Go.Proofs.Ytcaepgggffkjpaa.Byt

/-- A call that leaves the world alone, at a world that has drawn twice. -/
theorem still_twice {P : Program} {f : FuncId} {xs : Array Value} {W : World} {i j : Nat} {u : Value} (hc : Calls P f xs (W.drewN (i + j)) fun e V => e = .returned u ∧ V = W.drewN (i + j)) :
    Calls P f xs (W.drewN (i + j)) fun e V => e = .returned u ∧ ∃ k, V = W.drewN (i + k) := by
  refine hc.mono ?_
  rintro e V ⟨h1, h2⟩
  exact ⟨h1, j, h2⟩

theorem not_err {r : Int} (h : r ≠ 65533) : (r == 65533) = false := by simpa using h

theorem index_high (b : UInt8) (h : 128 ≤ b.toNat) : Lib.indexByte [0] b = -1 := by
  have hb : b ≠ 0 := by rintro rfl; simp at h
  have h0 : Lib.indexByte [] b = -1 := rfl
  unfold Lib.indexByte
  simp [hb.symm, h0]

end Go.Proofs.Ytcaepgggffkjpaa.Str3

namespace Go.Proofs.Ytcaepgggffkjpaa.Str3
open Go.RowKit Go.Proofs Go.Proofs.Ytcaepgggffkjpaa.Byt

theorem wide_tail {n b0 b1 b2 b3 : Nat} (h : 128 ≤ b0) : ∀ j, j < (Lib.decodeN n b0 b1 b2 b3).2 → j = 0 ∨ (j = 1 ∧ 128 ≤ b1) ∨ (j = 2 ∧ 128 ≤ b2) ∨ (j = 3 ∧ 128 ≤ b3) := by
  intro j
  unfold Lib.decodeN
  rw [if_neg (by omega)]
  repeat' split
  all_goals (intro hj; simp only at hj; omega)

theorem get_list (s : ByteArray) (i : Nat) (b : UInt8) (h : s.data.toList[i]? = some b) : s.get! i = b := by
  obtain ⟨⟨l⟩⟩ := s
  simp only at h
  obtain ⟨h1, h2⟩ := List.getElem?_eq_some_iff.1 h
  subst h2
  show (Array.mk l)[i]! = _
  simp [getElem!_pos, h1]

/-- The bytes of one rune beyond ASCII. -/
theorem high_tail (s : ByteArray) (pos : Nat) (h : 128 ≤ (s.get! pos).toNat) (j : Nat) (b : UInt8) (h1 : pos ≤ j) (h2 : j < pos + (Utf8.decode s pos).2) (hb : s.data.toList[j]? = some b) : 128 ≤ b.toNat := by
  rw [Lib.decode_at] at h2
  have hb' := get_list s j b hb
  obtain ⟨k, rfl⟩ : ∃ k, j = pos + k := ⟨j - pos, by omega⟩
  rcases wide_tail h k (Nat.lt_of_add_lt_add_left h2) with rfl | ⟨rfl, h3⟩ | ⟨rfl, h3⟩ | ⟨rfl, h3⟩
  · rw [← hb']; exact h
  all_goals rw [← hb']; exact h3

/-- A step of an iterator over a string that lies in some block. -/
theorem next_more {P : Program} (w : World) (g : Nat) (s : ByteArray) (pos : Nat) (ty : TypeId) (hg : w.heap[g]? = some (.stringIter s pos)) (h : pos < s.size) :
    (Instr.next (.pointer (some ⟨g, 0, none⟩)) true ty).run P w =
      .ok (.tuple #[.bool true, .int .i64 pos, .int .i32 (Utf8.decode s pos).1]) { w with heap := w.heap.setIfInBounds g (.stringIter s (pos + (Utf8.decode s pos).2)) } := by
  simp only [Instr.next, getObj, setObj, Sem.run_bind, Sem.run, hg, Result.andThen, h, if_true]
  simp [goInt]
theorem next_end {P : Program} (w : World) (g : Nat) (s : ByteArray) (pos : Nat) (ty : TypeId) (hg : w.heap[g]? = some (.stringIter s pos)) (h : ¬ pos < s.size) :
    (Instr.next (.pointer (some ⟨g, 0, none⟩)) true ty).run P w = .ok (.tuple #[.bool false]) w := by
  simp [Instr.next, getObj, Sem.run, hg, h]

/-- The three bytes that no name has. -/
def bad (l : List UInt8) : Bool := Lib.containsAny l [47, 10, 0]

/-- At a round's head: the iterator, and what has been passed. -/
def IterAt (w : World) (s : ByteArray) (i : Nat) (wx : World) : Prop :=
  wx.heap[w.heap.size]? = some (.stringIter s i) ∧ Below w.heap.size w wx ∧ Lib.NoAny s.data.toList [47, 10, 0] i

theorem IterAt.start (w : World) (s : ByteArray) : IterAt w s 0 (w.iter s 0) :=
  ⟨World.iter_heap w s 0, (Below.refl _ _).alloc (Nat.le_refl _) _, Lib.NoAny.zero _ _⟩

theorem not_in {b : UInt8} (h : 128 ≤ b.toNat) : ([47, 10, 0] : List UInt8).contains b = false := by
  have h1 : b ≠ 10 := by rintro rfl; simp at h
  have h2 : b ≠ 0 := by rintro rfl; simp at h
  have h3 : b ≠ 47 := by rintro rfl; simp at h
  simp [h1, h2, h3]

/-- The iterator moved on. -/
def moved (w : World) (wx : World) (s : ByteArray) (j : Nat) : World := { wx with heap := wx.heap.setIfInBounds w.heap.size (.stringIter s j) }
theorem moved_below {w wx : World} {s : ByteArray} {j : Nat} (h : Below w.heap.size w wx) : Below w.heap.size w (moved w wx s j) := by
  refine ⟨h.os, h.tape, h.output, by simpa [moved] using h.size, fun k hk => ?_⟩
  rw [← h.block k hk]
  simp only [moved]
  rw [Array.getElem?_setIfInBounds_ne (by omega)]
theorem moved_at {w wx : World} {s : ByteArray} {i j : Nat} (h : wx.heap[w.heap.size]? = some (.stringIter s i)) : (moved w wx s j).heap[w.heap.size]? = some (.stringIter s j) := by
  have := (Array.getElem?_eq_some_iff.1 h).1
  simp [moved, this]
theorem moved_size (w wx : World) (s : ByteArray) (j : Nat) : (moved w wx s j).heap.size = wx.heap.size := by simp [moved]

/-- What came behind the step of the iterator leaves it there. -/
theorem IterAt.step {w wx wy : World} {s : ByteArray} {i j : Nat} (h : IterAt w s i wx) (hb : Below (moved w wx s j).heap.size (moved w wx s j) wy) (hn : Lib.NoAny s.data.toList [47, 10, 0] j) : IterAt w s j wy := by
  have hlt := (Array.getElem?_eq_some_iff.1 h.1).1
  refine ⟨?_, (moved_below h.2.1).trans (hb.mono ?_), hn⟩
  · rw [hb.block _ (by rw [moved_size]; exact hlt)]; exact moved_at h.1
  · rw [moved_size]; omega

end Go.Proofs.Ytcaepgggffkjpaa.Str3

namespace Go.Proofs.Ytcaepgggffkjpaa.Cel
open Go.RowKit Go.Proofs
open Go.Proofs.Ytcaepgggffkjpaa.Byt (run_put hid take_all)
open Go.Proofs.Ytcaepgggffkjpaa.Sls (Oth Oth.refl Oth.new Oth.put Oth.alloc Oth.trans Fr Fr.refl Fr.new Fr.put Fr.ahead Apart blk)

/-- What is to be known of a type of slices: st the slices, t the elements, of sz cells and bs bytes, whose zero value has the cells z. -/
structure Kind (st t : TypeId) (sz bs : Nat) (z : Value) : Prop where
  under : Try.prog.underlying st = some (.slice t)
  info : (Try.prog.info? t).map (fun i => (i.zero, i.size, i.bytes)) = some (some z, sz, bs)
  cells : z.cells.size = sz
  pos : 0 < sz

/-- A slice of n elements that reads as the cells cs; it lies below block K. -/
def Rd (w : World) (K : Nat) (A : Option Addr) (n sz : Nat) (cs : List Value) : Prop :=
  cs.length = n * sz ∧ ∀ k (h : k < cs.length), ∃ b o : Nat, A = some ⟨b, o, none⟩ ∧ b < K ∧ w.cell? ⟨b, o + k, none⟩ = some cs[k]
theorem Rd.below {w w' : World} {K n sz : Nat} {A : Option Addr} {cs : List Value} (h : Rd w K A n sz cs) (hb : Below K w w') : Rd w' K A n sz cs :=
  ⟨h.1, fun k hk => by
    obtain ⟨b, o, e, hl, hc⟩ := h.2 k hk
    exact ⟨b, o, e, hl, by rw [hb.cell (p := ⟨b, o + k, none⟩) hl]; exact hc⟩⟩
theorem Rd.more {w : World} {K K' n sz : Nat} {A : Option Addr} {cs : List Value} (h : Rd w K A n sz cs) (hK : K ≤ K') : Rd w K' A n sz cs :=
  ⟨h.1, fun k hk => by
    obtain ⟨b, o, e, hl, hc⟩ := h.2 k hk
    exact ⟨b, o, e, by omega, hc⟩⟩
theorem Rd.nil (w : World) (K sz : Nat) (A : Option Addr) : Rd w K A 0 sz [] := ⟨by simp, fun k hk => absurd hk (by simp)⟩
theorem Rd.drewN {w : World} {K n sz : Nat} {A : Option Addr} {cs : List Value} (h : Rd w K A n sz cs) (m : Nat) : Rd (w.drewN m) K A n sz cs := h

/-- v is a slice of n elements that the call has made, in a block from K on, none of whose cells is frozen; it holds the cells cs. -/
def Own (t : TypeId) (sz : Nat) (w : World) (K : Nat) (v : Value) (n : Nat) (cs : List Value) : Prop :=
  cs.length = n * sz ∧ ((v = .slice none 0 0 ∧ n = 0) ∨
    ∃ (g cap : Nat) (cur : Array Value) (m : Nat × Nat), v = .slice (some ⟨g, 0, none⟩) n cap ∧ K ≤ g ∧ w.heap[g]? = some (.cells cur t m) ∧ n ≤ cap ∧ cap ≤ maxLen ∧ cur.size = cap * sz ∧ cur.toList.take (n * sz) = cs ∧
      ∀ j, j < cap * sz → ¬(m.1 ≤ j ∧ j < m.2))
theorem Own.nil (t : TypeId) (sz : Nat) (w : World) (K : Nat) : Own t sz w K (.slice none 0 0) 0 [] := ⟨by simp, .inl ⟨rfl, rfl⟩⟩

theorem Own.reads {t : TypeId} {sz : Nat} {w : World} {K n : Nat} {v : Value} {cs : List Value} (h : Own t sz w K v n cs) : ∃ A c, v = .slice A n c ∧ Rd w w.heap.size A n sz cs ∧ n ≤ c ∧ c ≤ maxLen := by
  obtain ⟨hl, h⟩ := h
  rcases h with ⟨rfl, rfl⟩ | ⟨g, cap, cur, m, rfl, hg, hh, hn, hm, hs, ht, _⟩
  · exact ⟨none, 0, rfl, ⟨hl, fun k hk => by omega⟩, by omega, by unfold maxLen; omega⟩
  · refine ⟨_, cap, rfl, ⟨hl, fun k hk => ⟨g, 0, rfl, (Array.getElem?_eq_some_iff.1 hh).1, ?_⟩⟩, hn, hm⟩
    rw [cell_of_row w g (0 + k) cur t m hh, Nat.zero_add, ← Array.getElem?_toList]
    have h1 : (cur.toList.take (n * sz))[k]? = some cs[k] := by rw [ht]; exact List.getElem?_eq_getElem hk
    rw [List.getElem?_take] at h1
    split at h1
    · exact h1
    · cases h1
theorem Own.keep {t : TypeId} {sz : Nat} {w w' : World} {K n : Nat} {v : Value} {cs : List Value} (h : Own t sz w K v n cs) (hk : ∀ g, K ≤ g → g < w.heap.size → w'.heap[g]? = w.heap[g]?) : Own t sz w' K v n cs := by
  refine ⟨h.1, ?_⟩
  rcases h.2 with h | ⟨g, cap, cur, m, hv, hg, hh, r⟩
  · exact .inl h
  · exact .inr ⟨g, cap, cur, m, hv, hg, (hk g hg (Array.getElem?_eq_some_iff.1 hh).1).trans hh, r⟩
theorem Own.alloc {t : TypeId} {sz : Nat} {w : World} {K n : Nat} {v : Value} {cs : List Value} (h : Own t sz w K v n cs) (o : Obj) : Own t sz (w.alloc o) K v n cs := h.keep fun g _ hlt => Below.heap_alloc w o g hlt
theorem Own.drewN {t : TypeId} {sz : Nat} {w : World} {K n : Nat} {v : Value} {cs : List Value} (h : Own t sz w K v n cs) (m : Nat) : Own t sz (w.drewN m) K v n cs := h
theorem Own.below {t : TypeId} {sz : Nat} {w w' : World} {K n : Nat} {v : Value} {cs : List Value} (h : Own t sz w K v n cs) (hb : Below w.heap.size w w') : Own t sz w' K v n cs := h.keep fun g _ hlt => hb.block g hlt
theorem Own.more {t : TypeId} {sz : Nat} {w : World} {K K' n : Nat} {v : Value} {cs : List Value} (h : Own t sz w K v n cs) (hK : K' ≤ K) : Own t sz w K' v n cs := by
  refine ⟨h.1, ?_⟩
  rcases h.2 with h | ⟨g, cap, cur, m, hv, hg, r⟩
  · exact .inl h
  · exact .inr ⟨g, cap, cur, m, hv, by omega, r⟩
/-- What is owned stays where rows of another type are turned, or another slice's block. -/
theorem Own.oth {t t' : TypeId} {sz : Nat} {w w' : World} {K n : Nat} {v : Value} {cs : List Value} (h : Own t sz w K v n cs) (ho : Oth t' w w') (ht : t ≠ t') : Own t sz w' K v n cs := by
  refine ⟨h.1, ?_⟩
  rcases h.2 with h | ⟨g, cap, cur, m, hv, hg, hh, r⟩
  · exact .inl h
  · exact .inr ⟨g, cap, cur, m, hv, hg, ho g _ hh (fun cs m' e => by injection e with _ e2; exact ht e2), r⟩
theorem Own.fr {t : TypeId} {sz : Nat} {w w' : World} {K n : Nat} {v u u' : Value} {cs : List Value} (h : Own t sz w K v n cs) (ho : Fr u w u' w') (ha : Apart v u) : Own t sz w' K v n cs := by
  refine ⟨h.1, ?_⟩
  rcases h.2 with h | ⟨g, cap, cur, m, hv, hg, hh, r⟩
  · exact .inl h
  · exact .inr ⟨g, cap, cur, m, hv, hg, (ho.1 g (Array.getElem?_eq_some_iff.1 hh).1 (ha g (by rw [hv]; rfl))).trans hh, r⟩
theorem Own.blk_lt {t : TypeId} {sz : Nat} {w : World} {K n : Nat} {v : Value} {cs : List Value} (h : Own t sz w K v n cs) {k : Nat} (hk : blk v = some k) : k < w.heap.size := by
  rcases h.2 with ⟨rfl, _⟩ | ⟨g, cap, cur, m, rfl, hg, hh, r⟩
  · cases hk
  · injection hk with hk; subst hk; exact (Array.getElem?_eq_some_iff.1 hh).1
theorem Own.setc {t t' : TypeId} {sz : Nat} {W : World} {K n : Nat} {v : Value} {cs : List Value} {g : Nat} {ds : Array Value} {m : Nat × Nat} (h : Own t sz W K v n cs) (hb : W.heap[g]? = some (.cells ds t' m)) (ht : t ≠ t') (i : Nat) (y : Value) : Own t sz (W.setCell ⟨g, i, none⟩ y) K v n cs := by
  refine ⟨h.1, ?_⟩
  rcases h.2 with h | ⟨g', cap, cur, m', hv, hgk, hh, r⟩
  · exact .inl h
  · refine .inr ⟨g', cap, cur, m', hv, hgk, (Below.heap_setCell W ⟨g, i, none⟩ y g' ?_).trans hh, r⟩
    intro e
    have e' : g' = g := e
    rw [e', hb] at hh
    injection hh with hh
    injection hh with _ e2
    exact ht e2.symm

set_option maxHeartbeats 1000000 in
/-- append of elements onto a slice of the call's own. -/
theorem run_app {st t : TypeId} {sz bs : Nat} {z : Value} (hk : Kind st t sz bs z) (w : World) (K : Nat) (ty : TypeId) (v : Value) (n : Nat) (l : List Value) (hown : Own t sz w K v n l) (hK : K ≤ w.heap.size)
    (ad : Addr) (k c : Nat) (src : List Value) (hl : src.length = k * sz) (h1 : ∀ u ∈ src, u.oneCell' = true) (hc : ∀ j u, src[j]? = some u → w.cell? (ad.add j) = some u) (hsz : n + k ≤ 1000000) (hby : (n + k) * bs ≤ 140737488355328) :
    ∃ v' w', (Builtin.append_ #[st, st] ty #[v, .slice (some ad) k c]).run Try.prog w = .ok v' w' ∧ Own t sz w' K v' (n + k) (l ++ src) ∧ Below K w w' ∧ Oth t w w' ∧ Fr v w v' w' := by
  obtain ⟨i, hi, hz0, hz1, hz2⟩ := info_parts hk.info
  have ht := hk.under
  have hzc := hk.cells
  have hll := hown.1
  have hpos := hk.pos
  have hf := run_firstCells_some (P := Try.prog) w i.size k ad k c src (by rw [hz1]; exact hl) hc
  have hnew : ∀ (olds : List Value) (cap : Nat), olds = l → n + k ≤ cap → cap ≤ maxLen →
      Own t sz (w.drew.alloc (.cells (olds.toArray ++ src.toArray ++ Builtin.zeroCells z.cells (cap - (n + k))) t)) K (.slice (some ⟨w.heap.size, 0, none⟩) (n + k) cap) (n + k) (l ++ src) := by
    intro olds cap ho hcap hm
    subst ho
    have hmul : (n + k) * sz = n * sz + k * sz := Nat.add_mul _ _ _
    refine ⟨by rw [List.length_append]; omega, .inr ⟨w.heap.size, cap, _, (0, 0), rfl, hK, heap_alloc_new w.drew _, hcap, hm, ?_, ?_, fun j _ hj => by simp at hj⟩⟩
    · simp only [Array.size_append, size_zeroCells, hzc, List.size_toArray, hll, hl]
      have : cap = (n + k) + (cap - (n + k)) := by omega
      conv => rhs; rw [this, Nat.add_mul, hmul]
    · simp only [Array.toList_append]
      rw [List.take_append_of_le_length (by simp only [List.length_append]; omega)]
      exact List.take_of_length_le (by simp only [List.length_append]; omega)
  have hgb : ∀ o, Below K w (w.drew.alloc o) := fun o => (Below.refl K w).drew.alloc hK o
  rcases hown.2 with ⟨rfl, rfl⟩ | ⟨g, cap, cur, m, rfl, hg, hh, hn, hm, hs, htk, hfr⟩
  · rcases Nat.eq_zero_or_pos k with rfl | hk0
    · have : src = [] := List.eq_nil_of_length_eq_zero (by rw [hl]; simp)
      subst this
      refine ⟨.slice none 0 0, w, ?_, by simpa using hown, Below.refl _ _, Oth.refl _ _, Fr.refl _ _⟩
      simp [Builtin.append_, run_underlying ht, sizeOf, typeInfo, hi, Builtin.lenOf, hf]
    · have hr := run_append_nil (P := Try.prog) w st ty t i z ht hi hz0 ad k c src (by rw [hz1]; exact hl) hc hk0 (by omega) (by rw [hz2]; rw [Nat.zero_add] at hby; omega)
      have hl0 : l = [] := List.eq_nil_of_length_eq_zero (by rw [hll]; simp)
      subst hl0
      have h0 := hnew [] (grownCap w k 0 t) rfl (by rw [Nat.zero_add]; exact grownCap_ge _ _ _ _) (grownCap_le_maxLen _ _ _ _ (by unfold maxLen; omega))
      exact ⟨_, _, hr, by simpa using h0, hgb _, Oth.new _ _ _, Fr.new _ _ _ _ _⟩
  · by_cases hroom : n + k ≤ cap
    · have hmul : (n + k) * sz = n * sz + k * sz := Nat.add_mul _ _ _
      have hle : (n + k) * sz ≤ cap * sz := Nat.mul_le_mul_right _ hroom
      obtain ⟨w', cur', hrun, hg', hs', ht', hb', ho', hz'⟩ := run_put Try.prog g t m src (n * sz) 0 cur w hh (by omega) (fun j hj => hfr j (by omega)) h1
      refine ⟨.slice (some ⟨g, 0, none⟩) (n + k) cap, w', ?_, ⟨by rw [List.length_append]; omega, .inr ⟨g, cap, cur', m, rfl, hg, hg', hroom, hm, by omega, ?_, hfr⟩⟩, hb'.mono hg, Oth.put hh ho', Fr.put ho' _ _ _⟩
      · rw [hz1] at hf
        simp [Builtin.append_, run_underlying ht, sizeOf, typeInfo, hi, hz1, Builtin.lenOf, hroom, Addr.add_lit, hf, hrun]
      · rw [← htk, hmul]
        rw [hl] at ht'
        simpa using ht'
    · have hr := run_append_grow (P := Try.prog) w st ty t i z ht hi hz0 ⟨g, 0, none⟩ n cap l (by rw [hz1]; exact hll)
        (fun j u hj => by
          have ha : (⟨g, 0, none⟩ : Addr).add j = ⟨g, j, none⟩ := by unfold Addr.add; split <;> simp_all
          rw [ha, cell_of_row w g j cur t m hh, ← Array.getElem?_toList]
          rw [← htk, List.getElem?_take] at hj
          split at hj
          · exact hj
          · cases hj) ad k c src (by rw [hz1]; exact hl) hc (by omega) (by omega) (growslice_fits (by omega) (by rw [hz2]; exact hby))
      exact ⟨_, _, hr, hnew _ _ rfl (grownCap_ge _ _ _ _) (grownCap_le_maxLen _ _ _ _ (by unfold maxLen; omega)), hgb _, Oth.new _ _ _, Fr.new _ _ _ _ _⟩

/-- append of elements that lie in a block which has just been laid (a literal of the elements). -/
theorem wpList_push {st t : TypeId} {sz bs : Nat} {z : Value} (hk : Kind st t sz bs z) {ops : Array Oper} {rest : List Oper} {o : Oper} {a : Act} {Q : Exit → Act → World → Prop} (w : World) (K : Nat) (v : Value) (n : Nat) (l : List Value)
    (hown : Own t sz w K v n l) (hK : K ≤ w.heap.size) (k c : Nat) (src : Array Value) (m : Nat × Nat) (hl : src.size = k * sz) (h1 : ∀ u ∈ src.toList, u.oneCell' = true) (hn : n + k ≤ 1000000) (hby : (n + k) * bs ≤ 140737488355328) (hgd : o.guard = none) (s x : Operand)
    (ho : o.op = .call { callee := .builtin .append, args := #[s, x], argTypes := #[st, st] })
    (hs : a.eval s = v) (hx : a.eval x = .slice (some ⟨w.heap.size, 0, none⟩) k c)
    (h : ∀ v' w', Own t sz w' K v' (n + k) (l ++ src.toList) → Below K w w' → Oth t w w' → Fr v w v' w' → wpList Try.prog ops Q rest (a.put o.dst v') w') :
    wpList Try.prog ops Q (o :: rest) a (w.alloc (.cells src t m)) := by
  refine wpList_plain hgd fun K' hK' => ?_
  obtain ⟨v', w', hrun, r1, r2, r3, r4⟩ := run_app hk (w.alloc (.cells src t m)) K o.type v n l (hown.alloc _) (by simp; omega) ⟨w.heap.size, 0, none⟩ k c src.toList (by rw [Array.length_toList]; exact hl) h1 (fun j u hj => by
    have ha : (⟨w.heap.size, 0, none⟩ : Addr).add j = ⟨w.heap.size, j, none⟩ := by unfold Addr.add; split <;> simp_all
    rw [ha, cell_of_row _ w.heap.size j src t m (heap_alloc_new w _), ← Array.getElem?_toList]
    exact hj) hn hby
  unfold Oper.wp execOp
  simp only [ho, resolve, invoke, builtin, Sem.run_bind, Sem.run_pure, Result.andThen_ok, List.map_toArray, List.map_cons, List.map_nil, hs, hx, hrun]
  exact hK' _ _ (h v' w' r1 (((Below.refl K w).alloc hK _).trans r2) ((Oth.alloc _ _ _).trans r3) (Fr.ahead _ r4))

/-- append at a step of a region that draws its order. -/
theorem step_app {st t : TypeId} {sz bs : Nat} {z : Value} (hk : Kind st t sz bs z) {ops : Array Oper} {o : Oper} {a : Act} {C : Act → World → Prop} {Q : Exit → Act → World → Prop} {E : Prop} (w : World) (K : Nat) (v : Value) (n : Nat) (l : List Value)
    (hown : Own t sz w K v n l) (hK : K ≤ w.heap.size) (ad : Addr) (k c : Nat) (src : List Value) (hl : src.length = k * sz) (h1 : ∀ u ∈ src, u.oneCell' = true) (hc : ∀ j u, src[j]? = some u → w.cell? (ad.add j) = some u) (hn : n + k ≤ 1000000) (hby : (n + k) * bs ≤ 140737488355328)
    (hgd : o.guard = none) (s x : Operand) (ho : o.op = .call { callee := .builtin .append, args := #[s, x], argTypes := #[st, st] }) (hs : a.eval s = v) (hx : a.eval x = .slice (some ad) k c)
    (h : ∀ v' w', Own t sz w' K v' (n + k) (l ++ src) → Below K w w' → Oth t w w' → Fr v w v' w' → C (a.put o.dst v') w') :
    if Region.wanted o (yielded ops a.tmps) = true then Oper.wp Try.prog o a w C Q else E := by
  have hw : Region.wanted o (yielded ops a.tmps) = true := by simp [Region.wanted, hgd]
  rw [if_pos hw]
  obtain ⟨v', w', hrun, r1, r2, r3, r4⟩ := run_app hk w K o.type v n l hown hK ad k c src hl h1 hc hn hby
  unfold Oper.wp execOp
  simp only [ho, resolve, invoke, builtin, Sem.run_bind, Sem.run_pure, Result.andThen_ok, List.map_toArray, List.map_cons, List.map_nil, hs, hx, hrun]
  exact h v' w' r1 r2 r3 r4
end Go.Proofs.Ytcaepgggffkjpaa.Cel

namespace Go.Proofs.Ytcaepgggffkjpaa.Ord
open Go.RowKit Go.Proofs

variable {P : Program} {ops : Array Oper} {Q : Exit → Act → World → Prop} {md : Region.Mode} {S : World → Prop} {z : Nat}

/-- Whatever comes up next: S holds behind it, but for z. -/
def Till (P : Program) (md : Region.Mode) (ops : Array Oper) (Q : Exit → Act → World → Prop) (S : World → Prop) (z : Nat) : Nat → Array Bool → Act → World → Prop
  | 0, li, a, w => Region.ready md ops li = [] ∧ Q .normal a w
  | k + 1, li, a, w => (Region.ready md ops li = [] → Q .normal a w) ∧ ∀ j ∈ Region.ready md ops li, wpOp P ops Q j (fun b v => (j ≠ z → S v) ∧ Till P md ops Q S z k (li.setIfInBounds j true) b v) a w

theorem Till.any : ∀ (k : Nat) (li : Array Bool) (a : Act) (w : World), Till P md ops Q S z k li a w → wpAny P md ops Q k li a w
  | 0, _, _, _, h => h
  | k + 1, _, _, _, h => ⟨h.1, fun j hj => wpOp_mono (fun b v q => Till.any k _ b v q.2) (h.2 j hj)⟩

/-- An operation that z waits for may be taken first, if it yields in every world that meets S. -/
theorem Till.first {i : Nat} {oi : Oper} {x : Value} (hi : ops[i]? = some oi) (hsel : ∀ (j : Nat) (o : Oper) cs b, ops[j]? = some o → o.op ≠ .select cs b)
    (hQ : ∀ c a w, Q (.panic c) (a.put oi.dst x) w → Q (.panic c) a w) (hz : ∀ o, ops[z]? = some o → ∃ e ∈ o.after, Region.binds md e = true ∧ e.on = i) :
    ∀ (k : Nat) (li : Array Bool) (a : Act) (w : World),
      (∀ j oj, ops[j]? = some oj → j ≠ i → li.getD j true = false → (∀ e ∈ oj.after, Region.binds md e = true → e.on ≠ i) → oi.apart ops oj = true) →
      i ∈ Region.ready md ops li → YieldsIf P ops S oi x a → S w →
      Till P md ops Q S z k (li.setIfInBounds i true) (a.put oi.dst x) w → Till P md ops Q S z (k + 1) li a w := by
  intro k
  induction k with
  | zero =>
    intro li a w _ hr hy hS H
    refine ⟨fun h => (by rw [h] at hr; cases hr), fun j hj => ?_⟩
    by_cases e : j = i
    · subst e; exact hy.wpOp hi hS ⟨fun _ => hS, H⟩
    · have q := ready_mono hj e
      rw [H.1] at q
      cases q
  | succ k ih =>
    intro li a w hf hr hy hS H
    refine ⟨fun h => (by rw [h] at hr; cases hr), fun j hj => ?_⟩
    by_cases e : j = i
    · subst e; exact hy.wpOp hi hS ⟨fun _ => hS, H⟩
    · have hun := (mem_ready.1 hr).1
      obtain ⟨hju, oj, hoj, hall⟩ := mem_ready.1 hj
      have hno : ∀ d ∈ oj.after, Region.binds md d = true → d.on ≠ i := fun d hd hb q => by
        have h1 := hall d hd hb
        rw [q] at h1
        rcases Nat.lt_or_ge i li.size with g | g
        · simp [g] at hun h1
          rw [hun] at h1
          cases h1
        · simp [Array.getElem?_eq_none g] at h1
      have hjz : j ≠ z := fun q => by
        subst q
        obtain ⟨d, hd, hb, hon⟩ := hz oj hoj
        exact hno d hd hb hon
      refine wpOp_mono (fun b v q => ⟨q.2.1, ih (li.setIfInBounds j true) b v ?_ (ready_mono hr (Ne.symm e)) q.1 (q.2.1 hjz) ?_⟩)
        (wpOp_putIf hoj (hf j oj hoj e hju hno) (fun cs b => hsel i oi cs b hi) (fun cs b => hsel j oj cs b hoj) hQ hy (H.2 j (ready_mono hj e)))
      · intro m om hm hmi hmu hmo
        refine hf m om hm hmi ?_ hmo
        by_cases hjm : j = m
        · subst hjm; exact hju
        · rw [getD_set_ne true hjm] at hmu; exact hmu
      · rw [Array.setIfInBounds_comm _ _ e]
        exact q.2.2

theorem Till.take (i : Nat) {oi : Oper} {x : Value} {k : Nat} {li : Array Bool} {a : Act} {w : World} (hi : ops[i]? = some oi)
    (hs : Region.noSelect ops = true) (hf : Region.free md ops li i = true) (hr : (Region.ready md ops li).contains i = true) (hzb : (match ops[z]? with | some o => o.after.any (fun e => Region.binds md e && e.on == i) | none => true) = true)
    (hQ : ∀ c a w, Q (.panic c) (a.put oi.dst x) w → Q (.panic c) a w) (hw : Region.wanted oi (yielded ops a.tmps) = true) (hy : ∀ v, S v → (execOp a.eval oi).run P v = .ok (.value x) v) (hS : S w)
    (h : Till P md ops Q S z k (li.setIfInBounds i true) (a.put oi.dst x) w) : Till P md ops Q S z (k + 1) li a w := by
  refine Till.first hi (Region.noSelect_spec hs) hQ (fun o ho => ?_) k li a w (Region.free_spec hi hf) (by simpa using hr) (.inl ⟨hw, hy⟩) hS h
  rw [ho] at hzb
  obtain ⟨e, he, hq⟩ := Array.any_eq_true'.1 hzb
  rw [Bool.and_eq_true, beq_iff_eq] at hq
  exact ⟨e, he, hq.1, hq.2⟩

/-- One alone may come up. -/
theorem Till.step (i : Nat) {oi : Oper} {k : Nat} {li : Array Bool} {a : Act} {w : World} (hr : Region.ready md ops li = [i]) (hi : ops[i]? = some oi)
    (h : ∀ C : Act → World → Prop, Shut (∀ b v, (i ≠ z → S v) → Till P md ops Q S z k (li.setIfInBounds i true) b v → C b v) → if Region.wanted oi (yielded ops a.tmps) = true then Oper.wp P oi a w C Q else C (a.put oi.dst undef) w) :
    Till P md ops Q S z (k + 1) li a w := by
  refine ⟨fun h0 => (by rw [hr] at h0; cases h0), fun j hj => ?_⟩
  rw [hr, List.mem_singleton] at hj
  subst hj
  exact wpOp_step hi (fun C hC => h C (fun b v h1 h2 => hC b v ⟨h1, h2⟩))

theorem Till.done {li : Array Bool} {a : Act} {w : World} (hr : Region.ready md ops li = []) (h : Q .normal a w) : ∀ k, Till P md ops Q S z k li a w
  | 0 => ⟨hr, h⟩
  | _ + 1 => ⟨fun _ => h, by rw [hr]; simp⟩

theorem Till.begin (S : World → Prop) (z : Nat) {id : Nat} {a : Act} {w : World} (hm : P.follows .mixedOrders = true) (h : Till P .any ops Q S z ops.size (Array.replicate ops.size false) a w.drew) : (Code.region id ops true).wp P Q a w :=
  wp_region_any hm (Till.any _ _ _ _ h)
end Go.Proofs.Ytcaepgggffkjpaa.Ord
