/-
  edit: what the law's spoil writes: names and data of members that the call owns.
-/
import Derived.Test.YtijggpahijhpeaaZEl
namespace Go.Proofs.Ytijggpahijhpeaa.Edt
open Go.RowKit Go.Proofs Go.Proofs.Ytijggpahijhpeaa.Byt
open Go.Proofs.Ytijggpahijhpeaa.Arp (Mem RdM OwnM mcells)
open Go.Proofs.Ytijggpahijhpeaa.Arw (core MOk RdM0)

/-- Blocks from K on: rows of bytes keep their size and their marks and stay bytes; rows of members keep all but names; all else stays. -/
def Spd (K : Nat) (V W : World) : Prop := Below K V W ∧ ∀ (g : Nat) (cs : Array Value) (t : TypeId) (m : Nat × Nat), K ≤ g → V.heap[g]? = some (.cells cs t m) →
  (t ≠ 5 → t ≠ 25 → W.heap[g]? = some (.cells cs t m)) ∧
  (t = 5 → ∃ cs' : Array Value, W.heap[g]? = some (.cells cs' t m) ∧ cs'.size = cs.size ∧ ∀ j : Nat, (∃ x : Int, cs[j]? = some (Value.int .u8 x)) → ∃ x : Int, cs'[j]? = some (Value.int .u8 x)) ∧
  (t = 25 → ∃ cs' : Array Value, W.heap[g]? = some (.cells cs' t m) ∧ cs'.size = cs.size ∧ ∀ j : Nat, j % 6 ≠ 0 → cs'[j]? = cs[j]?)
theorem u8_mem : (5 : Nat) ≠ 25 := by decide
theorem Spd.refl (K : Nat) (V : World) : Spd K V V := ⟨Below.refl _ _, fun _ cs _ _ _ h => ⟨fun _ _ => h, fun _ => ⟨cs, h, rfl, fun _ q => q⟩, fun _ => ⟨cs, h, rfl, fun _ _ => rfl⟩⟩⟩
theorem Spd.put {K : Nat} {V W : World} (h : Spd K V W) {g i : Nat} {cs : Array Value} {m : Nat × Nat} (hK : K ≤ g) (hg : V.heap[g]? = some (.cells cs 5 m)) (x : Int) : Spd K V (W.setCell ⟨g, i, none⟩ (.int .u8 x)) := by
  refine ⟨h.1.setCell (p := ⟨g, i, none⟩) hK _, fun k ds t m' hk hd => ?_⟩
  obtain ⟨h1, h2, h3⟩ := h.2 k ds t m' hk hd
  by_cases e : k = g
  · subst e
    rw [hg] at hd
    injection hd with hd
    injection hd with e1 e2 e3
    subst e1 e2 e3
    refine ⟨fun q => absurd rfl q, fun _ => ?_, fun q => absurd q u8_mem⟩
    obtain ⟨cs', q1, q2, q3⟩ := h2 rfl
    refine ⟨cs'.setIfInBounds i (.int .u8 x), ?_, by simpa using q2, fun j q => ?_⟩
    · simp [World.setCell, Array.getElem?_modify, q1]
    · obtain ⟨y, hy⟩ := q3 j q
      by_cases hj : i = j
      · subst hj
        have := (Array.getElem?_eq_some_iff.1 hy).1
        exact ⟨x, by simp [this]⟩
      · exact ⟨y, by simp [hj, hy]⟩
  · have hs : (W.setCell ⟨g, i, none⟩ (.int .u8 x)).heap[k]? = W.heap[k]? := Below.heap_setCell W ⟨g, i, none⟩ _ k e
    rw [hs]
    exact ⟨h1, h2, h3⟩
theorem Spd.name {K : Nat} {V W : World} (h : Spd K V W) {g i : Nat} {cs : Array Value} {m : Nat × Nat} (hK : K ≤ g) (hg : V.heap[g]? = some (.cells cs 25 m)) (hi : i % 6 = 0) (v : Value) : Spd K V (W.setCell ⟨g, i, none⟩ v) := by
  refine ⟨h.1.setCell (p := ⟨g, i, none⟩) hK _, fun k ds t m' hk hd => ?_⟩
  obtain ⟨h1, h2, h3⟩ := h.2 k ds t m' hk hd
  by_cases e : k = g
  · subst e
    rw [hg] at hd
    injection hd with hd
    injection hd with e1 e2 e3
    subst e1 e2 e3
    refine ⟨fun _ q => absurd rfl q, fun q => absurd q.symm u8_mem, fun _ => ?_⟩
    obtain ⟨cs', q1, q2, q3⟩ := h3 rfl
    refine ⟨cs'.setIfInBounds i v, ?_, by simpa using q2, fun j q => ?_⟩
    · simp [World.setCell, Array.getElem?_modify, q1]
    · have hj : ¬ i = j := fun e => q (by rw [← e]; exact hi)
      rw [← q3 j q]
      simp [hj]
  · have hs : (W.setCell ⟨g, i, none⟩ v).heap[k]? = W.heap[k]? := Below.heap_setCell W ⟨g, i, none⟩ _ k e
    rw [hs]
    exact ⟨h1, h2, h3⟩
/-- A byte of a slice of the call's own. -/
theorem Spd.at_ {K : Nat} {V W : World} (h : Spd K V W) {p : Option Addr} {n c : Nat} {l : List UInt8} (ho : Byt.Own V K (.slice p n c) n l) {i : Nat} (hi : i < n) :
    ∃ (g o : Nat) (x : Int), p = some ⟨g, o, none⟩ ∧ n ≤ c ∧ W.cell? ⟨g, o + i, none⟩ = some (.int .u8 x) ∧ W.frozen? ⟨g, o + i, none⟩ = false ∧ ∀ y : Int, Spd K V (W.setCell ⟨g, o + i, none⟩ (.int .u8 y)) := by
  have hl := ho.1
  rcases ho.2 with ⟨_, hz⟩ | ⟨g, cap, cur, m, e, hg, hh, hn, hm, hs, ht, hf⟩
  · omega
  · injection e with e1 e2 e3
    subst e1 e3
    obtain ⟨cs', q1, q2, q3⟩ := (h.2 g cur _ m hg hh).2.1 rfl
    have hc : cur[i]? = some (Value.int .u8 ((l[i]'(by omega)).toNat : Int)) := by
      have h1 : (cur.toList.take n)[i]? = some (Value.int .u8 ((l[i]'(by omega)).toNat : Int)) := by rw [ht]; simp [enc, List.getElem?_eq_getElem (show i < l.length by omega)]
      rw [List.getElem?_take, if_pos (by omega)] at h1
      simpa using h1
    obtain ⟨x, hx⟩ := q3 i ⟨_, hc⟩
    refine ⟨g, 0, x, rfl, hn, by rw [cell_of_row W g (0 + i) cs' 5 m q1, Nat.zero_add]; exact hx, ?_, fun y => h.put hg hh y⟩
    have := hf i (by omega)
    simp [World.frozen?, q1]
    omega
/-- A member of a slice of the call's own: its name may be written, its data is found. -/
theorem Spd.mem {K : Nat} {V : World} {p : Option Addr} {n c : Nat} {xs : List Mem} (ho : Cel.Own 25 6 V K (.slice p n c) n (mcells xs)) {k : Nat} (hk : k < n) (hx : k < xs.length) :
    ∃ (g o : Nat), p = some ⟨g, o, none⟩ ∧ ∀ W, Spd K V W → (∃ v, W.cell? ⟨g, o + k * 6, none⟩ = some v) ∧ W.frozen? ⟨g, o + k * 6, none⟩ = false ∧ W.cell? ⟨g, o + k * 6 + 5, none⟩ = some (.slice xs[k].ptr xs[k].len xs[k].cap) ∧ ∀ v, Spd K V (W.setCell ⟨g, o + k * 6, none⟩ v) := by
  rcases ho.2 with ⟨_, hz⟩ | ⟨g, cap, cur, m, e, hg, hh, hn, hm, hs, ht, hf⟩
  · omega
  · injection e with e1 e2 e3
    subst e1 e3
    refine ⟨g, 0, rfl, fun W h => ?_⟩
    obtain ⟨cs', q1, q2, q3⟩ := (h.2 g cur _ m hg hh).2.2 rfl
    have hks : k * 6 < cs'.size := by omega
    refine ⟨⟨cs'[k * 6], ?_⟩, ?_, ?_, fun v => h.name hg hh (by omega) v⟩
    · rw [cell_of_row W g _ cs' _ m q1, Nat.zero_add]
      exact Array.getElem?_eq_getElem hks
    · have := hf (k * 6) (by omega)
      simp [World.frozen?, q1]
      omega
    · rw [cell_of_row W g _ cs' _ m q1, Nat.zero_add, q3 _ (by omega), ← Array.getElem?_toList]
      have h1 := (Arp.mcells_at xs k hx).2.2.2.2.2
      rw [← ht, List.getElem?_take] at h1
      split at h1
      · exact h1
      · cases h1

set_option linter.unusedSimpArgs false in
set_option maxRecDepth 100000 in
set_option maxHeartbeats 4000000 in
theorem spoil_any (K : Nat) (A : Option Addr) (n c : Nat) (ys : List Mem) (V : World) (hO : Cel.Own 25 6 V K (.slice A n c) n (mcells ys)) (hD : OwnM V K ys) (hs : ∀ y ∈ ys, y.len ≤ 140737488355328) (hn : n ≤ 300) :
    Calls Try.prog 29 #[.slice A n c] V fun e W => e = .returned (.tuple #[]) ∧ Below K V W := by
  have Hl : Hid (ys.length = n) := hid (by have := hO.1; rw [Arp.mcells_length] at this; omega)
  have HO := hid hO
  have HD := hid hD
  have HS := hid hs
  clear hO hD hs
  go_enter Try.func29, Try.ntmps29
  go_wp2_with fail
  go_loopw [2] (fun iv W => ∃ i : Nat, iv = .int .i64 (i : Int) ∧ i ≤ n ∧ Spd K V W) (fun iv _ => n - (intOf iv).toNat)
  case atStart => exact ⟨0, rfl, by omega, Spd.refl _ _⟩
  case round =>
    obtain ⟨i, rfl, hi, hS⟩ := hrel
    by_cases hlt : i < n
    · have hil : i < ys.length := by have := Hl.out; omega
      have hii : (i : Int) < (n : Int) := by omega
      obtain ⟨g, o, rfl, hm⟩ := Spd.mem HO.out hlt hil
      have HM := hid hm
      obtain ⟨⟨v0, hv0⟩, hf0, _, hset⟩ := hm wr hS
      have hod := HD.out ys[i] (List.getElem_mem hil)
      have hlen := HS.out ys[i] (List.getElem_mem hil)
      clear hm
      generalize ys[i] = y at *
      obtain ⟨y0, y1, y2, y3, y4, y5, y6, y7, y8⟩ := y
      simp only at hod hlen HM
      have HSt := hid hset
      have HOd := hid hod
      clear hset hod hS
      go_wp2_with fail
      have hS1 := HSt.out (.string ⟨#[115, 112, 111, 105, 108, 116]⟩)
      clear HSt hv0 hf0
      generalize wr.setCell ⟨g, o + i * 6, none⟩ (.string ⟨#[115, 112, 111, 105, 108, 116]⟩) = w1 at *
      go_loopw [3] (fun kv W => ∃ k : Nat, kv = .int .i64 (k : Int) ∧ k ≤ y6 ∧ Spd K V W) (fun kv _ => y6 - (intOf kv).toNat)
      case atStart => exact ⟨0, rfl, by omega, hS1⟩
      case round =>
        clear hS1
        obtain ⟨k, rfl, hk, hS⟩ := hrel
        have g5 := (HM.out wr hS).2.2.1
        by_cases hkt : k < y6
        · have hki : (k : Int) < (y6 : Int) := by omega
          obtain ⟨q, p, x, rfl, _, hc, hf, hset⟩ := hS.at_ HOd.out hkt
          have HSt := hid hset
          clear hset hS
          go_wp2_with fail
          go_roundw
          · exact ⟨k + 1, by go_num, by omega, HSt.out _⟩
          · simp [intOf]; omega
        · obtain rfl : k = y6 := by omega
          have hki : ¬ (k : Int) < (k : Int) := by omega
          go_wp2_with fail
          go_roundw
          · exact ⟨i + 1, by go_num, by omega, hS⟩
          · simp [intOf]; omega
    · obtain rfl : i = n := by omega
      have hii : ¬ (i : Int) < (i : Int) := by omega
      have hB := hS.1
      clear hS
      go_wp2_with fail
      go_end0
      exact ⟨rfl, hB⟩
end Go.Proofs.Ytijggpahijhpeaa.Edt
