/-
  common: the symbols that wait (commonOf), the closure that keeps the end, Find.
-/
import Derived.Test.YtcaepgggffkjpaaRp
namespace Go.Proofs.Ytcaepgggffkjpaa.Cmn
open Go.RowKit Go.Proofs Go.Proofs.Ytcaepgggffkjpaa.Byt
open Go.Proofs.Ytcaepgggffkjpaa.Bnd (Us)

/-- What commonOf gives: the common symbols as a heap. -/
def ComP (xs : List Us) (w : World) (e : Ending) (w' : World) : Prop :=
  ∃ A m c l, e = .returned (.slice A m c) ∧ l.Perm (xs.filter com) ∧ Hp l m ∧ OwH w' w.heap.size (.slice A m c) m l ∧ Below w.heap.size w w'
set_option linter.unusedSimpArgs false in
set_option maxRecDepth 100000 in
set_option maxHeartbeats 2000000 in
theorem pcommon_any (K : Nat) (A : Option Addr) (n c : Nat) (xs : List Us) (w : World) (h : RdR w K A n xs) (hK : K ≤ w.heap.size) (hn : n ≤ 1000) :
    Calls Try.prog 16 #[.slice A n c] w (ComP xs w) := by
  have Hl := hid h.1
  have HQ0 : Hid (Qr (w.alloc (.cells #[.slice none 0 0] 43)) w.heap.size (.slice none 0 0)) := hid (heap_alloc_new w _)
  have HB0 := hid ((Below.refl w.heap.size w).alloc (Nat.le_refl _) (.cells #[.slice none 0 0] 43))
  go_enter Try.func16, Try.ntmps16
  go_wp2_with fail
  go_loopw [8] (fun iv W => ∃ (k m : Nat) (v : Value) (l : List Us), iv = .int .i64 (k : Int) ∧ k ≤ n ∧ m ≤ k ∧ Hid (Qr W w.heap.size v) ∧ Hid (OwH W w.heap.size v m l) ∧ Hid (l.Perm ((xs.take k).filter com) ∧ Hp l m) ∧ Hid (Below w.heap.size w W)) (fun iv _ => n - (intOf iv).toNat)
  case atStart => exact ⟨0, 0, _, [], rfl, by omega, by omega, HQ0, hid (OwH.nil _ _), hid ⟨List.Perm.refl _, fun k _ h => absurd h (by omega)⟩, HB0⟩
  case round =>
    obtain ⟨k, m, v, l, rfl, hk, hm, hQ, hO, hP, hB⟩ := hrel
    clear HQ0 HB0
    have hbs := hB.out.size
    by_cases hlt : k < n
    · have hkl : k < xs.length := by have := Hl.out; omega
      have hki : (k : Int) < (n : Int) := by omega
      obtain ⟨b, o, rfl, _, p0, p1, p2, p3, p4⟩ := (h.below (hB.out.mono hK)).at_ hkl
      have HT : Hid (xs.take (k + 1) = xs.take k ++ [xs[k]]) := hid List.take_succ_eq_append_getElem (by exact hkl)
      generalize xs[k] = x at *
      obtain ⟨⟨x0, x1, x2, x3⟩, x4⟩ := x
      have hbA := (Below.refl wr.heap.size wr).alloc (Nat.le_refl _) (.cells #[.string x0, .int .i64 x1, .int .i64 x2, .int .i64 x3, .int .i64 x4] 40)
      have hQ1 := hQ.out.below hbA
      have hO1 := hO.out.below hbA
      have HB1 := hid (hB.out.trans (hbA.mono hbs))
      by_cases hx : x1 = 3
      · subst hx
        have HC : Hid (com ⟨⟨x0, 3, x2, x3⟩, x4⟩ = true) := hid rfl
        have HL := hid (hpush_any w.heap.size w.heap.size v m l ⟨⟨x0, 3, x2, x3⟩, x4⟩ _ hQ1 hO1 (Nat.le_refl _) hP.out.2 (by omega))
        unfold px rval at HL
        clear hQ hO hB hQ1 hO1 hbA
        go_wp2_with (go_at_call 21; refine HL.out.mono ?_; rintro e w1 ⟨rfl, v1, l1, hq1, hp1, hh1, ho1, hb1, _⟩)
        have HP1 : Hid (l1.Perm ((xs.take (k + 1)).filter com) ∧ Hp l1 (m + 1)) := hid ⟨by
          rw [HT.out, List.filter_append, List.filter_cons_of_pos HC.out, List.filter_nil]
          exact hp1.trans (List.Perm.append_right _ hP.out.1), hh1⟩
        have HQ1 := hid hq1
        have HO1 := hid ho1
        have HB2 := hid (HB1.out.trans hb1)
        clear hq1 ho1 hb1 hp1 hh1
        go_roundw
        · exact ⟨k + 1, m + 1, v1, l1, by go_num, by omega, by omega, HQ1, HO1, HP1, HB2⟩
        · simp [intOf]; omega
      · have hxb : (x1 == 3) = false := by simpa using hx
        have HC : Hid (¬ com ⟨⟨x0, x1, x2, x3⟩, x4⟩ = true) := hid (by unfold com; simpa using hx)
        have HP1 : Hid (l.Perm ((xs.take (k + 1)).filter com) ∧ Hp l m) := hid ⟨by
          rw [HT.out, List.filter_append, List.filter_cons_of_neg HC.out, List.filter_nil, List.append_nil]
          exact hP.out.1, hP.out.2⟩
        have HQ1 := hid hQ1
        have HO1 := hid hO1
        clear hQ hO hB hQ1 hO1 hbA hx
        go_wp2_with fail
        go_roundw
        · exact ⟨k + 1, m, v, l, by go_num, by omega, by omega, HQ1, HO1, HP1, HB1⟩
        · simp [intOf]; omega
    · obtain rfl : k = n := by omega
      have hki : ¬ (k : Int) < (k : Int) := by omega
      obtain ⟨A1, c1, rfl, _⟩ := hO.out.reads
      have hc := hQ.out.c1
      have HP1 : Hid (l.Perm (xs.filter com) ∧ Hp l m) := hid ⟨by have := hP.out.1; rwa [List.take_of_length_le (by have := Hl.out; omega)] at this, hP.out.2⟩
      go_wp2_with fail
      go_ret
      exact ⟨A1, m, c1, l, rfl, HP1.out.1, HP1.out.2, hO.out, hB.out⟩

theorem pplacer_any (w : World) : Calls Try.prog 17 #[] w fun e w' => e = .returned (.func (.func 22) #[] #[.pointer (some ⟨w.heap.size, 0, none⟩)]) ∧ w' = w.alloc (.cells #[.int .i64 0] 3) := by
  go_enter Try.func17, Try.ntmps17
  go_wp2_with fail
  go_ret
  exact ⟨rfl, rfl⟩
theorem slot_one (x : ByteArray) (z s : Int) : (#[.string x, .int .i64 z, .int .i64 s] : Array Value).all (·.oneCell') = true := by simp [Value.oneCell']
/-- A whole slot is stored, handed back. -/
theorem stC {ops : Array Oper} {rest : List Oper} {o : Oper} {a : Act} {w : World} {Q : Exit → Act → World → Prop} (hgd : o.guard = none) (x y : Operand) (ho : o.op = .store 32 x y)
    (u : Nat) (cells : Array Value) (hx : a.eval x = .pointer (some ⟨u, 0, none⟩)) (hy : a.eval y = .agg cells) (old : Array Value) (hg : w.heap[u]? = some (.cells old 32 (0, 0))) (hs : cells.size = 3) (hold : old.size = 3)
    (h1 : cells.all (·.oneCell') = true) (h : wpList Try.prog ops Q rest (a.put o.dst undef) (w.setRow u cells)) : wpList Try.prog ops Q (o :: rest) a w :=
  wpList_store_row hgd 32 x y ho u cells hx hy 32 old hg (by rw [hs]; kernel_rfl) (by rw [hs, hold]) h1 h
theorem retC {fn : Func} {p : Tmp} {T : Ending → World → Prop} {a : Act} {w : World} {g : Nat} {cs : Array Value} (h : fn.results = #[.cell p 32]) (hp : a.tmps.getD p undef = .pointer (some ⟨g, 0, none⟩)) (hd : a.defers = [])
    (hg : w.heap[g]? = some (.cells cs 32 (0, 0))) (hs : cs.size = 3) (hT : T (.returned (.agg cs)) w) : bodyPost Try.prog fn T .ret a w :=
  bodyPost_ret (v := .agg cs) (results_cell_row h _ _ g 32 cs (0, 0) _ hp hg Try.underlying32 rfl (by rw [hs]; kernel_rfl)) hd hT
/-- The variable that holds the end. -/
def En (w : World) (R : Nat) (z : Int) : Prop := w.heap[R]? = some (.cells #[.int .i64 z] 3 (0, 0))
theorem En.lt {w : World} {R : Nat} {z : Int} (h : En w R z) : R < w.heap.size := (Array.getElem?_eq_some_iff.1 h).1
theorem En.below {w w' : World} {R : Nat} {z : Int} (h : En w R z) (hb : Below w.heap.size w w') : En w' R z := (hb.block R h.lt).trans h
/-- All but one block stay. -/
def But (R : Nat) (w w' : World) : Prop := (∀ g, g < w.heap.size → g ≠ R → w'.heap[g]? = w.heap[g]?) ∧ w.heap.size ≤ w'.heap.size
/-- Behind a slot that was computed. -/
def PlP (R : Nat) (E : Int) (x : Us) (w : World) (e : Ending) (w' : World) : Prop :=
  e = .returned (sval ⟨x.s.name, upTo E x.s.align, x.s.size⟩) ∧ En w' R (upTo E x.s.align + x.s.size) ∧ But R w w' ∧ Below R w w'
set_option linter.unusedSimpArgs false in
set_option maxRecDepth 100000 in
set_option maxHeartbeats 2000000 in
theorem pplace_any (R : Nat) (E : Int) (x : Us) (w : World) (hR : En w R E) (h0 : 0 ≤ E) (h1 : E ≤ 1000000000000) (hx : ComOk x) :
    Calls Try.prog 22 #[rval x, .pointer (some ⟨R, 0, none⟩)] w (PlP R E x w) := by
  obtain ⟨⟨x0, x1, x2, x3⟩, x4⟩ := x
  obtain ⟨k1, k2, k3, k4, k5⟩ := hx
  have hu := upTo_le (e := E) k3
  obtain ⟨W, hW⟩ : ∃ W, (w.alloc (.cells #[.string x0, .int .i64 x1, .int .i64 x2, .int .i64 x3, .int .i64 x4] 40)).alloc (.cells #[.string ⟨#[]⟩, .int .i64 0, .int .i64 0] 32) = W := ⟨_, rfl⟩
  have hb1 := (Below.refl w.heap.size w).alloc (Nat.le_refl _) (.cells #[.string x0, .int .i64 x1, .int .i64 x2, .int .i64 x3, .int .i64 x4] 40)
  have hbW : Below w.heap.size w W := by rw [← hW]; exact hb1.alloc hb1.size _
  have hz : (w.alloc (.cells #[.string x0, .int .i64 x1, .int .i64 x2, .int .i64 x3, .int .i64 x4] 40)).heap.size = w.heap.size + 1 := by simp
  have hzW : W.heap.size = w.heap.size + 2 := by rw [← hW]; simp
  have r0 : W.heap[w.heap.size]? = some (.cells #[.string x0, .int .i64 x1, .int .i64 x2, .int .i64 x3, .int .i64 x4] 40 (0, 0)) := by
    rw [← hW, Below.heap_alloc _ _ w.heap.size (by omega)]
    exact heap_alloc_new w _
  have r1 : W.heap[w.heap.size + 1]? = some (.cells #[.string ⟨#[]⟩, .int .i64 0, .int .i64 0] 32 (0, 0)) := by
    rw [← hW, ← hz]
    exact heap_alloc_new _ _
  have hRW := hR.below hbW
  have hRl := hR.lt
  have HA := hid (paligned_any E x3 W h0 (by omega) k5)
  unfold rval
  go_enter Try.func22, Try.ntmps22
  go_upto_region 1 with fail
  have p3 := cell_of_row _ w.heap.size 3 _ _ _ r0
  have e0 := cell_of_row _ R 0 _ _ _ hRW
  have f0 := frozen_of_row _ R 0 _ _ hRW
  generalize hg : upTo E x3 = z at *
  go_upto_region 2 with (go_at_call 23; refine HA.out.mono ?_; rintro e w1 ⟨rfl, hw1⟩; rw [hw1]; clear hw1)
  clear HA p3
  have p2 := cell_of_row _ w.heap.size 2 _ _ _ r0
  have HE : Hid (En (W.setCell ⟨R, 0, none⟩ (.int .i64 (z + x2))) R (z + x2)) := hid (heap_setCell_same W R 0 _ _ _ hRW)
  have HF : Hid (But R w (W.setCell ⟨R, 0, none⟩ (.int .i64 (z + x2)))) := hid ⟨fun q a b => (Below.heap_setCell W ⟨R, 0, none⟩ _ q b).trans (hbW.block q a), by simp; omega⟩
  have HB : Hid (Below R w (W.setCell ⟨R, 0, none⟩ (.int .i64 (z + x2)))) := hid ((hbW.mono (Nat.le_of_lt hRl)).setCell (p := ⟨R, 0, none⟩) (Nat.le_refl _) _)
  have s0 : (W.setCell ⟨R, 0, none⟩ (.int .i64 (z + x2))).heap[w.heap.size]? = some (.cells #[.string x0, .int .i64 x1, .int .i64 x2, .int .i64 x3, .int .i64 x4] 40 (0, 0)) := (Below.heap_setCell W ⟨R, 0, none⟩ _ _ (by show w.heap.size ≠ R; omega)).trans r0
  have s1 : (W.setCell ⟨R, 0, none⟩ (.int .i64 (z + x2))).heap[w.heap.size + 1]? = some (.cells #[.string ⟨#[]⟩, .int .i64 0, .int .i64 0] 32 (0, 0)) := (Below.heap_setCell W ⟨R, 0, none⟩ _ _ (by show w.heap.size + 1 ≠ R; omega)).trans r1
  have S0 := hid s0
  have S1 := hid s1
  clear s0 s1 hbW hRW r0 r1 hR hb1 hz hzW
  go_upto_region 3 with fail
  generalize W.setCell ⟨R, 0, none⟩ (.int .i64 (z + x2)) = W2 at *
  have p0 := cell_of_row _ w.heap.size 0 _ _ _ S0.out
  have p2 := cell_of_row _ w.heap.size 2 _ _ _ S0.out
  go_wp2_with (refine stC rfl _ _ rfl (w.heap.size + 1) #[.string x0, .int .i64 z, .int .i64 x2] rfl rfl _ S1.out rfl rfl (slot_one _ _ _) ?_)
  refine retC (g := w.heap.size + 1) (cs := #[.string x0, .int .i64 z, .int .i64 x2]) rfl rfl rfl (setRow_heap _ _ _ _ _ _ S1.out) rfl ?_
  refine ⟨?_, ?_, ?_, ?_⟩
  · rw [← hg]; rfl
  · exact (by rw [hg]; exact (setRow_other _ _ _ _ (by omega)).trans HE.out)
  · exact ⟨fun q a b => (setRow_other _ _ _ _ (by omega)).trans (HF.out.1 q a b), by simp [World.setRow]; exact HF.out.2⟩
  · exact below_setRow HB.out (by omega) _
end Go.Proofs.Ytcaepgggffkjpaa.Cmn
