/-
  wanted's reference: Add, Take.
-/
import Derived.Test.YtbcjbembhajgcaaQi
namespace Go.Proofs.Ytbcjbembhajgcaa.Wnt
open Go.RowKit Go.Proofs Go.Proofs.Ytbcjbembhajgcaa.Byt
open Go.Proofs.Ytbcjbembhajgcaa.Tab (bl bl_iff bl_irrefl bl_trans bl_total putN mem_put Asc asc_put asc_eq tl_inj)

theorem kS : Cel.Kind 26 9 1 16 (.string ⟨#[]⟩) := ⟨by kernel_rfl, by kernel_rfl, by kernel_rfl, by decide⟩
theorem rd_cel {w : World} {K n : Nat} {A : Option Addr} {xs : List ByteArray} (h : Sls.Rd w K A n xs) : Cel.Rd w K A n 1 (Sls.enc xs) :=
  ⟨by rw [Sls.enc_length, h.1, Nat.mul_one], fun k hk => by
    rw [Sls.enc_length] at hk
    obtain ⟨b, o, e, hb, hc⟩ := h.2 k hk
    exact ⟨b, o, e, hb, by rw [hc]; simp [Sls.enc]⟩⟩
theorem step_sls {ops : Array Oper} {o : Oper} {a : Act} {C : Act → World → Prop} {Q : Exit → Act → World → Prop} {E : Prop} (w : World) (K B : Nat) (v : Value) (n : Nat) (l : List ByteArray)
    (hown : Sls.Own w K v n l) (hK : K ≤ w.heap.size) (A : Option Addr) (k c : Nat) (src : List ByteArray) (hr : Sls.Rd w B A k src) (hn : n + k ≤ 1000000)
    (hw : Region.wanted o (yielded ops a.tmps) = true) (s x : Operand) (ho : o.op = .call { callee := .builtin .append, args := #[s, x], argTypes := #[26, 26] }) (hs : a.eval s = v) (hx : a.eval x = .slice A k c)
    (h : ∀ A' c' w', Sls.Own w' K (.slice A' (n + k) c') (n + k) (l ++ src) → Below K w w' → Sls.Fr v w (.slice A' (n + k) c') w' → C (a.put o.dst (.slice A' (n + k) c')) w') :
    if Region.wanted o (yielded ops a.tmps) = true then Oper.wp Try.prog o a w C Q else E := by
  refine Cel.step_rd kS w K B v n (Sls.enc l) (own_cel.1 hown) hK A k c (Sls.enc src) (rd_cel hr) (Sls.enc_one) hn (by omega) hw s x ho hs hx ?_
  intro v' w' h1 h2 h3
  rw [← Sls.enc_append] at h1
  have h1 := own_cel.2 h1
  obtain ⟨A', c', rfl, _⟩ := h1.reads
  exact h A' c' w' h1 h2 h3
theorem rd_up {w w' : World} {n : Nat} {A : Option Addr} {xs : List ByteArray} (h : Sls.Rd w w.heap.size A n xs) (hb : Below w.heap.size w w') : Sls.Rd w' w'.heap.size A n xs := (h.below hb).more hb.size
theorem rd_one {w : World} {q : Nat} {x : ByteArray} {t : TypeId} {m : Nat × Nat} (h : w.heap[q]? = some (.cells #[.string x] t m)) : Sls.Rd w w.heap.size (some ⟨q, 0, none⟩) 1 [x] := by
  refine ⟨rfl, fun k hk => ⟨q, 0, rfl, (Array.getElem?_eq_some_iff.1 h).1, ?_⟩⟩
  simp only [List.length_singleton] at hk
  obtain rfl : k = 0 := by omega
  rw [cell_of_row w q (0 + 0) _ t m h]
  rfl
/-- A slice of names that is read; it lies in none of the blocks G. -/
def RdC (W : World) (G : Nat → Prop) (A : Option Addr) (n c : Nat) (xs : List ByteArray) : Prop := Sls.Rd W W.heap.size A n xs ∧ (∀ b o, A = some ⟨b, o, none⟩ → 0 < n → ¬ G b) ∧ n ≤ c ∧ c ≤ maxLen
theorem RdC.below {W W' : World} {G : Nat → Prop} {n c : Nat} {A : Option Addr} {xs : List ByteArray} (h : RdC W G A n c xs) (hb : Below W.heap.size W W') : RdC W' G A n c xs := ⟨rd_up h.1 hb, h.2⟩
theorem RdC.set {W : World} {G : Nat → Prop} {g n c i : Nat} {A : Option Addr} {xs : List ByteArray} {y : Value} (h : RdC W G A n c xs) (hg : G g) : RdC (W.setCell ⟨g, i, none⟩ y) G A n c xs := by
  refine ⟨⟨h.1.1, fun k hk => ?_⟩, h.2⟩
  obtain ⟨b, o, e, hb, hc⟩ := h.1.2 k hk
  have hne : b ≠ g := fun q => h.2.1 b o e (by have := h.1.1; omega) (q ▸ hg)
  refine ⟨b, o, e, by rw [World.size_setCell]; exact hb, ?_⟩
  have := Below.heap_setCell W ⟨g, i, none⟩ y b hne
  simp only [World.cell?] at hc ⊢
  rw [this]
  exact hc
theorem RdC.own {W : World} {K n c : Nat} {G : Nat → Prop} {A : Option Addr} {xs : List ByteArray} (h : Sls.Own W K (.slice A n c) n xs) (hg : ∀ q, K ≤ q → ¬ G q) : RdC W G A n c xs := by
  obtain ⟨A', c', e, hr, h1, h2⟩ := h.reads
  injection e with e1 _ e3
  subst e1 e3
  refine ⟨hr, fun b o e _ => ?_, h1, h2⟩
  rcases h.2 with ⟨e', _⟩ | ⟨q, cap, cur, mm, hv, hq, _⟩
  · injection e' with e' _ _
    rw [e'] at e
    cases e
  · injection hv with hv _ _
    rw [hv] at e
    injection e with e
    injection e with e _ _
    exact hg b (by omega)
theorem RdC.sub {W : World} {G G' : Nat → Prop} {n c : Nat} {A : Option Addr} {xs : List ByteArray} (h : RdC W G A n c xs) (hg : ∀ b, b < W.heap.size → G' b → G b) : RdC W G' A n c xs := by
  refine ⟨h.1, fun b o e h0 hb => ?_, h.2.2⟩
  obtain ⟨b', o', e', hlt, _⟩ := h.1.2 0 (by rw [h.1.1]; exact h0)
  rw [e] at e'
  injection e' with e'
  injection e' with e' _ _
  subst e'
  exact h.2.1 b o e h0 (hg b hlt hb)
/-- The reference's worklist: its block, its results' block. -/
def Rk (w W : World) (a b : Value) : Prop := W.heap[w.heap.size]? = some (.cells #[a, b] 31 (0, 0)) ∧ W.heap[w.heap.size + 1]? = some (.cells #[.slice none 0 0, .slice none 0 0] 31 (0, 0)) ∧ Below w.heap.size w W ∧ w.heap.size + 1 < W.heap.size
theorem Rk.below {w W W' : World} {a b : Value} (h : Rk w W a b) (hb : Below W.heap.size W W') : Rk w W' a b :=
  ⟨(hb.block _ (by have := h.2.2.2; omega)).trans h.1, (hb.block _ h.2.2.2).trans h.2.1, h.2.2.1.trans (hb.mono h.2.2.1.size), Nat.lt_of_lt_of_le h.2.2.2 hb.size⟩
theorem Rk.set0 {w W : World} {a b : Value} (h : Rk w W a b) (y : Value) : Rk w (W.setCell ⟨w.heap.size, 0, none⟩ y) y b :=
  ⟨heap_setCell_same W _ 0 _ _ y h.1, (heap_setCell_other W ⟨w.heap.size, 0, none⟩ (w.heap.size + 1) y (by show w.heap.size + 1 ≠ w.heap.size; omega)).trans h.2.1, h.2.2.1.setCell (p := ⟨w.heap.size, 0, none⟩) (Nat.le_refl _) y, by rw [World.size_setCell]; exact h.2.2.2⟩
theorem Rk.set1 {w W : World} {a b : Value} (h : Rk w W a b) (y : Value) : Rk w (W.setCell ⟨w.heap.size, 1, none⟩ y) a y :=
  ⟨heap_setCell_same W _ 1 _ _ y h.1, (heap_setCell_other W ⟨w.heap.size, 1, none⟩ (w.heap.size + 1) y (by show w.heap.size + 1 ≠ w.heap.size; omega)).trans h.2.1, h.2.2.1.setCell (p := ⟨w.heap.size, 1, none⟩) (Nat.le_refl _) y, by rw [World.size_setCell]; exact h.2.2.2⟩
/-- The blocks that the function writes. -/
def Gk (G : Nat → Prop) (w : World) (b : Nat) : Prop := G b ∨ b = w.heap.size ∨ b = w.heap.size + 1
theorem load_ag {W : World} {g : Nat} {x y : Value} (h : W.heap[g]? = some (.cells #[x, y] 31 (0, 0))) : (loadVar 31 ⟨g, 0, none⟩).run Try.prog W = .ok (.agg #[x, y]) W := by
  have c0 := cell_of_row _ g 0 _ _ _ h
  have c1 := cell_of_row _ g 1 _ _ _ h
  simp only [List.getElem?_toArray, List.getElem?_cons_zero, List.getElem?_cons_succ] at c0 c1
  simp [loadVar, Try.isAgg31, Try.sizeOf31, go_sem, c0, c1]
/-- What the reference's Add gives. -/
def RAdd (G : Nat → Prop) (ws sn xs : List ByteArray) (w : World) (e : Ending) (w' : World) : Prop :=
  ∃ A1 n1 c1 A2 n2 c2, e = .returned (.tuple #[.agg #[.slice A1 n1 c1, .slice A2 n2 c2], .int .i64 (((addA (ws, sn) xs).2.length : Int) - (sn.length : Int))]) ∧ RdC w' G A1 n1 c1 (addA (ws, sn) xs).1 ∧ RdC w' G A2 n2 c2 (addA (ws, sn) xs).2 ∧ Below w.heap.size w w'

set_option linter.unusedSimpArgs false in
set_option maxRecDepth 100000 in
set_option maxHeartbeats 4000000 in
theorem radd_any (G : Nat → Prop) (A1 A2 A : Option Addr) (n1 c1 n2 c2 n c : Nat) (ws sn xs : List ByteArray) (w : World) (hG : ∀ b, G b → b < w.heap.size) (h1 : RdC w G A1 n1 c1 ws) (h2 : RdC w G A2 n2 c2 sn) (h : Sls.Rd w w.heap.size A n xs) (hn1 : n1 + n ≤ 5000) (hn2 : n2 + n ≤ 5000) :
    Calls Try.prog 11 #[.agg #[.slice A1 n1 c1, .slice A2 n2 c2], .slice A n c] w (RAdd G ws sn xs w) := by
  have hb0 := ((Below.refl w.heap.size w).alloc (Nat.le_refl _) (.cells #[.slice A1 n1 c1, .slice A2 n2 c2] 31)).alloc (by simp) (.cells #[.slice none 0 0, .slice none 0 0] 31)
  have hK0 : Hid (Rk w ((w.alloc (.cells #[.slice A1 n1 c1, .slice A2 n2 c2] 31)).alloc (.cells #[.slice none 0 0, .slice none 0 0] 31)) (.slice A1 n1 c1) (.slice A2 n2 c2)) := hid ⟨(Below.heap_alloc _ _ _ (by simp)).trans (heap_alloc_new w _), by have := heap_alloc_new (w.alloc (.cells #[.slice A1 n1 c1, .slice A2 n2 c2] 31)) (.cells #[.slice none 0 0, .slice none 0 0] 31); rw [World.size_alloc] at this; exact this, hb0, by simp⟩
  have hg : ∀ b, b < w.heap.size → Gk G w b → G b := fun b hb hg => by
    rcases hg with q | q | q
    · exact q
    · omega
    · omega
  have hR0 := hid (And.intro ((h1.sub hg).below hb0) ((h2.sub hg).below hb0))
  have HX := hid h
  have Hx : xs.length = n := h.1
  have Hw := hid h1.1.1
  have Hs := hid h2.1.1
  have HGk : Hid (∀ q, w.heap.size + 2 ≤ q → ¬ Gk G w q) := hid fun q hq hg => by
    rcases hg with e | e | e
    · have := hG q e; omega
    · omega
    · omega
  clear h1 h2 h hg hb0
  go_enter Try.func11, Try.ntmps11
  go_wp2_with fail
  go_loopw [6, 7] (fun mv iv W => ∃ (k : Nat) (A1 A2 : Option Addr) (n1 c1 n2 c2 : Nat), mv = .int .i64 (((addA (ws, sn) (xs.take k)).2.length : Int) - (sn.length : Int)) ∧ iv = .int .i64 (k : Int) ∧ k ≤ n ∧ Hid (Rk w W (.slice A1 n1 c1) (.slice A2 n2 c2)) ∧ Hid (RdC W (Gk G w) A1 n1 c1 (addA (ws, sn) (xs.take k)).1 ∧ RdC W (Gk G w) A2 n2 c2 (addA (ws, sn) (xs.take k)).2)) (fun _ iv _ => n - (intOf iv).toNat)
  case atStart => exact ⟨0, A1, A2, n1, c1, n2, c2, by simp [addA_nil], rfl, by omega, hK0, hR0⟩
  case round =>
    obtain ⟨k, A1, A2, n1, c1, n2, c2, rfl, rfl, hk, hK, hR⟩ := hrel
    clear hK0 hR0
    have Hl := addA_len (ws, sn) (xs.take k)
    have hlk : (xs.take k).length = k := by rw [List.length_take]; omega
    rw [hlk] at Hl
    have hR2n := hR.out.2.1.1
    have hR1n := hR.out.1.1.1
    have ht0 : ((addA (ws, sn) (xs.take k)).2.length : Int) ≤ 5000 := by have := Hl.2.1; simp only at this; have := Hs.out; omega
    have ht1 : (sn.length : Int) ≤ ((addA (ws, sn) (xs.take k)).2.length : Int) := by have := Hl.2.2; simp only at this; omega
    have hN1 : n1 ≤ 5000 := by have := Hl.1; simp only at this; have := Hw.out; omega
    have hN2 : n2 ≤ 5000 := by omega
    clear Hl hlk hR1n hR2n
    by_cases hlt : k < n
    · have hkl : k < xs.length := by omega
      have hki : (k : Int) < (n : Int) := by omega
      have HS1 : Hid (addA (ws, sn) (xs.take (k + 1)) = addS (addA (ws, sn) (xs.take k)) xs[k]) := hid (by rw [List.take_succ_eq_append_getElem hkl, addA_snoc])
      obtain ⟨b, o, rfl, hbK, _⟩ := HX.out.2 k hkl
      have HC1w := hid fun (V : World) (hV : Below w.heap.size w V) => (by obtain ⟨b', o', e, _, q⟩ := (HX.out.below hV).2 k hkl; injection e with e; injection e with e1 e2; subst e1 e2; exact q : V.cell? ⟨b, o + k, none⟩ = some (.string xs[k]))
      generalize xs[k] = x at *
      generalize hp : addA (ws, sn) (xs.take k) = p at *
      obtain ⟨ws0, sn0⟩ := p
      simp only at *
      have HH := hid fun j => rhas_any _ A2 n2 c2 sn0 x (wr.drewN j) (hR.out.2.1.drewN j) (by omega)
      have q1 := cell_of_row _ w.heap.size 1 _ _ _ hK.out.1
      have p1 := HC1w.out wr hK.out.2.2.1
      cases hx : hasN sn0 x
      · rw [hx] at HH
        have HS2 : Hid (addA (ws, sn) (xs.take (k + 1)) = (putN ws0 x, sn0 ++ [x])) := hid (by rw [HS1.out]; unfold addS; rw [if_neg (by show ¬ hasN sn0 x = true; rw [hx]; decide)])
        go_wp2_with fail
        go_quiet ((go_at_call 14; refine Calls.quiet_of_same (HH.out _)))
        have hKq := hid (hK.out.below (W' := wr.drewN nq) ⟨rfl, rfl, rfl, Nat.le_refl _, fun _ _ => rfl⟩)
        have hRq : Hid (RdC (wr.drewN nq) (Gk G w) A1 n1 c1 ws0 ∧ RdC (wr.drewN nq) (Gk G w) A2 n2 c2 sn0) := hid hR.out
        clear HH HS1 hx hK hR q1 p1
        generalize wr.drewN nq = wr at *
        go_upto_region 6 with fail
        have HC1 := hid fun (V : World) (hV : Below wr.heap.size wr V) => HC1w.out V (hKq.out.2.2.1.trans (hV.mono hKq.out.2.2.1.size))
        have HC0 := hid fun (V : World) (hV : Below wr.heap.size wr V) => cell_of_row V w.heap.size 1 _ _ _ (hKq.out.below hV).1
        have HK := hid fun (V : World) (hV : Below wr.heap.size wr V) => hKq.out.below hV
        have HR2 := hid hRq.out.2.1
        have hgz := hKq.out.2.2.2
        go_cut [] from 22 to 32 (fun W => ∃ A4 c4 w4, W = World.setCell w4 ⟨w.heap.size, 1, none⟩ (.slice A4 (n2 + 1) c4) ∧ Sls.Own w4 wr.heap.size (.slice A4 (n2 + 1) c4) (n2 + 1) (sn0 ++ [x]) ∧ Below wr.heap.size wr w4)
        case first =>
          refine Ord.Till.begin (fun V => Below wr.heap.size wr V) 11 (by kernel_rfl) ?_
          have hS0 : (fun V : World => Below wr.heap.size wr V) wr.drew := (Below.refl _ _).drew
          refine Ord.Till.take' 1 (some 23) (oi := _) (x := ?_) rfl rfl (by kernel_rfl) (by kernel_rfl) (by kernel_rfl) (by kernel_rfl) (fun _ _ _ h => h) (by kernel_rfl) ?_ hS0 ?_
          rotate_left 1
          · intro V hv; have z0 := HC0.out V hv; have z1 := HC1.out V hv; go_simp; first | done | with_reducible rfl
          try simp only [List.getElem_toArray, List.getElem_cons_zero, List.getElem_cons_succ, Act.put, List.setIfInBounds_toArray, List.set_cons_zero, List.set_cons_succ]
          refine Ord.Till.take' 2 (some 24) (oi := _) (x := ?_) rfl rfl (by kernel_rfl) (by kernel_rfl) (by kernel_rfl) (by kernel_rfl) (fun _ _ _ h => h) (by kernel_rfl) ?_ hS0 ?_
          rotate_left 1
          · intro V hv; have z0 := HC0.out V hv; have z1 := HC1.out V hv; go_simp; first | done | with_reducible rfl
          try simp only [List.getElem_toArray, List.getElem_cons_zero, List.getElem_cons_succ, Act.put, List.setIfInBounds_toArray, List.set_cons_zero, List.set_cons_succ]
          refine Ord.Till.take' 4 (some 26) (oi := _) (x := ?_) rfl rfl (by kernel_rfl) (by kernel_rfl) (by kernel_rfl) (by kernel_rfl) (fun _ _ _ h => h) (by kernel_rfl) ?_ hS0 ?_
          rotate_left 1
          · intro V hv; have z0 := HC0.out V hv; have z1 := HC1.out V hv; go_simp; first | done | with_reducible rfl
          try simp only [List.getElem_toArray, List.getElem_cons_zero, List.getElem_cons_succ, Act.put, List.setIfInBounds_toArray, List.set_cons_zero, List.set_cons_succ]
          refine Ord.Till.take' 5 (some 27) (oi := _) (x := ?_) rfl rfl (by kernel_rfl) (by kernel_rfl) (by kernel_rfl) (by kernel_rfl) (fun _ _ _ h => h) (by kernel_rfl) ?_ hS0 ?_
          rotate_left 1
          · intro V hv; have z0 := HC0.out V hv; have z1 := HC1.out V hv; go_simp; first | done | with_reducible rfl
          try simp only [List.getElem_toArray, List.getElem_cons_zero, List.getElem_cons_succ, Act.put, List.setIfInBounds_toArray, List.set_cons_zero, List.set_cons_succ]
          refine Ord.Till.take' 6 (some 28) (oi := _) (x := ?_) rfl rfl (by kernel_rfl) (by kernel_rfl) (by kernel_rfl) (by kernel_rfl) (fun _ _ _ h => h) (by kernel_rfl) ?_ hS0 ?_
          rotate_left 1
          · intro V hv; have z0 := HC0.out V hv; have z1 := HC1.out V hv; go_simp; first | done | with_reducible rfl
          try simp only [List.getElem_toArray, List.getElem_cons_zero, List.getElem_cons_succ, Act.put, List.setIfInBounds_toArray, List.set_cons_zero, List.set_cons_succ]
          refine Ord.Till.take' 7 (some 29) (oi := _) (x := ?_) rfl rfl (by kernel_rfl) (by kernel_rfl) (by kernel_rfl) (by kernel_rfl) (fun _ _ _ h => h) (by kernel_rfl) ?_ hS0 ?_
          rotate_left 1
          · intro V hv; have z0 := HC0.out V hv; have z1 := HC1.out V hv; go_simp; first | done | with_reducible rfl
          try simp only [List.getElem_toArray, List.getElem_cons_zero, List.getElem_cons_succ, Act.put, List.setIfInBounds_toArray, List.set_cons_zero, List.set_cons_succ]
          refine Ord.Till.two 0 8 (by kernel_rfl) rfl rfl (fun C hC => ?_) (fun C hC => ?_)
          · rw [if_pos (by kernel_rfl)]
            go_simp
            have hb1 : Below wr.heap.size wr (wr.alloc (.cells #[] 9)).drew := ((Below.refl _ _).alloc (Nat.le_refl _) _).drew
            have o1 : Sls.Own (wr.alloc (.cells #[] 9)).drew wr.heap.size (.slice (some ⟨wr.heap.size, 0, none⟩) 0 0) 0 [] := Sls.Own.lit0 wr _ (Nat.le_refl _)
            have z1 : (wr.alloc (.cells #[] 9)).drew.heap.size = wr.heap.size + 1 := World.size_alloc _ _
            refine hC.out _ _ (fun _ => hb1) ?_
            clear hC C
            try simp only [List.getElem_toArray, List.getElem_cons_zero, List.getElem_cons_succ, Act.put, List.setIfInBounds_toArray, List.set_cons_zero, List.set_cons_succ]
            generalize (wr.alloc (.cells #[] 9)).drew = w1 at *
            refine Ord.Till.two 3 8 (by kernel_rfl) rfl rfl (fun C hC => ?_) (fun C hC => ?_)
            · refine step_sls w1 wr.heap.size w1.heap.size _ 0 [] o1 (by omega) A2 n2 c2 sn0 (rd_up HR2.out hb1) (by omega) (by kernel_rfl) _ _ (by rfl) (by rfl) (by rfl) ?_
              intro A3 c3 w2 o2 b2 f2
              rw [Nat.zero_add, List.nil_append] at o2
              have hb2 := hb1.trans b2
              refine hC.out _ _ (fun _ => hb2) ?_
              clear hC C
              try simp only [List.getElem_toArray, List.getElem_cons_zero, List.getElem_cons_succ, Act.put, List.setIfInBounds_toArray, List.set_cons_zero, List.set_cons_succ]
              refine Ord.Till.step 8 (by kernel_rfl) rfl (fun C hC => ?_)
              go_simp
              have hb3 : Below wr.heap.size wr (w2.alloc (.cells #[.string x] 9)) := hb2.alloc hb2.size _
              have o3 : Sls.Own (w2.alloc (.cells #[.string x] 9)) wr.heap.size (.slice A3 n2 c3) n2 sn0 := o2.alloc _
              have r3 : Sls.Rd (w2.alloc (.cells #[.string x] 9)) (w2.heap.size + 1) (some ⟨w2.heap.size, 0, none⟩) 1 [x] := Sls.Rd.lit w2 [x] _ rfl 1 rfl
              refine hC.out _ _ (fun _ => hb3) ?_
              clear hC C
              try simp only [List.getElem_toArray, List.getElem_cons_zero, List.getElem_cons_succ, Act.put, List.setIfInBounds_toArray, List.set_cons_zero, List.set_cons_succ]
              refine Ord.Till.step 9 (by kernel_rfl) rfl (fun C hC => ?_)
              refine step_sls _ wr.heap.size _ _ n2 sn0 o3 hb3.size _ 1 1 [x] r3 (by omega) (by kernel_rfl) _ _ (by rfl) (by rfl) (by rfl) ?_
              intro A4 c4 w4 ho4 b4 _
              have hb4 := hb3.trans b4
              refine hC.out _ _ (fun _ => hb4) ?_
              clear hC C
              try simp only [List.getElem_toArray, List.getElem_cons_zero, List.getElem_cons_succ, Act.put, List.setIfInBounds_toArray, List.set_cons_zero, List.set_cons_succ]
              refine Ord.Till.step 10 (by kernel_rfl) rfl (fun C hC => ?_)
              go_simp
              refine hC.out _ _ (fun _ => hb4) ?_
              clear hC C
              try simp only [List.getElem_toArray, List.getElem_cons_zero, List.getElem_cons_succ, Act.put, List.setIfInBounds_toArray, List.set_cons_zero, List.set_cons_succ]
              have g4 := HK.out _ hb4
              have q4 := cell_of_row _ w.heap.size 1 _ _ _ g4.1
              have f4 := frozen_of_row w4 w.heap.size 1 _ _ g4.1
              refine Ord.Till.step 11 (by kernel_rfl) rfl (fun C hC => ?_)
              go_simp
              refine hC.out _ _ (fun hz => absurd rfl hz) ?_
              clear hC C
              refine Ord.Till.done (by kernel_rfl) ?_ _
              go_wp2_with fail
              go_meet
              exact ⟨A4, c4, w4, rfl, ho4, hb4⟩
            · rw [if_pos (by kernel_rfl)]
              go_simp
              have hb2 : Below wr.heap.size wr (w1.alloc (.cells #[.string x] 9)) := hb1.alloc (by omega) _
              have o2 : Sls.Own (w1.alloc (.cells #[.string x] 9)) wr.heap.size (.slice (some ⟨wr.heap.size, 0, none⟩) 0 0) 0 [] := o1.alloc _
              have r2 : (w1.alloc (.cells #[.string x] 9)).heap[wr.heap.size + 1]? = some (.cells #[.string x] 9 (0, 0)) := by rw [← z1]; exact heap_alloc_new w1 _
              have z2 : (w1.alloc (.cells #[.string x] 9)).heap.size = wr.heap.size + 2 := by rw [World.size_alloc]; omega
              refine hC.out _ _ (fun _ => hb2) ?_
              clear hC C
              try simp only [List.getElem_toArray, List.getElem_cons_zero, List.getElem_cons_succ, Act.put, List.setIfInBounds_toArray, List.set_cons_zero, List.set_cons_succ]
              generalize w1.alloc (.cells #[.string x] 9) = w2 at *
              refine Ord.Till.step 3 (by kernel_rfl) rfl (fun C hC => ?_)
              refine step_sls w2 wr.heap.size w2.heap.size _ 0 [] o2 (by omega) A2 n2 c2 sn0 (rd_up HR2.out hb2) (by omega) (by kernel_rfl) _ _ (by rfl) (by rfl) (by rfl) ?_
              intro A3 c3 w3 o3 b3 f3
              rw [Nat.zero_add, List.nil_append] at o3
              have hb3 := hb2.trans b3
              have o3' : Sls.Own w3 wr.heap.size (.slice A3 (0 + n2) c3) n2 sn0 := by rw [Nat.zero_add]; exact o3
              have r3 := rd_one ((f3.1 (wr.heap.size + 1) (by omega) (fun e => by injection e with e; have e : wr.heap.size = wr.heap.size + 1 := e; omega)).trans r2)
              refine hC.out _ _ (fun _ => hb3) ?_
              clear hC C
              try simp only [List.getElem_toArray, List.getElem_cons_zero, List.getElem_cons_succ, Act.put, List.setIfInBounds_toArray, List.set_cons_zero, List.set_cons_succ]
              refine Ord.Till.step 9 (by kernel_rfl) rfl (fun C hC => ?_)
              refine step_sls _ wr.heap.size _ _ n2 sn0 o3' hb3.size _ 1 1 [x] r3 (by omega) (by kernel_rfl) _ _ (by rfl) (by rfl) (by rfl) ?_
              intro A4 c4 w4 ho4 b4 _
              have hb4 := hb3.trans b4
              refine hC.out _ _ (fun _ => hb4) ?_
              clear hC C
              try simp only [List.getElem_toArray, List.getElem_cons_zero, List.getElem_cons_succ, Act.put, List.setIfInBounds_toArray, List.set_cons_zero, List.set_cons_succ]
              refine Ord.Till.step 10 (by kernel_rfl) rfl (fun C hC => ?_)
              go_simp
              refine hC.out _ _ (fun _ => hb4) ?_
              clear hC C
              try simp only [List.getElem_toArray, List.getElem_cons_zero, List.getElem_cons_succ, Act.put, List.setIfInBounds_toArray, List.set_cons_zero, List.set_cons_succ]
              have g4 := HK.out _ hb4
              have q4 := cell_of_row _ w.heap.size 1 _ _ _ g4.1
              have f4 := frozen_of_row w4 w.heap.size 1 _ _ g4.1
              refine Ord.Till.step 11 (by kernel_rfl) rfl (fun C hC => ?_)
              go_simp
              refine hC.out _ _ (fun hz => absurd rfl hz) ?_
              clear hC C
              refine Ord.Till.done (by kernel_rfl) ?_ _
              go_wp2_with fail
              go_meet
              exact ⟨A4, c4, w4, rfl, ho4, hb4⟩
          · rw [if_pos (by kernel_rfl)]
            go_simp
            have hb1 : Below wr.heap.size wr (wr.alloc (.cells #[.string x] 9)).drew := ((Below.refl _ _).alloc (Nat.le_refl _) _).drew
            have r1 : (wr.alloc (.cells #[.string x] 9)).drew.heap[wr.heap.size]? = some (.cells #[.string x] 9 (0, 0)) := heap_alloc_new wr _
            have z1 : (wr.alloc (.cells #[.string x] 9)).drew.heap.size = wr.heap.size + 1 := World.size_alloc _ _
            refine hC.out _ _ (fun _ => hb1) ?_
            clear hC C
            try simp only [List.getElem_toArray, List.getElem_cons_zero, List.getElem_cons_succ, Act.put, List.setIfInBounds_toArray, List.set_cons_zero, List.set_cons_succ]
            generalize (wr.alloc (.cells #[.string x] 9)).drew = w1 at *
            refine Ord.Till.step 0 (by kernel_rfl) rfl (fun C hC => ?_)
            go_simp
            have hb2 : Below wr.heap.size wr (w1.alloc (.cells #[] 9)) := hb1.alloc (by omega) _
            have o2 : Sls.Own (w1.alloc (.cells #[] 9)) wr.heap.size (.slice (some ⟨w1.heap.size, 0, none⟩) 0 0) 0 [] := Sls.Own.lit0 w1 _ (by omega)
            have r2 : (w1.alloc (.cells #[] 9)).heap[wr.heap.size]? = some (.cells #[.string x] 9 (0, 0)) := (Below.heap_alloc w1 _ wr.heap.size (by omega)).trans r1
            have z2 : (w1.alloc (.cells #[] 9)).heap.size = wr.heap.size + 2 := by rw [World.size_alloc]; omega
            rw [z1] at o2
            refine hC.out _ _ (fun _ => hb2) ?_
            clear hC C
            try simp only [List.getElem_toArray, List.getElem_cons_zero, List.getElem_cons_succ, Act.put, List.setIfInBounds_toArray, List.set_cons_zero, List.set_cons_succ]
            generalize w1.alloc (.cells #[] 9) = w2 at *
            refine Ord.Till.step 3 (by kernel_rfl) rfl (fun C hC => ?_)
            refine step_sls w2 wr.heap.size w2.heap.size _ 0 [] o2 (by omega) A2 n2 c2 sn0 (rd_up HR2.out hb2) (by omega) (by kernel_rfl) _ _ (by rfl) (by rfl) (by rfl) ?_
            intro A3 c3 w3 o3 b3 f3
            rw [Nat.zero_add, List.nil_append] at o3
            have hb3 := hb2.trans b3
            have o3' : Sls.Own w3 wr.heap.size (.slice A3 (0 + n2) c3) n2 sn0 := by rw [Nat.zero_add]; exact o3
            have r3 := rd_one ((f3.1 wr.heap.size (by omega) (fun e => by injection e with e; have e : wr.heap.size + 1 = wr.heap.size := e; omega)).trans r2)
            refine hC.out _ _ (fun _ => hb3) ?_
            clear hC C
            try simp only [List.getElem_toArray, List.getElem_cons_zero, List.getElem_cons_succ, Act.put, List.setIfInBounds_toArray, List.set_cons_zero, List.set_cons_succ]
            refine Ord.Till.step 9 (by kernel_rfl) rfl (fun C hC => ?_)
            refine step_sls _ wr.heap.size _ _ n2 sn0 o3' hb3.size _ 1 1 [x] r3 (by omega) (by kernel_rfl) _ _ (by rfl) (by rfl) (by rfl) ?_
            intro A4 c4 w4 ho4 b4 _
            have hb4 := hb3.trans b4
            refine hC.out _ _ (fun _ => hb4) ?_
            clear hC C
            try simp only [List.getElem_toArray, List.getElem_cons_zero, List.getElem_cons_succ, Act.put, List.setIfInBounds_toArray, List.set_cons_zero, List.set_cons_succ]
            refine Ord.Till.step 10 (by kernel_rfl) rfl (fun C hC => ?_)
            go_simp
            refine hC.out _ _ (fun _ => hb4) ?_
            clear hC C
            try simp only [List.getElem_toArray, List.getElem_cons_zero, List.getElem_cons_succ, Act.put, List.setIfInBounds_toArray, List.set_cons_zero, List.set_cons_succ]
            have g4 := HK.out _ hb4
            have q4 := cell_of_row _ w.heap.size 1 _ _ _ g4.1
            have f4 := frozen_of_row w4 w.heap.size 1 _ _ g4.1
            refine Ord.Till.step 11 (by kernel_rfl) rfl (fun C hC => ?_)
            go_simp
            refine hC.out _ _ (fun hz => absurd rfl hz) ?_
            clear hC C
            refine Ord.Till.done (by kernel_rfl) ?_ _
            go_wp2_with fail
            go_meet
            exact ⟨A4, c4, w4, rfl, ho4, hb4⟩
        case rest =>
          obtain ⟨A4, c4, w4, rfl, ho4, hb4⟩ := hcut
          have hK4 := hid ((HK.out w4 hb4).set1 (.slice A4 (n2 + 1) c4))
          have hsz : w.heap.size + 2 ≤ wr.heap.size := by omega
          have hG1 : Gk G w w.heap.size := .inr (.inl rfl)
          have hR4 := hid (And.intro ((hRq.out.1.below hb4).set (i := 1) (y := .slice A4 (n2 + 1) c4) hG1) ((RdC.own ho4 fun q hq => HGk.out q (by omega)).set (i := 1) (y := .slice A4 (n2 + 1) c4) hG1))
          clear HC0 HC1 HK HR2 hKq hRq hb4 ho4 hgz hsz
          generalize w4.setCell ⟨w.heap.size, 1, none⟩ (.slice A4 (n2 + 1) c4) = wq at *
          have HC1 := hid fun (V : World) (hV : Below wq.heap.size wq V) => HC1w.out V (hK4.out.2.2.1.trans (hV.mono hK4.out.2.2.1.size))
          have HC0 := hid fun (V : World) (hV : Below wq.heap.size wq V) => cell_of_row V w.heap.size 0 _ _ _ (hK4.out.below hV).1
          have HP := hid (rput_any wq.drew.heap.size A1 n1 c1 ws0 x wq.drew hR4.out.1.1 (Nat.le_refl _) (by omega))
          go_upto_region 7 with fail
          refine Ord.Till.begin (fun V => Below wq.heap.size wq V) 8 (by kernel_rfl) ?_
          have hS0 : (fun V : World => Below wq.heap.size wq V) wq.drew := (Below.refl _ _).drew
          refine Ord.Till.take' 0 (some 33) (oi := _) (x := ?_) rfl rfl (by kernel_rfl) (by kernel_rfl) (by kernel_rfl) (by kernel_rfl) (fun _ _ _ h => h) (by kernel_rfl) ?_ hS0 ?_
          rotate_left 1
          · intro V hv; have z0 := HC0.out V hv; have z1 := HC1.out V hv; go_simp; first | done | with_reducible rfl
          try simp only [List.getElem_toArray, List.getElem_cons_zero, List.getElem_cons_succ, Act.put, List.setIfInBounds_toArray, List.set_cons_zero, List.set_cons_succ]
          refine Ord.Till.take' 1 (some 34) (oi := _) (x := ?_) rfl rfl (by kernel_rfl) (by kernel_rfl) (by kernel_rfl) (by kernel_rfl) (fun _ _ _ h => h) (by kernel_rfl) ?_ hS0 ?_
          rotate_left 1
          · intro V hv; have z0 := HC0.out V hv; have z1 := HC1.out V hv; go_simp; first | done | with_reducible rfl
          try simp only [List.getElem_toArray, List.getElem_cons_zero, List.getElem_cons_succ, Act.put, List.setIfInBounds_toArray, List.set_cons_zero, List.set_cons_succ]
          refine Ord.Till.take' 2 (some 35) (oi := _) (x := ?_) rfl rfl (by kernel_rfl) (by kernel_rfl) (by kernel_rfl) (by kernel_rfl) (fun _ _ _ h => h) (by kernel_rfl) ?_ hS0 ?_
          rotate_left 1
          · intro V hv; have z0 := HC0.out V hv; have z1 := HC1.out V hv; go_simp; first | done | with_reducible rfl
          try simp only [List.getElem_toArray, List.getElem_cons_zero, List.getElem_cons_succ, Act.put, List.setIfInBounds_toArray, List.set_cons_zero, List.set_cons_succ]
          refine Ord.Till.take' 3 (some 36) (oi := _) (x := ?_) rfl rfl (by kernel_rfl) (by kernel_rfl) (by kernel_rfl) (by kernel_rfl) (fun _ _ _ h => h) (by kernel_rfl) ?_ hS0 ?_
          rotate_left 1
          · intro V hv; have z0 := HC0.out V hv; have z1 := HC1.out V hv; go_simp; first | done | with_reducible rfl
          try simp only [List.getElem_toArray, List.getElem_cons_zero, List.getElem_cons_succ, Act.put, List.setIfInBounds_toArray, List.set_cons_zero, List.set_cons_succ]
          refine Ord.Till.take' 4 (some 37) (oi := _) (x := ?_) rfl rfl (by kernel_rfl) (by kernel_rfl) (by kernel_rfl) (by kernel_rfl) (fun _ _ _ h => h) (by kernel_rfl) ?_ hS0 ?_
          rotate_left 1
          · intro V hv; have z0 := HC0.out V hv; have z1 := HC1.out V hv; go_simp; first | done | with_reducible rfl
          try simp only [List.getElem_toArray, List.getElem_cons_zero, List.getElem_cons_succ, Act.put, List.setIfInBounds_toArray, List.set_cons_zero, List.set_cons_succ]
          refine Ord.Till.take' 5 (some 38) (oi := _) (x := ?_) rfl rfl (by kernel_rfl) (by kernel_rfl) (by kernel_rfl) (by kernel_rfl) (fun _ _ _ h => h) (by kernel_rfl) ?_ hS0 ?_
          rotate_left 1
          · intro V hv; have z0 := HC0.out V hv; have z1 := HC1.out V hv; go_simp; first | done | with_reducible rfl
          try simp only [List.getElem_toArray, List.getElem_cons_zero, List.getElem_cons_succ, Act.put, List.setIfInBounds_toArray, List.set_cons_zero, List.set_cons_succ]
          refine Ord.Till.step 6 (by kernel_rfl) rfl (fun C hC => ?_)
          go_simp
          go_at_call 17
          refine HP.out.mono ?_
          rintro e w5 ⟨A5, c5, rfl, ho5, hb5⟩
          have hb5 : Below wq.heap.size wq w5 := hS0.trans hb5
          refine hC.out _ _ (fun _ => hb5) ?_
          clear hC C
          try simp only [List.getElem_toArray, List.getElem_cons_zero, List.getElem_cons_succ, Act.put, List.setIfInBounds_toArray, List.set_cons_zero, List.set_cons_succ]
          refine Ord.Till.step 7 (by kernel_rfl) rfl (fun C hC => ?_)
          go_simp
          refine hC.out _ _ (fun _ => hb5) ?_
          clear hC C
          try simp only [List.getElem_toArray, List.getElem_cons_zero, List.getElem_cons_succ, Act.put, List.setIfInBounds_toArray, List.set_cons_zero, List.set_cons_succ]
          have hK5 := hid (hK4.out.below hb5)
          have q5 := cell_of_row _ w.heap.size 0 _ _ _ hK5.out.1
          have f5 := frozen_of_row w5 w.heap.size 0 _ _ hK5.out.1
          refine Ord.Till.step 8 (by kernel_rfl) rfl (fun C hC => ?_)
          go_simp
          refine hC.out _ _ (fun hz => absurd rfl hz) ?_
          clear hC C
          refine Ord.Till.done (by kernel_rfl) ?_ _
          have hG1 : Gk G w w.heap.size := .inr (.inl rfl)
          have hK6 := hid (hK5.out.set0 (.slice A5 (putN ws0 x).length c5))
          have hsq : w.heap.size + 2 ≤ wq.heap.size := hK4.out.2.2.2
          have hR6 := hid (And.intro ((RdC.own ho5 fun q hq => HGk.out q (Nat.le_trans hsq hq)).set (i := 0) (y := .slice A5 (putN ws0 x).length c5) hG1) ((hR4.out.2.below hb5).set (i := 0) (y := .slice A5 (putN ws0 x).length c5) hG1))
          clear HC0 HC1 HP hK4 hR4 hS0 hb5 ho5 hK5 q5 f5 hsq
          generalize w5.setCell ⟨w.heap.size, 0, none⟩ (.slice A5 (putN ws0 x).length c5) = w6 at *
          go_wp2_with fail
          go_roundw
          · exact ⟨k + 1, A5, A4, (putN ws0 x).length, c5, n2 + 1, c4, by rw [HS2.out]; simp; omega, by go_num, by omega, hK6, hid (by rw [HS2.out]; exact hR6.out)⟩
          · simp [intOf]; omega
      · rw [hx] at HH
        have HS2 : Hid (addA (ws, sn) (xs.take (k + 1)) = (ws0, sn0)) := hid (by rw [HS1.out]; unfold addS; rw [if_pos (by exact hx)])
        go_wp2_with fail
        go_quiet ((go_at_call 14; refine Calls.quiet_of_same (HH.out _)))
        have hKq := hid (hK.out.below (W' := wr.drewN nq) ⟨rfl, rfl, rfl, Nat.le_refl _, fun _ _ => rfl⟩)
        have hRq : Hid (RdC (wr.drewN nq) (Gk G w) A1 n1 c1 ws0 ∧ RdC (wr.drewN nq) (Gk G w) A2 n2 c2 sn0) := hid hR.out
        go_wp2_with fail
        go_roundw
        · exact ⟨k + 1, A1, A2, n1, c1, n2, c2, by rw [HS2.out], by go_num, by omega, hKq, hid (by rw [HS2.out]; exact hRq.out)⟩
        · simp [intOf]; omega
    · obtain rfl : k = n := by omega
      have hki : ¬ (k : Int) < (k : Int) := by omega
      have hxt : xs.take k = xs := List.take_of_length_le (by omega)
      rw [hxt] at hR ht0 ht1 ⊢
      have q0 := cell_of_row _ w.heap.size 0 _ _ _ hK.out.1
      have q1 := cell_of_row _ w.heap.size 1 _ _ _ hK.out.1
      have r0 := cell_of_row _ (w.heap.size + 1) 0 _ _ _ hK.out.2.1
      have r1 := cell_of_row _ (w.heap.size + 1) 1 _ _ _ hK.out.2.1
      have fr := fun o => frozen_of_row wr (w.heap.size + 1) o _ _ hK.out.2.1
      have HAg := hid (load_ag (heap_setCell_same _ (w.heap.size + 1) 1 _ _ (.slice A2 n2 c2) (heap_setCell_same wr (w.heap.size + 1) 0 _ _ (.slice A1 n1 c1) hK.out.2.1)))
      have hG2 : Gk G w (w.heap.size + 1) := .inr (.inr rfl)
      have hR7 := hid (And.intro ((hR.out.1.set (i := 0) (y := .slice A1 n1 c1) hG2).set (i := 1) (y := .slice A2 n2 c2) hG2) ((hR.out.2.set (i := 0) (y := .slice A1 n1 c1) hG2).set (i := 1) (y := .slice A2 n2 c2) hG2))
      have hB7 := hid ((hK.out.2.2.1.setCell (p := ⟨w.heap.size + 1, 0, none⟩) (Nat.le_succ _) (.slice A1 n1 c1)).setCell (p := ⟨w.heap.size + 1, 1, none⟩) (Nat.le_succ _) (.slice A2 n2 c2))
      go_wp2_with fail
      generalize (wr.setCell ⟨w.heap.size + 1, 0, none⟩ (.slice A1 n1 c1)).setCell ⟨w.heap.size + 1, 1, none⟩ (.slice A2 n2 c2) = W7 at *
      have hl := HAg.out
      refine bodyPost_ret (by simp [results, Try.results11, asAddr, hl]; try rfl) rfl ?_
      exact ⟨A1, n1, c1, A2, n2, c2, rfl, hR7.out.1.sub (fun b _ h => .inl h), hR7.out.2.sub (fun b _ h => .inl h), hB7.out⟩
end Go.Proofs.Ytbcjbembhajgcaa.Wnt
