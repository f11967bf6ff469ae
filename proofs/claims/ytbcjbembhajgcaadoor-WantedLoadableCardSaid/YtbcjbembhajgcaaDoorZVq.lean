/-
  symtab: the program's Load.
-/
import Derived.Test.YtbcjbembhajgcaaDoorZVp
namespace Go.Proofs.YtbcjbembhajgcaaDoor.Tab
open Go.RowKit Go.Proofs Go.Proofs.YtbcjbembhajgcaaDoor.Byt
open Go.Proofs.YtbcjbembhajgcaaDoor.Obj (Sy RdS SCells)
open Go.Proofs.YtbcjbembhajgcaaDoor.Bnd

/-- What stays of the world while an object is loaded. -/
def Stay (w : World) (T : Nat) (mo : Option Nat) (W : World) : Prop := ∀ g, g < w.heap.size → g ≠ T → mo ≠ some g → W.heap[g]? = w.heap[g]?
theorem Stay.refl (w : World) (T : Nat) (mo : Option Nat) : Stay w T mo w := fun _ _ _ _ => rfl
theorem Stay.trans {w V W : World} {T : Nat} {mo : Option Nat} (h : Stay w T mo V) (hb : ∀ g, g < w.heap.size → g ≠ T → mo ≠ some g → W.heap[g]? = V.heap[g]?) : Stay w T mo W := fun g a b c => (hb g a b c).trans (h g a b c)
/-- The map as it is while an object is loaded. -/
def UU (U : ByteArray → List Us) (n : Nat) (xs : List Sy) (k : Nat) : ByteArray → List Us := fun x => U x ++ us1 x n (xs.take k)
theorem UU_zero (U : ByteArray → List Us) (n : Nat) (xs : List Sy) (x : ByteArray) : UU U n xs 0 x = U x := by
  unfold UU
  rw [us1_zero, List.append_nil]
theorem UU_step (U : ByteArray → List Us) (n : Nat) {xs : List Sy} {k : Nat} (hk : k < xs.length) (x : ByteArray) : upd (UU U n xs k) xs[k].name (UU U n xs k xs[k].name ++ [⟨xs[k], (n : Int)⟩]) x = UU U n xs (k + 1) x := by
  unfold upd
  split
  · rename_i h
    subst h
    unfold UU
    rw [us1_step hk, if_pos rfl, List.append_assoc]
  · rename_i h
    unfold UU
    rw [us1_step hk, if_neg (fun e => h e.symm), List.append_nil]
theorem UU_len {U : ByteArray → List Us} (n : Nat) {xs : List Sy} (hU : ∀ x, (U x).length ≤ 10000) (hx : xs.length ≤ 20) (k : Nat) (x : ByteArray) : (UU U n xs k x).length ≤ 20000 := by
  have h1 := us1_len x n (xs.take k)
  have h2 := hU x
  unfold UU
  rw [List.length_append]
  rw [List.length_take] at h1
  omega
theorem allL_len : ∀ l : List Us, (allL l).strongs.length ≤ l.length := by
  refine Dec.by_snoc (P := fun l => (allL l).strongs.length ≤ l.length) (by decide) (fun l x ih => ?_)
  rw [allL_snoc, List.length_append]
  have h1 : (joi (allL l) (sgl x)).strongs = (allL l).strongs ++ (sgl x).strongs := rfl
  have h2 := sgl_len x
  rw [h1, List.length_append, List.length_singleton]
  omega
/-- Rows of a round of Load. -/
def LdS (T u : Nat) (rt rs : Array Value) (W : World) : Prop := W.heap[T]? = some (.cells rt 30 (0, 0)) ∧ W.heap[u]? = some (.cells rs 54 (0, 0))
theorem tab_ne {w : World} {K T M : Nat} {n : Int} {mo : Option Nat} {U : ByteArray → List Us} (hT : TR w T n mo) (h : Tm w K M U) : M ≠ T := by
  obtain ⟨es, clock, hb, _⟩ := h
  unfold TR at hT
  rintro rfl
  rw [hT] at hb
  cases hb
theorem Tm.cell {w w' : World} {K T M : Nat} {n : Int} {mo : Option Nat} {U : ByteArray → List Us} (h : Tm w K M U) (hT : TR w T n mo) (hb : ∀ g, g ≠ T → w'.heap[g]? = w.heap[g]?) : Tm w' K M U :=
  h.typ (hb M (tab_ne hT h)) fun g cs m hg => (hb g (by rintro rfl; unfold TR at hT; rw [hT] at hg; cases hg)).trans hg
theorem Prec.low {w w' : World} {K : Nat} (h : Prec w) (hb : Below K w w') (hK : 0 < K) : Prec w' := fun i hi => (hb.cell (p := ⟨0, i, none⟩) hK).trans (h i hi)
theorem wp_put {o : Oper} {a : Act} {w w' : World} {C : Act → World → Prop} {Q : Exit → Act → World → Prop} {mm kk vv : Operand} {M : Nat} {nm : ByteArray} {x : Value} (hop : o.op = .mapUpdate 28 mm kk vv) (h1 : a.eval mm = .map (some M)) (h2 : a.eval kk = .string nm)
    (h3 : a.eval vv = x) (hrun : (Instr.mapUpdate 28 (.map (some M)) (.string nm) x).run Tryd.prog w = .ok () w') (h : C (a.put o.dst undef) w') : Oper.wp Tryd.prog o a w C Q := by
  unfold Oper.wp
  simp [execOp, hop, h1, h2, h3, hrun, Result.andThen]
  exact h
/-- What Load gives. -/
def LoadP (K T n : Nat) (mo : Option Nat) (U : ByteArray → List Us) (xs : List Sy) (w : World) (e : Ending) (w' : World) : Prop :=
  e = .returned (.int .i64 n) ∧ ∃ M, TR w' T ((n + 1 : Nat) : Int) (some M) ∧ Tm w' K M (fun x => U x ++ us1 x n xs) ∧ K ≤ M ∧ (mo = some M ∨ (mo = none ∧ w.heap.size ≤ M)) ∧ Below K w w' ∧ Stay w T mo w'
set_option linter.unusedSimpArgs false in
set_option maxRecDepth 100000 in
set_option maxHeartbeats 8000000 in
theorem load_any (K T n : Nat) (mo : Option Nat) (U : ByteArray → List Us) (S B : Option Addr) (p c m d : Nat) (xs : List Sy) (w : World) (hP : Prec w) (hg : 0 < K) (hT : TR w T n mo) (hKT : K ≤ T) (hM : MapOf w K mo U)
    (hO : ∀ V, Below K w V → Stay w T mo V → RdS V V.heap.size S p xs) (hbd : ∀ x ∈ xs, 1 ≤ x.bind ∧ x.bind ≤ 5) (hp : xs.length ≤ 20) (hU : ∀ x, (U x).length ≤ 10000) (hn : n ≤ 10000) :
    Calls Tryd.prog 6 #[.pointer (some ⟨T, 0, none⟩), .agg #[.slice S p c, .slice B m d]] w (LoadP K T n mo U xs w) := by
  have hTl : T < w.heap.size := (Array.getElem?_eq_some_iff.1 hT).1
  have hK : K ≤ w.heap.size := by omega
  have hpl := (hO w (Below.refl _ _) (Stay.refl _ _ _)).1
  have hbo := (Below.refl w.heap.size w).alloc (Nat.le_refl _) (.cells #[.slice S p c, .slice B m d] 35)
  have hno := heap_alloc_new w (.cells #[.slice S p c, .slice B m d] 35)
  have hzo := World.size_alloc w (.cells #[.slice S p c, .slice B m d] 35)
  obtain ⟨W0, hW0⟩ : ∃ W0, w.alloc (.cells #[.slice S p c, .slice B m d] 35) = W0 := ⟨_, rfl⟩
  rw [hW0] at hbo hno hzo
  have hT0 : TR W0 T n mo := (hbo.block T hTl).trans hT
  have hM0 := hM.below hbo
  have HO := hid hO
  have HPr := hid fun (V : World) (hV : Below K w V) => Prec.low hP hV hg
  have HU := hid fun k x => UU_len n hU hp k x
  have Hp := hid hpl
  have hp20 : p ≤ 20 := by omega
  obtain ⟨g0, hg0⟩ : ∃ g0, w.heap.size = g0 := ⟨_, rfl⟩
  rw [hg0] at hno hzo
  have hg0T : T < g0 := by omega
  clear hM hP hO hU hg hpl hp
  go_enter Tryd.func6, Tryd.ntmps6
  have hq := run_eql_map_nil (P := Tryd.prog) W0 _ _ _ mo underM
  have c1 := cell_of_row _ T 1 _ _ _ hT0
  have f1 := frozen_of_row W0 T 1 _ _ hT0
  go_upto_if 14 with fail
  go_cut [] from 15 to 18 (fun W => ∃ M, TR W T n (some M) ∧ Tm W K M U ∧ K ≤ M ∧ (mo = some M ∨ (mo = none ∧ w.heap.size ≤ M)) ∧ Below K w W ∧ Stay w T mo W ∧ w.heap.size < W.heap.size ∧ W.heap[g0]? = some (.cells #[.slice S p c, .slice B m d] 35 (0, 0)))
  case first =>
    rcases mo with _ | M
    · have hmm := @run_makeMap Tryd.prog
      have hb1 := (Below.refl W0.heap.size W0).alloc (Nat.le_refl _) (.map #[] 0)
      have hn1 := heap_alloc_new W0 (.map #[] 0)
      have hz1 := World.size_alloc W0 (.map #[] 0)
      obtain ⟨W1, hW1⟩ : ∃ W1, W0.alloc (.map #[] 0) = W1 := ⟨_, rfl⟩
      rw [hW1] at hb1 hn1 hz1
      rw [hzo] at hn1 hz1
      have hT1 := (hb1.block T (by omega)).trans hT0
      have hg1 := (hb1.block g0 (by omega)).trans hno
      have d1 := cell_of_row _ T 1 _ _ _ hT1
      have e1 := frozen_of_row _ T 1 _ _ hT1
      have hT2 := heap_setCell_same _ T 1 _ _ (.map (some (g0 + 1))) hT1
      have hg2 := (heap_setCell_other _ ⟨T, 1, none⟩ g0 (.map (some (g0 + 1))) (by show g0 ≠ T; omega)).trans hg1
      have hn2 := (heap_setCell_other _ ⟨T, 1, none⟩ (g0 + 1) (.map (some (g0 + 1))) (by show g0 + 1 ≠ T; omega)).trans hn1
      have hB2 := ((hbo.mono hK).trans (hb1.mono (by omega))).setCell (p := ⟨T, 1, none⟩) hKT (.map (some (g0 + 1)))
      have hS2 : Stay w T none (W1.setCell ⟨T, 1, none⟩ (.map (some (g0 + 1)))) := fun g a b _ => (heap_setCell_other _ ⟨T, 1, none⟩ g (.map (some (g0 + 1))) b).trans ((hb1.block g (by omega)).trans (hbo.block g a))
      have hz2 : (W1.setCell ⟨T, 1, none⟩ (.map (some (g0 + 1)))).heap.size = g0 + 1 + 1 := by rw [World.size_setCell]; exact hz1
      have hUn : ∀ x, U x = [] := by
        rcases hM0 with ⟨_, h⟩ | ⟨M, e, _⟩
        · exact h
        · cases e
      have HX := hid (⟨hT2, hg2, hn2, hB2, hS2, hz2⟩ : _ ∧ _ ∧ _ ∧ _ ∧ _ ∧ _)
      clear hT2 hg2 hn2 hB2 hS2 hz2
      go_wp2_with fail
      go_meet
      obtain ⟨hT2, hg2, hn2, hB2, hS2, hz2⟩ := HX.out
      exact ⟨g0 + 1, hT2, (Tm.new K hn2).congr fun x => (hUn x).symm, by omega, .inr ⟨trivial, by omega⟩, hB2, hS2, by omega, hg2⟩
    · go_wp2_with fail
      go_meet
      rcases hM0 with ⟨e, _⟩ | ⟨M', e, hKM, hTm⟩
      · cases e
      · injection e with e
        subst e
        exact ⟨M, hT0, hTm, hKM, .inl rfl, hbo.mono hK, fun g a _ _ => hbo.block g a, by omega, hno⟩
  case rest =>
    obtain ⟨M, hT1, hTm1, hKM, hMo, hB1, hS1, hz1, hg1⟩ := hcut
    clear hq c1 f1 hT0 hM0 hbo hno hzo hW0 hT
    go_wp2_with fail
    refine (next_any T n (some M) wc hT1 hn).mono ?_
    rintro e w2 ⟨rfl, hT2, hfr2, hz2, hbel2⟩
    have hTm2 := hTm1.cell hT1 hfr2
    have hB2 := hB1.trans (hbel2 K hKT)
    have hS2 := hS1.trans fun g _ b _ => hfr2 g b
    have hg2 := (hfr2 g0 (by omega)).trans hg1
    have o0 := cell_of_row _ g0 0 _ _ _ hg2
    have hMT := tab_ne hT1 hTm1
    have Hg0 := hid hg0
    clear hT1 hTm1 hB1 hS1 hg1 hfr2 hbel2 hg0
    go_wp2_with fail
    go_loopw [7, 26] (fun _ iv W => ∃ k : Nat, iv = .int .i64 (k : Int) ∧ k ≤ p ∧ TR W T ((n + 1 : Nat) : Int) (some M) ∧ Tm W K M (UU U n xs k) ∧ Below K w W ∧ Stay w T mo W ∧ w.heap.size < W.heap.size) (fun _ iv _ => p - (intOf iv).toNat)
    case atStart => exact ⟨0, rfl, by omega, hT2, hTm2.congr fun x => (UU_zero U n xs x).symm, hB2, hS2, by omega⟩
    case round =>
    clear hT2 hTm2 hB2 hS2 hg2 o0
    obtain ⟨k, rfl, hk, hTr, hTmr, hBr, hSr, hzr⟩ := hrel
    by_cases hlt : k < p
    · have hkl : k < xs.length := by have := Hp.out; omega
      have hki : (k : Int) < (p : Int) := by omega
      obtain ⟨⟨b2, o2, rfl, hbK2, hcell⟩, _⟩ := (HO.out wr hBr hSr).2 k hkl
      have HN := hid (UU_step U n hkl)
      have h15 := hbd _ (List.getElem_mem hkl)
      generalize xs[k] = sy at *
      obtain ⟨x0, x1, x2, x3⟩ := sy
      obtain ⟨p0, p1, p2, p3⟩ := hcell
      dsimp only at *
      have hb5 := (Below.refl wr.heap.size wr).alloc (Nat.le_refl _) (.cells #[.string x0, .int .i64 x1, .int .i64 x2, .int .i64 x3] 54)
      have hn5 := heap_alloc_new wr (.cells #[.string x0, .int .i64 x1, .int .i64 x2, .int .i64 x3] 54)
      go_upto_region 9 with fail
      generalize wr.alloc (.cells #[.string x0, .int .i64 x1, .int .i64 x2, .int .i64 x3] 54) = w5 at *
      have hlw : T < wr.heap.size := by omega
      have hKw : K ≤ wr.heap.size := by omega
      have hT5 : TR w5 T ((n + 1 : Nat) : Int) (some M) := (hb5.block T hlw).trans hTr
      have hTm5 := hTmr.below hb5
      have hB5 := hBr.trans (hb5.mono hKw)
      have hS5 := hSr.trans fun g a _ _ => hb5.block g (by omega)
      have hz5 := hb5.size
      obtain ⟨u, hu⟩ : ∃ u, wr.heap.size = u := ⟨_, rfl⟩
      rw [hu] at hn5
      rw [hu]
      have hu5 : u < w5.heap.size := (Array.getElem?_eq_some_iff.1 hn5).1
      have Hu := hid hu
      have huT : u ≠ T := by omega
      clear hTr hTmr hBr hSr hb5 p0 p1 p2 p3 hu
      refine Ord.Till.begin (LdS T u #[.int .i64 ((n + 1 : Nat) : Int), .map (some M)] #[.string x0, .int .i64 x1, .int .i64 x2, .int .i64 x3]) 60 (by kernel_rfl) ?_
      have hbw : Below w5.heap.size w5 w5.drew := (Below.refl _ _).drew
      have hS : LdS T u #[.int .i64 ((n + 1 : Nat) : Int), .map (some M)] #[.string x0, .int .i64 x1, .int .i64 x2, .int .i64 x3] w5.drew := ⟨hT5, hn5⟩
      generalize w5.drew = wd at *
      have hTmd := hTm5.below hbw
      have hzd := hbw.size
      refine Ord.Till.take' 0 (some 30) (oi := _) (x := .pointer (some ⟨T, 0, none⟩)) rfl rfl (by kernel_rfl) (by kernel_rfl) (by kernel_rfl) (by kernel_rfl) (fun _ _ _ h => h) (by kernel_rfl) (fun v hv => by go_simp) hS ?_
      try simp only [List.getElem_toArray, List.getElem_cons_zero, List.getElem_cons_succ, Act.put, List.setIfInBounds_toArray, List.set_cons_zero, List.set_cons_succ]
      refine Ord.Till.take' 1 (some 31) (oi := _) (x := .pointer (some ⟨T, 0, none⟩)) rfl rfl (by kernel_rfl) (by kernel_rfl) (by kernel_rfl) (by kernel_rfl) (fun _ _ _ h => h) (by kernel_rfl) (fun v hv => by go_simp) hS ?_
      try simp only [List.getElem_toArray, List.getElem_cons_zero, List.getElem_cons_succ, Act.put, List.setIfInBounds_toArray, List.set_cons_zero, List.set_cons_succ]
      refine Ord.Till.take' 2 (some 32) (oi := _) (x := .pointer (some ⟨T, 1, none⟩)) rfl rfl (by kernel_rfl) (by kernel_rfl) (by kernel_rfl) (by kernel_rfl) (fun _ _ _ h => h) (by kernel_rfl) (fun v hv => by go_simp) hS ?_
      try simp only [List.getElem_toArray, List.getElem_cons_zero, List.getElem_cons_succ, Act.put, List.setIfInBounds_toArray, List.set_cons_zero, List.set_cons_succ]
      refine Ord.Till.take' 3 (some 33) (oi := _) (x := .map (some M)) rfl rfl (by kernel_rfl) (by kernel_rfl) (by kernel_rfl) (by kernel_rfl) (fun _ _ _ h => h) (by kernel_rfl) (fun v hv => by have c := cell_of_row _ T 1 _ _ _ hv.1; go_simp) hS ?_
      try simp only [List.getElem_toArray, List.getElem_cons_zero, List.getElem_cons_succ, Act.put, List.setIfInBounds_toArray, List.set_cons_zero, List.set_cons_succ]
      refine Ord.Till.take' 4 (some 34) (oi := _) (x := .pointer (some ⟨u, 0, none⟩)) rfl rfl (by kernel_rfl) (by kernel_rfl) (by kernel_rfl) (by kernel_rfl) (fun _ _ _ h => h) (by kernel_rfl) (fun v hv => by go_simp) hS ?_
      try simp only [List.getElem_toArray, List.getElem_cons_zero, List.getElem_cons_succ, Act.put, List.setIfInBounds_toArray, List.set_cons_zero, List.set_cons_succ]
      refine Ord.Till.take' 5 (some 35) (oi := _) (x := .string x0) rfl rfl (by kernel_rfl) (by kernel_rfl) (by kernel_rfl) (by kernel_rfl) (fun _ _ _ h => h) (by kernel_rfl) (fun v hv => by have c := cell_of_row _ u 0 _ _ _ hv.2; go_simp) hS ?_
      try simp only [List.getElem_toArray, List.getElem_cons_zero, List.getElem_cons_succ, Act.put, List.setIfInBounds_toArray, List.set_cons_zero, List.set_cons_succ]
      refine Ord.Till.take' 6 (some 36) (oi := _) (x := .pointer (some ⟨T, 0, none⟩)) rfl rfl (by kernel_rfl) (by kernel_rfl) (by kernel_rfl) (by kernel_rfl) (fun _ _ _ h => h) (by kernel_rfl) (fun v hv => by go_simp) hS ?_
      try simp only [List.getElem_toArray, List.getElem_cons_zero, List.getElem_cons_succ, Act.put, List.setIfInBounds_toArray, List.set_cons_zero, List.set_cons_succ]
      refine Ord.Till.take' 7 (some 37) (oi := _) (x := .pointer (some ⟨u, 0, none⟩)) rfl rfl (by kernel_rfl) (by kernel_rfl) (by kernel_rfl) (by kernel_rfl) (fun _ _ _ h => h) (by kernel_rfl) (fun v hv => by go_simp) hS ?_
      try simp only [List.getElem_toArray, List.getElem_cons_zero, List.getElem_cons_succ, Act.put, List.setIfInBounds_toArray, List.set_cons_zero, List.set_cons_succ]
      refine Ord.Till.take' 8 (some 38) (oi := _) (x := .string x0) rfl rfl (by kernel_rfl) (by kernel_rfl) (by kernel_rfl) (by kernel_rfl) (fun _ _ _ h => h) (by kernel_rfl) (fun v hv => by have c := cell_of_row _ u 0 _ _ _ hv.2; go_simp) hS ?_
      try simp only [List.getElem_toArray, List.getElem_cons_zero, List.getElem_cons_succ, Act.put, List.setIfInBounds_toArray, List.set_cons_zero, List.set_cons_succ]
      refine Ord.Till.take' 10 (some 40) (oi := _) (x := .agg #[.string x0, .int .i64 x1, .int .i64 x2, .int .i64 x3]) rfl rfl (by kernel_rfl) (by kernel_rfl) (by kernel_rfl) (by kernel_rfl) (fun _ _ _ h => h) (by kernel_rfl) (fun v hv => exec_ld 54 _ Tryd.underlying54 rfl _ rfl u 0 rfl _ (by kernel_rfl) (range_row hv.2)) hS ?_
      try simp only [List.getElem_toArray, List.getElem_cons_zero, List.getElem_cons_succ, Act.put, List.setIfInBounds_toArray, List.set_cons_zero, List.set_cons_succ]
      refine Ord.Till.take' 11 (some 41) (oi := _) (x := .int .i64 n) rfl rfl (by kernel_rfl) (by kernel_rfl) (by kernel_rfl) (by kernel_rfl) (fun _ _ _ h => h) (by kernel_rfl) (fun v hv => by go_simp) hS ?_
      try simp only [List.getElem_toArray, List.getElem_cons_zero, List.getElem_cons_succ, Act.put, List.setIfInBounds_toArray, List.set_cons_zero, List.set_cons_succ]
      refine Ord.Till.step 9 (by kernel_rfl) rfl (fun C hC => ?_)
      go_simp
      go_at_call 19
      refine (kept_any K (some ⟨T, 0, none⟩) (some M) (UU U n xs k) x0 wd (.inr ⟨T, _, rfl, hS.1⟩) (.inr ⟨M, rfl, hKM, hTmd⟩)).mono ?_
      rintro e w6 ⟨v6, rfl, o6, hb6⟩
      have hz6 := hb6.size
      have hS' : LdS T u #[.int .i64 ((n + 1 : Nat) : Int), .map (some M)] #[.string x0, .int .i64 x1, .int .i64 x2, .int .i64 x3] w6 := ⟨(hb6.block T (by omega)).trans hS.1, (hb6.block u (by omega)).trans hS.2⟩
      have hTm6 := hTmd.below hb6
      have hB6 := hB5.trans ((hbw.mono (by omega)).trans (hb6.mono (by omega)))
      have hS6 := hS5.trans fun g a _ _ => (hb6.block g (by omega)).trans (hbw.block g (by omega))
      clear hS hTmd hb6 hbw hB5 hS5 hT5 hn5 hTm5
      have hS := hS'
      clear hS'
      go_wp2_with fail
      refine hC.out _ _ (fun _ => hS) ?_
      clear hC C
      try simp only [List.getElem_toArray, List.getElem_cons_zero, List.getElem_cons_succ, Act.put, List.setIfInBounds_toArray, List.set_cons_zero, List.set_cons_succ]
      refine Ord.Till.step 12 (by kernel_rfl) rfl (fun C hC => ?_)
      go_simp
      go_at_call 18
      refine (mrg (allL (UU U n xs k x0)) v6 ⟨⟨x0, x1, x2, x3⟩, (n : Int)⟩ (allL (UU U n xs k x0 ++ [⟨⟨x0, x1, x2, x3⟩, (n : Int)⟩])) (allL_snoc _ _).symm w6 (HPr.out w6 hB6) o6.pl (by have h1 := HU.out k x0; have h2 := allL_len (UU U n xs k x0); omega) h15.1 h15.2).mono ?_
      rintro e w7 ⟨v7, rfl, o7, hb7⟩
      have hz7 := hb7.size
      have hS' : LdS T u #[.int .i64 ((n + 1 : Nat) : Int), .map (some M)] #[.string x0, .int .i64 x1, .int .i64 x2, .int .i64 x3] w7 := ⟨(hb7.block T (by omega)).trans hS.1, (hb7.block u (by omega)).trans hS.2⟩
      obtain ⟨w8, hrun, hTm8, hfr8, hz8, hbel8⟩ := (hTm6.below hb7).put x0 (UU U n xs k x0 ++ [⟨⟨x0, x1, x2, x3⟩, (n : Int)⟩]) (by simp) v7 (o7.more (by omega))
      have hMu : M ≠ u := by
        have h1 := hS'.2
        obtain ⟨es, ck, h2, _⟩ := hTm6.below hb7
        rintro rfl
        rw [h1] at h2
        cases h2
      have hB8 := hB6.trans ((hb7.mono (by omega)).trans (hbel8 K hKM))
      have hS8 : Stay w T mo w8 := fun g a b c => by
        have h1 : g ≠ M := by
          rintro rfl
          rcases hMo with h | h
          · exact c h
          · omega
        exact (hfr8 g h1).trans ((hb7.block g (by omega)).trans (hS6 g a b c))
      clear hS hTm6 hb7 hB6 hS6 o6 o7 hbel8
      have hS := hS'
      clear hS'
      go_wp2_with fail
      refine hC.out _ _ (fun _ => hS) ?_
      clear hC C
      try simp only [List.getElem_toArray, List.getElem_cons_zero, List.getElem_cons_succ, Act.put, List.setIfInBounds_toArray, List.set_cons_zero, List.set_cons_succ]
      have hS8' : LdS T u #[.int .i64 ((n + 1 : Nat) : Int), .map (some M)] #[.string x0, .int .i64 x1, .int .i64 x2, .int .i64 x3] w8 := ⟨(hfr8 T (Ne.symm hMT)).trans hS.1, (hfr8 u (Ne.symm hMu)).trans hS.2⟩
      refine Ord.Till.step 13 (by kernel_rfl) rfl (fun C hC => ?_)
      rw [if_pos (by kernel_rfl)]
      refine wp_put rfl rfl rfl rfl hrun ?_
      refine hC.out _ _ (fun _ => hS8') ?_
      clear hC C hrun
      try simp only [List.getElem_toArray, List.getElem_cons_zero, List.getElem_cons_succ, Act.put, List.setIfInBounds_toArray, List.set_cons_zero, List.set_cons_succ]
      refine Ord.Till.done (by kernel_rfl) ?_ _
      have hTm9 := hTm8.congr HN.out
      have hT9 := hS8'.1
      clear hS hTm8 hS8' hfr8
      go_wp2_with fail
      go_roundw
      · exact ⟨k + 1, by go_num, by omega, hT9, hTm9, hB8, hS8, by omega⟩
      · simp [intOf]; omega
    · obtain rfl : k = p := by omega
      have hki : ¬ (k : Int) < (k : Int) := by omega
      have hTk : Tm wr K M (fun x => U x ++ us1 x n xs) := hTmr.congr fun x => by
        unfold UU
        rw [List.take_of_length_le (by have := Hp.out; omega)]
      clear hTmr
      go_wp2_with fail
      go_ret
      exact ⟨rfl, M, hTr, hTk, hKM, hMo, hBr, hSr⟩
end Go.Proofs.YtbcjbembhajgcaaDoor.Tab
