/-
  symtab's reference: Resolved, SameResolved; the law's state.
  symtab's reference: SameResolved, of lists that are the same.
-/
import Derived.Test.YtndjnmeblpjlhaaDoorZVn
import Derived.Test.YtndjnmeblpjlhaaDoorZVe
import Derived.BigQuiet
namespace Go.Proofs.YtndjnmeblpjlhaaDoor.Tab
open Go.RowKit Go.Proofs Go.Proofs.YtndjnmeblpjlhaaDoor.Byt
open Go.Proofs.YtndjnmeblpjlhaaDoor.Obj (Sy RdS SCells)
open Go.Proofs.YtndjnmeblpjlhaaDoor.Bnd

theorem lstate_any (s : St) (v : Value) (K : Nat) (l : List Int) (w : World) (hs : Pl w K v l) :
    Calls Tryd.prog 13 #[.agg (row s v)] w fun e w' => e = .returned (s.val v) ∧ Below w.heap.size w w' := by
  obtain ⟨A, n, c, rfl, _, _, _⟩ := hs
  have hb := ((Below.refl w.heap.size w).alloc (Nat.le_refl _) (.cells (row s (.slice A n c)) 41)).alloc (by simp) (.cells (row s (.slice A n c)) 39)
  have HN := hid (heap_alloc_new (w.alloc (.cells (row s (.slice A n c)) 41)) (.cells (row s (.slice A n c)) 39))
  rw [World.size_alloc] at HN
  obtain ⟨s0, s1, s2, s3, s4, s5, s6, sl⟩ := s
  unfold St.val
  simp only [row] at *
  go_enter Tryd.func13, Tryd.ntmps13
  go_wp2_with fail
  exact retR (g := w.heap.size + 1) rfl rfl rfl HN.out rfl ⟨rfl, hb⟩

/-- A whole resolution is read. -/
theorem ldZ {ops : Array Oper} {rest : List Oper} {o : Oper} {a : Act} {w : World} {Q : Exit → Act → World → Prop} (hgd : o.guard = none) (x : Operand) (ho : o.op = .load 54 x)
    (u : Nat) (hx : a.eval x = .pointer (some ⟨u, 0, none⟩)) (cs : Array Value) (hg : w.heap[u]? = some (.cells cs 54 (0, 0))) (hs : cs.size = 5)
    (h : wpList Tryd.prog ops Q rest (a.put o.dst (.agg cs)) w) : wpList Tryd.prog ops Q (o :: rest) a w :=
  wpList_load_row hgd 54 x ho u hx 54 cs (0, 0) _ hg Tryd.underlying54 rfl (by rw [hs]; kernel_rfl) h
/-- The resolutions of the names. -/
def resL (os : List (List Sy)) : List Us := (nms os).map fun x => rsv x (ofL (uses os x))
/-- What a round reads. -/
def RrS (b o k u : Nat) (x : ByteArray) (cs : Array Value) (W : World) : Prop := W.cell? ⟨b, o + k, none⟩ = some (.string x) ∧ W.heap[u]? = some (.cells cs 39 (0, 0))
set_option linter.unusedSimpArgs false in
set_option maxRecDepth 100000 in
set_option maxHeartbeats 8000000 in
theorem rresolved_any (K : Nat) (A : Option Addr) (n c : Nat) (os : List (List Sy)) (w : World) (h : RdO w K A n os) (hK : K ≤ w.heap.size) (hn : n ≤ 12) (hs : ∀ o ∈ os, o.length ≤ 20) :
    Calls Tryd.prog 23 #[.slice A n c] w (ResP (resL os) w) := by
  have HNm := hid (rnames_any K A n c os w h hK hn hs)
  have HSt := hid fun (x : ByteArray) (V : World) (hV : Below w.heap.size w V) => rstate_any K A n c os x V (h.below (hV.mono hK)) (by have := hV.size; omega) hn hs
  have HLen : (nms os).length ≤ 240 := by
    have h1 := nms_len os hs
    have := h.1
    omega
  have HW : Hid (resL os = (nms os).map fun x => rsv x (ofL (uses os x))) := hid rfl
  clear h hs
  go_enter Tryd.func23, Tryd.ntmps23
  go_wp2_with fail
  refine HNm.out.mono ?_
  rintro e w1 ⟨A1, c1, rfl, o1, hb1⟩
  clear HNm
  obtain ⟨A', c', e, hr, _, _⟩ := id o1.reads
  injection e with e1 _ e3
  subst e1 e3
  obtain ⟨L, hL⟩ : ∃ L, nms os = L := ⟨_, rfl⟩
  rw [hL] at hr HLen HW
  rw [hL]
  obtain ⟨m, hm⟩ : ∃ m, L.length = m := ⟨_, rfl⟩
  rw [hm] at hr HLen
  rw [hm]
  have HM := hid hm
  clear o1 hL hm
  go_wp2_with fail
  go_loopw [3, 5, 6, 7] (fun v iv _ _ W => ∃ (k : Nat) (A2 : Option Addr) (c2 : Nat), iv = .int .i64 (k : Int) ∧ k ≤ m ∧ v = .slice A2 k c2 ∧ Cel.Own 54 5 W w1.heap.size (.slice A2 k c2) k (ucells ((L.take k).map fun x => rsv x (ofL (uses os x)))) ∧ Below w1.heap.size w1 W) (fun _ iv _ _ _ => m - (intOf iv).toNat)
  case atStart => exact ⟨0, none, 0, rfl, by omega, rfl, Cel.Own.nil _ _ _ _, Below.refl _ _⟩
  case round =>
    obtain ⟨k, A2, c2, rfl, hk, rfl, hO, hb⟩ := hrel
    by_cases hlt : k < m
    · have hkl : k < L.length := by have := HM.out; omega
      have hki : (k : Int) < (m : Int) := by omega
      have HC := hid fun (V : World) (hV : Below w1.heap.size w1 V) => (hr.below hV).2 k hkl
      obtain ⟨b, o, rfl, hbK, c0⟩ := HC.out wr hb
      have HC0 : Hid (∀ V : World, Below w1.heap.size w1 V → V.cell? ⟨b, o + k, none⟩ = some (.string L[k])) := hid fun V hV => by
        obtain ⟨b', o', e, _, q⟩ := HC.out V hV
        injection e with e
        injection e with e1 e2
        subst e1 e2
        exact q
      have HF := hid (map_step (fun x => rsv x (ofL (uses os x))) hkl)
      have hbs := hb.size
      have HS1 := hid (HSt.out L[k] wr (hb1.trans (hb.mono hb1.size)))
      clear HC
      generalize L[k] = x at *
      go_wp2_with fail
      refine HS1.out.mono ?_
      rintro e w4 ⟨v4, rfl, o4, hb4⟩
      clear HS1 c0
      have HF2 : Hid ((L.take (k + 1)).map (fun x => rsv x (ofL (uses os x))) = (L.take k).map (fun x => rsv x (ofL (uses os x))) ++ [rsv x (ofL (uses os x))]) := hid HF.out
      have HRb : Hid (rsv x (ofL (uses os x)) = ⟨⟨x, rb (ofL (uses os x)), (ofL (uses os x)).size, (ofL (uses os x)).align⟩, (ofL (uses os x)).unit⟩) := hid rfl
      have HRc : Hid (rb (ofL (uses os x)) = if (ofL (uses os x)).bind ≠ 0 then (ofL (uses os x)).bind else if (ofL (uses os x)).sr = true then 4 else 5) := hid rfl
      generalize rsv x (ofL (uses os x)) = R at HF2 HRb
      generalize rb (ofL (uses os x)) = z at *
      generalize ofL (uses os x) = T at HRb HRc o4
      have b4 := hb.trans (hb4.mono hb.size)
      have hO4 := hO.below hb4
      have b5 := b4.alloc b4.size (.cells (row T v4) 39)
      have hO5 := hO4.alloc (.cells (row T v4) 39)
      have nT := heap_alloc_new w4 (.cells (row T v4) 39)
      obtain ⟨A4, n4, c4, rfl, _, _, _⟩ := id o4.pl
      clear o4 hb4 hb hO b4 hO4 HF
      obtain ⟨t0, t1, t2, t3, t4, t5, t6, tl⟩ := T
      simp only [St.val, row] at *
      go_upto_region 7 with fail
      generalize w4.alloc (.cells #[.int .i64 t0, .int .i64 t1, .int .i64 t2, .int .i64 t3, .bool t4, .bool t5, .bool t6, .slice A4 n4 c4] 39) = w5 at *
      obtain ⟨u, hu⟩ : ∃ u, w4.heap.size = u := ⟨_, rfl⟩
      rw [hu] at nT
      rw [hu]
      have Hu := hid hu
      have hul : u < w5.heap.size := (Array.getElem?_eq_some_iff.1 nT).1
      have hbw : Below w5.heap.size w5 w5.drew := (Below.refl _ _).drew
      refine Ord.Till.begin (RrS b o k u x #[.int .i64 t0, .int .i64 t1, .int .i64 t2, .int .i64 t3, .bool t4, .bool t5, .bool t6, .slice A4 n4 c4]) 60 (by kernel_rfl) ?_
      have hS : RrS b o k u x #[.int .i64 t0, .int .i64 t1, .int .i64 t2, .int .i64 t3, .bool t4, .bool t5, .bool t6, .slice A4 n4 c4] w5.drew := ⟨HC0.out _ (b5.trans (hbw.mono b5.size)), nT⟩
      have b6 := b5.trans (hbw.mono b5.size)
      have hO6 := hO5.below hbw
      have hu6 : u < w5.drew.heap.size := hul
      generalize w5.drew = wd at *
      clear b5 hO5 hbw nT hu hul
      refine Ord.Till.take' 0 (some 22) (oi := _) (x := .slice (some ⟨b, o, none⟩) m c1) rfl rfl (by kernel_rfl) (by kernel_rfl) (by kernel_rfl) (by kernel_rfl) (fun _ _ _ h => h) (by kernel_rfl) (fun v hv => by go_simp) hS ?_
      try simp only [List.getElem_toArray, List.getElem_cons_zero, List.getElem_cons_succ, Act.put, List.setIfInBounds_toArray, List.set_cons_zero, List.set_cons_succ]
      refine Ord.Till.take' 1 (some 23) (oi := _) (x := .int .i64 k) rfl rfl (by kernel_rfl) (by kernel_rfl) (by kernel_rfl) (by kernel_rfl) (fun _ _ _ h => h) (by kernel_rfl) (fun v hv => by go_simp) hS ?_
      try simp only [List.getElem_toArray, List.getElem_cons_zero, List.getElem_cons_succ, Act.put, List.setIfInBounds_toArray, List.set_cons_zero, List.set_cons_succ]
      refine Ord.Till.take' 2 (some 24) (oi := _) (x := .pointer (some ⟨b, o + k, none⟩)) rfl rfl (by kernel_rfl) (by kernel_rfl) (by kernel_rfl) (by kernel_rfl) (fun _ _ _ h => h) (by kernel_rfl) (fun v hv => by go_simp) hS ?_
      try simp only [List.getElem_toArray, List.getElem_cons_zero, List.getElem_cons_succ, Act.put, List.setIfInBounds_toArray, List.set_cons_zero, List.set_cons_succ]
      refine Ord.Till.take' 3 (some 25) (oi := _) (x := .string x) rfl rfl (by kernel_rfl) (by kernel_rfl) (by kernel_rfl) (by kernel_rfl) (fun _ _ _ h => h) (by kernel_rfl) (fun v hv => by have c := hv.1; go_simp) hS ?_
      try simp only [List.getElem_toArray, List.getElem_cons_zero, List.getElem_cons_succ, Act.put, List.setIfInBounds_toArray, List.set_cons_zero, List.set_cons_succ]
      refine Ord.Till.take' 4 (some 26) (oi := _) (x := .pointer (some ⟨u, 0, none⟩)) rfl rfl (by kernel_rfl) (by kernel_rfl) (by kernel_rfl) (by kernel_rfl) (fun _ _ _ h => h) (by kernel_rfl) (fun v hv => by go_simp) hS ?_
      try simp only [List.getElem_toArray, List.getElem_cons_zero, List.getElem_cons_succ, Act.put, List.setIfInBounds_toArray, List.set_cons_zero, List.set_cons_succ]
      refine Ord.Till.take' 5 (some 27) (oi := _) (x := .int .i64 t0) rfl rfl (by kernel_rfl) (by kernel_rfl) (by kernel_rfl) (by kernel_rfl) (fun _ _ _ h => h) (by kernel_rfl) (fun v hv => by have c := cell_of_row _ u 0 _ _ _ hv.2; go_simp) hS ?_
      try simp only [List.getElem_toArray, List.getElem_cons_zero, List.getElem_cons_succ, Act.put, List.setIfInBounds_toArray, List.set_cons_zero, List.set_cons_succ]
      refine Ord.Till.take' 6 (some 28) (oi := _) (x := .pointer (some ⟨u, 1, none⟩)) rfl rfl (by kernel_rfl) (by kernel_rfl) (by kernel_rfl) (by kernel_rfl) (fun _ _ _ h => h) (by kernel_rfl) (fun v hv => by go_simp) hS ?_
      try simp only [List.getElem_toArray, List.getElem_cons_zero, List.getElem_cons_succ, Act.put, List.setIfInBounds_toArray, List.set_cons_zero, List.set_cons_succ]
      refine Ord.Till.take' 7 (some 29) (oi := _) (x := .int .i64 t1) rfl rfl (by kernel_rfl) (by kernel_rfl) (by kernel_rfl) (by kernel_rfl) (fun _ _ _ h => h) (by kernel_rfl) (fun v hv => by have c := cell_of_row _ u 1 _ _ _ hv.2; go_simp) hS ?_
      try simp only [List.getElem_toArray, List.getElem_cons_zero, List.getElem_cons_succ, Act.put, List.setIfInBounds_toArray, List.set_cons_zero, List.set_cons_succ]
      refine Ord.Till.take' 8 (some 30) (oi := _) (x := .pointer (some ⟨u, 2, none⟩)) rfl rfl (by kernel_rfl) (by kernel_rfl) (by kernel_rfl) (by kernel_rfl) (fun _ _ _ h => h) (by kernel_rfl) (fun v hv => by go_simp) hS ?_
      try simp only [List.getElem_toArray, List.getElem_cons_zero, List.getElem_cons_succ, Act.put, List.setIfInBounds_toArray, List.set_cons_zero, List.set_cons_succ]
      refine Ord.Till.take' 9 (some 31) (oi := _) (x := .int .i64 t2) rfl rfl (by kernel_rfl) (by kernel_rfl) (by kernel_rfl) (by kernel_rfl) (fun _ _ _ h => h) (by kernel_rfl) (fun v hv => by have c := cell_of_row _ u 2 _ _ _ hv.2; go_simp) hS ?_
      try simp only [List.getElem_toArray, List.getElem_cons_zero, List.getElem_cons_succ, Act.put, List.setIfInBounds_toArray, List.set_cons_zero, List.set_cons_succ]
      refine Ord.Till.take' 10 (some 32) (oi := _) (x := .pointer (some ⟨u, 3, none⟩)) rfl rfl (by kernel_rfl) (by kernel_rfl) (by kernel_rfl) (by kernel_rfl) (fun _ _ _ h => h) (by kernel_rfl) (fun v hv => by go_simp) hS ?_
      try simp only [List.getElem_toArray, List.getElem_cons_zero, List.getElem_cons_succ, Act.put, List.setIfInBounds_toArray, List.set_cons_zero, List.set_cons_succ]
      refine Ord.Till.take' 11 (some 33) (oi := _) (x := .int .i64 t3) rfl rfl (by kernel_rfl) (by kernel_rfl) (by kernel_rfl) (by kernel_rfl) (fun _ _ _ h => h) (by kernel_rfl) (fun v hv => by have c := cell_of_row _ u 3 _ _ _ hv.2; go_simp) hS ?_
      try simp only [List.getElem_toArray, List.getElem_cons_zero, List.getElem_cons_succ, Act.put, List.setIfInBounds_toArray, List.set_cons_zero, List.set_cons_succ]
      refine Ord.Till.take' 12 (some 34) (oi := _) (x := .agg #[.string x, .int .i64 t0, .int .i64 t1, .int .i64 t2, .int .i64 t3]) rfl rfl (by kernel_rfl) (by kernel_rfl) (by kernel_rfl) (by kernel_rfl) (fun _ _ _ h => h) (by kernel_rfl) (fun v hv => by go_simp) hS ?_
      try simp only [List.getElem_toArray, List.getElem_cons_zero, List.getElem_cons_succ, Act.put, List.setIfInBounds_toArray, List.set_cons_zero, List.set_cons_succ]
      have hb7 := (Below.refl wd.heap.size wd).alloc (Nat.le_refl _) (.cells #[.string ⟨#[]⟩, .int .i64 0, .int .i64 0, .int .i64 0, .int .i64 0] 54)
      have hn7 := heap_alloc_new wd (.cells #[.string ⟨#[]⟩, .int .i64 0, .int .i64 0, .int .i64 0, .int .i64 0] 54)
      have hS7 : RrS b o k u x #[.int .i64 t0, .int .i64 t1, .int .i64 t2, .int .i64 t3, .bool t4, .bool t5, .bool t6, .slice A4 n4 c4] (wd.alloc (.cells #[.string ⟨#[]⟩, .int .i64 0, .int .i64 0, .int .i64 0, .int .i64 0] 54)) := ⟨HC0.out _ (b6.trans (hb7.mono b6.size)), (hb7.block u hu6).trans hS.2⟩
      obtain ⟨w7, hw7⟩ : ∃ w7, wd.alloc (.cells #[.string ⟨#[]⟩, .int .i64 0, .int .i64 0, .int .i64 0, .int .i64 0] 54) = w7 := ⟨_, rfl⟩
      rw [hw7] at hn7 hS7 hb7
      refine Ord.Till.step 13 (by kernel_rfl) rfl (fun C hC => ?_)
      go_simp
      refine hC.out _ _ (fun _ => hS7) ?_
      clear hC C
      try simp only [List.getElem_toArray, List.getElem_cons_zero, List.getElem_cons_succ, Act.put, List.setIfInBounds_toArray, List.set_cons_zero, List.set_cons_succ]
      have hb8 := below_setRow' hb7 (Nat.le_refl _) #[.string x, .int .i64 t0, .int .i64 t1, .int .i64 t2, .int .i64 t3]
      obtain ⟨v, hv⟩ : ∃ v, wd.heap.size = v := ⟨_, rfl⟩
      rw [hv] at hn7 hu6 hb8
      have hvu : u ≠ v := by omega
      have hlv : w1.heap.size ≤ v := by have := b6.size; omega
      rw [hv]
      have hS8 : RrS b o k u x #[.int .i64 t0, .int .i64 t1, .int .i64 t2, .int .i64 t3, .bool t4, .bool t5, .bool t6, .slice A4 n4 c4] (w7.setRow v #[.string x, .int .i64 t0, .int .i64 t1, .int .i64 t2, .int .i64 t3]) := ⟨HC0.out _ (b6.trans (hb8.mono hlv)), (setRow_other _ _ _ _ hvu).trans hS7.2⟩
      have hv8 := setRow_heap w7 v _ #[.string x, .int .i64 t0, .int .i64 t1, .int .i64 t2, .int .i64 t3] _ _ hn7
      refine Ord.Till.step 14 (by kernel_rfl) rfl (fun C hC => ?_)
      rw [if_pos (by kernel_rfl)]
      refine wp_store_row 54 _ _ rfl v #[.string x, .int .i64 t0, .int .i64 t1, .int .i64 t2, .int .i64 t3] rfl rfl 54 _ hn7 (by kernel_rfl) rfl (by simp [Value.oneCell']) ?_
      refine hC.out _ _ (fun _ => hS8) ?_
      clear hC C
      try simp only [List.getElem_toArray, List.getElem_cons_zero, List.getElem_cons_succ, Act.put, List.setIfInBounds_toArray, List.set_cons_zero, List.set_cons_succ]
      refine Ord.Till.done (by kernel_rfl) ?_ _
      generalize w7.setRow v #[.string x, .int .i64 t0, .int .i64 t1, .int .i64 t2, .int .i64 t3] = w8 at *
      have cu8 := hS8.2
      have HF8 := hid fun (V : World) (h : Below v wd V) => (⟨b6.trans (h.mono hlv), hO6.below (hv ▸ h)⟩ : _ ∧ _)
      clear hS hS7 hS8 hw7 hn7 b6 hO6 hb7 hv
      have c0 := cell_of_row _ u 0 _ _ _ cu8
      have c5 := cell_of_row _ u 5 _ _ _ cu8
      have d1 := cell_of_row _ v 1 _ _ _ hv8
      have f8 := frozen_of_row w8 v 1 _ _ hv8
      have hv9 := heap_setCell_same w8 v 1 _ _ (.int .i64 5) hv8
      have hb9 := hb8.setCell (p := ⟨v, 1, none⟩) (Nat.le_refl v) (.int .i64 5)
      have hu9 := (heap_setCell_other w8 ⟨v, 1, none⟩ u (.int .i64 5) hvu).trans cu8
      have e5 := cell_of_row _ u 5 _ _ _ hu9
      have e1 := cell_of_row _ v 1 _ _ _ hv9
      have g9 := frozen_of_row _ v 1 _ _ hv9
      have hv10 := heap_setCell_same _ v 1 _ _ (.int .i64 4) hv9
      have hb10 := hb9.setCell (p := ⟨v, 1, none⟩) (Nat.le_refl v) (.int .i64 4)
      have HX := hid (⟨hv8, hb8, hv9, hb9, hv10, hb10⟩ : _ ∧ _ ∧ _ ∧ _ ∧ _ ∧ _)
      clear hv8 hb8 hv9 hb9 hu9 hv10 hb10 cu8
      go_upto_if 37 with fail
      go_cut [] from 38 to 41 (fun W => W.heap[v]? = some (.cells #[.string x, .int .i64 z, .int .i64 t1, .int .i64 t2, .int .i64 t3] 54 (0, 0)) ∧ Below v wd W)
      case first =>
        by_cases h0 : t0 = 0
        · subst h0
          cases t5
          · go_wp2_with fail
            go_meet
            have hz := HRc.out
            simp only [ne_eq, not_true_eq_false, if_false, Bool.false_eq_true] at hz
            rw [hz]
            exact ⟨HX.out.2.2.1, HX.out.2.2.2.1⟩
          · go_wp2_with fail
            go_meet
            have hz := HRc.out
            simp only [ne_eq, not_true_eq_false, if_false, if_true] at hz
            rw [hz]
            exact ⟨HX.out.2.2.2.2.1, HX.out.2.2.2.2.2⟩
        · have hne : (t0 == 0) = false := by simpa using h0
          go_wp2_with fail
          go_meet
          have hz := HRc.out
          rw [if_pos h0] at hz
          rw [hz]
          exact ⟨HX.out.1, HX.out.2.1⟩
      case rest =>
        obtain ⟨hvc, hbc⟩ := hcut
        obtain ⟨bc, hOc⟩ := HF8.out wc hbc
        have hzc := bc.size
        rw [HRb.out] at HF2
        have HF3 := hid HF2.out
        have Hvc := hid hvc
        clear HX HF8 c0 c5 d1 f8 e5 e1 g9 hbc HRb HF2 HRc hvc
        go_wp2_with (first | (refine ldZ rfl _ rfl v rfl _ Hvc.out rfl ?_) | (at_builtin; go_must (refine Cel.wpList_push kR wc w1.heap.size (.slice A2 k c2) k _ hOc hzc 1 1 #[.string x, .int .i64 z, .int .i64 t1, .int .i64 t2, .int .i64 t3] (0, 0) rfl (by simp [Value.oneCell']) (by omega) (by omega) rfl (.tmp 42) (.tmp 44) rfl rfl rfl ?_); intro v6 w6 ho6 hb6 _ _; obtain ⟨A6, c6, rfl, _⟩ := ho6.reads))
        have b11 := bc.trans hb6
        have ho7 : Cel.Own 54 5 w6 w1.heap.size (.slice A6 (k + 1) c6) (k + 1) (ucells ((L.take (k + 1)).map fun x => rsv x (ofL (uses os x)))) := by
          rw [HF3.out, ucells_append]
          exact ho6
        clear ho6 hb6 bc hOc hzc
        go_roundw
        · exact ⟨k + 1, A6, c6, by go_num, by omega, rfl, ho7, b11⟩
        · simp [intOf]; omega
    · obtain rfl : k = m := by omega
      have hki : ¬ (k : Int) < (k : Int) := by omega
      rw [List.take_of_length_le (by have := HM.out; omega), ← HW.out] at hO
      go_wp2_with fail
      go_ret
      have hR : (resL os).length = k := by rw [HW.out, List.length_map, HM.out]
      unfold ResP
      rw [hR]
      exact ⟨A2, c2, rfl, hO.more hb1.size, hb1.trans (hb.mono hb1.size)⟩
end Go.Proofs.YtndjnmeblpjlhaaDoor.Tab

namespace Go.Proofs.YtndjnmeblpjlhaaDoor.Tab
open Go.RowKit Go.Proofs Go.Proofs.YtndjnmeblpjlhaaDoor.Byt
open Go.Proofs.YtndjnmeblpjlhaaDoor.Bnd

theorem res_under : Tryd.prog.underlying 54 = some (.struct (Tryd.prog.fieldsOf 54)) := by kernel_rfl
theorem res_held : Tryd.prog.stoodInHeld 54 = false := by kernel_rfl
theorem res_guard : Tryd.prog.eqGuardType Tryd.prog.depth 54 = false := by kernel_rfl
theorem guard_res (op : BinOp) (X Y : Operand) (xs ys : Array Value) (w : World) : (eqGuard op 54 X Y (.agg xs) (.agg ys)).run Tryd.prog w = .ok () w := run_eqGuard_agg w op _ X Y xs ys res_guard
theorem equal_res (x0 : ByteArray) (x1 x2 x3 x4 : Int) (w : World) :
    (Op.equalIn 10000 54 (.agg #[.string x0, .int .i64 x1, .int .i64 x2, .int .i64 x3, .int .i64 x4]) (.agg #[.string x0, .int .i64 x1, .int .i64 x2, .int .i64 x3, .int .i64 x4])).run Tryd.prog w = .ok true w := by
  have u3 := Tryd.underlying3
  have u9 := Tryd.underlying9
  rw [show (10000 : Nat) = 9999 + 1 from rfl, run_equalIn_agg w 9999 54 _ _ res_under res_held]
  simp only [Program.fieldsOf, Tryd.underlying54]
  go_simp
theorem neq_res (x0 : ByteArray) (x1 x2 x3 x4 : Int) (w : World) :
    (binOp .neq 54 (.agg #[.string x0, .int .i64 x1, .int .i64 x2, .int .i64 x3, .int .i64 x4]) (.agg #[.string x0, .int .i64 x1, .int .i64 x2, .int .i64 x3, .int .i64 x4])).run Tryd.prog w = .ok (.bool false) w := by
  rw [run_neq_struct, equal_res]
  rfl
set_option linter.unusedSimpArgs false in
set_option maxRecDepth 100000 in
set_option maxHeartbeats 2000000 in
theorem rsamer_any (K : Nat) (A B : Option Addr) (n c d : Nat) (xs : List Us) (w : World) (h : RdU w K A n xs) (h' : RdU w K B n xs) (hK : K ≤ w.heap.size) (hn : n ≤ 100000) :
    Calls Tryd.prog 21 #[.slice A n c, .slice B n d] w fun e w' => e = .returned (.bool true) ∧ Below w.heap.size w w' := by
  have Hl := hid h.1
  have hnb : ((n : Int) != (n : Int)) = false := by simp
  go_enter Tryd.func21, Tryd.ntmps21
  go_wp2_with fail
  go_loopw [5] (fun i W => ∃ k : Nat, i = .int .i64 (k : Int) ∧ k ≤ n ∧ Below w.heap.size w W) (fun i _ => n - (intOf i).toNat)
  case atStart => exact ⟨0, rfl, by omega, Below.refl _ _⟩
  case round =>
    obtain ⟨k, rfl, hk, hb⟩ := hrel
    by_cases hlt : k < n
    · have hkl : k < xs.length := by have := Hl.out; omega
      have hki : (k : Int) < (n : Int) := by omega
      obtain ⟨b, o, rfl, hbK, hcell⟩ := (h.below (hb.mono hK)).2 k hkl
      obtain ⟨b', o', rfl, hbK', hcell'⟩ := (h'.below (hb.mono hK)).2 k hkl
      generalize xs[k] = x at *
      obtain ⟨⟨x0, x1, x2, x3⟩, x4⟩ := x
      have p0 : wr.cell? ⟨b, o + k * 5, none⟩ = some (.string x0) := hcell 0 _ rfl
      have p1 : wr.cell? ⟨b, o + k * 5 + 1, none⟩ = some (.int .i64 x1) := hcell 1 _ rfl
      have p2 : wr.cell? ⟨b, o + k * 5 + 2, none⟩ = some (.int .i64 x2) := hcell 2 _ rfl
      have p3 : wr.cell? ⟨b, o + k * 5 + 3, none⟩ = some (.int .i64 x3) := hcell 3 _ rfl
      have p4 : wr.cell? ⟨b, o + k * 5 + 4, none⟩ = some (.int .i64 x4) := hcell 4 _ rfl
      have s0 : wr.cell? ⟨b', o' + k * 5, none⟩ = some (.string x0) := hcell' 0 _ rfl
      have s1 : wr.cell? ⟨b', o' + k * 5 + 1, none⟩ = some (.int .i64 x1) := hcell' 1 _ rfl
      have s2 : wr.cell? ⟨b', o' + k * 5 + 2, none⟩ = some (.int .i64 x2) := hcell' 2 _ rfl
      have s3 : wr.cell? ⟨b', o' + k * 5 + 3, none⟩ = some (.int .i64 x3) := hcell' 3 _ rfl
      have s4 : wr.cell? ⟨b', o' + k * 5 + 4, none⟩ = some (.int .i64 x4) := hcell' 4 _ rfl
      have hgd := guard_res
      have hne := neq_res
      clear hcell hcell'
      go_wp2_with fail
      go_quiet (fail)
      go_wp2_with fail
      go_roundw
      · exact ⟨k + 1, by go_num, by omega, bdr hb _⟩
      · simp [intOf]; omega
    · obtain rfl : k = n := by omega
      have hki : ¬ (k : Int) < (k : Int) := by omega
      go_wp2_with fail
      go_ret
      exact ⟨rfl, hb⟩
end Go.Proofs.YtndjnmeblpjlhaaDoor.Tab
