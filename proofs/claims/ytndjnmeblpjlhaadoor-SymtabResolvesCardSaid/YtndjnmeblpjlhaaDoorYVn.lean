/-
  symtab: the program's Names, Wanted, resolution, Units.
  symtab: the program's Resolved.
-/
import Derived.Test.YtndjnmeblpjlhaaDoorYVm
import Derived.Test.YtndjnmeblpjlhaaDoorYBi
namespace Go.Proofs.YtndjnmeblpjlhaaDoor.Tab
open Go.RowKit Go.Proofs Go.Proofs.YtndjnmeblpjlhaaDoor.Byt
open Go.Proofs.YtndjnmeblpjlhaaDoor.Bnd

theorem every_any (s : St) (v : Value) (w : World) : Calls Tryd.prog 35 #[.agg (row s v)] w fun e w' => e = .returned (.bool true) ∧ Below w.heap.size w w' := by
  have hb := (Below.refl w.heap.size w).alloc (Nat.le_refl _) (.cells (row s v) 41)
  unfold row at *
  go_enter Tryd.func35, Tryd.ntmps35
  go_wp2_with fail
  go_ret
  exact ⟨rfl, hb⟩
theorem pnames_any (K : Nat) (r : Option Addr) (mo : Option Nat) (U : ByteArray → List Us) (w : World) (hA : AllOf w r mo) (hM : MapOf w K mo U) (N : List ByteArray) (hN : Asc N) (hU : ∀ x, x ∈ N ↔ U x ≠ []) (hNl : N.length ≤ 100000) :
    Calls Tryd.prog 19 #[.pointer r] w (NmsP N w) := by
  have HW := hid (with_any K r mo U w hA hM 35 (fun _ => true) (enter_any Tryd.func35 (by kernel_rfl) rfl) every_any N N hN (fun x hx => (hU x).2 hx) hNl hN (fun x => by simpa using hU x))
  clear hA hM hN hU hNl
  go_enter Tryd.func19, Tryd.ntmps19
  go_wp2_with fail
  refine HW.out.mono ?_
  rintro e w1 ⟨A, c, rfl, ho, hb⟩
  go_wp2_with fail
  go_ret
  exact ⟨A, c, rfl, ho, hb⟩
theorem pwanted_any (K : Nat) (r : Option Addr) (mo : Option Nat) (U : ByteArray → List Us) (w : World) (hA : AllOf w r mo) (hM : MapOf w K mo U) (N L : List ByteArray) (hN : Asc N) (hU : ∀ x, U x ≠ [] → x ∈ N) (hNl : N.length ≤ 100000)
    (hL : Asc L) (hmem : ∀ x, x ∈ L ↔ U x ≠ [] ∧ wantd (allL (U x)) = true) :
    Calls Tryd.prog 17 #[.pointer r] w (NmsP L w) := by
  have HW := hid (with_any K r mo U w hA hM 24 wantd (enter_any Tryd.func24 (by kernel_rfl) rfl) wanted_any N L hN hU hNl hL hmem)
  clear hA hM hN hU hNl hL hmem
  go_enter Tryd.func17, Tryd.ntmps17
  go_wp2_with fail
  refine HW.out.mono ?_
  rintro e w1 ⟨A, c, rfl, ho, hb⟩
  go_wp2_with fail
  go_ret
  exact ⟨A, c, rfl, ho, hb⟩

/-- The binding of a resolution. -/
def rb (s : St) : Int := if s.bind ≠ 0 then s.bind else if s.sr = true then 4 else 5
def rsv (nm : ByteArray) (s : St) : Us := ⟨⟨nm, rb s, s.size, s.align⟩, s.unit⟩
theorem rbind_any (s : St) (v : Value) (w : World) : Calls Tryd.prog 46 #[.agg (row s v)] w fun e w' => e = .returned (.int .i64 (rb s)) ∧ Below w.heap.size w w' := by
  have hb := (Below.refl w.heap.size w).alloc (Nat.le_refl _) (.cells (row s v) 41)
  have hn := heap_alloc_new w (.cells (row s v) 41)
  have HR : Hid (rb s = if s.bind ≠ 0 then s.bind else if s.sr = true then 4 else 5) := hid rfl
  obtain ⟨s0, s1, s2, s3, s4, s5, s6, sl⟩ := s
  generalize rb _ = z at *
  simp only [row] at *
  by_cases h0 : s0 = 0
  · subst h0
    cases s5
    all_goals
      have HE := hid HR.out
      clear HR
      simp only [ne_eq, not_true_eq_false, if_false, Bool.false_eq_true, if_true] at HE
      go_enter Tryd.func46, Tryd.ntmps46
      go_wp2_with fail
      go_ret
      exact ⟨ret_int HE.out.symm, hb⟩
  · have hne : (s0 == 0) = false := by simpa using h0
    have HE : Hid (z = s0) := hid (by rw [HR.out, if_pos h0])
    clear HR
    go_enter Tryd.func46, Tryd.ntmps46
    go_wp2_with fail
    go_ret
    exact ⟨ret_int HE.out.symm, hb⟩
/-- The rows of a call of resolution. -/
def RsS (g : Nat) (cs : Array Value) (W : World) : Prop := W.heap[g]? = some (.cells cs 41 (0, 0))
/-- A resolution is handed back. -/
theorem retZ {fn : Func} {p : Tmp} {T : Ending → World → Prop} {a : Act} {w : World} {g : Nat} {cs : Array Value} (h : fn.results = #[.cell p 54]) (hp : a.tmps.getD p undef = .pointer (some ⟨g, 0, none⟩)) (hd : a.defers = [])
    (hg : w.heap[g]? = some (.cells cs 54 (0, 0))) (hs : cs.size = 5) (hT : T (.returned (.agg cs)) w) : bodyPost Tryd.prog fn T .ret a w :=
  bodyPost_ret (v := .agg cs) (results_cell_row h _ _ g 54 cs (0, 0) _ hp hg Tryd.underlying54 rfl (by rw [hs]; kernel_rfl)) hd hT
theorem two_rows (w : World) (x y : Obj) : ∃ W, (w.alloc x).alloc y = W ∧ Below w.heap.size w W ∧ W.heap[w.heap.size]? = some x ∧ W.heap[w.heap.size + 1]? = some y ∧ W.heap.size = w.heap.size + 1 + 1 := two_new w x y
set_option linter.unusedSimpArgs false in
set_option maxRecDepth 100000 in
set_option maxHeartbeats 4000000 in
theorem reso_any (nm : ByteArray) (s : St) (v : Value) (w : World) :
    Calls Tryd.prog 37 #[.string nm, .agg (row s v)] w fun e w' => e = .returned (.agg #[.string nm, .int .i64 (rb s), .int .i64 s.size, .int .i64 s.align, .int .i64 s.unit]) ∧ Below w.heap.size w w' := by
  obtain ⟨W, hW, hbW, hR0, hR1, hz⟩ := two_rows w (.cells (row s v) 41) (.cells #[.string ⟨#[]⟩, .int .i64 0, .int .i64 0, .int .i64 0, .int .i64 0] 54)
  have HRb := hid fun V => rbind_any s v V
  generalize rb s = z at *
  obtain ⟨s0, s1, s2, s3, s4, s5, s6, sl⟩ := s
  simp only [row] at *
  obtain ⟨g, hg⟩ : ∃ g, w.heap.size = g := ⟨_, rfl⟩
  rw [hg] at hbW hR0 hR1 hz
  rw [hg]
  go_enter Tryd.func37, Tryd.ntmps37
  go_upto_region 1 with fail
  clear hW
  have HG := hid hg
  have HbW := hid hbW
  have HC := hid fun (V : World) (h : Below (g + 1 + 1) W V) => (⟨(h.block g (by omega)).trans hR0, (h.block (g + 1) (by omega)).trans hR1⟩ : _ ∧ _)
  have HS : Hid (W.heap.size = g + 1 + 1) := hid hz
  clear hg hbW hR0 hR1 hz
  refine Ord.Till.begin (RsS g #[.int .i64 s0, .int .i64 s1, .int .i64 s2, .int .i64 s3, .bool s4, .bool s5, .bool s6, v]) 60 (by kernel_rfl) ?_
  have hbd : Below W.heap.size W W.drew := (Below.refl _ _).drew
  have hS : RsS g #[.int .i64 s0, .int .i64 s1, .int .i64 s2, .int .i64 s3, .bool s4, .bool s5, .bool s6, v] W.drew := (HC.out W.drew (hbd.mono (by rw [HS.out]; omega))).1
  generalize W.drew = wd at *
  refine Ord.Till.take' 0 (some 5) (oi := _) (x := .string nm) rfl rfl (by kernel_rfl) (by kernel_rfl) (by kernel_rfl) (by kernel_rfl) (fun _ _ _ h => h) (by kernel_rfl) (fun v hv => by go_simp) hS ?_
  try simp only [List.getElem_toArray, List.getElem_cons_zero, List.getElem_cons_succ, Act.put, List.setIfInBounds_toArray, List.set_cons_zero, List.set_cons_succ]
  refine Ord.Till.take' 1 (some 6) (oi := _) (x := .agg #[.int .i64 s0, .int .i64 s1, .int .i64 s2, .int .i64 s3, .bool s4, .bool s5, .bool s6, v]) rfl rfl (by kernel_rfl) (by kernel_rfl) (by kernel_rfl) (by kernel_rfl) (fun _ _ _ h => h) (by kernel_rfl) (fun v hv => exec_ld 41 _ Tryd.underlying41 rfl _ rfl g 0 rfl _ (by kernel_rfl) (range_row hv)) hS ?_
  try simp only [List.getElem_toArray, List.getElem_cons_zero, List.getElem_cons_succ, Act.put, List.setIfInBounds_toArray, List.set_cons_zero, List.set_cons_succ]
  refine Ord.Till.take' 3 (some 8) (oi := _) (x := .pointer (some ⟨g, 1, none⟩)) rfl rfl (by kernel_rfl) (by kernel_rfl) (by kernel_rfl) (by kernel_rfl) (fun _ _ _ h => h) (by kernel_rfl) (fun v hv => by go_simp) hS ?_
  try simp only [List.getElem_toArray, List.getElem_cons_zero, List.getElem_cons_succ, Act.put, List.setIfInBounds_toArray, List.set_cons_zero, List.set_cons_succ]
  refine Ord.Till.take' 4 (some 9) (oi := _) (x := .int .i64 s1) rfl rfl (by kernel_rfl) (by kernel_rfl) (by kernel_rfl) (by kernel_rfl) (fun _ _ _ h => h) (by kernel_rfl) (fun w' hv => by have c := cell_of_row _ g 1 _ _ _ hv; go_simp) hS ?_
  try simp only [List.getElem_toArray, List.getElem_cons_zero, List.getElem_cons_succ, Act.put, List.setIfInBounds_toArray, List.set_cons_zero, List.set_cons_succ]
  refine Ord.Till.take' 5 (some 10) (oi := _) (x := .pointer (some ⟨g, 2, none⟩)) rfl rfl (by kernel_rfl) (by kernel_rfl) (by kernel_rfl) (by kernel_rfl) (fun _ _ _ h => h) (by kernel_rfl) (fun v hv => by go_simp) hS ?_
  try simp only [List.getElem_toArray, List.getElem_cons_zero, List.getElem_cons_succ, Act.put, List.setIfInBounds_toArray, List.set_cons_zero, List.set_cons_succ]
  refine Ord.Till.take' 6 (some 11) (oi := _) (x := .int .i64 s2) rfl rfl (by kernel_rfl) (by kernel_rfl) (by kernel_rfl) (by kernel_rfl) (fun _ _ _ h => h) (by kernel_rfl) (fun w' hv => by have c := cell_of_row _ g 2 _ _ _ hv; go_simp) hS ?_
  try simp only [List.getElem_toArray, List.getElem_cons_zero, List.getElem_cons_succ, Act.put, List.setIfInBounds_toArray, List.set_cons_zero, List.set_cons_succ]
  refine Ord.Till.take' 7 (some 12) (oi := _) (x := .pointer (some ⟨g, 3, none⟩)) rfl rfl (by kernel_rfl) (by kernel_rfl) (by kernel_rfl) (by kernel_rfl) (fun _ _ _ h => h) (by kernel_rfl) (fun v hv => by go_simp) hS ?_
  try simp only [List.getElem_toArray, List.getElem_cons_zero, List.getElem_cons_succ, Act.put, List.setIfInBounds_toArray, List.set_cons_zero, List.set_cons_succ]
  refine Ord.Till.take' 8 (some 13) (oi := _) (x := .int .i64 s3) rfl rfl (by kernel_rfl) (by kernel_rfl) (by kernel_rfl) (by kernel_rfl) (fun _ _ _ h => h) (by kernel_rfl) (fun w' hv => by have c := cell_of_row _ g 3 _ _ _ hv; go_simp) hS ?_
  try simp only [List.getElem_toArray, List.getElem_cons_zero, List.getElem_cons_succ, Act.put, List.setIfInBounds_toArray, List.set_cons_zero, List.set_cons_succ]
  refine Ord.Till.step 2 (by kernel_rfl) rfl (fun C hC => ?_)
  go_simp
  go_at_call 46
  refine (HRb.out wd).mono ?_
  rintro e w1 ⟨rfl, hb1⟩
  have hb01 := hbd.trans (hb1.mono hbd.size)
  clear hS hb1
  have hS : RsS g #[.int .i64 s0, .int .i64 s1, .int .i64 s2, .int .i64 s3, .bool s4, .bool s5, .bool s6, v] w1 := (HC.out w1 (hb01.mono (by rw [HS.out]; omega))).1
  clear HRb
  go_wp2_with fail
  refine hC.out _ _ (fun _ => hS) ?_
  clear hC C
  try simp only [List.getElem_toArray, List.getElem_cons_zero, List.getElem_cons_succ, Act.put, List.setIfInBounds_toArray, List.set_cons_zero, List.set_cons_succ]
  refine Ord.Till.take' 9 (some 14) (oi := _) (x := .agg #[.string nm, .int .i64 z, .int .i64 s1, .int .i64 s2, .int .i64 s3]) rfl rfl (by kernel_rfl) (by kernel_rfl) (by kernel_rfl) (by kernel_rfl) (fun _ _ _ h => h) (by kernel_rfl) (fun v hv => by go_simp) hS ?_
  try simp only [List.getElem_toArray, List.getElem_cons_zero, List.getElem_cons_succ, Act.put, List.setIfInBounds_toArray, List.set_cons_zero, List.set_cons_succ]
  have HT := hid (HC.out w1 (hb01.mono (by rw [HS.out]; omega))).2
  refine Ord.Till.step 10 (by kernel_rfl) rfl (fun C hC => ?_)
  rw [if_pos (by kernel_rfl)]
  refine wp_store_row 54 _ _ rfl (g + 1) #[.string nm, .int .i64 z, .int .i64 s1, .int .i64 s2, .int .i64 s3] rfl rfl 54 _ HT.out (by kernel_rfl) rfl (by simp [Value.oneCell']) ?_
  refine hC.out _ _ (fun _ => (setRow_other _ _ _ _ (by omega)).trans hS) ?_
  clear hC C
  try simp only [List.getElem_toArray, List.getElem_cons_zero, List.getElem_cons_succ, Act.put, List.setIfInBounds_toArray, List.set_cons_zero, List.set_cons_succ]
  refine Ord.Till.done (by kernel_rfl) ?_ _
  clear hS
  go_wp2_with fail
  exact retZ (g := g + 1) rfl rfl rfl (setRow_heap _ _ _ _ _ _ HT.out) rfl ⟨rfl, below_setRow' (HbW.out.trans (hb01.mono (by rw [HS.out]; omega))) (by omega) _⟩
end Go.Proofs.YtndjnmeblpjlhaaDoor.Tab

namespace Go.Proofs.YtndjnmeblpjlhaaDoor.Tab
open Go.RowKit Go.Proofs Go.Proofs.YtndjnmeblpjlhaaDoor.Byt
open Go.Proofs.YtndjnmeblpjlhaaDoor.Bnd

theorem kR : Cel.Kind 49 54 5 48 (.agg #[.string ⟨#[]⟩, .int .i64 0, .int .i64 0, .int .i64 0, .int .i64 0]) := ⟨by kernel_rfl, by kernel_rfl, by kernel_rfl, by decide⟩
/-- Resolutions in a list that the call has made. -/
def ResP (l : List Us) (w : World) (e : Ending) (w' : World) : Prop :=
  ∃ A c, e = .returned (.slice A l.length c) ∧ Cel.Own 54 5 w' w.heap.size (.slice A l.length c) l.length (ucells l) ∧ Below w.heap.size w w'
theorem map_step {α β : Type} (f : α → β) {l : List α} {k : Nat} (hk : k < l.length) : (l.take (k + 1)).map f = (l.take k).map f ++ [f l[k]] := by
  rw [List.take_succ_eq_append_getElem hk, List.map_append]
  rfl
set_option linter.unusedSimpArgs false in
set_option maxRecDepth 100000 in
set_option maxHeartbeats 4000000 in
theorem presolved_any (K : Nat) (r : Option Addr) (mo : Option Nat) (U : ByteArray → List Us) (w : World) (hA : AllOf w r mo) (hM : MapOf w K mo U) (N : List ByteArray) (hN : Asc N) (hU : ∀ x, x ∈ N ↔ U x ≠ []) (hNl : N.length ≤ 100000) :
    Calls Tryd.prog 22 #[.pointer r] w (ResP (N.map fun x => rsv x (allL (U x))) w) := by
  have HNm := hid (pnames_any K r mo U w hA hM N hN hU hNl)
  have HK := hid fun (x : ByteArray) (V : World) (hV : Below w.heap.size w V) => kept_any K r mo U x V (hA.below hV) (hM.below hV)
  clear hA hM hN hU
  go_enter Tryd.func22, Tryd.ntmps22
  go_wp2_with fail
  refine HNm.out.mono ?_
  rintro e w1 ⟨A1, c1, rfl, o1, hb1⟩
  clear HNm
  obtain ⟨A', c', e, hr, _, _⟩ := id o1.reads
  injection e with e1 _ e3
  subst e1 e3
  obtain ⟨m, hm⟩ : ∃ m, N.length = m := ⟨_, rfl⟩
  rw [hm] at hr hNl
  rw [hm]
  have HM := hid hm
  clear o1 hm
  go_wp2_with fail
  go_loopw [3, 5, 9] (fun v xv iv W => ∃ (k : Nat) (A2 : Option Addr) (c2 : Nat), iv = .int .i64 (k : Int) ∧ k ≤ m ∧ v = .slice A2 k c2 ∧ Cel.Own 54 5 W w1.heap.size (.slice A2 k c2) k (ucells ((N.take k).map fun x => rsv x (allL (U x)))) ∧ Below w1.heap.size w1 W) (fun _ _ iv _ => m - (intOf iv).toNat)
  case atStart => exact ⟨0, none, 0, rfl, by omega, rfl, Cel.Own.nil _ _ _ _, Below.refl _ _⟩
  case round =>
    obtain ⟨k, A2, c2, rfl, hk, rfl, hO, hb⟩ := hrel
    by_cases hlt : k < m
    · have hkl : k < N.length := by have := HM.out; omega
      have hki : (k : Int) < (m : Int) := by omega
      obtain ⟨b, o, rfl, hbK, c0⟩ := (hr.below hb).2 k hkl
      have HF := hid (map_step (fun x => rsv x (allL (U x))) hkl)
      have hbs := hb.size
      have HS1 := hid (HK.out N[k] wr (hb1.trans (hb.mono hb1.size)))
      generalize N[k] = x at *
      go_wp2_with fail
      refine HS1.out.mono ?_
      rintro e w4 ⟨v4, rfl, o4, hb4⟩
      have HR := hid (reso_any x (allL (U x)) v4 w4)
      have HF2 : Hid ((N.take (k + 1)).map (fun x => rsv x (allL (U x))) = (N.take k).map (fun x => rsv x (allL (U x))) ++ [⟨⟨x, rb (allL (U x)), (allL (U x)).size, (allL (U x)).align⟩, (allL (U x)).unit⟩]) := hid HF.out
      generalize allL (U x) = s at *
      have b4 := hb.trans (hb4.mono hb.size)
      have hO4 := hO.below hb4
      clear HS1 c0 o4 hb4 hb hO HF
      unfold St.val
      generalize rb s = z at *
      obtain ⟨s0, s1, s2, s3, s4, s5, s6, sl⟩ := s
      dsimp only at HR HF2
      go_wp2_with fail
      refine HR.out.mono ?_
      rintro e w5 ⟨rfl, hb5⟩
      have b5 := b4.trans (hb5.mono b4.size)
      have hO5 := hO4.below hb5
      have hz5 := b5.size
      clear HR hb5 b4 hO4
      go_wp2_with (at_builtin; go_must (refine Cel.wpList_push kR w5 w1.heap.size (.slice A2 k c2) k _ hO5 hz5 1 1 #[.string x, .int .i64 z, .int .i64 s1, .int .i64 s2, .int .i64 s3] (0, 0) rfl (by simp [Value.oneCell']) (by omega) (by omega) rfl (.tmp 13) (.tmp 19) rfl rfl rfl ?_); intro v6 w6 ho6 hb6 _ _; obtain ⟨A6, c6, rfl, _⟩ := ho6.reads)
      have b6 := b5.trans hb6
      have ho7 : Cel.Own 54 5 w6 w1.heap.size (.slice A6 (k + 1) c6) (k + 1) (ucells ((N.take (k + 1)).map fun x => rsv x (allL (U x)))) := by
        rw [HF2.out, ucells_append]
        exact ho6
      clear ho6 hb6 b5 hO5 hz5
      go_roundw
      · exact ⟨k + 1, A6, c6, by go_num, by omega, rfl, ho7, b6⟩
      · simp [intOf]; omega
    · obtain rfl : k = m := by omega
      have hki : ¬ (k : Int) < (k : Int) := by omega
      rw [List.take_of_length_le (by have := HM.out; omega)] at hO
      go_wp2_with fail
      go_ret
      unfold ResP
      rw [List.length_map, HM.out]
      exact ⟨A2, c2, rfl, hO.more hb1.size, hb1.trans (hb.mono hb1.size)⟩
end Go.Proofs.YtndjnmeblpjlhaaDoor.Tab
