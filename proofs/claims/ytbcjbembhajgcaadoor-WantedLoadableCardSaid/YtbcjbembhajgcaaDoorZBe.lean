/-
  bind: the library's Grow and Concat of numbers.
  bind: the program's Join.
-/
import Derived.Test.YtbcjbembhajgcaaDoorZBd
import Derived.Lib.AppendZeros
namespace Go.Proofs.YtbcjbembhajgcaaDoor.Bnd
open Go.RowKit Go.Proofs Go.Proofs.YtbcjbembhajgcaaDoor.Byt
open Go.Proofs.YtbcjbembhajgcaaDoor.Arp (RdI)

/-- Room for members. -/
def GrowP (w : World) (e : Ending) (w' : World) : Prop :=
  ∃ A c, e = .returned (.slice A 0 c) ∧ Cel.Own 3 1 w' w.heap.size (.slice A 0 c) 0 [] ∧ Below w.heap.size w w'
set_option linter.unusedSimpArgs false in
set_option maxRecDepth 100000 in
set_option maxHeartbeats 2000000 in
theorem grow_any (n : Nat) (w : World) (hn : n ≤ 400000) :
    Calls Tryd.prog 46 #[.slice none 0 0, .int .i64 (n : Int)] w (GrowP w) := by
  by_cases h0 : n = 0
  · subst h0
    go_enter Tryd.func46, Tryd.ntmps46
    go_wp2_with fail
    go_ret
    exact ⟨none, 0, rfl, Cel.Own.nil _ _ _ _, Below.refl _ _⟩
  · have hpos : (0 : Int) < (n : Int) := by omega
    have hneg : ¬ (n : Int) < 0 := by omega
    obtain ⟨i, hi, hz0, hz1, hz2⟩ := info_parts kI.info
    have hr := Lib.run_append_nil_zeros (P := Tryd.prog) w 55 3 55 3 i _ .i64 .i64 kI.under Tryd.underlying3 hi hz0 n (by omega) (by omega) (by omega) (by rw [hz2]; omega)
    have Hcm := hid (grownCap_le_maxLen w n 0 3 (by unfold maxLen; omega))
    have ho : Cel.Own 3 1 (w.drew.alloc (.cells (Builtin.zeroCells (Value.int .i64 0).cells n ++ Builtin.zeroCells (Value.int .i64 0).cells (grownCap w n 0 3 - n)) 3)) w.heap.size (.slice (some ⟨w.heap.size, 0, none⟩) 0 (grownCap w n 0 3)) 0 [] := by
      have hge : n ≤ grownCap w n 0 3 := by have := grownCap_ge w n 0 3; omega
      refine ⟨rfl, .inr ⟨w.heap.size, _, _, (0, 0), rfl, Nat.le_refl _, heap_alloc_new w.drew _, by omega, Hcm.out, ?_, by simp, fun j _ hj => by simp at hj⟩⟩
      rw [Array.size_append, size_zeroCells, size_zeroCells, kI.cells, ← Nat.add_mul]
      congr 1
      omega
    have hb : Below w.heap.size w (w.drew.alloc (.cells (Builtin.zeroCells (Value.int .i64 0).cells n ++ Builtin.zeroCells (Value.int .i64 0).cells (grownCap w n 0 3 - n)) 3)) := (Below.refl _ w).drew.alloc (Nat.le_refl _) _
    generalize w.drew.alloc (.cells (Builtin.zeroCells (Value.int .i64 0).cells n ++ Builtin.zeroCells (Value.int .i64 0).cells (grownCap w n 0 3 - n)) 3) = w1 at *
    generalize grownCap w n 0 3 = cap at *
    have Hr := hid hr
    clear hr hi hz0 hz1 hz2 h0
    go_enter Tryd.func46, Tryd.ntmps46
    go_wp2_with (at_builtin; refine Lib.wpList_append_run _ rfl _ _ _ _ rfl _ _ rfl rfl _ _ Hr.out ?_)
    go_ret
    exact ⟨_, _, rfl, ho, hb⟩

/-- Lists one after the other. -/
structure Seg where
  A : Option Addr
  n : Nat
  c : Nat
  xs : List Int
def segs (ss : List Seg) : List Int := ss.flatMap (·.xs)
theorem segs_snoc (ss : List Seg) (s : Seg) : segs (ss ++ [s]) = segs ss ++ s.xs := by simp [segs]
theorem segs_take {ss : List Seg} {k : Nat} (hk : k < ss.length) : segs (ss.take (k + 1)) = segs (ss.take k) ++ ss[k].xs := by
  rw [List.take_succ_eq_append_getElem hk, segs_snoc]
theorem segs_len {ss : List Seg} {w : World} {K : Nat} (h : ∀ s ∈ ss, RdI w K s.A s.n s.xs ∧ s.n ≤ 100000) : (segs ss).length ≤ ss.length * 100000 := by
  induction ss with
  | nil => simp [segs]
  | cons s r ih =>
    have h1 := h s (by simp)
    have h2 := ih fun t ht => h t (by simp [ht])
    have h3 := h1.1.1
    rw [show segs (s :: r) = s.xs ++ segs r from rfl, List.length_append, List.length_cons]
    omega
/-- Lists joined, in a list that the call has made. -/
def JoinP (xs : List Int) (w : World) (e : Ending) (w' : World) : Prop :=
  ∃ A c, e = .returned (.slice A xs.length c) ∧ Cel.Own 3 1 w' w.heap.size (.slice A xs.length c) xs.length (ints xs) ∧ Below w.heap.size w w'
set_option linter.unusedSimpArgs false in
set_option maxRecDepth 100000 in
set_option maxHeartbeats 4000000 in
theorem concat_any (K b k : Nat) (ss : List Seg) (w : World) (hk : ss.length = k) (hk3 : k ≤ 3) (hrow : ∀ W, Below w.heap.size w W → ∀ j (h : j < ss.length), W.cell? ⟨b, j, none⟩ = some (.slice ss[j].A ss[j].n ss[j].c))
    (hR : ∀ s ∈ ss, RdI w K s.A s.n s.xs ∧ s.n ≤ 100000) (hK : K ≤ w.heap.size) :
    Calls Tryd.prog 40 #[.slice (some ⟨b, 0, none⟩) k k] w (JoinP (segs ss) w) := by
  have Hk := hid hk
  have Hrow := hid hrow
  have hL := segs_len hR
  have Hlen : ∀ j, (segs (ss.take j)).length ≤ 300000 := fun j => by
    have h1 := segs_len (ss := ss.take j) fun s hs => hR s (List.mem_of_mem_take hs)
    have h2 : (ss.take j).length ≤ 3 := by rw [List.length_take]; omega
    omega
  have HL := hid Hlen
  clear hk hrow hL Hlen
  go_enter Tryd.func40, Tryd.ntmps40
  go_wp2_with fail
  go_loopw [3, 11] (fun v i W => ∃ j : Nat, i = .int .i64 (j : Int) ∧ j ≤ k ∧ v = .int .i64 ((segs (ss.take j)).length : Int) ∧ w = W) (fun _ i _ => k - (intOf i).toNat)
  case atStart => exact ⟨0, rfl, by omega, by simp [segs], rfl⟩
  case round =>
    obtain ⟨j, rfl, hj, rfl, rfl⟩ := hrel
    by_cases hlt : j < k
    · have hjl : j < ss.length := by have := Hk.out; omega
      have hji : (j : Int) < (k : Int) := by omega
      have hc := Hrow.out w (Below.refl _ _) j hjl
      obtain ⟨hM, hn⟩ := hR ss[j] (List.getElem_mem hjl)
      have HT : Hid ((segs (ss.take (j + 1))).length = (segs (ss.take j)).length + ss[j].n) := hid (by rw [segs_take hjl, List.length_append, hM.1])
      have h1 := HL.out j
      generalize ss[j] = s at *
      obtain ⟨sA, sn, sc, sx⟩ := s
      simp only at *
      generalize (segs (ss.take j)).length = q at *
      clear hM
      go_wp2_with fail
      go_roundw
      · exact ⟨j + 1, by go_num, by omega, by rw [HT.out]; go_num, by first | rfl | trivial⟩
      · simp [intOf]; omega
    · obtain rfl : j = k := by omega
      have hji : ¬ (j : Int) < (j : Int) := by omega
      have h1 := HL.out j
      generalize (segs (ss.take j)).length = q at *
      have HG := hid (grow_any q w (by omega))
      go_wp2_with fail
      refine HG.out.mono ?_
      rintro e w1 ⟨A0, c0, rfl, ho0, hb0⟩
      have hs0 := hb0.size
      clear HG
      go_wp2_with fail
      go_loopw [6, 27] (fun v i W => ∃ (m p : Nat) (A1 : Option Addr) (c1 : Nat), i = .int .i64 (m : Int) ∧ m ≤ j ∧ v = .slice A1 p c1 ∧ Hid (p = (segs (ss.take m)).length) ∧ Cel.Own 3 1 W w.heap.size (.slice A1 p c1) p (ints (segs (ss.take m))) ∧ Below w.heap.size w W) (fun _ i _ => j - (intOf i).toNat)
      case atStart => exact ⟨0, 0, A0, c0, rfl, by omega, rfl, hid rfl, ho0, hb0⟩
      case round =>
        obtain ⟨m, p, A1, c1, rfl, hm, rfl, hp, hO, hb1⟩ := hrel
        have hbs := hb1.size
        by_cases hlt2 : m < j
        · have hml : m < ss.length := by have := Hk.out; omega
          have hmi : (m : Int) < (j : Int) := by omega
          have hc := Hrow.out _ hb1 m hml
          obtain ⟨hM, hn⟩ := hR ss[m] (List.getElem_mem hml)
          have hM2 := Arp.RdI.cells.1 (hM.below (hb1.mono hK))
          have HT : Hid (segs (ss.take (m + 1)) = segs (ss.take m) ++ ss[m].xs) := hid (segs_take hml)
          have HN := hid hM.1
          have h2 : p ≤ 300000 := by rw [hp.out]; exact HL.out m
          generalize ss[m] = s at *
          obtain ⟨sA, sn, sc, sx⟩ := s
          simp only at *
          clear hM
          go_wp2_with (at_builtin; go_must (refine Cel.wpList_rd kI _ w.heap.size K (.slice A1 p c1) p _ hO hbs sA sn sc (ints sx) hM2 ints_one (by omega) (by omega) rfl (.tmp 31) (.tmp 32) rfl rfl rfl ?_; intro v4 w4 ho4 hb4; obtain ⟨A4, c4, rfl, _⟩ := ho4.reads))
          have ho4' : Cel.Own 3 1 w4 w.heap.size (.slice A4 (p + sn) c4) (p + sn) (ints (segs (ss.take (m + 1)))) := by rw [HT.out, ints_append]; exact ho4
          have hp4 : Hid (p + sn = (segs (ss.take (m + 1))).length) := hid (by rw [HT.out, List.length_append, ← hp.out, HN.out])
          have hb04 := hb1.trans hb4
          clear ho4 hb4 hO hb1 hc hM2
          go_roundw
          · exact ⟨m + 1, p + sn, A4, c4, by go_num, by omega, rfl, hp4, ho4', hb04⟩
          · simp [intOf]; omega
        · obtain rfl : m = j := by omega
          have hmi : ¬ (m : Int) < (m : Int) := by omega
          have hT : ss.take m = ss := List.take_of_length_le (by have := Hk.out; omega)
          rw [hT] at hp hO
          have HP := hid hp.out
          clear hT hp
          go_wp2_with fail
          go_ret
          have e := HP.out
          subst e
          exact ⟨A1, c1, rfl, hO, hb1⟩
end Go.Proofs.YtbcjbembhajgcaaDoor.Bnd

namespace Go.Proofs.YtbcjbembhajgcaaDoor.Bnd
open Go.RowKit Go.Proofs Go.Proofs.YtbcjbembhajgcaaDoor.Byt
open Go.Proofs.YtbcjbembhajgcaaDoor.Obj (Sy)
open Go.Proofs.YtbcjbembhajgcaaDoor.Arp (RdI)

/-- A state, its units in memory of the call's own. -/
def StP (s : St) (w : World) (e : Ending) (w' : World) : Prop := ∃ v, e = .returned (s.val v) ∧ OwnI w' w.heap.size v s.strongs ∧ Below w.heap.size w w'
set_option maxRecDepth 100000 in
set_option maxHeartbeats 4000000 in
theorem join_any (K : Nat) (a b : St) (va vb : Value) (w : World) (hP : Prec w) (ha : Pl w K va a.strongs) (hb : Pl w K vb b.strongs) (hK : K ≤ w.heap.size) (hla : a.strongs.length ≤ 100000) (hlb : b.strongs.length ≤ 100000) :
    Calls Tryd.prog 29 #[a.val va, b.val vb] w (StP (joi a b) w) := by
  obtain ⟨Aa, na, ca, rfl, hra, hna, hca⟩ := ha
  obtain ⟨Ab, nb, cb, rfl, hrb, hnb, hcb⟩ := hb
  have h1 : (Value.slice Aa na ca).oneCell' = true := rfl
  have h2 : (Value.slice Ab nb cb).oneCell' = true := rfl
  obtain ⟨W, hW, hbW, hR0, hR1, hR2, hs⟩ := three_new w (.cells (row a (.slice Aa na ca)) 57) (.cells (row b (.slice Ab nb cb)) 57) (.cells (row ⟨0, 0, 0, 0, false, false, false, []⟩ (.slice none 0 0)) 57)
  have HPr := hid (prevailing_any a b (.slice Aa na ca) (.slice Ab nb cb) W (hP.on hbW) h1 h2)
  obtain ⟨p0, p1, p2, p3, p4, p5, p6, vp, HQ, HJ⟩ : ∃ p0 p1 p2 p3 p4 p5 p6 vp, Hid (PrvP a b (.slice Aa na ca) (.slice Ab nb cb) W = fun e w' => e = .returned (.agg #[.int .i64 p0, .int .i64 p1, .int .i64 p2, .int .i64 p3, .bool p4, .bool p5, .bool p6, vp]) ∧ Below W.heap.size W w') ∧
      Hid (joi a b = ⟨p0, p1, p2, p3, a.dfd || b.dfd, a.sr || b.sr, a.wr || b.wr, a.strongs ++ b.strongs⟩ ∧ (#[.int .i64 p0, .int .i64 p1, .int .i64 p2, .int .i64 p3, .bool p4, .bool p5, .bool p6, vp] : Array Value).all (·.oneCell') = true) :=
    ⟨(prv a b).bind, (prv a b).size, (prv a b).align, (prv a b).unit, (prv a b).dfd, (prv a b).sr, (prv a b).wr, if rnk a.bind < rnk b.bind then .slice Ab nb cb else .slice Aa na ca, hid rfl, hid ⟨rfl, row_one (s := ⟨(prv a b).bind, (prv a b).size, (prv a b).align, (prv a b).unit, (prv a b).dfd, (prv a b).sr, (prv a b).wr, []⟩) (by split <;> assumption)⟩⟩
  rw [HQ.out] at HPr
  clear HQ
  have HA := hid (fun (V : World) (h : Below w.heap.size w V) => hra.below (h.mono hK))
  have HB := hid (fun (V : World) (h : Below w.heap.size w V) => hrb.below (h.mono hK))
  have HL := hid (⟨hra.1, hrb.1⟩ : _ ∧ _)
  obtain ⟨a0, a1, a2, a3, a4, a5, a6, al⟩ := a
  obtain ⟨b0, b1, b2, b3, b4, b5, b6, bl⟩ := b
  rw [HJ.out.1]
  have HO := hid HJ.out.2
  clear HJ hra hrb
  unfold St.val at *
  simp only [row] at *
  obtain ⟨g, hg⟩ : ∃ g, w.heap.size = g := ⟨_, rfl⟩
  have HC := hid fun (V : World) (h : Below (g + 1 + 1 + 1) W V) => (⟨(h.block g (by omega)).trans (hg ▸ hR0), (h.block (g + 1) (by omega)).trans (hg ▸ hR1), (h.block (g + 1 + 1) (by omega)).trans (hg ▸ hR2)⟩ : _ ∧ _ ∧ _)
  have HbW := hid hbW
  have HS : Hid (W.heap.size = g + 1 + 1 + 1) := hid (by omega)
  rw [hg] at hK
  clear hbW hR0 hR1 hR2 hs
  go_enter Tryd.func29, Tryd.ntmps29
  go_upto_region 1 with fail
  clear hW
  have HG := hid hg
  clear hg
  have e0 := (HC.out W (Below.refl _ _)).1
  have e1 := (HC.out W (Below.refl _ _)).2.1
  go_upto_region 2 with (first | (refine ldS rfl _ rfl g rfl _ e0 rfl ?_) | (refine ldS rfl _ rfl (g + 1) rfl _ e1 rfl ?_) | (go_at_call 39; refine HPr.out.mono ?_; rintro e w1 ⟨rfl, hb1⟩) | (refine stS rfl _ _ rfl _ _ rfl rfl _ (heap_alloc_new _ _) rfl rfl HO.out ?_; rw [World.setRow_alloc_new]))
  clear e0 e1 HPr
  have hn1 := heap_alloc_new w1 (.cells #[.int .i64 p0, .int .i64 p1, .int .i64 p2, .int .i64 p3, .bool p4, .bool p5, .bool p6, vp] 57)
  have hs1 := World.size_alloc w1 (.cells #[.int .i64 p0, .int .i64 p1, .int .i64 p2, .int .i64 p3, .bool p4, .bool p5, .bool p6, vp] 57)
  have hq1 := hb1.alloc hb1.size (.cells #[.int .i64 p0, .int .i64 p1, .int .i64 p2, .int .i64 p3, .bool p4, .bool p5, .bool p6, vp] 57)
  have hu : g + 1 + 1 + 1 ≤ w1.heap.size := by have := hb1.size; have := HS.out; omega
  generalize w1.alloc (.cells #[.int .i64 p0, .int .i64 p1, .int .i64 p2, .int .i64 p3, .bool p4, .bool p5, .bool p6, vp] 57) = V at *
  obtain ⟨u, hue⟩ : ∃ u, w1.heap.size = u := ⟨_, rfl⟩
  rw [hue] at hn1 hs1 hu
  rw [hue]
  have Hq := hid hq1
  have Hn := hid hn1
  have Hs := hid hs1
  clear hq1 hn1 hs1 hue hb1
  have hgu0 : g ≠ u := by omega
  have hgu1 : g + 1 ≠ u := by omega
  have e0 := (HC.out V (Hq.out.mono (by rw [HS.out]; omega))).1
  have e1 := (HC.out V (Hq.out.mono (by rw [HS.out]; omega))).2.1
  have c04 := cell_of_row _ g 4 _ _ _ e0
  have c05 := cell_of_row _ g 5 _ _ _ e0
  have c06 := cell_of_row _ g 6 _ _ _ e0
  have c07 := cell_of_row _ g 7 _ _ _ e0
  have c14 := cell_of_row _ (g + 1) 4 _ _ _ e1
  have c15 := cell_of_row _ (g + 1) 5 _ _ _ e1
  have c16 := cell_of_row _ (g + 1) 6 _ _ _ e1
  have c17 := cell_of_row _ (g + 1) 7 _ _ _ e1
  have fu := fun o => frozen_of_row V u o _ _ Hn.out
  have cu := fun o => cell_of_row V u o _ _ _ Hn.out
  have cu4 := cu 4
  have cu5 := cu 5
  have cu6 := cu 6
  clear cu e0 e1
  obtain ⟨d4, hd4⟩ : ∃ d, (a4 || b4) = d := ⟨_, rfl⟩
  obtain ⟨d5, hd5⟩ : ∃ d, (a5 || b5) = d := ⟨_, rfl⟩
  obtain ⟨d6, hd6⟩ : ∃ d, (a6 || b6) = d := ⟨_, rfl⟩
  rw [hd4, hd5, hd6]
  obtain ⟨V2, hV2⟩ : ∃ V2, ((V.setCell ⟨u, 4, none⟩ (.bool d4)).setCell ⟨u, 5, none⟩ (.bool d5)).setCell ⟨u, 6, none⟩ (.bool d6) = V2 := ⟨_, rfl⟩
  have hu2 : W.heap.size ≤ u := by rw [HS.out]; exact hu
  have HQ2 : Hid (Below W.heap.size W V2 ∧ V2.heap.size = u + 1 ∧ V2.heap[u]? = some (.cells #[.int .i64 p0, .int .i64 p1, .int .i64 p2, .int .i64 p3, .bool d4, .bool d5, .bool d6, vp] 57 (0, 0))) := hid (by
    rw [← hV2]
    refine ⟨((Hq.out.setCell (p := ⟨u, 4, none⟩) hu2 _).setCell (p := ⟨u, 5, none⟩) hu2 _).setCell (p := ⟨u, 6, none⟩) hu2 _, by simp [Hs.out], ?_⟩
    exact heap_setCell_same _ u 6 _ _ _ (heap_setCell_same _ u 5 _ _ _ (heap_setCell_same V u 4 _ _ _ Hn.out)))
  have HC2 := hid (HC.out V2 (HQ2.out.1.mono (by rw [HS.out]; omega)))
  have hbv : Below w.heap.size w V2 := HbW.out.trans (HQ2.out.1.mono HbW.out.size)
  have HCat := hid (concat_any K V2.heap.size 2 [⟨Aa, na, ca, al⟩, ⟨Ab, nb, cb, bl⟩] (V2.alloc (.cells #[.slice Aa na ca, .slice Ab nb cb] 55)) rfl (by omega) (fun X hX j hj => by
      have hr := (hX.block V2.heap.size (by rw [World.size_alloc]; omega)).trans (heap_alloc_new V2 _)
      rw [cell_of_row _ _ j _ _ _ hr]
      match j, hj with
      | 0, _ => rfl
      | 1, _ => rfl) (fun x hx => by
      have hbx := hbv.alloc hbv.size (.cells #[.slice Aa na ca, .slice Ab nb cb] 55)
      rcases List.mem_cons.1 hx with rfl | hx
      · exact ⟨HA.out _ hbx, by have := HL.out.1; show na ≤ _; omega⟩
      · rcases List.mem_cons.1 hx with rfl | hx
        · exact ⟨HB.out _ hbx, by have := HL.out.2; show nb ≤ _; omega⟩
        · cases hx) (by rw [World.size_alloc]; have := hbv.size; have := HG.out; omega))
  have HSg : Hid (segs [⟨Aa, na, ca, al⟩, ⟨Ab, nb, cb, bl⟩] = al ++ bl) := hid (by simp [segs])
  rw [HSg.out] at HCat
  have Hbv := hid hbv
  clear hbv HSg
  have HU5 := hid (fun (X : World) (h : Below (V2.alloc (.cells #[.slice Aa na ca, .slice Ab nb cb] 55)).heap.size (V2.alloc (.cells #[.slice Aa na ca, .slice Ab nb cb] 55)) X) => (h.block u (by rw [World.size_alloc, HQ2.out.2.1]; omega)).trans ((Below.heap_alloc V2 _ u (by rw [HQ2.out.2.1]; omega)).trans HQ2.out.2.2))
  have HG5 := hid (fun (X : World) (h : Below (V2.alloc (.cells #[.slice Aa na ca, .slice Ab nb cb] 55)).heap.size (V2.alloc (.cells #[.slice Aa na ca, .slice Ab nb cb] 55)) X) => (h.block (g + 1 + 1) (by rw [World.size_alloc, HQ2.out.2.1]; omega)).trans ((Below.heap_alloc V2 _ (g + 1 + 1) (by rw [HQ2.out.2.1]; omega)).trans HC2.out.2.2))
  have HB5 := hid (fun (X : World) (h : Below (V2.alloc (.cells #[.slice Aa na ca, .slice Ab nb cb] 55)).heap.size (V2.alloc (.cells #[.slice Aa na ca, .slice Ab nb cb] 55)) X) => (Hbv.out.alloc Hbv.out.size (.cells #[.slice Aa na ca, .slice Ab nb cb] 55)).trans (h.mono (Hbv.out.alloc Hbv.out.size (.cells #[.slice Aa na ca, .slice Ab nb cb] 55)).size))
  have HE : Hid (V2.heap.size = u + 1) := hid HQ2.out.2.1
  cases a4 <;> cases a5 <;> cases a6
  all_goals
    simp only [Bool.true_or, Bool.false_or] at hd4 hd5 hd6
    subst hd4 hd5 hd6
    go_upto_region 5 with fail
    clear hV2 cu4 cu5 cu6 c04 c05 c06 c14 c15 c16 c07 c17 fu
    have d07 := cell_of_row _ g 7 _ _ _ HC2.out.1
    have d17 := cell_of_row _ (g + 1) 7 _ _ _ HC2.out.2.1
    go_upto_region 6 with (go_at_call 40; refine HCat.out.mono ?_; rintro e w5 ⟨A5, c5, rfl, ho5, hb5⟩; have hr5 := HU5.out _ hb5; have f5 := frozen_of_row _ u 7 _ _ hr5; have c57 := cell_of_row _ u 7 _ _ _ hr5; have HR5 := hid hr5; have HT5 := hid (HG5.out _ hb5); have HX5 := hid (HB5.out _ hb5); clear hr5 hb5)
    clear f5 c57 d07 d17
    have HN5 : Hid ((al ++ bl).length = al.length + bl.length) := hid List.length_append
    rw [HN5.out] at ho5
    generalize al.length + bl.length = n5 at *
    have HR6 := hid (heap_setCell_same w5 u 7 _ _ (.slice A5 n5 c5) HR5.out)
    have HT6 := hid ((Below.heap_setCell w5 ⟨u, 7, none⟩ (.slice A5 n5 c5) (g + 1 + 1) (by show _ ≠ u; omega)).trans HT5.out)
    have HX6 := hid (HX5.out.setCell (p := ⟨u, 7, none⟩) (by show _ ≤ u; have := HG.out; omega) (.slice A5 n5 c5))
    have HK6 := hid (Cel.Own.keep (w' := w5.setCell ⟨u, 7, none⟩ (.slice A5 n5 c5)) ho5 fun k hk _ => Below.heap_setCell w5 ⟨u, 7, none⟩ (.slice A5 n5 c5) k (by show k ≠ u; rw [World.size_alloc] at hk; have := HE.out; omega))
    have HZ6 : Hid (w5.heap.size = (w5.setCell ⟨u, 7, none⟩ (.slice A5 n5 c5)).heap.size) := hid (by rw [World.size_setCell])
    generalize w5.setCell ⟨u, 7, none⟩ (.slice A5 n5 c5) = w6 at *
    clear ho5
    go_wp2_with (first | (refine ldS rfl _ rfl u rfl _ HR6.out rfl ?_) | (refine stS rfl _ _ rfl (g + 1 + 1) _ rfl rfl _ HT6.out rfl rfl (row_one (s := ⟨p0, p1, p2, p3, _, _, _, []⟩) rfl) ?_))
    refine retS (g := g + 1 + 1) rfl rfl rfl (setRow_heap _ _ _ _ _ _ HT6.out) rfl ⟨.slice A5 n5 c5, rfl, ?_, below_setRow' HX6.out (by have := HG.out; omega) _⟩
    unfold OwnI
    rw [HN5.out]
    exact (Cel.Own.keep HK6.out fun k hk _ => setRow_other _ _ _ _ (by rw [World.size_alloc] at hk; have := HE.out; omega)).more (by rw [World.size_alloc]; have := HE.out; have := HG.out; omega)
end Go.Proofs.YtbcjbembhajgcaaDoor.Bnd
