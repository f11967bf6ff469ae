/-
  bind's laws: what they share; BindGrows, walked.
-/
import Derived.Test.YtechacnflegliaaDoorZBm
import Derived.Deep.Cut
import Derived.Deep.CutRange
namespace Go.Proofs.YtechacnflegliaaDoor.Bnd
open Go.RowKit Go.Proofs Go.Proofs.YtechacnflegliaaDoor.Byt
open Go.Proofs.YtechacnflegliaaDoor.Obj (Sy)
open Go.Proofs.YtechacnflegliaaDoor.Arp (RdI)

theorem grow_dup {s t : St} (h : dupl s = true) : dupl (joi s t) = true := by
  unfold dupl at h ⊢
  have e : (joi s t).strongs = s.strongs ++ t.strongs := rfl
  simp only [decide_eq_true_eq] at h ⊢
  rw [e, List.length_append]
  omega
theorem grow_bind {s t : St} (hs : WF s) (ht : WF t) : (s.bind ≠ 0 → (joi s t).bind ≠ 0) ∧ (s.bind = 1 → (joi s t).bind = 1) ∧ (s.bind = 3 → (joi s t).bind ≠ 2) := by
  have e : (joi s t).bind = (prv s t).bind := rfl
  rw [e, prv_bind]
  rcases hs.1 with h | h | h | h <;> rcases ht.1 with g | g | g | g <;> rw [h, g] <;> decide
theorem grow_want {s : St} {x : Us} (h : wantd (joi s (sgl x)) = true) (h4 : x.s.bind ≠ 4) : wantd s = true := by
  have e1 : (joi s (sgl x)).sr = (s.sr || (sgl x).sr) := rfl
  have e2 : (joi s (sgl x)).dfd = (s.dfd || (sgl x).dfd) := rfl
  have e3 : (sgl x).sr = false := by
    show (x.s.bind == 4) = false
    simpa using h4
  unfold wantd at h ⊢
  rw [e1, e2, e3] at h
  cases hs : s.sr <;> cases hd : s.dfd <;> simp_all

/-- A whole use is read. -/
theorem ldU {ops : Array Oper} {rest : List Oper} {o : Oper} {a : Act} {w : World} {Q : Exit → Act → World → Prop} (hgd : o.guard = none) (x : Operand) (ho : o.op = .load 39 x)
    (u : Nat) (hx : a.eval x = .pointer (some ⟨u, 0, none⟩)) (cs : Array Value) (hg : w.heap[u]? = some (.cells cs 39 (0, 0))) (hs : cs.size = 5)
    (h : wpList Tryd.prog ops Q rest (a.put o.dst (.agg cs)) w) : wpList Tryd.prog ops Q (o :: rest) a w :=
  wpList_load_row hgd 39 x ho u hx 39 cs (0, 0) _ hg Tryd.underlying39 rfl (by rw [hs]; kernel_rfl) h
def Us.row (x : Us) : Array Value := #[.string x.s.name, .int .i64 x.s.bind, .int .i64 x.s.size, .int .i64 x.s.align, .int .i64 x.u]
/-- One use, in a row that has just been laid. -/
theorem rdu_new (w : World) (x : Us) : RdU (w.alloc (.cells x.row 39)) (w.heap.size + 1) (some ⟨w.heap.size, 0, none⟩) 1 [x] :=
  ⟨rfl, fun k hk => by
    have hk0 : k = 0 := by simpa using hk
    subst hk0
    exact ⟨w.heap.size, 0, rfl, Nat.lt_succ_self _, range_row (heap_alloc_new w _)⟩⟩

set_option linter.unusedSimpArgs false in
set_option maxRecDepth 100000 in
set_option maxHeartbeats 16000000 in
theorem grows13 (w : World) (hP : Prec w) (A : Option Addr) (n c : Nat) (xs : List Us) (h : RdU w w.heap.size A n xs) (x : Us) :
    Calls Tryd.prog 4 #[.slice A n c, x.val] w fun e w' => e = .returned (.bool true) ∧ Below w.heap.size w w' := by
  have hb0 := (Below.refl w.heap.size w).alloc (Nat.le_refl _) (.cells x.row 39)
  have hn0 := heap_alloc_new w (.cells x.row 39)
  have hz0 := World.size_alloc w (.cells x.row 39)
  have HR1 := hid (fun V => rdu_new V x)
  have HU : Hid (rightL [x] = uOk x) := hid (by simp [rightL])
  unfold Us.val
  unfold Us.row at hb0 hn0 hz0 HR1
  go_enter Tryd.func4, Tryd.ntmps4
  go_upto_region 1 with fail
  generalize w.alloc (.cells #[.string x.s.name, .int .i64 x.s.bind, .int .i64 x.s.size, .int .i64 x.s.align, .int .i64 x.u] 39) = W at *
  obtain ⟨g, hg⟩ : ∃ g, w.heap.size = g := ⟨_, rfl⟩
  rw [hg] at hn0 hz0
  rw [hg]
  have HG := hid hg
  have HP := hid (fun (V : World) (hV : Below W.heap.size W V) => (hP.on hb0).on hV)
  have HX := hid (fun (V : World) (hV : Below W.heap.size W V) => ((h.below hb0).more hb0.size).below hV)
  have HN := hid (fun (V : World) (hV : Below W.heap.size W V) => (hV.block g (by omega)).trans hn0)
  have HB := hid (fun (V : World) (hV : Below W.heap.size W V) => hb0.trans (hV.mono hb0.size))
  clear hb0 hn0 hz0 hg hP h
  go_wp2_with fail
  refine (awake_any W (HP.out W (Below.refl _ _))).mono ?_
  rintro e w1 ⟨rfl, b1⟩
  go_wp2_with fail
  refine (right_any W.heap.size A n c xs w1 (HX.out w1 b1) b1.size).mono ?_
  rintro e w2 ⟨rfl, b2'⟩
  have b2 := b1.trans (b2'.mono b1.size)
  clear b1 b2'
  cases hr : rightL xs
  · clear hr
    go_wp2_with fail
    refine (awake_any w2 (HP.out w2 b2)).mono ?_
    rintro e w3 ⟨rfl, b3⟩
    go_wp2_with fail
    go_ret
    exact ⟨rfl, HB.out w3 (b2.trans (b3.mono b2.size))⟩
  have HR := hid hr
  clear hr
  have hn := HN.out w2 b2
  go_wp2_with (refine unguard (by kernel_rfl) ?_; refine ldU rfl _ rfl g rfl _ hn rfl ?_)
  have bA := b2.alloc b2.size (.cells #[.string x.s.name, .int .i64 x.s.bind, .int .i64 x.s.size, .int .i64 x.s.align, .int .i64 x.u] 39)
  have hrx := HR1.out w2
  have hzx := World.size_alloc w2 (.cells #[.string x.s.name, .int .i64 x.s.bind, .int .i64 x.s.size, .int .i64 x.s.align, .int .i64 x.u] 39)
  generalize w2.alloc (.cells #[.string x.s.name, .int .i64 x.s.bind, .int .i64 x.s.size, .int .i64 x.s.align, .int .i64 x.u] 39) = w2a at *
  refine (right_any (w2.heap.size + 1) _ 1 1 [x] w2a hrx (by omega)).mono ?_
  rintro e w3 ⟨rfl, b3'⟩
  have b3 := bA.trans (b3'.mono bA.size)
  rw [HU.out]
  clear b2 bA hrx hzx b3' hn HR1 HU
  cases hu : uOk x
  · clear hu
    go_wp2_with fail
    refine (awake_any w3 (HP.out w3 b3)).mono ?_
    rintro e w4 ⟨rfl, b4⟩
    go_wp2_with fail
    go_ret
    exact ⟨rfl, HB.out w4 (b3.trans (b4.mono b3.size))⟩
  have hok := rightL_iff.1 HR.out
  have hxu := uOk_iff.1 hu
  have hln : n ≤ 50 := by have := (HX.out w3 b3).1; omega
  go_wp2_with fail
  refine (all_any W.heap.size A n c xs w3 (HP.out w3 b3) (HX.out w3 b3) b3.size (by omega) hok.2).mono ?_
  rintro e w4 ⟨v, rfl, o4, b4'⟩
  have b4 := b3.trans (b4'.mono b3.size)
  have hL4 : (allL xs).strongs.length ≤ 50 := by have := all_len xs; omega
  have HWF := hid (wf_all xs)
  have hpl := o4.pl
  clear o4 b4' b3 hok HR hu
  generalize allL xs = S at *
  obtain ⟨A5, n5, c5, rfl, _, _, _⟩ := id hpl
  have bS := b4.alloc b4.size (.cells (row S (.slice A5 n5 c5)) 27)
  have nS := heap_alloc_new w4 (.cells (row S (.slice A5 n5 c5)) 27)
  have zS := World.size_alloc w4 (.cells (row S (.slice A5 n5 c5)) 27)
  have bP := (Below.refl w4.heap.size w4).alloc (Nat.le_refl _) (.cells (row S (.slice A5 n5 c5)) 27)
  have hM := hid (fun (V : World) (hV : Below W.heap.size W V) (hp : Pl V V.heap.size (.slice A5 n5 c5) S.strongs) => merge_any V.heap.size S (.slice A5 n5 c5) x V (HP.out V hV) hp (Nat.le_refl _) (by omega) hxu.1 hxu.2.1)
  have HD := hid fun (V : World) (hp : Pl V V.heap.size (.slice A5 n5 c5) S.strongs) => dup_any S (.slice A5 n5 c5) _ V hp
  have HWs := hid fun (V : World) => wanted_any S (.slice A5 n5 c5) V
  have hjw := wf_joi HWF.out (wf_sgl x)
  have G1 := hid (fun h => grow_dup (s := S) (t := sgl x) h)
  have G2 := hid (grow_bind HWF.out (wf_sgl x))
  have G3 := hid (fun h h4 => grow_want (s := S) (x := x) h h4)
  have G4 : Hid (S.dfd = true → (joi S (sgl x)).dfd = true) := hid fun h => by show (S.dfd || _) = true; rw [h]; rfl
  have G5 := hid HWF.out.1
  have hpl2 := (hpl.below bP).more bP.size
  unfold Sy.val at hM
  simp only [St.val, row] at *
  go_upto_region 4 with fail
  generalize w4.alloc (.cells #[.int .i64 S.bind, .int .i64 S.size, .int .i64 S.align, .int .i64 S.unit, .bool S.dfd, .bool S.sr, .bool S.wr, .slice A5 n5 c5] 27) = w5 at *
  obtain ⟨u, hue⟩ : ∃ u, w4.heap.size = u := ⟨_, rfl⟩
  rw [hue] at nS zS
  rw [hue]
  have hn := HN.out w5 bS
  have q0 := cell_of_row _ g 0 _ _ _ hn
  have q1 := cell_of_row _ g 1 _ _ _ hn
  have q2 := cell_of_row _ g 2 _ _ _ hn
  have q3 := cell_of_row _ g 3 _ _ _ hn
  have q4 := cell_of_row _ g 4 _ _ _ hn
  go_wp2_with (refine ldS rfl _ rfl u rfl _ nS rfl ?_)
  refine (hM.out w5 bS hpl2).mono ?_
  rintro e w6 ⟨v6, rfl, o6, b6'⟩
  have b6 := bS.trans (b6'.mono bS.size)
  have hp6 := o6.pl
  have hps := (hpl2.below b6').more b6'.size
  have nS6 := (b6'.block u (by omega)).trans nS
  have hu6 : u < w6.heap.size := by have := b6'.size; omega
  have DT : dupl S = true → dupl (joi S (sgl x)) = true := G1.out
  clear hM hpl hpl2 o6 b6' nS q0 q1 q2 q3 q4 hn bP zS b4 G1 hue
  generalize joi S (sgl x) = T at *
  obtain ⟨A6, n6, c6, rfl, _, _, _⟩ := id hp6
  have bT := b6.alloc b6.size (.cells (row T (.slice A6 n6 c6)) 27)
  have nT := heap_alloc_new w6 (.cells (row T (.slice A6 n6 c6)) 27)
  have zT := World.size_alloc w6 (.cells (row T (.slice A6 n6 c6)) 27)
  have bQ := (Below.refl w6.heap.size w6).alloc (Nat.le_refl _) (.cells (row T (.slice A6 n6 c6)) 27)
  have HDT := hid fun (V : World) (hp : Pl V V.heap.size (.slice A6 n6 c6) T.strongs) => dup_any T (.slice A6 n6 c6) _ V hp
  have HWT := hid fun (V : World) => wanted_any T (.slice A6 n6 c6) V
  simp only [St.val, row] at *
  go_upto_region 5 with fail
  generalize w6.alloc (.cells #[.int .i64 T.bind, .int .i64 T.size, .int .i64 T.align, .int .i64 T.unit, .bool T.dfd, .bool T.sr, .bool T.wr, .slice A6 n6 c6] 27) = w7 at *
  obtain ⟨t, hte⟩ : ∃ t, w6.heap.size = t := ⟨_, rfl⟩
  rw [hte] at nT zT hu6
  rw [hte]
  have HS := hid fun (V : World) (hV : Below w7.heap.size w7 V) => (⟨(hV.block u (by omega)).trans ((bQ.block u (by omega)).trans nS6), (hV.block t (by omega)).trans nT⟩ : _ ∧ _)
  have HPS := hid fun (V : World) (hV : Below w7.heap.size w7 V) => (((hps.below bQ).more bQ.size).below hV).more hV.size
  have HPT := hid fun (V : World) (hV : Below w7.heap.size w7 V) => (((hp6.below bQ).more bQ.size).below hV).more hV.size
  have B7 := hid (HB.out w7 bT)
  have HNX := hid fun (V : World) (hV : Below w7.heap.size w7 V) => HN.out V (bT.trans (hV.mono bT.size))
  obtain ⟨s0, s1, s2, s3, s4, s5, s6, sl⟩ := S
  obtain ⟨t0, t1, t2, t3, t4, t5, t6, tl⟩ := T
  simp only at *
  have hDS := HD.out
  have hDT := HDT.out
  generalize dupl ⟨s0, s1, s2, s3, s4, s5, s6, sl⟩ = dS at *
  generalize dupl ⟨t0, t1, t2, t3, t4, t5, t6, tl⟩ = dT at *
  clear HD HDT hps hp6 nS6 nT bQ bT zT hu6 hte HP HX HB HN b6
  have HDS := hid hDS
  have HDT := hid hDT
  clear hDS hDT
  go_cut [64] from 29 to 64 (fun s64 wx => s64 = .bool false ∧ Below w7.heap.size w7 wx)
  case first =>
    have b7 : Below w7.heap.size w7 w7 := Below.refl _ _
    have hs := HS.out w7 b7
    have FD : dS = true → dT = true := DT
    have F4 : s4 = true → t4 = true := G4.out
    clear DT
    have F0 : s0 ≠ 0 → (t0 == 0) = false := fun h => by simpa using G2.out.1 h
    have F1 : s0 = 1 → t0 = 1 := G2.out.2.1
    have F5 := G5.out
    clear G2 G3 G4 G5
    have HF0 := hid F0
    have HF1 := hid F1
    have HFD := hid FD
    have HF4 := hid F4
    clear F0 F1 FD F4
    rcases F5 with rfl | rfl | rfl | rfl
    case' inr.inl => obtain rfl : t0 = 1 := HF1.out rfl
    case' inr.inr.inl => have f0 : (t0 == 0) = false := HF0.out (by decide)
    case' inr.inr.inr => have f0 : (t0 == 0) = false := HF0.out (by decide)
    all_goals
      cases s4
      case' true => obtain rfl : t4 = true := HF4.out rfl
      all_goals
        clear HF0 HF1 HF4
        go_wp2_with (refine ldS rfl _ rfl u rfl _ hs.1 rfl ?_)
        refine (HDS.out w7 (HPS.out w7 b7)).mono ?_
        rintro e y1 ⟨rfl, k1⟩
        have hs1 := HS.out y1 k1
        cases dS
        case' true =>
          obtain rfl : dT = true := HFD.out rfl
          go_wp2_with (refine unguard (by kernel_rfl) ?_; refine ldS rfl _ rfl t rfl _ hs1.2 rfl ?_)
          refine (HDT.out y1 (HPT.out y1 k1)).mono ?_
          rintro e y2 ⟨rfl, k2⟩
          have k1' := k1.trans (k2.mono k1.size)
          clear k1 hs1
          have k1 := k1'
          have hs1 := HS.out y2 k1
        all_goals
          have cu0 := cell_of_row _ u 0 _ _ _ hs1.1
          have cu4 := cell_of_row _ u 4 _ _ _ hs1.1
          have ct0 := cell_of_row _ t 0 _ _ _ hs1.2
          have ct4 := cell_of_row _ t 4 _ _ _ hs1.2
          go_wp2_with fail
          go_meet
          exact ⟨rfl, k1⟩
  case rest =>
    obtain ⟨rfl, k1⟩ := hcut
    have hs1 := HS.out wc k1
    have cu0 := cell_of_row _ u 0 _ _ _ hs1.1
    have ct0 := cell_of_row _ t 0 _ _ _ hs1.2
    have HBc := hid (B7.out.trans (k1.mono B7.out.size))
    have F3 : s0 = 3 → t0 ≠ 2 := G2.out.2.2
    have hnx := HNX.out wc k1
    have hwt := HWT.out
    have hws := HWs.out
    have hg3 := G3.out
    generalize wantd ⟨t0, t1, t2, t3, t4, t5, t6, tl⟩ = wT at *
    generalize wantd ⟨s0, s1, s2, s3, s4, s5, s6, sl⟩ = wS at *
    have HWT := hid hwt
    have HWS := hid hws
    have HG3 := hid hg3
    have HF3 := hid F3
    clear hwt hws hg3 F3 G2 G3 G4 G5 DT HDS HDT
    by_cases h3 : s0 = 3
    case' pos =>
      subst h3
      have f3 : (t0 == 2) = false := by simpa using HF3.out rfl
    case' neg => have f3 : (s0 == 3) = false := by simpa using h3
    all_goals
      clear HF3
      go_wp2_with (refine ldS rfl _ rfl t rfl _ hs1.2 rfl ?_)
      refine (HWT.out wc).mono ?_
      rintro e y1 ⟨rfl, m1⟩
      have k2 := k1.trans (m1.mono k1.size)
      have hs2 := HS.out y1 k2
      cases wT
      · go_wp2_with fail
        go_ret
        exact ⟨rfl, B7.out.trans (k2.mono B7.out.size)⟩
      · go_wp2_with (refine unguard (by kernel_rfl) ?_; refine ldS rfl _ rfl u rfl _ hs2.1 rfl ?_)
        refine (HWS.out y1).mono ?_
        rintro e y2 ⟨rfl, m2⟩
        have k3 := k2.trans (m2.mono k2.size)
        cases wS
        · have h4 : x.s.bind = 4 := Decidable.byContradiction fun h => by have := HG3.out (by trivial) h; cases this
          have hny := HNX.out y2 k3
          rw [h4] at hny
          have q1 := cell_of_row _ g 1 _ _ _ hny
          clear h4 hny
          go_wp2_with fail
          go_ret
          exact ⟨rfl, B7.out.trans (k3.mono B7.out.size)⟩
        · go_wp2_with fail
          go_ret
          exact ⟨rfl, B7.out.trans (k3.mono B7.out.size)⟩
end Go.Proofs.YtechacnflegliaaDoor.Bnd
