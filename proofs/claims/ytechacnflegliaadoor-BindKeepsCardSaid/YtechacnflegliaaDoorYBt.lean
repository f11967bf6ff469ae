/-
  BindKeeps, walked.
-/
import Derived.Test.YtechacnflegliaaDoorYBo
namespace Go.Proofs.YtechacnflegliaaDoor.Bnd
open Go.RowKit Go.Proofs Go.Proofs.YtechacnflegliaaDoor.Byt
open Go.Proofs.YtechacnflegliaaDoor.Obj (Sy)
open Go.Proofs.YtechacnflegliaaDoor.Arp (RdI)

/-- What the loops write over: nothing that was there before the world w. -/
def Wr (w V : World) (t : Nat) (r : Array Value) (A : Option Addr) (n c : Nat) : Prop :=
  Below w.heap.size w V ∧ V.heap[t]? = some (.cells r 27 (0, 0)) ∧ ∃ cs, Cel.Own 3 1 V w.heap.size (.slice A n c) n cs
theorem own_put {V : World} {K n c k t : Nat} {A : Option Addr} {cs : List Value} {r : Array Value} (h : Cel.Own 3 1 V K (.slice A n c) n cs) (hr : V.heap[t]? = some (.cells r 27 (0, 0))) (hk : k < n) (y : Value) :
    ∃ b : Nat, A = some ⟨b, 0, none⟩ ∧ K ≤ b ∧ (∃ v, V.cell? ⟨b, k, none⟩ = some v) ∧ V.frozen? ⟨b, k, none⟩ = false ∧ (V.setCell ⟨b, k, none⟩ y).heap[t]? = some (.cells r 27 (0, 0)) ∧
      ∃ cs', Cel.Own 3 1 (V.setCell ⟨b, k, none⟩ y) K (.slice A n c) n cs' := by
  rcases h.2 with ⟨h0, rfl⟩ | ⟨b, cap, cur, m, hv, hg, hh, hn, hm, hs, ht, hf⟩
  · omega
  · injection hv with e1 _ e3
    subst e1 e3
    have hkc : k < cur.size := by omega
    have hf' := hf k (by omega)
    refine ⟨b, rfl, hg, ⟨cur[k], ?_⟩, ?_, ?_, ((cur.setIfInBounds k y).toList.take (n * 1)), ?_, .inr ⟨b, c, cur.setIfInBounds k y, m, rfl, hg, ?_, hn, hm, by simpa using hs, rfl, hf⟩⟩
    · rw [cell_of_row V b k cur _ m hh]
      exact Array.getElem?_eq_getElem hkc
    · simp only [World.frozen?, hh]
      simp
      omega
    · refine (Below.heap_setCell V ⟨b, k, none⟩ y t ?_).trans hr
      intro e
      have e' : t = b := e
      subst e'
      rw [hr] at hh
      injection hh with hh
      injection hh with _ e2
      revert e2
      decide
    · rw [List.length_take, Array.length_toList, Array.size_setIfInBounds]
      omega
    · simp [World.setCell, Array.getElem?_modify, hh]
theorem apart_old {t : TypeId} {sz : Nat} {w : World} {K n : Nat} {v : Value} {cs : List Value} (h : Cel.Own t sz w K v n cs) (a c : Nat) : Sls.Apart v (.slice (some ⟨w.heap.size, 0, none⟩) a c) := fun k hk he => by
  have := h.blk_lt hk
  injection he with he
  have he' : w.heap.size = k := he
  omega
theorem apart_new {t t' : TypeId} {sz sz' : Nat} {w w' : World} {K n n' : Nat} {v u : Value} {cs cs' : List Value} (h : Cel.Own t sz w' w.heap.size v n cs) (h' : Cel.Own t' sz' w K u n' cs') : Sls.Apart v u := fun k hk he => by
  have := h'.blk_lt he
  rcases h.2 with ⟨rfl, _⟩ | ⟨g, cap, cur, m, rfl, hg, _⟩
  · cases hk
  · injection hk with hk
    have hk' : g = k := hk
    omega
theorem cel_fr {t : TypeId} {sz : Nat} {w w' : World} {K n : Nat} {v u u' : Value} {cs : List Value} (h : Cel.Own t sz w K v n cs) (ho : Sls.Fr u w u' w') (ha : Sls.Apart v u) : Cel.Own t sz w' K v n cs ∧ Sls.Apart v u' :=
  ⟨h.fr ho ha, fun k hk he => by
    rcases ho.2 k he with h1 | h1
    · exact ha k hk h1
    · have := h.blk_lt hk; omega⟩
theorem own_fr {w w' : World} {K : Nat} {v u u' : Value} {l : List Int} (h : OwnI w K v l) (ho : Sls.Fr u w u' w') (ha : Sls.Apart v u) : OwnI w' K v l ∧ Sls.Apart v u' := cel_fr h ho ha
theorem own_use (w : World) (x : Us) (K : Nat) (hK : K ≤ w.heap.size) : Cel.Own 39 5 (w.alloc (.cells #[.string x.s.name, .int .i64 x.s.bind, .int .i64 x.s.size, .int .i64 x.s.align, .int .i64 x.u] 39)) K (.slice (some ⟨w.heap.size, 0, none⟩) 1 1) 1 (ucells [x]) :=
  ⟨rfl, .inr ⟨w.heap.size, 1, _, (0, 0), rfl, hK, heap_alloc_new w _, Nat.le_refl _, by unfold maxLen; omega, rfl, rfl, fun j _ => by rintro ⟨_, h⟩; exact absurd h (Nat.not_lt_zero _)⟩⟩
theorem range_take {w : World} {b o m : Nat} {l : List Value} (h : w.rangeAt b o l) : w.rangeAt b o (l.take m) := fun j v hv => h j v (by
  rw [List.getElem?_take] at hv
  split at hv
  · exact hv
  · cases hv)
theorem qof (K : Nat) (A : Option Addr) (n c : Nat) (xs : List Us) (t : St) (ht : ofL xs = t) (w : World) (h : RdU w K A n xs) (hK : K ≤ w.heap.size) (hn : n ≤ 100000) :
    Calls Tryd.prog 13 #[.slice A n c] w (StP t w) := ht ▸ of_any K A n c xs w h hK hn
/-- The state, and the symbol, in their variables. -/
def KpS (u g : Nat) (r q : Array Value) (l : List Value) (V : World) : Prop := V.heap[u]? = some (.cells r 27 (0, 0)) ∧ V.heap[g]? = some (.cells q 39 (0, 0)) ∧ V.rangeAt g 0 l
set_option linter.unusedSimpArgs false in
set_option maxRecDepth 100000 in
set_option maxHeartbeats 16000000 in
theorem keeps13 (w : World) (hP : Prec w) (A : Option Addr) (n c : Nat) (xs : List Us) (h : RdU w w.heap.size A n xs) (x : Us) :
    Calls Tryd.prog 6 #[.slice A n c, x.val] w fun e w' => e = .returned (.bool true) ∧ Below w.heap.size w w' := by
  have hb0 := (Below.refl w.heap.size w).alloc (Nat.le_refl _) (.cells x.row 39)
  have hn0 := heap_alloc_new w (.cells x.row 39)
  have hz0 := World.size_alloc w (.cells x.row 39)
  have HR1 := hid (fun V => rdu_new V x)
  have HU : Hid (rightL [x] = uOk x) := hid (by simp [rightL])
  unfold Us.val
  unfold Us.row at hb0 hn0 hz0 HR1
  go_enter Tryd.func6, Tryd.ntmps6
  go_upto_region 1 with fail
  generalize w.alloc (.cells #[.string x.s.name, .int .i64 x.s.bind, .int .i64 x.s.size, .int .i64 x.s.align, .int .i64 x.u] 39) = W at *
  obtain ⟨g, hg⟩ : ∃ g, w.heap.size = g := ⟨_, rfl⟩
  rw [hg] at hn0 hz0
  rw [hg]
  have HG := hid hg
  have HP := hid (fun (V : World) (hV : Below W.heap.size W V) => (hP.on hb0).on hV)
  have HX := hid (fun (V : World) (hV : Below W.heap.size W V) => ((h.below hb0).more hb0.size).below hV)
  have HN := hid (fun (V : World) (hV : Below W.heap.size W V) => (hV.block g (by omega)).trans hn0)
  have HB := hid (fun (V : World) (hV : Below W.heap.size W V) => hb0.trans (hV.mono hb0.size))
  clear hb0 hn0 hz0 hg hP h
  go_wp2_with fail
  refine (awake_any W (HP.out W (Below.refl _ _))).mono ?_
  rintro e w1 ⟨rfl, b1⟩
  go_wp2_with fail
  refine (right_any W.heap.size A n c xs w1 (HX.out w1 b1) b1.size).mono ?_
  rintro e w2 ⟨rfl, b2'⟩
  have b2 := b1.trans (b2'.mono b1.size)
  clear b1 b2'
  cases hr : rightL xs
  · clear hr
    go_wp2_with fail
    refine (awake_any w2 (HP.out w2 b2)).mono ?_
    rintro e w3 ⟨rfl, b3⟩
    go_wp2_with fail
    go_ret
    exact ⟨rfl, HB.out w3 (b2.trans (b3.mono b2.size))⟩
  have HR := hid hr
  clear hr
  have hn := HN.out w2 b2
  go_wp2_with (refine unguard (by kernel_rfl) ?_; refine ldU rfl _ rfl g rfl _ hn rfl ?_)
  have bA := b2.alloc b2.size (.cells #[.string x.s.name, .int .i64 x.s.bind, .int .i64 x.s.size, .int .i64 x.s.align, .int .i64 x.u] 39)
  have hrx := HR1.out w2
  have hzx := World.size_alloc w2 (.cells #[.string x.s.name, .int .i64 x.s.bind, .int .i64 x.s.size, .int .i64 x.s.align, .int .i64 x.u] 39)
  generalize w2.alloc (.cells #[.string x.s.name, .int .i64 x.s.bind, .int .i64 x.s.size, .int .i64 x.s.align, .int .i64 x.u] 39) = w2a at *
  refine (right_any (w2.heap.size + 1) _ 1 1 [x] w2a hrx (by omega)).mono ?_
  rintro e w3 ⟨rfl, b3'⟩
  have b3 := bA.trans (b3'.mono bA.size)
  rw [HU.out]
  clear b2 bA hrx hzx b3' hn HR1 HU
  cases hu : uOk x
  · clear hu
    go_wp2_with fail
    refine (awake_any w3 (HP.out w3 b3)).mono ?_
    rintro e w4 ⟨rfl, b4⟩
    go_wp2_with fail
    go_ret
    exact ⟨rfl, HB.out w4 (b3.trans (b4.mono b3.size))⟩
  have hok := rightL_iff.1 HR.out
  have hxu := uOk_iff.1 hu
  have hln : n ≤ 50 := by have := (HX.out w3 b3).1; omega
  go_wp2_with fail
  refine (all_any W.heap.size A n c xs w3 (HP.out w3 b3) (HX.out w3 b3) b3.size (by omega) hok.2).mono ?_
  rintro e w4 ⟨v, rfl, o4, b4'⟩
  have b4 := b3.trans (b4'.mono b3.size)
  have hL4 : (allL xs).strongs.length ≤ 50 := by have := all_len xs; omega
  have hLT : (joi (allL xs) (sgl x)).strongs.length ≤ 51 := by
    have e : (joi (allL xs) (sgl x)).strongs = (allL xs).strongs ++ (sgl x).strongs := rfl
    have := sgl_len x
    rw [e, List.length_append]
    omega
  have HOS := hid (ofL_all xs hok.2)
  have HOT := hid (ofL_snoc xs x hu)
  rw [HOS.out] at HOT
  have hpl := o4.pl
  clear o4 b4' b3 hok HR hu
  generalize allL xs = S at *
  obtain ⟨A5, n5, c5, rfl, _, _, _⟩ := id hpl
  have bS := b4.alloc b4.size (.cells (row S (.slice A5 n5 c5)) 27)
  have nS := heap_alloc_new w4 (.cells (row S (.slice A5 n5 c5)) 27)
  have zS := World.size_alloc w4 (.cells (row S (.slice A5 n5 c5)) 27)
  have bP := (Below.refl w4.heap.size w4).alloc (Nat.le_refl _) (.cells (row S (.slice A5 n5 c5)) 27)
  have hM := hid (fun (V : World) (hV : Below W.heap.size W V) (hp : Pl V V.heap.size (.slice A5 n5 c5) S.strongs) => merge_any V.heap.size S (.slice A5 n5 c5) x V (HP.out V hV) hp (Nat.le_refl _) (by omega) hxu.1 hxu.2.1)
  have hpl2 := (hpl.below bP).more bP.size
  unfold Sy.val at hM
  simp only [St.val, row] at *
  go_upto_region 4 with fail
  generalize w4.alloc (.cells #[.int .i64 S.bind, .int .i64 S.size, .int .i64 S.align, .int .i64 S.unit, .bool S.dfd, .bool S.sr, .bool S.wr, .slice A5 n5 c5] 27) = w5 at *
  obtain ⟨u, hue⟩ : ∃ u, w4.heap.size = u := ⟨_, rfl⟩
  rw [hue] at nS zS
  rw [hue]
  have hn := HN.out w5 bS
  have hg5 : g < w5.heap.size := (Array.getElem?_eq_some_iff.1 hn).1
  have HQ := hid (fun (V : World) (hV : Below w5.heap.size w5 V) => bS.trans (hV.mono bS.size))
  have HS := hid (fun (V : World) (hV : Below w5.heap.size w5 V) => (⟨(hV.block u (by omega)).trans nS, (hV.block g hg5).trans hn, range_take (m := 4) (range_row ((hV.block g hg5).trans hn))⟩ : KpS u g #[.int .i64 S.bind, .int .i64 S.size, .int .i64 S.align, .int .i64 S.unit, .bool S.dfd, .bool S.sr, .bool S.wr, .slice A5 n5 c5] #[.string x.s.name, .int .i64 x.s.bind, .int .i64 x.s.size, .int .i64 x.s.align, .int .i64 x.u] [.string x.s.name, .int .i64 x.s.bind, .int .i64 x.s.size, .int .i64 x.s.align] V))
  have HPS := hid (fun (V : World) (hV : Below w5.heap.size w5 V) => (hpl2.below hV).more hV.size)
  have HM := hid (fun (V : World) (hV : Below w5.heap.size w5 V) => hM.out V (HQ.out V hV) (HPS.out V hV))
  have HP5 := hid (fun (V : World) (hV : Below w5.heap.size w5 V) => HP.out V (HQ.out V hV))
  have HX5 := hid (fun (V : World) (hV : Below w5.heap.size w5 V) => (⟨HX.out V (HQ.out V hV), (HQ.out V hV).size⟩ : _ ∧ _))
  have HB5 := hid (fun (V : World) (hV : Below w5.heap.size w5 V) => HB.out V (HQ.out V hV))
  have q0 := cell_of_row _ g 0 _ _ _ hn
  have q1 := cell_of_row _ g 1 _ _ _ hn
  have q2 := cell_of_row _ g 2 _ _ _ hn
  have q3 := cell_of_row _ g 3 _ _ _ hn
  have q4 := cell_of_row _ g 4 _ _ _ hn
  go_wp2_with (refine ldS rfl _ rfl u rfl _ nS rfl ?_)
  refine (HM.out w5 (Below.refl _ _)).mono ?_
  rintro e w6 ⟨v6, rfl, o6, b6⟩
  obtain ⟨A6, n6, c6, rfl, h6, _, _⟩ := id o6.pl
  have hl6 := h6.1
  have o6' : Cel.Own 3 1 w6 w5.heap.size (.slice A6 n6 c6) n6 (ints (joi S (sgl x)).strongs) := by have h := o6; unfold OwnI at h; rw [hl6] at h; exact h
  have hn6 : n6 ≤ 51 := by omega
  clear hM hpl hpl2 nS q0 q1 q2 q3 q4 hn bP zS b4 hue o6 h6 hl6 HP HX HN HB HG hxu bS hg5
  generalize joi S (sgl x) = T at *
  have bT := b6.alloc b6.size (.cells (row T (.slice A6 n6 c6)) 27)
  have nT := heap_alloc_new w6 (.cells (row T (.slice A6 n6 c6)) 27)
  have oT := o6'.alloc (.cells (row T (.slice A6 n6 c6)) 27)
  simp only [St.val, row] at *
  go_upto_region 5 with fail
  generalize w6.alloc (.cells #[.int .i64 T.bind, .int .i64 T.size, .int .i64 T.align, .int .i64 T.unit, .bool T.dfd, .bool T.sr, .bool T.wr, .slice A6 n6 c6] 27) = w7 at *
  obtain ⟨t, hte⟩ : ∃ t, w6.heap.size = t := ⟨_, rfl⟩
  rw [hte] at nT
  rw [hte]
  have HW7 := hid (⟨bT, nT, _, oT⟩ : Wr w5 w7 t _ A6 n6 c6)
  clear bT nT oT o6' b6 hte
  go_wp2_with fail
  go_loopw [7] (fun i V => ∃ k : Nat, i = .int .i64 (k : Int) ∧ k ≤ n6 ∧ Hid (Wr w5 V t #[.int .i64 T.bind, .int .i64 T.size, .int .i64 T.align, .int .i64 T.unit, .bool T.dfd, .bool T.sr, .bool T.wr, .slice A6 n6 c6] A6 n6 c6)) (fun i _ => n6 - (intOf i).toNat)
  case atStart => exact ⟨0, rfl, by omega, HW7⟩
  case round =>
    obtain ⟨k, rfl, hk, hG⟩ := hrel
    clear HW7
    obtain ⟨hb, hr, cs, ho⟩ := hG.out
    have r7 := cell_of_row _ t 7 _ _ _ hr
    by_cases hlt : k < n6
    · have hki : (k : Int) < (n6 : Int) := by omega
      obtain ⟨b, rfl, hbK, ⟨y, hy⟩, hf, hw1, hw2⟩ := own_put ho hr hlt (.int .i64 (-9))
      have HN : Hid (Wr w5 (wr.setCell ⟨b, k, none⟩ (.int .i64 (-9))) t _ _ n6 c6) := hid ⟨hb.setCell (p := ⟨b, k, none⟩) hbK _, hw1, hw2⟩
      clear hw1 hw2 hb ho hG
      go_wp2_with fail
      generalize wr.setCell ⟨b, k, none⟩ (.int .i64 (-9)) = wn at *
      go_roundw
      · exact ⟨k + 1, by go_num, by omega, HN⟩
      · simp [intOf]; omega
    · obtain rfl : k = n6 := by omega
      have hki : ¬ (k : Int) < (k : Int) := by omega
      clear ho hG
      have hs := HS.out wr hb
      go_upto_region 9 with fail
      clear hr r7
      go_wp2_with (refine ldS rfl _ rfl u rfl _ hs.1 rfl ?_)
      refine (qjoin S S (joi S S) rfl _ _ wr (HP5.out wr hb) (HPS.out wr hb) (HPS.out wr hb) (by omega) (by omega)).mono ?_
      rintro e w8 ⟨v8, rfl, o8, b8'⟩
      have b8 := hb.trans (b8'.mono hb.size)
      obtain ⟨A8, n8, c8, rfl, h8, _, _⟩ := id o8.pl
      have hl8 := h8.1
      have o8' : Cel.Own 3 1 w8 w5.heap.size (.slice A8 n8 c8) n8 (ints (joi S S).strongs) := by have h := o8.more hb.size; unfold OwnI at h; rw [hl8] at h; exact h
      have hn8 : n8 ≤ 100 := by
        have e : (joi S S).strongs = S.strongs ++ S.strongs := rfl
        rw [e, List.length_append] at hl8
        omega
      clear o8 h8 hl8 b8' hs hb
      generalize joi S S = J at *
      have bT := b8.alloc b8.size (.cells (row J (.slice A8 n8 c8)) 27)
      have nT := heap_alloc_new w8 (.cells (row J (.slice A8 n8 c8)) 27)
      have oT := o8'.alloc (.cells (row J (.slice A8 n8 c8)) 27)
      simp only [St.val, row] at *
      go_upto_region 10 with fail
      generalize w8.alloc (.cells #[.int .i64 J.bind, .int .i64 J.size, .int .i64 J.align, .int .i64 J.unit, .bool J.dfd, .bool J.sr, .bool J.wr, .slice A8 n8 c8] 27) = w9 at *
      obtain ⟨t2, hte⟩ : ∃ t, w8.heap.size = t := ⟨_, rfl⟩
      rw [hte] at nT
      rw [hte]
      have HW9 := hid (⟨bT, nT, _, oT⟩ : Wr w5 w9 t2 _ A8 n8 c8)
      clear bT nT oT o8' b8 hte
      go_wp2_with fail
      go_loopw [9] (fun i V => ∃ k : Nat, i = .int .i64 (k : Int) ∧ k ≤ n8 ∧ Hid (Wr w5 V t2 #[.int .i64 J.bind, .int .i64 J.size, .int .i64 J.align, .int .i64 J.unit, .bool J.dfd, .bool J.sr, .bool J.wr, .slice A8 n8 c8] A8 n8 c8)) (fun i _ => n8 - (intOf i).toNat)
      case atStart => exact ⟨0, rfl, by omega, HW9⟩
      case round =>
        obtain ⟨k, rfl, hk, hG⟩ := hrel
        clear HW9
        obtain ⟨hb, hr, cs, ho⟩ := hG.out
        have r7 := cell_of_row _ t2 7 _ _ _ hr
        by_cases hlt : k < n8
        · have hki : (k : Int) < (n8 : Int) := by omega
          obtain ⟨b, rfl, hbK, ⟨y, hy⟩, hf, hw1, hw2⟩ := own_put ho hr hlt (.int .i64 (-9))
          have HN : Hid (Wr w5 (wr.setCell ⟨b, k, none⟩ (.int .i64 (-9))) t2 _ _ n8 c8) := hid ⟨hb.setCell (p := ⟨b, k, none⟩) hbK _, hw1, hw2⟩
          clear hw1 hw2 hb ho hG
          go_wp2_with fail
          generalize wr.setCell ⟨b, k, none⟩ (.int .i64 (-9)) = wn at *
          go_roundw
          · exact ⟨k + 1, by go_num, by omega, HN⟩
          · simp [intOf]; omega
        · obtain rfl : k = n8 := by omega
          have hki : ¬ (k : Int) < (k : Int) := by omega
          clear ho hG
          go_upto_region 14 with fail
          clear hr r7
          have bk : Below w5.heap.size w5 wr.drew := hb.trans (Below.refl _ _).drew
          have hS := HS.out _ bk
          refine Ord.Till.begin (KpS u g #[.int .i64 S.bind, .int .i64 S.size, .int .i64 S.align, .int .i64 S.unit, .bool S.dfd, .bool S.sr, .bool S.wr, .slice A5 n5 c5] #[.string x.s.name, .int .i64 x.s.bind, .int .i64 x.s.size, .int .i64 x.s.align, .int .i64 x.u] [.string x.s.name, .int .i64 x.s.bind, .int .i64 x.s.size, .int .i64 x.s.align]) 60 (by kernel_rfl) ?_
          generalize wr.drew = y0 at *
          clear hb
          refine Ord.Till.take' 0 (some 57) (oi := _) (x := .agg #[.int .i64 S.bind, .int .i64 S.size, .int .i64 S.align, .int .i64 S.unit, .bool S.dfd, .bool S.sr, .bool S.wr, .slice A5 n5 c5]) rfl rfl (by kernel_rfl) (by kernel_rfl) (by kernel_rfl) (by kernel_rfl) (fun _ _ _ h => h) (by kernel_rfl) (fun v hv => exec_ld 27 _ Tryd.underlying27 rfl _ rfl u 0 rfl _ (by kernel_rfl) (range_row hv.1)) hS ?_
          try simp only [List.getElem_toArray, List.getElem_cons_zero, List.getElem_cons_succ, Act.put, List.setIfInBounds_toArray, List.set_cons_zero, List.set_cons_succ]
          refine Ord.Till.take' 2 (some 59) (oi := _) (x := .slice A n c) rfl rfl (by kernel_rfl) (by kernel_rfl) (by kernel_rfl) (by kernel_rfl) (fun _ _ _ h => h) (by kernel_rfl) (fun v hv => by go_simp) hS ?_
          try simp only [List.getElem_toArray, List.getElem_cons_zero, List.getElem_cons_succ, Act.put, List.setIfInBounds_toArray, List.set_cons_zero, List.set_cons_succ]
          refine Ord.Till.step 1 (by kernel_rfl) rfl (fun C hC => ?_)
          go_simp
          go_at_call 11
          refine (qstate S A5 n5 c5 y0).mono ?_
          rintro e y1 ⟨rfl, hk⟩
          replace bk := bk.trans (hk.mono bk.size)
          replace hS := HS.out _ bk
          go_wp2_with fail
          refine hC.out _ _ (fun _ => hS) ?_
          clear hC C hk
          try simp only [List.getElem_toArray, List.getElem_cons_zero, List.getElem_cons_succ, Act.put, List.setIfInBounds_toArray, List.set_cons_zero, List.set_cons_succ]
          refine Ord.Till.step 3 (by kernel_rfl) rfl (fun C hC => ?_)
          go_simp
          go_at_call 13
          refine (qof W.heap.size A n c xs S HOS.out y1 (HX5.out y1 bk).1 (HX5.out y1 bk).2 (by omega)).mono ?_
          rintro e y2 ⟨vO, rfl, hO, hk⟩
          replace bk := bk.trans (hk.mono bk.size)
          replace hS := HS.out _ bk
          go_wp2_with fail
          refine hC.out _ _ (fun _ => hS) ?_
          clear hC C hk
          try simp only [List.getElem_toArray, List.getElem_cons_zero, List.getElem_cons_succ, Act.put, List.setIfInBounds_toArray, List.set_cons_zero, List.set_cons_succ]
          refine Ord.Till.step 4 (by kernel_rfl) rfl (fun C hC => ?_)
          go_simp
          go_at_call 10
          refine (qsame S (.slice A5 n5 c5) vO y2 (HPS.out y2 bk) hO.pl (by omega)).mono ?_
          rintro e y3 ⟨rfl, hk⟩
          replace bk := bk.trans (hk.mono bk.size)
          replace hS := HS.out _ bk
          go_wp2_with fail
          refine hC.out _ _ (fun _ => hS) ?_
          clear hC C hk hO
          try simp only [List.getElem_toArray, List.getElem_cons_zero, List.getElem_cons_succ, Act.put, List.setIfInBounds_toArray, List.set_cons_zero, List.set_cons_succ]
          refine Ord.Till.take' 5 (some 62) (oi := _) (x := .bool true) rfl rfl (by kernel_rfl) (by kernel_rfl) (by kernel_rfl) (by kernel_rfl) (fun _ _ _ h => h) (by kernel_rfl) (fun v hv => by go_simp) hS ?_
          try simp only [List.getElem_toArray, List.getElem_cons_zero, List.getElem_cons_succ, Act.put, List.setIfInBounds_toArray, List.set_cons_zero, List.set_cons_succ]
          refine Ord.Till.take' 6 (some 63) (oi := _) (x := .agg #[.int .i64 S.bind, .int .i64 S.size, .int .i64 S.align, .int .i64 S.unit, .bool S.dfd, .bool S.sr, .bool S.wr, .slice A5 n5 c5]) rfl rfl (by kernel_rfl) (by kernel_rfl) (by kernel_rfl) (by kernel_rfl) (fun _ _ _ h => h) (by kernel_rfl) (fun v hv => exec_ld 27 _ Tryd.underlying27 rfl _ rfl u 0 rfl _ (by kernel_rfl) (range_row hv.1)) hS ?_
          try simp only [List.getElem_toArray, List.getElem_cons_zero, List.getElem_cons_succ, Act.put, List.setIfInBounds_toArray, List.set_cons_zero, List.set_cons_succ]
          refine Ord.Till.take' 7 (some 64) (oi := _) (x := .pointer (some ⟨g, 0, none⟩)) rfl rfl (by kernel_rfl) (by kernel_rfl) (by kernel_rfl) (by kernel_rfl) (fun _ _ _ h => h) (by kernel_rfl) (fun v hv => by go_simp) hS ?_
          try simp only [List.getElem_toArray, List.getElem_cons_zero, List.getElem_cons_succ, Act.put, List.setIfInBounds_toArray, List.set_cons_zero, List.set_cons_succ]
          refine Ord.Till.take' 8 (some 65) (oi := _) (x := .agg #[.string x.s.name, .int .i64 x.s.bind, .int .i64 x.s.size, .int .i64 x.s.align]) rfl rfl (by kernel_rfl) (by kernel_rfl) (by kernel_rfl) (by kernel_rfl) (fun _ _ _ h => h) (by kernel_rfl) (fun v hv => exec_ld 37 _ Tryd.underlying37 rfl _ rfl g 0 rfl _ (by kernel_rfl) hv.2.2) hS ?_
          try simp only [List.getElem_toArray, List.getElem_cons_zero, List.getElem_cons_succ, Act.put, List.setIfInBounds_toArray, List.set_cons_zero, List.set_cons_succ]
          refine Ord.Till.take' 9 (some 66) (oi := _) (x := .pointer (some ⟨g, 4, none⟩)) rfl rfl (by kernel_rfl) (by kernel_rfl) (by kernel_rfl) (by kernel_rfl) (fun _ _ _ h => h) (by kernel_rfl) (fun v hv => by go_simp) hS ?_
          try simp only [List.getElem_toArray, List.getElem_cons_zero, List.getElem_cons_succ, Act.put, List.setIfInBounds_toArray, List.set_cons_zero, List.set_cons_succ]
          refine Ord.Till.take' 10 (some 67) (oi := _) (x := .int .i64 x.u) rfl rfl (by kernel_rfl) (by kernel_rfl) (by kernel_rfl) (by kernel_rfl) (fun _ _ _ h => h) (by kernel_rfl) (fun v hv => by have z := cell_of_row _ g 4 _ _ _ hv.2.1; go_simp) hS ?_
          try simp only [List.getElem_toArray, List.getElem_cons_zero, List.getElem_cons_succ, Act.put, List.setIfInBounds_toArray, List.set_cons_zero, List.set_cons_succ]
          refine Ord.Till.take' 14 (some 71) (oi := _) (x := .slice A n c) rfl rfl (by kernel_rfl) (by kernel_rfl) (by kernel_rfl) (by kernel_rfl) (fun _ _ _ h => h) (by kernel_rfl) (fun v hv => by go_simp) hS ?_
          try simp only [List.getElem_toArray, List.getElem_cons_zero, List.getElem_cons_succ, Act.put, List.setIfInBounds_toArray, List.set_cons_zero, List.set_cons_succ]
          refine Ord.Till.take' 16 (some 73) (oi := _) (x := .agg #[.string x.s.name, .int .i64 x.s.bind, .int .i64 x.s.size, .int .i64 x.s.align, .int .i64 x.u]) rfl rfl (by kernel_rfl) (by kernel_rfl) (by kernel_rfl) (by kernel_rfl) (fun _ _ _ h => h) (by kernel_rfl) (fun v hv => exec_ld 39 _ Tryd.underlying39 rfl _ rfl g 0 rfl _ (by kernel_rfl) (range_row hv.2.1)) hS ?_
          try simp only [List.getElem_toArray, List.getElem_cons_zero, List.getElem_cons_succ, Act.put, List.setIfInBounds_toArray, List.set_cons_zero, List.set_cons_succ]
          refine Ord.Till.three 11 13 17 (by kernel_rfl) rfl rfl rfl (fun C hC => ?_) (fun C hC => ?_) (fun C hC => ?_)
          · go_simp
            go_at_call 15
            refine (HM.out y3 bk).mono ?_
            rintro e y4 ⟨vT, rfl, hT, hk⟩
            replace hT := OwnI.more hT bk.size
            replace bk := bk.trans (hk.mono bk.size)
            replace hS := HS.out _ bk
            go_wp2_with fail
            refine hC.out _ _ (fun _ => hS) ?_
            clear hC C hk
            try simp only [List.getElem_toArray, List.getElem_cons_zero, List.getElem_cons_succ, Act.put, List.setIfInBounds_toArray, List.set_cons_zero, List.set_cons_succ]
            refine Ord.Till.three 12 13 17 (by kernel_rfl) rfl rfl rfl (fun C hC => ?_) (fun C hC => ?_) (fun C hC => ?_)
            · go_simp
              go_at_call 11
              refine (state_any T vT _ _ y4 hT.pl).mono ?_
              rintro e y5 ⟨rfl, hk⟩
              replace hT := OwnI.below hT hk
              replace bk := bk.trans (hk.mono bk.size)
              replace hS := HS.out _ bk
              go_wp2_with fail
              refine hC.out _ _ (fun _ => hS) ?_
              clear hC C hk
              try simp only [List.getElem_toArray, List.getElem_cons_zero, List.getElem_cons_succ, Act.put, List.setIfInBounds_toArray, List.set_cons_zero, List.set_cons_succ]
              refine Ord.Till.two 13 17 (by kernel_rfl) rfl rfl (fun C hC => ?_) (fun C hC => ?_)
              · go_simp
                have hk := (Below.refl y5.heap.size y5).alloc (Nat.le_refl _) (.cells #[] 39)
                have h13 := Cel.Own.lit0 39 5 y5 w5.heap.size bk.size
                have aT := apart_old hT 0 0
                replace hT := OwnI.below hT hk
                replace bk := bk.trans (hk.mono bk.size)
                replace hS := HS.out _ bk
                refine hC.out _ _ (fun _ => hS) ?_
                clear hC C hk
                try simp only [List.getElem_toArray, List.getElem_cons_zero, List.getElem_cons_succ, Act.put, List.setIfInBounds_toArray, List.set_cons_zero, List.set_cons_succ]
                generalize y5.alloc (.cells #[] 39) = y6 at *
                generalize Value.slice (some ⟨y5.heap.size, 0, none⟩) 0 0 = v13 at *
                refine Ord.Till.two 15 17 (by kernel_rfl) rfl rfl (fun C hC => ?_) (fun C hC => ?_)
                · refine Cel.step_rd kU y6 w5.heap.size W.heap.size v13 0 [] h13 bk.size A n c (ucells xs) (HX5.out y6 bk).1.cel ucells_one (by omega) (by omega) (by kernel_rfl) (.tmp 70) (.tmp 71) rfl rfl rfl ?_
                  intro v15 y7 h15 hk hf
                  rw [Nat.zero_add, List.nil_append] at h15
                  have hq := own_fr hT hf aT
                  clear hT aT
                  obtain ⟨hT, aT⟩ := hq
                  replace bk := bk.trans hk
                  replace hS := HS.out _ bk
                  refine hC.out _ _ (fun _ => hS) ?_
                  clear hC C hk hf h13
                  try simp only [List.getElem_toArray, List.getElem_cons_zero, List.getElem_cons_succ, Act.put, List.setIfInBounds_toArray, List.set_cons_zero, List.set_cons_succ]
                  refine Ord.Till.step 17 (by kernel_rfl) rfl (fun C hC => ?_)
                  go_simp
                  have hk := (Below.refl y7.heap.size y7).alloc (Nat.le_refl _) (.cells #[.string x.s.name, .int .i64 x.s.bind, .int .i64 x.s.size, .int .i64 x.s.align, .int .i64 x.u] 39)
                  have h17 := own_use y7 x y7.heap.size (Nat.le_refl _)
                  replace h15 := Cel.Own.below h15 hk
                  replace hT := OwnI.below hT hk
                  replace h17 := Cel.Own.more h17 bk.size
                  replace bk := bk.trans (hk.mono bk.size)
                  replace hS := HS.out _ bk
                  refine hC.out _ _ (fun _ => hS) ?_
                  clear hC C hk
                  try simp only [List.getElem_toArray, List.getElem_cons_zero, List.getElem_cons_succ, Act.put, List.setIfInBounds_toArray, List.set_cons_zero, List.set_cons_succ]
                  generalize y7.alloc (.cells #[.string x.s.name, .int .i64 x.s.bind, .int .i64 x.s.size, .int .i64 x.s.align, .int .i64 x.u] 39) = y8 at *
                  generalize Value.slice (some ⟨y7.heap.size, 0, none⟩) 1 1 = v17 at *
                  refine Ord.Till.step 18 (by kernel_rfl) rfl (fun C hC => ?_)
                  obtain ⟨A17, c17, rfl, hr17, _, _⟩ := Cel.Own.reads h17
                  refine Cel.step_rd kU y8 w5.heap.size y8.heap.size v15 n _ h15 bk.size A17 1 c17 (ucells [x]) hr17 ucells_one (by omega) (by omega) (by kernel_rfl) (.tmp 72) (.tmp 74) rfl rfl rfl ?_
                  intro v18 y9 h18 hk hf
                  rw [← ucells_append] at h18
                  have hq := own_fr hT hf aT
                  clear hT aT
                  obtain ⟨hT, aT⟩ := hq
                  replace bk := bk.trans hk
                  replace hS := HS.out _ bk
                  refine hC.out _ _ (fun _ => hS) ?_
                  clear hC C hk hf hr17 h17 h15
                  try simp only [List.getElem_toArray, List.getElem_cons_zero, List.getElem_cons_succ, Act.put, List.setIfInBounds_toArray, List.set_cons_zero, List.set_cons_succ]
                  obtain ⟨A18, c18, rfl, hr18, _, _⟩ := Cel.Own.reads h18
                  refine Ord.Till.step 19 (by kernel_rfl) rfl (fun C hC => ?_)
                  go_simp
                  go_at_call 13
                  refine (qof y9.heap.size A18 (n + 1) c18 (xs ++ [x]) T HOT.out y9 (rdu_of hr18) (Nat.le_refl _) (by omega)).mono ?_
                  rintro e y10 ⟨vP, rfl, hO, hk⟩
                  replace hT := OwnI.below hT hk
                  replace bk := bk.trans (hk.mono bk.size)
                  replace hS := HS.out _ bk
                  go_wp2_with fail
                  refine hC.out _ _ (fun _ => hS) ?_
                  clear hC C hk hr18 h18
                  try simp only [List.getElem_toArray, List.getElem_cons_zero, List.getElem_cons_succ, Act.put, List.setIfInBounds_toArray, List.set_cons_zero, List.set_cons_succ]
                  refine Ord.Till.step 20 (by kernel_rfl) rfl (fun C hC => ?_)
                  go_simp
                  go_at_call 10
                  refine (qsame T vT vP y10 hT.pl hO.pl (by omega)).mono ?_
                  rintro e y11 ⟨rfl, hk⟩
                  replace bk := bk.trans (hk.mono bk.size)
                  replace hS := HS.out _ bk
                  go_wp2_with fail
                  refine hC.out _ _ (fun _ => hS) ?_
                  clear hC C hk hO hT
                  try simp only [List.getElem_toArray, List.getElem_cons_zero, List.getElem_cons_succ, Act.put, List.setIfInBounds_toArray, List.set_cons_zero, List.set_cons_succ]
                  refine Ord.Till.take' 21 (some 78) (oi := _) (x := .bool true) rfl rfl (by kernel_rfl) (by kernel_rfl) (by kernel_rfl) (by kernel_rfl) (fun _ _ _ h => h) (by kernel_rfl) (fun v hv => by go_simp) hS ?_
                  try simp only [List.getElem_toArray, List.getElem_cons_zero, List.getElem_cons_succ, Act.put, List.setIfInBounds_toArray, List.set_cons_zero, List.set_cons_succ]
                  refine Ord.Till.take' 22 (some 4) (oi := _) (x := .bool true) rfl rfl (by kernel_rfl) (by kernel_rfl) (by kernel_rfl) (by kernel_rfl) (fun _ _ _ h => h) (by kernel_rfl) (fun v hv => by go_simp) hS ?_
                  try simp only [List.getElem_toArray, List.getElem_cons_zero, List.getElem_cons_succ, Act.put, List.setIfInBounds_toArray, List.set_cons_zero, List.set_cons_succ]
                  refine Ord.Till.done (by kernel_rfl) ?_ _
                  go_wp2_with fail
                  go_ret
                  exact ⟨rfl, HB5.out y11 bk⟩
                · go_simp
                  have hk := (Below.refl y6.heap.size y6).alloc (Nat.le_refl _) (.cells #[.string x.s.name, .int .i64 x.s.bind, .int .i64 x.s.size, .int .i64 x.s.align, .int .i64 x.u] 39)
                  have h17 := own_use y6 x y6.heap.size (Nat.le_refl _)
                  have a17 := apart_new h17 h13
                  replace h13 := Cel.Own.below h13 hk
                  replace hT := OwnI.below hT hk
                  replace h17 := Cel.Own.more h17 bk.size
                  replace bk := bk.trans (hk.mono bk.size)
                  replace hS := HS.out _ bk
                  refine hC.out _ _ (fun _ => hS) ?_
                  clear hC C hk
                  try simp only [List.getElem_toArray, List.getElem_cons_zero, List.getElem_cons_succ, Act.put, List.setIfInBounds_toArray, List.set_cons_zero, List.set_cons_succ]
                  generalize y6.alloc (.cells #[.string x.s.name, .int .i64 x.s.bind, .int .i64 x.s.size, .int .i64 x.s.align, .int .i64 x.u] 39) = y7 at *
                  generalize Value.slice (some ⟨y6.heap.size, 0, none⟩) 1 1 = v17 at *
                  refine Ord.Till.step 15 (by kernel_rfl) rfl (fun C hC => ?_)
                  refine Cel.step_rd kU y7 w5.heap.size W.heap.size v13 0 [] h13 bk.size A n c (ucells xs) (HX5.out y7 bk).1.cel ucells_one (by omega) (by omega) (by kernel_rfl) (.tmp 70) (.tmp 71) rfl rfl rfl ?_
                  intro v15 y8 h15 hk hf
                  rw [Nat.zero_add, List.nil_append] at h15
                  have hq := own_fr hT hf aT
                  clear hT aT
                  obtain ⟨hT, aT⟩ := hq
                  have hq := cel_fr h17 hf a17
                  clear h17 a17
                  obtain ⟨h17, a17⟩ := hq
                  replace bk := bk.trans hk
                  replace hS := HS.out _ bk
                  refine hC.out _ _ (fun _ => hS) ?_
                  clear hC C hk hf h13
                  try simp only [List.getElem_toArray, List.getElem_cons_zero, List.getElem_cons_succ, Act.put, List.setIfInBounds_toArray, List.set_cons_zero, List.set_cons_succ]
                  refine Ord.Till.step 18 (by kernel_rfl) rfl (fun C hC => ?_)
                  obtain ⟨A17, c17, rfl, hr17, _, _⟩ := Cel.Own.reads h17
                  refine Cel.step_rd kU y8 w5.heap.size y8.heap.size v15 n _ h15 bk.size A17 1 c17 (ucells [x]) hr17 ucells_one (by omega) (by omega) (by kernel_rfl) (.tmp 72) (.tmp 74) rfl rfl rfl ?_
                  intro v18 y9 h18 hk hf
                  rw [← ucells_append] at h18
                  have hq := own_fr hT hf aT
                  clear hT aT
                  obtain ⟨hT, aT⟩ := hq
                  replace bk := bk.trans hk
                  replace hS := HS.out _ bk
                  refine hC.out _ _ (fun _ => hS) ?_
                  clear hC C hk hf hr17 h17 h15
                  try simp only [List.getElem_toArray, List.getElem_cons_zero, List.getElem_cons_succ, Act.put, List.setIfInBounds_toArray, List.set_cons_zero, List.set_cons_succ]
                  obtain ⟨A18, c18, rfl, hr18, _, _⟩ := Cel.Own.reads h18
                  refine Ord.Till.step 19 (by kernel_rfl) rfl (fun C hC => ?_)
                  go_simp
                  go_at_call 13
                  refine (qof y9.heap.size A18 (n + 1) c18 (xs ++ [x]) T HOT.out y9 (rdu_of hr18) (Nat.le_refl _) (by omega)).mono ?_
                  rintro e y10 ⟨vP, rfl, hO, hk⟩
                  replace hT := OwnI.below hT hk
                  replace bk := bk.trans (hk.mono bk.size)
                  replace hS := HS.out _ bk
                  go_wp2_with fail
                  refine hC.out _ _ (fun _ => hS) ?_
                  clear hC C hk hr18 h18
                  try simp only [List.getElem_toArray, List.getElem_cons_zero, List.getElem_cons_succ, Act.put, List.setIfInBounds_toArray, List.set_cons_zero, List.set_cons_succ]
                  refine Ord.Till.step 20 (by kernel_rfl) rfl (fun C hC => ?_)
                  go_simp
                  go_at_call 10
                  refine (qsame T vT vP y10 hT.pl hO.pl (by omega)).mono ?_
                  rintro e y11 ⟨rfl, hk⟩
                  replace bk := bk.trans (hk.mono bk.size)
                  replace hS := HS.out _ bk
                  go_wp2_with fail
                  refine hC.out _ _ (fun _ => hS) ?_
                  clear hC C hk hO hT
                  try simp only [List.getElem_toArray, List.getElem_cons_zero, List.getElem_cons_succ, Act.put, List.setIfInBounds_toArray, List.set_cons_zero, List.set_cons_succ]
                  refine Ord.Till.take' 21 (some 78) (oi := _) (x := .bool true) rfl rfl (by kernel_rfl) (by kernel_rfl) (by kernel_rfl) (by kernel_rfl) (fun _ _ _ h => h) (by kernel_rfl) (fun v hv => by go_simp) hS ?_
                  try simp only [List.getElem_toArray, List.getElem_cons_zero, List.getElem_cons_succ, Act.put, List.setIfInBounds_toArray, List.set_cons_zero, List.set_cons_succ]
                  refine Ord.Till.take' 22 (some 4) (oi := _) (x := .bool true) rfl rfl (by kernel_rfl) (by kernel_rfl) (by kernel_rfl) (by kernel_rfl) (fun _ _ _ h => h) (by kernel_rfl) (fun v hv => by go_simp) hS ?_
                  try simp only [List.getElem_toArray, List.getElem_cons_zero, List.getElem_cons_succ, Act.put, List.setIfInBounds_toArray, List.set_cons_zero, List.set_cons_succ]
                  refine Ord.Till.done (by kernel_rfl) ?_ _
                  go_wp2_with fail
                  go_ret
                  exact ⟨rfl, HB5.out y11 bk⟩
              · go_simp
                have hk := (Below.refl y5.heap.size y5).alloc (Nat.le_refl _) (.cells #[.string x.s.name, .int .i64 x.s.bind, .int .i64 x.s.size, .int .i64 x.s.align, .int .i64 x.u] 39)
                have h17 := own_use y5 x y5.heap.size (Nat.le_refl _)
                replace hT := OwnI.below hT hk
                replace h17 := Cel.Own.more h17 bk.size
                replace bk := bk.trans (hk.mono bk.size)
                replace hS := HS.out _ bk
                refine hC.out _ _ (fun _ => hS) ?_
                clear hC C hk
                try simp only [List.getElem_toArray, List.getElem_cons_zero, List.getElem_cons_succ, Act.put, List.setIfInBounds_toArray, List.set_cons_zero, List.set_cons_succ]
                generalize y5.alloc (.cells #[.string x.s.name, .int .i64 x.s.bind, .int .i64 x.s.size, .int .i64 x.s.align, .int .i64 x.u] 39) = y6 at *
                generalize Value.slice (some ⟨y5.heap.size, 0, none⟩) 1 1 = v17 at *
                refine Ord.Till.step 13 (by kernel_rfl) rfl (fun C hC => ?_)
                go_simp
                have hk := (Below.refl y6.heap.size y6).alloc (Nat.le_refl _) (.cells #[] 39)
                have h13 := Cel.Own.lit0 39 5 y6 w5.heap.size bk.size
                have aT := apart_old hT 0 0
                replace hT := OwnI.below hT hk
                have a17 := apart_old h17 0 0
                replace h17 := Cel.Own.below h17 hk
                replace bk := bk.trans (hk.mono bk.size)
                replace hS := HS.out _ bk
                refine hC.out _ _ (fun _ => hS) ?_
                clear hC C hk
                try simp only [List.getElem_toArray, List.getElem_cons_zero, List.getElem_cons_succ, Act.put, List.setIfInBounds_toArray, List.set_cons_zero, List.set_cons_succ]
                generalize y6.alloc (.cells #[] 39) = y7 at *
                generalize Value.slice (some ⟨y6.heap.size, 0, none⟩) 0 0 = v13 at *
                refine Ord.Till.step 15 (by kernel_rfl) rfl (fun C hC => ?_)
                refine Cel.step_rd kU y7 w5.heap.size W.heap.size v13 0 [] h13 bk.size A n c (ucells xs) (HX5.out y7 bk).1.cel ucells_one (by omega) (by omega) (by kernel_rfl) (.tmp 70) (.tmp 71) rfl rfl rfl ?_
                intro v15 y8 h15 hk hf
                rw [Nat.zero_add, List.nil_append] at h15
                have hq := own_fr hT hf aT
                clear hT aT
                obtain ⟨hT, aT⟩ := hq
                have hq := cel_fr h17 hf a17
                clear h17 a17
                obtain ⟨h17, a17⟩ := hq
                replace bk := bk.trans hk
                replace hS := HS.out _ bk
                refine hC.out _ _ (fun _ => hS) ?_
                clear hC C hk hf h13
                try simp only [List.getElem_toArray, List.getElem_cons_zero, List.getElem_cons_succ, Act.put, List.setIfInBounds_toArray, List.set_cons_zero, List.set_cons_succ]
                refine Ord.Till.step 18 (by kernel_rfl) rfl (fun C hC => ?_)
                obtain ⟨A17, c17, rfl, hr17, _, _⟩ := Cel.Own.reads h17
                refine Cel.step_rd kU y8 w5.heap.size y8.heap.size v15 n _ h15 bk.size A17 1 c17 (ucells [x]) hr17 ucells_one (by omega) (by omega) (by kernel_rfl) (.tmp 72) (.tmp 74) rfl rfl rfl ?_
                intro v18 y9 h18 hk hf
                rw [← ucells_append] at h18
                have hq := own_fr hT hf aT
                clear hT aT
                obtain ⟨hT, aT⟩ := hq
                replace bk := bk.trans hk
                replace hS := HS.out _ bk
                refine hC.out _ _ (fun _ => hS) ?_
                clear hC C hk hf hr17 h17 h15
                try simp only [List.getElem_toArray, List.getElem_cons_zero, List.getElem_cons_succ, Act.put, List.setIfInBounds_toArray, List.set_cons_zero, List.set_cons_succ]
                obtain ⟨A18, c18, rfl, hr18, _, _⟩ := Cel.Own.reads h18
                refine Ord.Till.step 19 (by kernel_rfl) rfl (fun C hC => ?_)
                go_simp
                go_at_call 13
                refine (qof y9.heap.size A18 (n + 1) c18 (xs ++ [x]) T HOT.out y9 (rdu_of hr18) (Nat.le_refl _) (by omega)).mono ?_
                rintro e y10 ⟨vP, rfl, hO, hk⟩
                replace hT := OwnI.below hT hk
                replace bk := bk.trans (hk.mono bk.size)
                replace hS := HS.out _ bk
                go_wp2_with fail
                refine hC.out _ _ (fun _ => hS) ?_
                clear hC C hk hr18 h18
                try simp only [List.getElem_toArray, List.getElem_cons_zero, List.getElem_cons_succ, Act.put, List.setIfInBounds_toArray, List.set_cons_zero, List.set_cons_succ]
                refine Ord.Till.step 20 (by kernel_rfl) rfl (fun C hC => ?_)
                go_simp
                go_at_call 10
                refine (qsame T vT vP y10 hT.pl hO.pl (by omega)).mono ?_
                rintro e y11 ⟨rfl, hk⟩
                replace bk := bk.trans (hk.mono bk.size)
                replace hS := HS.out _ bk
                go_wp2_with fail
                refine hC.out _ _ (fun _ => hS) ?_
                clear hC C hk hO hT
                try simp only [List.getElem_toArray, List.getElem_cons_zero, List.getElem_cons_succ, Act.put, List.setIfInBounds_toArray, List.set_cons_zero, List.set_cons_succ]
                refine Ord.Till.take' 21 (some 78) (oi := _) (x := .bool true) rfl rfl (by kernel_rfl) (by kernel_rfl) (by kernel_rfl) (by kernel_rfl) (fun _ _ _ h => h) (by kernel_rfl) (fun v hv => by go_simp) hS ?_
                try simp only [List.getElem_toArray, List.getElem_cons_zero, List.getElem_cons_succ, Act.put, List.setIfInBounds_toArray, List.set_cons_zero, List.set_cons_succ]
                refine Ord.Till.take' 22 (some 4) (oi := _) (x := .bool true) rfl rfl (by kernel_rfl) (by kernel_rfl) (by kernel_rfl) (by kernel_rfl) (fun _ _ _ h => h) (by kernel_rfl) (fun v hv => by go_simp) hS ?_
                try simp only [List.getElem_toArray, List.getElem_cons_zero, List.getElem_cons_succ, Act.put, List.setIfInBounds_toArray, List.set_cons_zero, List.set_cons_succ]
                refine Ord.Till.done (by kernel_rfl) ?_ _
                go_wp2_with fail
                go_ret
                exact ⟨rfl, HB5.out y11 bk⟩
            · go_simp
              have hk := (Below.refl y4.heap.size y4).alloc (Nat.le_refl _) (.cells #[] 39)
              have h13 := Cel.Own.lit0 39 5 y4 w5.heap.size bk.size
              have aT := apart_old hT 0 0
              replace hT := OwnI.below hT hk
              replace bk := bk.trans (hk.mono bk.size)
              replace hS := HS.out _ bk
              refine hC.out _ _ (fun _ => hS) ?_
              clear hC C hk
              try simp only [List.getElem_toArray, List.getElem_cons_zero, List.getElem_cons_succ, Act.put, List.setIfInBounds_toArray, List.set_cons_zero, List.set_cons_succ]
              generalize y4.alloc (.cells #[] 39) = y5 at *
              generalize Value.slice (some ⟨y4.heap.size, 0, none⟩) 0 0 = v13 at *
              refine Ord.Till.two 12 17 (by kernel_rfl) rfl rfl (fun C hC => ?_) (fun C hC => ?_)
              · go_simp
                go_at_call 11
                refine (state_any T vT _ _ y5 hT.pl).mono ?_
                rintro e y6 ⟨rfl, hk⟩
                replace hT := OwnI.below hT hk
                replace h13 := Cel.Own.below h13 hk
                replace bk := bk.trans (hk.mono bk.size)
                replace hS := HS.out _ bk
                go_wp2_with fail
                refine hC.out _ _ (fun _ => hS) ?_
                clear hC C hk
                try simp only [List.getElem_toArray, List.getElem_cons_zero, List.getElem_cons_succ, Act.put, List.setIfInBounds_toArray, List.set_cons_zero, List.set_cons_succ]
                refine Ord.Till.two 15 17 (by kernel_rfl) rfl rfl (fun C hC => ?_) (fun C hC => ?_)
                · refine Cel.step_rd kU y6 w5.heap.size W.heap.size v13 0 [] h13 bk.size A n c (ucells xs) (HX5.out y6 bk).1.cel ucells_one (by omega) (by omega) (by kernel_rfl) (.tmp 70) (.tmp 71) rfl rfl rfl ?_
                  intro v15 y7 h15 hk hf
                  rw [Nat.zero_add, List.nil_append] at h15
                  have hq := own_fr hT hf aT
                  clear hT aT
                  obtain ⟨hT, aT⟩ := hq
                  replace bk := bk.trans hk
                  replace hS := HS.out _ bk
                  refine hC.out _ _ (fun _ => hS) ?_
                  clear hC C hk hf h13
                  try simp only [List.getElem_toArray, List.getElem_cons_zero, List.getElem_cons_succ, Act.put, List.setIfInBounds_toArray, List.set_cons_zero, List.set_cons_succ]
                  refine Ord.Till.step 17 (by kernel_rfl) rfl (fun C hC => ?_)
                  go_simp
                  have hk := (Below.refl y7.heap.size y7).alloc (Nat.le_refl _) (.cells #[.string x.s.name, .int .i64 x.s.bind, .int .i64 x.s.size, .int .i64 x.s.align, .int .i64 x.u] 39)
                  have h17 := own_use y7 x y7.heap.size (Nat.le_refl _)
                  replace h15 := Cel.Own.below h15 hk
                  replace hT := OwnI.below hT hk
                  replace h17 := Cel.Own.more h17 bk.size
                  replace bk := bk.trans (hk.mono bk.size)
                  replace hS := HS.out _ bk
                  refine hC.out _ _ (fun _ => hS) ?_
                  clear hC C hk
                  try simp only [List.getElem_toArray, List.getElem_cons_zero, List.getElem_cons_succ, Act.put, List.setIfInBounds_toArray, List.set_cons_zero, List.set_cons_succ]
                  generalize y7.alloc (.cells #[.string x.s.name, .int .i64 x.s.bind, .int .i64 x.s.size, .int .i64 x.s.align, .int .i64 x.u] 39) = y8 at *
                  generalize Value.slice (some ⟨y7.heap.size, 0, none⟩) 1 1 = v17 at *
                  refine Ord.Till.step 18 (by kernel_rfl) rfl (fun C hC => ?_)
                  obtain ⟨A17, c17, rfl, hr17, _, _⟩ := Cel.Own.reads h17
                  refine Cel.step_rd kU y8 w5.heap.size y8.heap.size v15 n _ h15 bk.size A17 1 c17 (ucells [x]) hr17 ucells_one (by omega) (by omega) (by kernel_rfl) (.tmp 72) (.tmp 74) rfl rfl rfl ?_
                  intro v18 y9 h18 hk hf
                  rw [← ucells_append] at h18
                  have hq := own_fr hT hf aT
                  clear hT aT
                  obtain ⟨hT, aT⟩ := hq
                  replace bk := bk.trans hk
                  replace hS := HS.out _ bk
                  refine hC.out _ _ (fun _ => hS) ?_
                  clear hC C hk hf hr17 h17 h15
                  try simp only [List.getElem_toArray, List.getElem_cons_zero, List.getElem_cons_succ, Act.put, List.setIfInBounds_toArray, List.set_cons_zero, List.set_cons_succ]
                  obtain ⟨A18, c18, rfl, hr18, _, _⟩ := Cel.Own.reads h18
                  refine Ord.Till.step 19 (by kernel_rfl) rfl (fun C hC => ?_)
                  go_simp
                  go_at_call 13
                  refine (qof y9.heap.size A18 (n + 1) c18 (xs ++ [x]) T HOT.out y9 (rdu_of hr18) (Nat.le_refl _) (by omega)).mono ?_
                  rintro e y10 ⟨vP, rfl, hO, hk⟩
                  replace hT := OwnI.below hT hk
                  replace bk := bk.trans (hk.mono bk.size)
                  replace hS := HS.out _ bk
                  go_wp2_with fail
                  refine hC.out _ _ (fun _ => hS) ?_
                  clear hC C hk hr18 h18
                  try simp only [List.getElem_toArray, List.getElem_cons_zero, List.getElem_cons_succ, Act.put, List.setIfInBounds_toArray, List.set_cons_zero, List.set_cons_succ]
                  refine Ord.Till.step 20 (by kernel_rfl) rfl (fun C hC => ?_)
                  go_simp
                  go_at_call 10
                  refine (qsame T vT vP y10 hT.pl hO.pl (by omega)).mono ?_
                  rintro e y11 ⟨rfl, hk⟩
                  replace bk := bk.trans (hk.mono bk.size)
                  replace hS := HS.out _ bk
                  go_wp2_with fail
                  refine hC.out _ _ (fun _ => hS) ?_
                  clear hC C hk hO hT
                  try simp only [List.getElem_toArray, List.getElem_cons_zero, List.getElem_cons_succ, Act.put, List.setIfInBounds_toArray, List.set_cons_zero, List.set_cons_succ]
                  refine Ord.Till.take' 21 (some 78) (oi := _) (x := .bool true) rfl rfl (by kernel_rfl) (by kernel_rfl) (by kernel_rfl) (by kernel_rfl) (fun _ _ _ h => h) (by kernel_rfl) (fun v hv => by go_simp) hS ?_
                  try simp only [List.getElem_toArray, List.getElem_cons_zero, List.getElem_cons_succ, Act.put, List.setIfInBounds_toArray, List.set_cons_zero, List.set_cons_succ]
                  refine Ord.Till.take' 22 (some 4) (oi := _) (x := .bool true) rfl rfl (by kernel_rfl) (by kernel_rfl) (by kernel_rfl) (by kernel_rfl) (fun _ _ _ h => h) (by kernel_rfl) (fun v hv => by go_simp) hS ?_
                  try simp only [List.getElem_toArray, List.getElem_cons_zero, List.getElem_cons_succ, Act.put, List.setIfInBounds_toArray, List.set_cons_zero, List.set_cons_succ]
                  refine Ord.Till.done (by kernel_rfl) ?_ _
                  go_wp2_with fail
                  go_ret
                  exact ⟨rfl, HB5.out y11 bk⟩
                · go_simp
                  have hk := (Below.refl y6.heap.size y6).alloc (Nat.le_refl _) (.cells #[.string x.s.name, .int .i64 x.s.bind, .int .i64 x.s.size, .int .i64 x.s.align, .int .i64 x.u] 39)
                  have h17 := own_use y6 x y6.heap.size (Nat.le_refl _)
                  have a17 := apart_new h17 h13
                  replace h13 := Cel.Own.below h13 hk
                  replace hT := OwnI.below hT hk
                  replace h17 := Cel.Own.more h17 bk.size
                  replace bk := bk.trans (hk.mono bk.size)
                  replace hS := HS.out _ bk
                  refine hC.out _ _ (fun _ => hS) ?_
                  clear hC C hk
                  try simp only [List.getElem_toArray, List.getElem_cons_zero, List.getElem_cons_succ, Act.put, List.setIfInBounds_toArray, List.set_cons_zero, List.set_cons_succ]
                  generalize y6.alloc (.cells #[.string x.s.name, .int .i64 x.s.bind, .int .i64 x.s.size, .int .i64 x.s.align, .int .i64 x.u] 39) = y7 at *
                  generalize Value.slice (some ⟨y6.heap.size, 0, none⟩) 1 1 = v17 at *
                  refine Ord.Till.step 15 (by kernel_rfl) rfl (fun C hC => ?_)
                  refine Cel.step_rd kU y7 w5.heap.size W.heap.size v13 0 [] h13 bk.size A n c (ucells xs) (HX5.out y7 bk).1.cel ucells_one (by omega) (by omega) (by kernel_rfl) (.tmp 70) (.tmp 71) rfl rfl rfl ?_
                  intro v15 y8 h15 hk hf
                  rw [Nat.zero_add, List.nil_append] at h15
                  have hq := own_fr hT hf aT
                  clear hT aT
                  obtain ⟨hT, aT⟩ := hq
                  have hq := cel_fr h17 hf a17
                  clear h17 a17
                  obtain ⟨h17, a17⟩ := hq
                  replace bk := bk.trans hk
                  replace hS := HS.out _ bk
                  refine hC.out _ _ (fun _ => hS) ?_
                  clear hC C hk hf h13
                  try simp only [List.getElem_toArray, List.getElem_cons_zero, List.getElem_cons_succ, Act.put, List.setIfInBounds_toArray, List.set_cons_zero, List.set_cons_succ]
                  refine Ord.Till.step 18 (by kernel_rfl) rfl (fun C hC => ?_)
                  obtain ⟨A17, c17, rfl, hr17, _, _⟩ := Cel.Own.reads h17
                  refine Cel.step_rd kU y8 w5.heap.size y8.heap.size v15 n _ h15 bk.size A17 1 c17 (ucells [x]) hr17 ucells_one (by omega) (by omega) (by kernel_rfl) (.tmp 72) (.tmp 74) rfl rfl rfl ?_
                  intro v18 y9 h18 hk hf
                  rw [← ucells_append] at h18
                  have hq := own_fr hT hf aT
                  clear hT aT
                  obtain ⟨hT, aT⟩ := hq
                  replace bk := bk.trans hk
                  replace hS := HS.out _ bk
                  refine hC.out _ _ (fun _ => hS) ?_
                  clear hC C hk hf hr17 h17 h15
                  try simp only [List.getElem_toArray, List.getElem_cons_zero, List.getElem_cons_succ, Act.put, List.setIfInBounds_toArray, List.set_cons_zero, List.set_cons_succ]
                  obtain ⟨A18, c18, rfl, hr18, _, _⟩ := Cel.Own.reads h18
                  refine Ord.Till.step 19 (by kernel_rfl) rfl (fun C hC => ?_)
                  go_simp
                  go_at_call 13
                  refine (qof y9.heap.size A18 (n + 1) c18 (xs ++ [x]) T HOT.out y9 (rdu_of hr18) (Nat.le_refl _) (by omega)).mono ?_
                  rintro e y10 ⟨vP, rfl, hO, hk⟩
                  replace hT := OwnI.below hT hk
                  replace bk := bk.trans (hk.mono bk.size)
                  replace hS := HS.out _ bk
                  go_wp2_with fail
                  refine hC.out _ _ (fun _ => hS) ?_
                  clear hC C hk hr18 h18
                  try simp only [List.getElem_toArray, List.getElem_cons_zero, List.getElem_cons_succ, Act.put, List.setIfInBounds_toArray, List.set_cons_zero, List.set_cons_succ]
                  refine Ord.Till.step 20 (by kernel_rfl) rfl (fun C hC => ?_)
                  go_simp
                  go_at_call 10
                  refine (qsame T vT vP y10 hT.pl hO.pl (by omega)).mono ?_
                  rintro e y11 ⟨rfl, hk⟩
                  replace bk := bk.trans (hk.mono bk.size)
                  replace hS := HS.out _ bk
                  go_wp2_with fail
                  refine hC.out _ _ (fun _ => hS) ?_
                  clear hC C hk hO hT
                  try simp only [List.getElem_toArray, List.getElem_cons_zero, List.getElem_cons_succ, Act.put, List.setIfInBounds_toArray, List.set_cons_zero, List.set_cons_succ]
                  refine Ord.Till.take' 21 (some 78) (oi := _) (x := .bool true) rfl rfl (by kernel_rfl) (by kernel_rfl) (by kernel_rfl) (by kernel_rfl) (fun _ _ _ h => h) (by kernel_rfl) (fun v hv => by go_simp) hS ?_
                  try simp only [List.getElem_toArray, List.getElem_cons_zero, List.getElem_cons_succ, Act.put, List.setIfInBounds_toArray, List.set_cons_zero, List.set_cons_succ]
                  refine Ord.Till.take' 22 (some 4) (oi := _) (x := .bool true) rfl rfl (by kernel_rfl) (by kernel_rfl) (by kernel_rfl) (by kernel_rfl) (fun _ _ _ h => h) (by kernel_rfl) (fun v hv => by go_simp) hS ?_
                  try simp only [List.getElem_toArray, List.getElem_cons_zero, List.getElem_cons_succ, Act.put, List.setIfInBounds_toArray, List.set_cons_zero, List.set_cons_succ]
                  refine Ord.Till.done (by kernel_rfl) ?_ _
                  go_wp2_with fail
                  go_ret
                  exact ⟨rfl, HB5.out y11 bk⟩
              · go_simp
                have hk := (Below.refl y5.heap.size y5).alloc (Nat.le_refl _) (.cells #[.string x.s.name, .int .i64 x.s.bind, .int .i64 x.s.size, .int .i64 x.s.align, .int .i64 x.u] 39)
                have h17 := own_use y5 x y5.heap.size (Nat.le_refl _)
                have a17 := apart_new h17 h13
                replace h13 := Cel.Own.below h13 hk
                replace hT := OwnI.below hT hk
                replace h17 := Cel.Own.more h17 bk.size
                replace bk := bk.trans (hk.mono bk.size)
                replace hS := HS.out _ bk
                refine hC.out _ _ (fun _ => hS) ?_
                clear hC C hk
                try simp only [List.getElem_toArray, List.getElem_cons_zero, List.getElem_cons_succ, Act.put, List.setIfInBounds_toArray, List.set_cons_zero, List.set_cons_succ]
                generalize y5.alloc (.cells #[.string x.s.name, .int .i64 x.s.bind, .int .i64 x.s.size, .int .i64 x.s.align, .int .i64 x.u] 39) = y6 at *
                generalize Value.slice (some ⟨y5.heap.size, 0, none⟩) 1 1 = v17 at *
                refine Ord.Till.step 12 (by kernel_rfl) rfl (fun C hC => ?_)
                go_simp
                go_at_call 11
                refine (state_any T vT _ _ y6 hT.pl).mono ?_
                rintro e y7 ⟨rfl, hk⟩
                replace hT := OwnI.below hT hk
                replace h13 := Cel.Own.below h13 hk
                replace h17 := Cel.Own.below h17 hk
                replace bk := bk.trans (hk.mono bk.size)
                replace hS := HS.out _ bk
                go_wp2_with fail
                refine hC.out _ _ (fun _ => hS) ?_
                clear hC C hk
                try simp only [List.getElem_toArray, List.getElem_cons_zero, List.getElem_cons_succ, Act.put, List.setIfInBounds_toArray, List.set_cons_zero, List.set_cons_succ]
                refine Ord.Till.step 15 (by kernel_rfl) rfl (fun C hC => ?_)
                refine Cel.step_rd kU y7 w5.heap.size W.heap.size v13 0 [] h13 bk.size A n c (ucells xs) (HX5.out y7 bk).1.cel ucells_one (by omega) (by omega) (by kernel_rfl) (.tmp 70) (.tmp 71) rfl rfl rfl ?_
                intro v15 y8 h15 hk hf
                rw [Nat.zero_add, List.nil_append] at h15
                have hq := own_fr hT hf aT
                clear hT aT
                obtain ⟨hT, aT⟩ := hq
                have hq := cel_fr h17 hf a17
                clear h17 a17
                obtain ⟨h17, a17⟩ := hq
                replace bk := bk.trans hk
                replace hS := HS.out _ bk
                refine hC.out _ _ (fun _ => hS) ?_
                clear hC C hk hf h13
                try simp only [List.getElem_toArray, List.getElem_cons_zero, List.getElem_cons_succ, Act.put, List.setIfInBounds_toArray, List.set_cons_zero, List.set_cons_succ]
                refine Ord.Till.step 18 (by kernel_rfl) rfl (fun C hC => ?_)
                obtain ⟨A17, c17, rfl, hr17, _, _⟩ := Cel.Own.reads h17
                refine Cel.step_rd kU y8 w5.heap.size y8.heap.size v15 n _ h15 bk.size A17 1 c17 (ucells [x]) hr17 ucells_one (by omega) (by omega) (by kernel_rfl) (.tmp 72) (.tmp 74) rfl rfl rfl ?_
                intro v18 y9 h18 hk hf
                rw [← ucells_append] at h18
                have hq := own_fr hT hf aT
                clear hT aT
                obtain ⟨hT, aT⟩ := hq
                replace bk := bk.trans hk
                replace hS := HS.out _ bk
                refine hC.out _ _ (fun _ => hS) ?_
                clear hC C hk hf hr17 h17 h15
                try simp only [List.getElem_toArray, List.getElem_cons_zero, List.getElem_cons_succ, Act.put, List.setIfInBounds_toArray, List.set_cons_zero, List.set_cons_succ]
                obtain ⟨A18, c18, rfl, hr18, _, _⟩ := Cel.Own.reads h18
                refine Ord.Till.step 19 (by kernel_rfl) rfl (fun C hC => ?_)
                go_simp
                go_at_call 13
                refine (qof y9.heap.size A18 (n + 1) c18 (xs ++ [x]) T HOT.out y9 (rdu_of hr18) (Nat.le_refl _) (by omega)).mono ?_
                rintro e y10 ⟨vP, rfl, hO, hk⟩
                replace hT := OwnI.below hT hk
                replace bk := bk.trans (hk.mono bk.size)
                replace hS := HS.out _ bk
                go_wp2_with fail
                refine hC.out _ _ (fun _ => hS) ?_
                clear hC C hk hr18 h18
                try simp only [List.getElem_toArray, List.getElem_cons_zero, List.getElem_cons_succ, Act.put, List.setIfInBounds_toArray, List.set_cons_zero, List.set_cons_succ]
                refine Ord.Till.step 20 (by kernel_rfl) rfl (fun C hC => ?_)
                go_simp
                go_at_call 10
                refine (qsame T vT vP y10 hT.pl hO.pl (by omega)).mono ?_
                rintro e y11 ⟨rfl, hk⟩
                replace bk := bk.trans (hk.mono bk.size)
                replace hS := HS.out _ bk
                go_wp2_with fail
                refine hC.out _ _ (fun _ => hS) ?_
                clear hC C hk hO hT
                try simp only [List.getElem_toArray, List.getElem_cons_zero, List.getElem_cons_succ, Act.put, List.setIfInBounds_toArray, List.set_cons_zero, List.set_cons_succ]
                refine Ord.Till.take' 21 (some 78) (oi := _) (x := .bool true) rfl rfl (by kernel_rfl) (by kernel_rfl) (by kernel_rfl) (by kernel_rfl) (fun _ _ _ h => h) (by kernel_rfl) (fun v hv => by go_simp) hS ?_
                try simp only [List.getElem_toArray, List.getElem_cons_zero, List.getElem_cons_succ, Act.put, List.setIfInBounds_toArray, List.set_cons_zero, List.set_cons_succ]
                refine Ord.Till.take' 22 (some 4) (oi := _) (x := .bool true) rfl rfl (by kernel_rfl) (by kernel_rfl) (by kernel_rfl) (by kernel_rfl) (fun _ _ _ h => h) (by kernel_rfl) (fun v hv => by go_simp) hS ?_
                try simp only [List.getElem_toArray, List.getElem_cons_zero, List.getElem_cons_succ, Act.put, List.setIfInBounds_toArray, List.set_cons_zero, List.set_cons_succ]
                refine Ord.Till.done (by kernel_rfl) ?_ _
                go_wp2_with fail
                go_ret
                exact ⟨rfl, HB5.out y11 bk⟩
            · go_simp
              have hk := (Below.refl y4.heap.size y4).alloc (Nat.le_refl _) (.cells #[.string x.s.name, .int .i64 x.s.bind, .int .i64 x.s.size, .int .i64 x.s.align, .int .i64 x.u] 39)
              have h17 := own_use y4 x y4.heap.size (Nat.le_refl _)
              replace hT := OwnI.below hT hk
              replace h17 := Cel.Own.more h17 bk.size
              replace bk := bk.trans (hk.mono bk.size)
              replace hS := HS.out _ bk
              refine hC.out _ _ (fun _ => hS) ?_
              clear hC C hk
              try simp only [List.getElem_toArray, List.getElem_cons_zero, List.getElem_cons_succ, Act.put, List.setIfInBounds_toArray, List.set_cons_zero, List.set_cons_succ]
              generalize y4.alloc (.cells #[.string x.s.name, .int .i64 x.s.bind, .int .i64 x.s.size, .int .i64 x.s.align, .int .i64 x.u] 39) = y5 at *
              generalize Value.slice (some ⟨y4.heap.size, 0, none⟩) 1 1 = v17 at *
              refine Ord.Till.two 12 13 (by kernel_rfl) rfl rfl (fun C hC => ?_) (fun C hC => ?_)
              · go_simp
                go_at_call 11
                refine (state_any T vT _ _ y5 hT.pl).mono ?_
                rintro e y6 ⟨rfl, hk⟩
                replace hT := OwnI.below hT hk
                replace h17 := Cel.Own.below h17 hk
                replace bk := bk.trans (hk.mono bk.size)
                replace hS := HS.out _ bk
                go_wp2_with fail
                refine hC.out _ _ (fun _ => hS) ?_
                clear hC C hk
                try simp only [List.getElem_toArray, List.getElem_cons_zero, List.getElem_cons_succ, Act.put, List.setIfInBounds_toArray, List.set_cons_zero, List.set_cons_succ]
                refine Ord.Till.step 13 (by kernel_rfl) rfl (fun C hC => ?_)
                go_simp
                have hk := (Below.refl y6.heap.size y6).alloc (Nat.le_refl _) (.cells #[] 39)
                have h13 := Cel.Own.lit0 39 5 y6 w5.heap.size bk.size
                have aT := apart_old hT 0 0
                replace hT := OwnI.below hT hk
                have a17 := apart_old h17 0 0
                replace h17 := Cel.Own.below h17 hk
                replace bk := bk.trans (hk.mono bk.size)
                replace hS := HS.out _ bk
                refine hC.out _ _ (fun _ => hS) ?_
                clear hC C hk
                try simp only [List.getElem_toArray, List.getElem_cons_zero, List.getElem_cons_succ, Act.put, List.setIfInBounds_toArray, List.set_cons_zero, List.set_cons_succ]
                generalize y6.alloc (.cells #[] 39) = y7 at *
                generalize Value.slice (some ⟨y6.heap.size, 0, none⟩) 0 0 = v13 at *
                refine Ord.Till.step 15 (by kernel_rfl) rfl (fun C hC => ?_)
                refine Cel.step_rd kU y7 w5.heap.size W.heap.size v13 0 [] h13 bk.size A n c (ucells xs) (HX5.out y7 bk).1.cel ucells_one (by omega) (by omega) (by kernel_rfl) (.tmp 70) (.tmp 71) rfl rfl rfl ?_
                intro v15 y8 h15 hk hf
                rw [Nat.zero_add, List.nil_append] at h15
                have hq := own_fr hT hf aT
                clear hT aT
                obtain ⟨hT, aT⟩ := hq
                have hq := cel_fr h17 hf a17
                clear h17 a17
                obtain ⟨h17, a17⟩ := hq
                replace bk := bk.trans hk
                replace hS := HS.out _ bk
                refine hC.out _ _ (fun _ => hS) ?_
                clear hC C hk hf h13
                try simp only [List.getElem_toArray, List.getElem_cons_zero, List.getElem_cons_succ, Act.put, List.setIfInBounds_toArray, List.set_cons_zero, List.set_cons_succ]
                refine Ord.Till.step 18 (by kernel_rfl) rfl (fun C hC => ?_)
                obtain ⟨A17, c17, rfl, hr17, _, _⟩ := Cel.Own.reads h17
                refine Cel.step_rd kU y8 w5.heap.size y8.heap.size v15 n _ h15 bk.size A17 1 c17 (ucells [x]) hr17 ucells_one (by omega) (by omega) (by kernel_rfl) (.tmp 72) (.tmp 74) rfl rfl rfl ?_
                intro v18 y9 h18 hk hf
                rw [← ucells_append] at h18
                have hq := own_fr hT hf aT
                clear hT aT
                obtain ⟨hT, aT⟩ := hq
                replace bk := bk.trans hk
                replace hS := HS.out _ bk
                refine hC.out _ _ (fun _ => hS) ?_
                clear hC C hk hf hr17 h17 h15
                try simp only [List.getElem_toArray, List.getElem_cons_zero, List.getElem_cons_succ, Act.put, List.setIfInBounds_toArray, List.set_cons_zero, List.set_cons_succ]
                obtain ⟨A18, c18, rfl, hr18, _, _⟩ := Cel.Own.reads h18
                refine Ord.Till.step 19 (by kernel_rfl) rfl (fun C hC => ?_)
                go_simp
                go_at_call 13
                refine (qof y9.heap.size A18 (n + 1) c18 (xs ++ [x]) T HOT.out y9 (rdu_of hr18) (Nat.le_refl _) (by omega)).mono ?_
                rintro e y10 ⟨vP, rfl, hO, hk⟩
                replace hT := OwnI.below hT hk
                replace bk := bk.trans (hk.mono bk.size)
                replace hS := HS.out _ bk
                go_wp2_with fail
                refine hC.out _ _ (fun _ => hS) ?_
                clear hC C hk hr18 h18
                try simp only [List.getElem_toArray, List.getElem_cons_zero, List.getElem_cons_succ, Act.put, List.setIfInBounds_toArray, List.set_cons_zero, List.set_cons_succ]
                refine Ord.Till.step 20 (by kernel_rfl) rfl (fun C hC => ?_)
                go_simp
                go_at_call 10
                refine (qsame T vT vP y10 hT.pl hO.pl (by omega)).mono ?_
                rintro e y11 ⟨rfl, hk⟩
                replace bk := bk.trans (hk.mono bk.size)
                replace hS := HS.out _ bk
                go_wp2_with fail
                refine hC.out _ _ (fun _ => hS) ?_
                clear hC C hk hO hT
                try simp only [List.getElem_toArray, List.getElem_cons_zero, List.getElem_cons_succ, Act.put, List.setIfInBounds_toArray, List.set_cons_zero, List.set_cons_succ]
                refine Ord.Till.take' 21 (some 78) (oi := _) (x := .bool true) rfl rfl (by kernel_rfl) (by kernel_rfl) (by kernel_rfl) (by kernel_rfl) (fun _ _ _ h => h) (by kernel_rfl) (fun v hv => by go_simp) hS ?_
                try simp only [List.getElem_toArray, List.getElem_cons_zero, List.getElem_cons_succ, Act.put, List.setIfInBounds_toArray, List.set_cons_zero, List.set_cons_succ]
                refine Ord.Till.take' 22 (some 4) (oi := _) (x := .bool true) rfl rfl (by kernel_rfl) (by kernel_rfl) (by kernel_rfl) (by kernel_rfl) (fun _ _ _ h => h) (by kernel_rfl) (fun v hv => by go_simp) hS ?_
                try simp only [List.getElem_toArray, List.getElem_cons_zero, List.getElem_cons_succ, Act.put, List.setIfInBounds_toArray, List.set_cons_zero, List.set_cons_succ]
                refine Ord.Till.done (by kernel_rfl) ?_ _
                go_wp2_with fail
                go_ret
                exact ⟨rfl, HB5.out y11 bk⟩
              · go_simp
                have hk := (Below.refl y5.heap.size y5).alloc (Nat.le_refl _) (.cells #[] 39)
                have h13 := Cel.Own.lit0 39 5 y5 w5.heap.size bk.size
                have aT := apart_old hT 0 0
                replace hT := OwnI.below hT hk
                have a17 := apart_old h17 0 0
                replace h17 := Cel.Own.below h17 hk
                replace bk := bk.trans (hk.mono bk.size)
                replace hS := HS.out _ bk
                refine hC.out _ _ (fun _ => hS) ?_
                clear hC C hk
                try simp only [List.getElem_toArray, List.getElem_cons_zero, List.getElem_cons_succ, Act.put, List.setIfInBounds_toArray, List.set_cons_zero, List.set_cons_succ]
                generalize y5.alloc (.cells #[] 39) = y6 at *
                generalize Value.slice (some ⟨y5.heap.size, 0, none⟩) 0 0 = v13 at *
                refine Ord.Till.step 12 (by kernel_rfl) rfl (fun C hC => ?_)
                go_simp
                go_at_call 11
                refine (state_any T vT _ _ y6 hT.pl).mono ?_
                rintro e y7 ⟨rfl, hk⟩
                replace hT := OwnI.below hT hk
                replace h13 := Cel.Own.below h13 hk
                replace h17 := Cel.Own.below h17 hk
                replace bk := bk.trans (hk.mono bk.size)
                replace hS := HS.out _ bk
                go_wp2_with fail
                refine hC.out _ _ (fun _ => hS) ?_
                clear hC C hk
                try simp only [List.getElem_toArray, List.getElem_cons_zero, List.getElem_cons_succ, Act.put, List.setIfInBounds_toArray, List.set_cons_zero, List.set_cons_succ]
                refine Ord.Till.step 15 (by kernel_rfl) rfl (fun C hC => ?_)
                refine Cel.step_rd kU y7 w5.heap.size W.heap.size v13 0 [] h13 bk.size A n c (ucells xs) (HX5.out y7 bk).1.cel ucells_one (by omega) (by omega) (by kernel_rfl) (.tmp 70) (.tmp 71) rfl rfl rfl ?_
                intro v15 y8 h15 hk hf
                rw [Nat.zero_add, List.nil_append] at h15
                have hq := own_fr hT hf aT
                clear hT aT
                obtain ⟨hT, aT⟩ := hq
                have hq := cel_fr h17 hf a17
                clear h17 a17
                obtain ⟨h17, a17⟩ := hq
                replace bk := bk.trans hk
                replace hS := HS.out _ bk
                refine hC.out _ _ (fun _ => hS) ?_
                clear hC C hk hf h13
                try simp only [List.getElem_toArray, List.getElem_cons_zero, List.getElem_cons_succ, Act.put, List.setIfInBounds_toArray, List.set_cons_zero, List.set_cons_succ]
                refine Ord.Till.step 18 (by kernel_rfl) rfl (fun C hC => ?_)
                obtain ⟨A17, c17, rfl, hr17, _, _⟩ := Cel.Own.reads h17
                refine Cel.step_rd kU y8 w5.heap.size y8.heap.size v15 n _ h15 bk.size A17 1 c17 (ucells [x]) hr17 ucells_one (by omega) (by omega) (by kernel_rfl) (.tmp 72) (.tmp 74) rfl rfl rfl ?_
                intro v18 y9 h18 hk hf
                rw [← ucells_append] at h18
                have hq := own_fr hT hf aT
                clear hT aT
                obtain ⟨hT, aT⟩ := hq
                replace bk := bk.trans hk
                replace hS := HS.out _ bk
                refine hC.out _ _ (fun _ => hS) ?_
                clear hC C hk hf hr17 h17 h15
                try simp only [List.getElem_toArray, List.getElem_cons_zero, List.getElem_cons_succ, Act.put, List.setIfInBounds_toArray, List.set_cons_zero, List.set_cons_succ]
                obtain ⟨A18, c18, rfl, hr18, _, _⟩ := Cel.Own.reads h18
                refine Ord.Till.step 19 (by kernel_rfl) rfl (fun C hC => ?_)
                go_simp
                go_at_call 13
                refine (qof y9.heap.size A18 (n + 1) c18 (xs ++ [x]) T HOT.out y9 (rdu_of hr18) (Nat.le_refl _) (by omega)).mono ?_
                rintro e y10 ⟨vP, rfl, hO, hk⟩
                replace hT := OwnI.below hT hk
                replace bk := bk.trans (hk.mono bk.size)
                replace hS := HS.out _ bk
                go_wp2_with fail
                refine hC.out _ _ (fun _ => hS) ?_
                clear hC C hk hr18 h18
                try simp only [List.getElem_toArray, List.getElem_cons_zero, List.getElem_cons_succ, Act.put, List.setIfInBounds_toArray, List.set_cons_zero, List.set_cons_succ]
                refine Ord.Till.step 20 (by kernel_rfl) rfl (fun C hC => ?_)
                go_simp
                go_at_call 10
                refine (qsame T vT vP y10 hT.pl hO.pl (by omega)).mono ?_
                rintro e y11 ⟨rfl, hk⟩
                replace bk := bk.trans (hk.mono bk.size)
                replace hS := HS.out _ bk
                go_wp2_with fail
                refine hC.out _ _ (fun _ => hS) ?_
                clear hC C hk hO hT
                try simp only [List.getElem_toArray, List.getElem_cons_zero, List.getElem_cons_succ, Act.put, List.setIfInBounds_toArray, List.set_cons_zero, List.set_cons_succ]
                refine Ord.Till.take' 21 (some 78) (oi := _) (x := .bool true) rfl rfl (by kernel_rfl) (by kernel_rfl) (by kernel_rfl) (by kernel_rfl) (fun _ _ _ h => h) (by kernel_rfl) (fun v hv => by go_simp) hS ?_
                try simp only [List.getElem_toArray, List.getElem_cons_zero, List.getElem_cons_succ, Act.put, List.setIfInBounds_toArray, List.set_cons_zero, List.set_cons_succ]
                refine Ord.Till.take' 22 (some 4) (oi := _) (x := .bool true) rfl rfl (by kernel_rfl) (by kernel_rfl) (by kernel_rfl) (by kernel_rfl) (fun _ _ _ h => h) (by kernel_rfl) (fun v hv => by go_simp) hS ?_
                try simp only [List.getElem_toArray, List.getElem_cons_zero, List.getElem_cons_succ, Act.put, List.setIfInBounds_toArray, List.set_cons_zero, List.set_cons_succ]
                refine Ord.Till.done (by kernel_rfl) ?_ _
                go_wp2_with fail
                go_ret
                exact ⟨rfl, HB5.out y11 bk⟩
          · go_simp
            have hk := (Below.refl y3.heap.size y3).alloc (Nat.le_refl _) (.cells #[] 39)
            have h13 := Cel.Own.lit0 39 5 y3 w5.heap.size bk.size
            replace bk := bk.trans (hk.mono bk.size)
            replace hS := HS.out _ bk
            refine hC.out _ _ (fun _ => hS) ?_
            clear hC C hk
            try simp only [List.getElem_toArray, List.getElem_cons_zero, List.getElem_cons_succ, Act.put, List.setIfInBounds_toArray, List.set_cons_zero, List.set_cons_succ]
            generalize y3.alloc (.cells #[] 39) = y4 at *
            generalize Value.slice (some ⟨y3.heap.size, 0, none⟩) 0 0 = v13 at *
            refine Ord.Till.two 11 17 (by kernel_rfl) rfl rfl (fun C hC => ?_) (fun C hC => ?_)
            · go_simp
              go_at_call 15
              refine (HM.out y4 bk).mono ?_
              rintro e y5 ⟨vT, rfl, hT, hk⟩
              have aT := apart_new hT h13
              replace h13 := Cel.Own.below h13 hk
              replace hT := OwnI.more hT bk.size
              replace bk := bk.trans (hk.mono bk.size)
              replace hS := HS.out _ bk
              go_wp2_with fail
              refine hC.out _ _ (fun _ => hS) ?_
              clear hC C hk
              try simp only [List.getElem_toArray, List.getElem_cons_zero, List.getElem_cons_succ, Act.put, List.setIfInBounds_toArray, List.set_cons_zero, List.set_cons_succ]
              refine Ord.Till.two 12 17 (by kernel_rfl) rfl rfl (fun C hC => ?_) (fun C hC => ?_)
              · go_simp
                go_at_call 11
                refine (state_any T vT _ _ y5 hT.pl).mono ?_
                rintro e y6 ⟨rfl, hk⟩
                replace hT := OwnI.below hT hk
                replace h13 := Cel.Own.below h13 hk
                replace bk := bk.trans (hk.mono bk.size)
                replace hS := HS.out _ bk
                go_wp2_with fail
                refine hC.out _ _ (fun _ => hS) ?_
                clear hC C hk
                try simp only [List.getElem_toArray, List.getElem_cons_zero, List.getElem_cons_succ, Act.put, List.setIfInBounds_toArray, List.set_cons_zero, List.set_cons_succ]
                refine Ord.Till.two 15 17 (by kernel_rfl) rfl rfl (fun C hC => ?_) (fun C hC => ?_)
                · refine Cel.step_rd kU y6 w5.heap.size W.heap.size v13 0 [] h13 bk.size A n c (ucells xs) (HX5.out y6 bk).1.cel ucells_one (by omega) (by omega) (by kernel_rfl) (.tmp 70) (.tmp 71) rfl rfl rfl ?_
                  intro v15 y7 h15 hk hf
                  rw [Nat.zero_add, List.nil_append] at h15
                  have hq := own_fr hT hf aT
                  clear hT aT
                  obtain ⟨hT, aT⟩ := hq
                  replace bk := bk.trans hk
                  replace hS := HS.out _ bk
                  refine hC.out _ _ (fun _ => hS) ?_
                  clear hC C hk hf h13
                  try simp only [List.getElem_toArray, List.getElem_cons_zero, List.getElem_cons_succ, Act.put, List.setIfInBounds_toArray, List.set_cons_zero, List.set_cons_succ]
                  refine Ord.Till.step 17 (by kernel_rfl) rfl (fun C hC => ?_)
                  go_simp
                  have hk := (Below.refl y7.heap.size y7).alloc (Nat.le_refl _) (.cells #[.string x.s.name, .int .i64 x.s.bind, .int .i64 x.s.size, .int .i64 x.s.align, .int .i64 x.u] 39)
                  have h17 := own_use y7 x y7.heap.size (Nat.le_refl _)
                  replace h15 := Cel.Own.below h15 hk
                  replace hT := OwnI.below hT hk
                  replace h17 := Cel.Own.more h17 bk.size
                  replace bk := bk.trans (hk.mono bk.size)
                  replace hS := HS.out _ bk
                  refine hC.out _ _ (fun _ => hS) ?_
                  clear hC C hk
                  try simp only [List.getElem_toArray, List.getElem_cons_zero, List.getElem_cons_succ, Act.put, List.setIfInBounds_toArray, List.set_cons_zero, List.set_cons_succ]
                  generalize y7.alloc (.cells #[.string x.s.name, .int .i64 x.s.bind, .int .i64 x.s.size, .int .i64 x.s.align, .int .i64 x.u] 39) = y8 at *
                  generalize Value.slice (some ⟨y7.heap.size, 0, none⟩) 1 1 = v17 at *
                  refine Ord.Till.step 18 (by kernel_rfl) rfl (fun C hC => ?_)
                  obtain ⟨A17, c17, rfl, hr17, _, _⟩ := Cel.Own.reads h17
                  refine Cel.step_rd kU y8 w5.heap.size y8.heap.size v15 n _ h15 bk.size A17 1 c17 (ucells [x]) hr17 ucells_one (by omega) (by omega) (by kernel_rfl) (.tmp 72) (.tmp 74) rfl rfl rfl ?_
                  intro v18 y9 h18 hk hf
                  rw [← ucells_append] at h18
                  have hq := own_fr hT hf aT
                  clear hT aT
                  obtain ⟨hT, aT⟩ := hq
                  replace bk := bk.trans hk
                  replace hS := HS.out _ bk
                  refine hC.out _ _ (fun _ => hS) ?_
                  clear hC C hk hf hr17 h17 h15
                  try simp only [List.getElem_toArray, List.getElem_cons_zero, List.getElem_cons_succ, Act.put, List.setIfInBounds_toArray, List.set_cons_zero, List.set_cons_succ]
                  obtain ⟨A18, c18, rfl, hr18, _, _⟩ := Cel.Own.reads h18
                  refine Ord.Till.step 19 (by kernel_rfl) rfl (fun C hC => ?_)
                  go_simp
                  go_at_call 13
                  refine (qof y9.heap.size A18 (n + 1) c18 (xs ++ [x]) T HOT.out y9 (rdu_of hr18) (Nat.le_refl _) (by omega)).mono ?_
                  rintro e y10 ⟨vP, rfl, hO, hk⟩
                  replace hT := OwnI.below hT hk
                  replace bk := bk.trans (hk.mono bk.size)
                  replace hS := HS.out _ bk
                  go_wp2_with fail
                  refine hC.out _ _ (fun _ => hS) ?_
                  clear hC C hk hr18 h18
                  try simp only [List.getElem_toArray, List.getElem_cons_zero, List.getElem_cons_succ, Act.put, List.setIfInBounds_toArray, List.set_cons_zero, List.set_cons_succ]
                  refine Ord.Till.step 20 (by kernel_rfl) rfl (fun C hC => ?_)
                  go_simp
                  go_at_call 10
                  refine (qsame T vT vP y10 hT.pl hO.pl (by omega)).mono ?_
                  rintro e y11 ⟨rfl, hk⟩
                  replace bk := bk.trans (hk.mono bk.size)
                  replace hS := HS.out _ bk
                  go_wp2_with fail
                  refine hC.out _ _ (fun _ => hS) ?_
                  clear hC C hk hO hT
                  try simp only [List.getElem_toArray, List.getElem_cons_zero, List.getElem_cons_succ, Act.put, List.setIfInBounds_toArray, List.set_cons_zero, List.set_cons_succ]
                  refine Ord.Till.take' 21 (some 78) (oi := _) (x := .bool true) rfl rfl (by kernel_rfl) (by kernel_rfl) (by kernel_rfl) (by kernel_rfl) (fun _ _ _ h => h) (by kernel_rfl) (fun v hv => by go_simp) hS ?_
                  try simp only [List.getElem_toArray, List.getElem_cons_zero, List.getElem_cons_succ, Act.put, List.setIfInBounds_toArray, List.set_cons_zero, List.set_cons_succ]
                  refine Ord.Till.take' 22 (some 4) (oi := _) (x := .bool true) rfl rfl (by kernel_rfl) (by kernel_rfl) (by kernel_rfl) (by kernel_rfl) (fun _ _ _ h => h) (by kernel_rfl) (fun v hv => by go_simp) hS ?_
                  try simp only [List.getElem_toArray, List.getElem_cons_zero, List.getElem_cons_succ, Act.put, List.setIfInBounds_toArray, List.set_cons_zero, List.set_cons_succ]
                  refine Ord.Till.done (by kernel_rfl) ?_ _
                  go_wp2_with fail
                  go_ret
                  exact ⟨rfl, HB5.out y11 bk⟩
                · go_simp
                  have hk := (Below.refl y6.heap.size y6).alloc (Nat.le_refl _) (.cells #[.string x.s.name, .int .i64 x.s.bind, .int .i64 x.s.size, .int .i64 x.s.align, .int .i64 x.u] 39)
                  have h17 := own_use y6 x y6.heap.size (Nat.le_refl _)
                  have a17 := apart_new h17 h13
                  replace h13 := Cel.Own.below h13 hk
                  replace hT := OwnI.below hT hk
                  replace h17 := Cel.Own.more h17 bk.size
                  replace bk := bk.trans (hk.mono bk.size)
                  replace hS := HS.out _ bk
                  refine hC.out _ _ (fun _ => hS) ?_
                  clear hC C hk
                  try simp only [List.getElem_toArray, List.getElem_cons_zero, List.getElem_cons_succ, Act.put, List.setIfInBounds_toArray, List.set_cons_zero, List.set_cons_succ]
                  generalize y6.alloc (.cells #[.string x.s.name, .int .i64 x.s.bind, .int .i64 x.s.size, .int .i64 x.s.align, .int .i64 x.u] 39) = y7 at *
                  generalize Value.slice (some ⟨y6.heap.size, 0, none⟩) 1 1 = v17 at *
                  refine Ord.Till.step 15 (by kernel_rfl) rfl (fun C hC => ?_)
                  refine Cel.step_rd kU y7 w5.heap.size W.heap.size v13 0 [] h13 bk.size A n c (ucells xs) (HX5.out y7 bk).1.cel ucells_one (by omega) (by omega) (by kernel_rfl) (.tmp 70) (.tmp 71) rfl rfl rfl ?_
                  intro v15 y8 h15 hk hf
                  rw [Nat.zero_add, List.nil_append] at h15
                  have hq := own_fr hT hf aT
                  clear hT aT
                  obtain ⟨hT, aT⟩ := hq
                  have hq := cel_fr h17 hf a17
                  clear h17 a17
                  obtain ⟨h17, a17⟩ := hq
                  replace bk := bk.trans hk
                  replace hS := HS.out _ bk
                  refine hC.out _ _ (fun _ => hS) ?_
                  clear hC C hk hf h13
                  try simp only [List.getElem_toArray, List.getElem_cons_zero, List.getElem_cons_succ, Act.put, List.setIfInBounds_toArray, List.set_cons_zero, List.set_cons_succ]
                  refine Ord.Till.step 18 (by kernel_rfl) rfl (fun C hC => ?_)
                  obtain ⟨A17, c17, rfl, hr17, _, _⟩ := Cel.Own.reads h17
                  refine Cel.step_rd kU y8 w5.heap.size y8.heap.size v15 n _ h15 bk.size A17 1 c17 (ucells [x]) hr17 ucells_one (by omega) (by omega) (by kernel_rfl) (.tmp 72) (.tmp 74) rfl rfl rfl ?_
                  intro v18 y9 h18 hk hf
                  rw [← ucells_append] at h18
                  have hq := own_fr hT hf aT
                  clear hT aT
                  obtain ⟨hT, aT⟩ := hq
                  replace bk := bk.trans hk
                  replace hS := HS.out _ bk
                  refine hC.out _ _ (fun _ => hS) ?_
                  clear hC C hk hf hr17 h17 h15
                  try simp only [List.getElem_toArray, List.getElem_cons_zero, List.getElem_cons_succ, Act.put, List.setIfInBounds_toArray, List.set_cons_zero, List.set_cons_succ]
                  obtain ⟨A18, c18, rfl, hr18, _, _⟩ := Cel.Own.reads h18
                  refine Ord.Till.step 19 (by kernel_rfl) rfl (fun C hC => ?_)
                  go_simp
                  go_at_call 13
                  refine (qof y9.heap.size A18 (n + 1) c18 (xs ++ [x]) T HOT.out y9 (rdu_of hr18) (Nat.le_refl _) (by omega)).mono ?_
                  rintro e y10 ⟨vP, rfl, hO, hk⟩
                  replace hT := OwnI.below hT hk
                  replace bk := bk.trans (hk.mono bk.size)
                  replace hS := HS.out _ bk
                  go_wp2_with fail
                  refine hC.out _ _ (fun _ => hS) ?_
                  clear hC C hk hr18 h18
                  try simp only [List.getElem_toArray, List.getElem_cons_zero, List.getElem_cons_succ, Act.put, List.setIfInBounds_toArray, List.set_cons_zero, List.set_cons_succ]
                  refine Ord.Till.step 20 (by kernel_rfl) rfl (fun C hC => ?_)
                  go_simp
                  go_at_call 10
                  refine (qsame T vT vP y10 hT.pl hO.pl (by omega)).mono ?_
                  rintro e y11 ⟨rfl, hk⟩
                  replace bk := bk.trans (hk.mono bk.size)
                  replace hS := HS.out _ bk
                  go_wp2_with fail
                  refine hC.out _ _ (fun _ => hS) ?_
                  clear hC C hk hO hT
                  try simp only [List.getElem_toArray, List.getElem_cons_zero, List.getElem_cons_succ, Act.put, List.setIfInBounds_toArray, List.set_cons_zero, List.set_cons_succ]
                  refine Ord.Till.take' 21 (some 78) (oi := _) (x := .bool true) rfl rfl (by kernel_rfl) (by kernel_rfl) (by kernel_rfl) (by kernel_rfl) (fun _ _ _ h => h) (by kernel_rfl) (fun v hv => by go_simp) hS ?_
                  try simp only [List.getElem_toArray, List.getElem_cons_zero, List.getElem_cons_succ, Act.put, List.setIfInBounds_toArray, List.set_cons_zero, List.set_cons_succ]
                  refine Ord.Till.take' 22 (some 4) (oi := _) (x := .bool true) rfl rfl (by kernel_rfl) (by kernel_rfl) (by kernel_rfl) (by kernel_rfl) (fun _ _ _ h => h) (by kernel_rfl) (fun v hv => by go_simp) hS ?_
                  try simp only [List.getElem_toArray, List.getElem_cons_zero, List.getElem_cons_succ, Act.put, List.setIfInBounds_toArray, List.set_cons_zero, List.set_cons_succ]
                  refine Ord.Till.done (by kernel_rfl) ?_ _
                  go_wp2_with fail
                  go_ret
                  exact ⟨rfl, HB5.out y11 bk⟩
              · go_simp
                have hk := (Below.refl y5.heap.size y5).alloc (Nat.le_refl _) (.cells #[.string x.s.name, .int .i64 x.s.bind, .int .i64 x.s.size, .int .i64 x.s.align, .int .i64 x.u] 39)
                have h17 := own_use y5 x y5.heap.size (Nat.le_refl _)
                have a17 := apart_new h17 h13
                replace h13 := Cel.Own.below h13 hk
                replace hT := OwnI.below hT hk
                replace h17 := Cel.Own.more h17 bk.size
                replace bk := bk.trans (hk.mono bk.size)
                replace hS := HS.out _ bk
                refine hC.out _ _ (fun _ => hS) ?_
                clear hC C hk
                try simp only [List.getElem_toArray, List.getElem_cons_zero, List.getElem_cons_succ, Act.put, List.setIfInBounds_toArray, List.set_cons_zero, List.set_cons_succ]
                generalize y5.alloc (.cells #[.string x.s.name, .int .i64 x.s.bind, .int .i64 x.s.size, .int .i64 x.s.align, .int .i64 x.u] 39) = y6 at *
                generalize Value.slice (some ⟨y5.heap.size, 0, none⟩) 1 1 = v17 at *
                refine Ord.Till.step 12 (by kernel_rfl) rfl (fun C hC => ?_)
                go_simp
                go_at_call 11
                refine (state_any T vT _ _ y6 hT.pl).mono ?_
                rintro e y7 ⟨rfl, hk⟩
                replace hT := OwnI.below hT hk
                replace h13 := Cel.Own.below h13 hk
                replace h17 := Cel.Own.below h17 hk
                replace bk := bk.trans (hk.mono bk.size)
                replace hS := HS.out _ bk
                go_wp2_with fail
                refine hC.out _ _ (fun _ => hS) ?_
                clear hC C hk
                try simp only [List.getElem_toArray, List.getElem_cons_zero, List.getElem_cons_succ, Act.put, List.setIfInBounds_toArray, List.set_cons_zero, List.set_cons_succ]
                refine Ord.Till.step 15 (by kernel_rfl) rfl (fun C hC => ?_)
                refine Cel.step_rd kU y7 w5.heap.size W.heap.size v13 0 [] h13 bk.size A n c (ucells xs) (HX5.out y7 bk).1.cel ucells_one (by omega) (by omega) (by kernel_rfl) (.tmp 70) (.tmp 71) rfl rfl rfl ?_
                intro v15 y8 h15 hk hf
                rw [Nat.zero_add, List.nil_append] at h15
                have hq := own_fr hT hf aT
                clear hT aT
                obtain ⟨hT, aT⟩ := hq
                have hq := cel_fr h17 hf a17
                clear h17 a17
                obtain ⟨h17, a17⟩ := hq
                replace bk := bk.trans hk
                replace hS := HS.out _ bk
                refine hC.out _ _ (fun _ => hS) ?_
                clear hC C hk hf h13
                try simp only [List.getElem_toArray, List.getElem_cons_zero, List.getElem_cons_succ, Act.put, List.setIfInBounds_toArray, List.set_cons_zero, List.set_cons_succ]
                refine Ord.Till.step 18 (by kernel_rfl) rfl (fun C hC => ?_)
                obtain ⟨A17, c17, rfl, hr17, _, _⟩ := Cel.Own.reads h17
                refine Cel.step_rd kU y8 w5.heap.size y8.heap.size v15 n _ h15 bk.size A17 1 c17 (ucells [x]) hr17 ucells_one (by omega) (by omega) (by kernel_rfl) (.tmp 72) (.tmp 74) rfl rfl rfl ?_
                intro v18 y9 h18 hk hf
                rw [← ucells_append] at h18
                have hq := own_fr hT hf aT
                clear hT aT
                obtain ⟨hT, aT⟩ := hq
                replace bk := bk.trans hk
                replace hS := HS.out _ bk
                refine hC.out _ _ (fun _ => hS) ?_
                clear hC C hk hf hr17 h17 h15
                try simp only [List.getElem_toArray, List.getElem_cons_zero, List.getElem_cons_succ, Act.put, List.setIfInBounds_toArray, List.set_cons_zero, List.set_cons_succ]
                obtain ⟨A18, c18, rfl, hr18, _, _⟩ := Cel.Own.reads h18
                refine Ord.Till.step 19 (by kernel_rfl) rfl (fun C hC => ?_)
                go_simp
                go_at_call 13
                refine (qof y9.heap.size A18 (n + 1) c18 (xs ++ [x]) T HOT.out y9 (rdu_of hr18) (Nat.le_refl _) (by omega)).mono ?_
                rintro e y10 ⟨vP, rfl, hO, hk⟩
                replace hT := OwnI.below hT hk
                replace bk := bk.trans (hk.mono bk.size)
                replace hS := HS.out _ bk
                go_wp2_with fail
                refine hC.out _ _ (fun _ => hS) ?_
                clear hC C hk hr18 h18
                try simp only [List.getElem_toArray, List.getElem_cons_zero, List.getElem_cons_succ, Act.put, List.setIfInBounds_toArray, List.set_cons_zero, List.set_cons_succ]
                refine Ord.Till.step 20 (by kernel_rfl) rfl (fun C hC => ?_)
                go_simp
                go_at_call 10
                refine (qsame T vT vP y10 hT.pl hO.pl (by omega)).mono ?_
                rintro e y11 ⟨rfl, hk⟩
                replace bk := bk.trans (hk.mono bk.size)
                replace hS := HS.out _ bk
                go_wp2_with fail
                refine hC.out _ _ (fun _ => hS) ?_
                clear hC C hk hO hT
                try simp only [List.getElem_toArray, List.getElem_cons_zero, List.getElem_cons_succ, Act.put, List.setIfInBounds_toArray, List.set_cons_zero, List.set_cons_succ]
                refine Ord.Till.take' 21 (some 78) (oi := _) (x := .bool true) rfl rfl (by kernel_rfl) (by kernel_rfl) (by kernel_rfl) (by kernel_rfl) (fun _ _ _ h => h) (by kernel_rfl) (fun v hv => by go_simp) hS ?_
                try simp only [List.getElem_toArray, List.getElem_cons_zero, List.getElem_cons_succ, Act.put, List.setIfInBounds_toArray, List.set_cons_zero, List.set_cons_succ]
                refine Ord.Till.take' 22 (some 4) (oi := _) (x := .bool true) rfl rfl (by kernel_rfl) (by kernel_rfl) (by kernel_rfl) (by kernel_rfl) (fun _ _ _ h => h) (by kernel_rfl) (fun v hv => by go_simp) hS ?_
                try simp only [List.getElem_toArray, List.getElem_cons_zero, List.getElem_cons_succ, Act.put, List.setIfInBounds_toArray, List.set_cons_zero, List.set_cons_succ]
                refine Ord.Till.done (by kernel_rfl) ?_ _
                go_wp2_with fail
                go_ret
                exact ⟨rfl, HB5.out y11 bk⟩
            · go_simp
              have hk := (Below.refl y4.heap.size y4).alloc (Nat.le_refl _) (.cells #[.string x.s.name, .int .i64 x.s.bind, .int .i64 x.s.size, .int .i64 x.s.align, .int .i64 x.u] 39)
              have h17 := own_use y4 x y4.heap.size (Nat.le_refl _)
              have a17 := apart_new h17 h13
              replace h13 := Cel.Own.below h13 hk
              replace h17 := Cel.Own.more h17 bk.size
              replace bk := bk.trans (hk.mono bk.size)
              replace hS := HS.out _ bk
              refine hC.out _ _ (fun _ => hS) ?_
              clear hC C hk
              try simp only [List.getElem_toArray, List.getElem_cons_zero, List.getElem_cons_succ, Act.put, List.setIfInBounds_toArray, List.set_cons_zero, List.set_cons_succ]
              generalize y4.alloc (.cells #[.string x.s.name, .int .i64 x.s.bind, .int .i64 x.s.size, .int .i64 x.s.align, .int .i64 x.u] 39) = y5 at *
              generalize Value.slice (some ⟨y4.heap.size, 0, none⟩) 1 1 = v17 at *
              refine Ord.Till.step 11 (by kernel_rfl) rfl (fun C hC => ?_)
              go_simp
              go_at_call 15
              refine (HM.out y5 bk).mono ?_
              rintro e y6 ⟨vT, rfl, hT, hk⟩
              have aT := apart_new hT h13
              replace h13 := Cel.Own.below h13 hk
              replace h17 := Cel.Own.below h17 hk
              replace hT := OwnI.more hT bk.size
              replace bk := bk.trans (hk.mono bk.size)
              replace hS := HS.out _ bk
              go_wp2_with fail
              refine hC.out _ _ (fun _ => hS) ?_
              clear hC C hk
              try simp only [List.getElem_toArray, List.getElem_cons_zero, List.getElem_cons_succ, Act.put, List.setIfInBounds_toArray, List.set_cons_zero, List.set_cons_succ]
              refine Ord.Till.step 12 (by kernel_rfl) rfl (fun C hC => ?_)
              go_simp
              go_at_call 11
              refine (state_any T vT _ _ y6 hT.pl).mono ?_
              rintro e y7 ⟨rfl, hk⟩
              replace hT := OwnI.below hT hk
              replace h13 := Cel.Own.below h13 hk
              replace h17 := Cel.Own.below h17 hk
              replace bk := bk.trans (hk.mono bk.size)
              replace hS := HS.out _ bk
              go_wp2_with fail
              refine hC.out _ _ (fun _ => hS) ?_
              clear hC C hk
              try simp only [List.getElem_toArray, List.getElem_cons_zero, List.getElem_cons_succ, Act.put, List.setIfInBounds_toArray, List.set_cons_zero, List.set_cons_succ]
              refine Ord.Till.step 15 (by kernel_rfl) rfl (fun C hC => ?_)
              refine Cel.step_rd kU y7 w5.heap.size W.heap.size v13 0 [] h13 bk.size A n c (ucells xs) (HX5.out y7 bk).1.cel ucells_one (by omega) (by omega) (by kernel_rfl) (.tmp 70) (.tmp 71) rfl rfl rfl ?_
              intro v15 y8 h15 hk hf
              rw [Nat.zero_add, List.nil_append] at h15
              have hq := own_fr hT hf aT
              clear hT aT
              obtain ⟨hT, aT⟩ := hq
              have hq := cel_fr h17 hf a17
              clear h17 a17
              obtain ⟨h17, a17⟩ := hq
              replace bk := bk.trans hk
              replace hS := HS.out _ bk
              refine hC.out _ _ (fun _ => hS) ?_
              clear hC C hk hf h13
              try simp only [List.getElem_toArray, List.getElem_cons_zero, List.getElem_cons_succ, Act.put, List.setIfInBounds_toArray, List.set_cons_zero, List.set_cons_succ]
              refine Ord.Till.step 18 (by kernel_rfl) rfl (fun C hC => ?_)
              obtain ⟨A17, c17, rfl, hr17, _, _⟩ := Cel.Own.reads h17
              refine Cel.step_rd kU y8 w5.heap.size y8.heap.size v15 n _ h15 bk.size A17 1 c17 (ucells [x]) hr17 ucells_one (by omega) (by omega) (by kernel_rfl) (.tmp 72) (.tmp 74) rfl rfl rfl ?_
              intro v18 y9 h18 hk hf
              rw [← ucells_append] at h18
              have hq := own_fr hT hf aT
              clear hT aT
              obtain ⟨hT, aT⟩ := hq
              replace bk := bk.trans hk
              replace hS := HS.out _ bk
              refine hC.out _ _ (fun _ => hS) ?_
              clear hC C hk hf hr17 h17 h15
              try simp only [List.getElem_toArray, List.getElem_cons_zero, List.getElem_cons_succ, Act.put, List.setIfInBounds_toArray, List.set_cons_zero, List.set_cons_succ]
              obtain ⟨A18, c18, rfl, hr18, _, _⟩ := Cel.Own.reads h18
              refine Ord.Till.step 19 (by kernel_rfl) rfl (fun C hC => ?_)
              go_simp
              go_at_call 13
              refine (qof y9.heap.size A18 (n + 1) c18 (xs ++ [x]) T HOT.out y9 (rdu_of hr18) (Nat.le_refl _) (by omega)).mono ?_
              rintro e y10 ⟨vP, rfl, hO, hk⟩
              replace hT := OwnI.below hT hk
              replace bk := bk.trans (hk.mono bk.size)
              replace hS := HS.out _ bk
              go_wp2_with fail
              refine hC.out _ _ (fun _ => hS) ?_
              clear hC C hk hr18 h18
              try simp only [List.getElem_toArray, List.getElem_cons_zero, List.getElem_cons_succ, Act.put, List.setIfInBounds_toArray, List.set_cons_zero, List.set_cons_succ]
              refine Ord.Till.step 20 (by kernel_rfl) rfl (fun C hC => ?_)
              go_simp
              go_at_call 10
              refine (qsame T vT vP y10 hT.pl hO.pl (by omega)).mono ?_
              rintro e y11 ⟨rfl, hk⟩
              replace bk := bk.trans (hk.mono bk.size)
              replace hS := HS.out _ bk
              go_wp2_with fail
              refine hC.out _ _ (fun _ => hS) ?_
              clear hC C hk hO hT
              try simp only [List.getElem_toArray, List.getElem_cons_zero, List.getElem_cons_succ, Act.put, List.setIfInBounds_toArray, List.set_cons_zero, List.set_cons_succ]
              refine Ord.Till.take' 21 (some 78) (oi := _) (x := .bool true) rfl rfl (by kernel_rfl) (by kernel_rfl) (by kernel_rfl) (by kernel_rfl) (fun _ _ _ h => h) (by kernel_rfl) (fun v hv => by go_simp) hS ?_
              try simp only [List.getElem_toArray, List.getElem_cons_zero, List.getElem_cons_succ, Act.put, List.setIfInBounds_toArray, List.set_cons_zero, List.set_cons_succ]
              refine Ord.Till.take' 22 (some 4) (oi := _) (x := .bool true) rfl rfl (by kernel_rfl) (by kernel_rfl) (by kernel_rfl) (by kernel_rfl) (fun _ _ _ h => h) (by kernel_rfl) (fun v hv => by go_simp) hS ?_
              try simp only [List.getElem_toArray, List.getElem_cons_zero, List.getElem_cons_succ, Act.put, List.setIfInBounds_toArray, List.set_cons_zero, List.set_cons_succ]
              refine Ord.Till.done (by kernel_rfl) ?_ _
              go_wp2_with fail
              go_ret
              exact ⟨rfl, HB5.out y11 bk⟩
          · go_simp
            have hk := (Below.refl y3.heap.size y3).alloc (Nat.le_refl _) (.cells #[.string x.s.name, .int .i64 x.s.bind, .int .i64 x.s.size, .int .i64 x.s.align, .int .i64 x.u] 39)
            have h17 := own_use y3 x y3.heap.size (Nat.le_refl _)
            replace h17 := Cel.Own.more h17 bk.size
            replace bk := bk.trans (hk.mono bk.size)
            replace hS := HS.out _ bk
            refine hC.out _ _ (fun _ => hS) ?_
            clear hC C hk
            try simp only [List.getElem_toArray, List.getElem_cons_zero, List.getElem_cons_succ, Act.put, List.setIfInBounds_toArray, List.set_cons_zero, List.set_cons_succ]
            generalize y3.alloc (.cells #[.string x.s.name, .int .i64 x.s.bind, .int .i64 x.s.size, .int .i64 x.s.align, .int .i64 x.u] 39) = y4 at *
            generalize Value.slice (some ⟨y3.heap.size, 0, none⟩) 1 1 = v17 at *
            refine Ord.Till.two 11 13 (by kernel_rfl) rfl rfl (fun C hC => ?_) (fun C hC => ?_)
            · go_simp
              go_at_call 15
              refine (HM.out y4 bk).mono ?_
              rintro e y5 ⟨vT, rfl, hT, hk⟩
              replace h17 := Cel.Own.below h17 hk
              replace hT := OwnI.more hT bk.size
              replace bk := bk.trans (hk.mono bk.size)
              replace hS := HS.out _ bk
              go_wp2_with fail
              refine hC.out _ _ (fun _ => hS) ?_
              clear hC C hk
              try simp only [List.getElem_toArray, List.getElem_cons_zero, List.getElem_cons_succ, Act.put, List.setIfInBounds_toArray, List.set_cons_zero, List.set_cons_succ]
              refine Ord.Till.two 12 13 (by kernel_rfl) rfl rfl (fun C hC => ?_) (fun C hC => ?_)
              · go_simp
                go_at_call 11
                refine (state_any T vT _ _ y5 hT.pl).mono ?_
                rintro e y6 ⟨rfl, hk⟩
                replace hT := OwnI.below hT hk
                replace h17 := Cel.Own.below h17 hk
                replace bk := bk.trans (hk.mono bk.size)
                replace hS := HS.out _ bk
                go_wp2_with fail
                refine hC.out _ _ (fun _ => hS) ?_
                clear hC C hk
                try simp only [List.getElem_toArray, List.getElem_cons_zero, List.getElem_cons_succ, Act.put, List.setIfInBounds_toArray, List.set_cons_zero, List.set_cons_succ]
                refine Ord.Till.step 13 (by kernel_rfl) rfl (fun C hC => ?_)
                go_simp
                have hk := (Below.refl y6.heap.size y6).alloc (Nat.le_refl _) (.cells #[] 39)
                have h13 := Cel.Own.lit0 39 5 y6 w5.heap.size bk.size
                have aT := apart_old hT 0 0
                replace hT := OwnI.below hT hk
                have a17 := apart_old h17 0 0
                replace h17 := Cel.Own.below h17 hk
                replace bk := bk.trans (hk.mono bk.size)
                replace hS := HS.out _ bk
                refine hC.out _ _ (fun _ => hS) ?_
                clear hC C hk
                try simp only [List.getElem_toArray, List.getElem_cons_zero, List.getElem_cons_succ, Act.put, List.setIfInBounds_toArray, List.set_cons_zero, List.set_cons_succ]
                generalize y6.alloc (.cells #[] 39) = y7 at *
                generalize Value.slice (some ⟨y6.heap.size, 0, none⟩) 0 0 = v13 at *
                refine Ord.Till.step 15 (by kernel_rfl) rfl (fun C hC => ?_)
                refine Cel.step_rd kU y7 w5.heap.size W.heap.size v13 0 [] h13 bk.size A n c (ucells xs) (HX5.out y7 bk).1.cel ucells_one (by omega) (by omega) (by kernel_rfl) (.tmp 70) (.tmp 71) rfl rfl rfl ?_
                intro v15 y8 h15 hk hf
                rw [Nat.zero_add, List.nil_append] at h15
                have hq := own_fr hT hf aT
                clear hT aT
                obtain ⟨hT, aT⟩ := hq
                have hq := cel_fr h17 hf a17
                clear h17 a17
                obtain ⟨h17, a17⟩ := hq
                replace bk := bk.trans hk
                replace hS := HS.out _ bk
                refine hC.out _ _ (fun _ => hS) ?_
                clear hC C hk hf h13
                try simp only [List.getElem_toArray, List.getElem_cons_zero, List.getElem_cons_succ, Act.put, List.setIfInBounds_toArray, List.set_cons_zero, List.set_cons_succ]
                refine Ord.Till.step 18 (by kernel_rfl) rfl (fun C hC => ?_)
                obtain ⟨A17, c17, rfl, hr17, _, _⟩ := Cel.Own.reads h17
                refine Cel.step_rd kU y8 w5.heap.size y8.heap.size v15 n _ h15 bk.size A17 1 c17 (ucells [x]) hr17 ucells_one (by omega) (by omega) (by kernel_rfl) (.tmp 72) (.tmp 74) rfl rfl rfl ?_
                intro v18 y9 h18 hk hf
                rw [← ucells_append] at h18
                have hq := own_fr hT hf aT
                clear hT aT
                obtain ⟨hT, aT⟩ := hq
                replace bk := bk.trans hk
                replace hS := HS.out _ bk
                refine hC.out _ _ (fun _ => hS) ?_
                clear hC C hk hf hr17 h17 h15
                try simp only [List.getElem_toArray, List.getElem_cons_zero, List.getElem_cons_succ, Act.put, List.setIfInBounds_toArray, List.set_cons_zero, List.set_cons_succ]
                obtain ⟨A18, c18, rfl, hr18, _, _⟩ := Cel.Own.reads h18
                refine Ord.Till.step 19 (by kernel_rfl) rfl (fun C hC => ?_)
                go_simp
                go_at_call 13
                refine (qof y9.heap.size A18 (n + 1) c18 (xs ++ [x]) T HOT.out y9 (rdu_of hr18) (Nat.le_refl _) (by omega)).mono ?_
                rintro e y10 ⟨vP, rfl, hO, hk⟩
                replace hT := OwnI.below hT hk
                replace bk := bk.trans (hk.mono bk.size)
                replace hS := HS.out _ bk
                go_wp2_with fail
                refine hC.out _ _ (fun _ => hS) ?_
                clear hC C hk hr18 h18
                try simp only [List.getElem_toArray, List.getElem_cons_zero, List.getElem_cons_succ, Act.put, List.setIfInBounds_toArray, List.set_cons_zero, List.set_cons_succ]
                refine Ord.Till.step 20 (by kernel_rfl) rfl (fun C hC => ?_)
                go_simp
                go_at_call 10
                refine (qsame T vT vP y10 hT.pl hO.pl (by omega)).mono ?_
                rintro e y11 ⟨rfl, hk⟩
                replace bk := bk.trans (hk.mono bk.size)
                replace hS := HS.out _ bk
                go_wp2_with fail
                refine hC.out _ _ (fun _ => hS) ?_
                clear hC C hk hO hT
                try simp only [List.getElem_toArray, List.getElem_cons_zero, List.getElem_cons_succ, Act.put, List.setIfInBounds_toArray, List.set_cons_zero, List.set_cons_succ]
                refine Ord.Till.take' 21 (some 78) (oi := _) (x := .bool true) rfl rfl (by kernel_rfl) (by kernel_rfl) (by kernel_rfl) (by kernel_rfl) (fun _ _ _ h => h) (by kernel_rfl) (fun v hv => by go_simp) hS ?_
                try simp only [List.getElem_toArray, List.getElem_cons_zero, List.getElem_cons_succ, Act.put, List.setIfInBounds_toArray, List.set_cons_zero, List.set_cons_succ]
                refine Ord.Till.take' 22 (some 4) (oi := _) (x := .bool true) rfl rfl (by kernel_rfl) (by kernel_rfl) (by kernel_rfl) (by kernel_rfl) (fun _ _ _ h => h) (by kernel_rfl) (fun v hv => by go_simp) hS ?_
                try simp only [List.getElem_toArray, List.getElem_cons_zero, List.getElem_cons_succ, Act.put, List.setIfInBounds_toArray, List.set_cons_zero, List.set_cons_succ]
                refine Ord.Till.done (by kernel_rfl) ?_ _
                go_wp2_with fail
                go_ret
                exact ⟨rfl, HB5.out y11 bk⟩
              · go_simp
                have hk := (Below.refl y5.heap.size y5).alloc (Nat.le_refl _) (.cells #[] 39)
                have h13 := Cel.Own.lit0 39 5 y5 w5.heap.size bk.size
                have aT := apart_old hT 0 0
                replace hT := OwnI.below hT hk
                have a17 := apart_old h17 0 0
                replace h17 := Cel.Own.below h17 hk
                replace bk := bk.trans (hk.mono bk.size)
                replace hS := HS.out _ bk
                refine hC.out _ _ (fun _ => hS) ?_
                clear hC C hk
                try simp only [List.getElem_toArray, List.getElem_cons_zero, List.getElem_cons_succ, Act.put, List.setIfInBounds_toArray, List.set_cons_zero, List.set_cons_succ]
                generalize y5.alloc (.cells #[] 39) = y6 at *
                generalize Value.slice (some ⟨y5.heap.size, 0, none⟩) 0 0 = v13 at *
                refine Ord.Till.step 12 (by kernel_rfl) rfl (fun C hC => ?_)
                go_simp
                go_at_call 11
                refine (state_any T vT _ _ y6 hT.pl).mono ?_
                rintro e y7 ⟨rfl, hk⟩
                replace hT := OwnI.below hT hk
                replace h13 := Cel.Own.below h13 hk
                replace h17 := Cel.Own.below h17 hk
                replace bk := bk.trans (hk.mono bk.size)
                replace hS := HS.out _ bk
                go_wp2_with fail
                refine hC.out _ _ (fun _ => hS) ?_
                clear hC C hk
                try simp only [List.getElem_toArray, List.getElem_cons_zero, List.getElem_cons_succ, Act.put, List.setIfInBounds_toArray, List.set_cons_zero, List.set_cons_succ]
                refine Ord.Till.step 15 (by kernel_rfl) rfl (fun C hC => ?_)
                refine Cel.step_rd kU y7 w5.heap.size W.heap.size v13 0 [] h13 bk.size A n c (ucells xs) (HX5.out y7 bk).1.cel ucells_one (by omega) (by omega) (by kernel_rfl) (.tmp 70) (.tmp 71) rfl rfl rfl ?_
                intro v15 y8 h15 hk hf
                rw [Nat.zero_add, List.nil_append] at h15
                have hq := own_fr hT hf aT
                clear hT aT
                obtain ⟨hT, aT⟩ := hq
                have hq := cel_fr h17 hf a17
                clear h17 a17
                obtain ⟨h17, a17⟩ := hq
                replace bk := bk.trans hk
                replace hS := HS.out _ bk
                refine hC.out _ _ (fun _ => hS) ?_
                clear hC C hk hf h13
                try simp only [List.getElem_toArray, List.getElem_cons_zero, List.getElem_cons_succ, Act.put, List.setIfInBounds_toArray, List.set_cons_zero, List.set_cons_succ]
                refine Ord.Till.step 18 (by kernel_rfl) rfl (fun C hC => ?_)
                obtain ⟨A17, c17, rfl, hr17, _, _⟩ := Cel.Own.reads h17
                refine Cel.step_rd kU y8 w5.heap.size y8.heap.size v15 n _ h15 bk.size A17 1 c17 (ucells [x]) hr17 ucells_one (by omega) (by omega) (by kernel_rfl) (.tmp 72) (.tmp 74) rfl rfl rfl ?_
                intro v18 y9 h18 hk hf
                rw [← ucells_append] at h18
                have hq := own_fr hT hf aT
                clear hT aT
                obtain ⟨hT, aT⟩ := hq
                replace bk := bk.trans hk
                replace hS := HS.out _ bk
                refine hC.out _ _ (fun _ => hS) ?_
                clear hC C hk hf hr17 h17 h15
                try simp only [List.getElem_toArray, List.getElem_cons_zero, List.getElem_cons_succ, Act.put, List.setIfInBounds_toArray, List.set_cons_zero, List.set_cons_succ]
                obtain ⟨A18, c18, rfl, hr18, _, _⟩ := Cel.Own.reads h18
                refine Ord.Till.step 19 (by kernel_rfl) rfl (fun C hC => ?_)
                go_simp
                go_at_call 13
                refine (qof y9.heap.size A18 (n + 1) c18 (xs ++ [x]) T HOT.out y9 (rdu_of hr18) (Nat.le_refl _) (by omega)).mono ?_
                rintro e y10 ⟨vP, rfl, hO, hk⟩
                replace hT := OwnI.below hT hk
                replace bk := bk.trans (hk.mono bk.size)
                replace hS := HS.out _ bk
                go_wp2_with fail
                refine hC.out _ _ (fun _ => hS) ?_
                clear hC C hk hr18 h18
                try simp only [List.getElem_toArray, List.getElem_cons_zero, List.getElem_cons_succ, Act.put, List.setIfInBounds_toArray, List.set_cons_zero, List.set_cons_succ]
                refine Ord.Till.step 20 (by kernel_rfl) rfl (fun C hC => ?_)
                go_simp
                go_at_call 10
                refine (qsame T vT vP y10 hT.pl hO.pl (by omega)).mono ?_
                rintro e y11 ⟨rfl, hk⟩
                replace bk := bk.trans (hk.mono bk.size)
                replace hS := HS.out _ bk
                go_wp2_with fail
                refine hC.out _ _ (fun _ => hS) ?_
                clear hC C hk hO hT
                try simp only [List.getElem_toArray, List.getElem_cons_zero, List.getElem_cons_succ, Act.put, List.setIfInBounds_toArray, List.set_cons_zero, List.set_cons_succ]
                refine Ord.Till.take' 21 (some 78) (oi := _) (x := .bool true) rfl rfl (by kernel_rfl) (by kernel_rfl) (by kernel_rfl) (by kernel_rfl) (fun _ _ _ h => h) (by kernel_rfl) (fun v hv => by go_simp) hS ?_
                try simp only [List.getElem_toArray, List.getElem_cons_zero, List.getElem_cons_succ, Act.put, List.setIfInBounds_toArray, List.set_cons_zero, List.set_cons_succ]
                refine Ord.Till.take' 22 (some 4) (oi := _) (x := .bool true) rfl rfl (by kernel_rfl) (by kernel_rfl) (by kernel_rfl) (by kernel_rfl) (fun _ _ _ h => h) (by kernel_rfl) (fun v hv => by go_simp) hS ?_
                try simp only [List.getElem_toArray, List.getElem_cons_zero, List.getElem_cons_succ, Act.put, List.setIfInBounds_toArray, List.set_cons_zero, List.set_cons_succ]
                refine Ord.Till.done (by kernel_rfl) ?_ _
                go_wp2_with fail
                go_ret
                exact ⟨rfl, HB5.out y11 bk⟩
            · go_simp
              have hk := (Below.refl y4.heap.size y4).alloc (Nat.le_refl _) (.cells #[] 39)
              have h13 := Cel.Own.lit0 39 5 y4 w5.heap.size bk.size
              have a17 := apart_old h17 0 0
              replace h17 := Cel.Own.below h17 hk
              replace bk := bk.trans (hk.mono bk.size)
              replace hS := HS.out _ bk
              refine hC.out _ _ (fun _ => hS) ?_
              clear hC C hk
              try simp only [List.getElem_toArray, List.getElem_cons_zero, List.getElem_cons_succ, Act.put, List.setIfInBounds_toArray, List.set_cons_zero, List.set_cons_succ]
              generalize y4.alloc (.cells #[] 39) = y5 at *
              generalize Value.slice (some ⟨y4.heap.size, 0, none⟩) 0 0 = v13 at *
              refine Ord.Till.step 11 (by kernel_rfl) rfl (fun C hC => ?_)
              go_simp
              go_at_call 15
              refine (HM.out y5 bk).mono ?_
              rintro e y6 ⟨vT, rfl, hT, hk⟩
              have aT := apart_new hT h13
              replace h13 := Cel.Own.below h13 hk
              replace h17 := Cel.Own.below h17 hk
              replace hT := OwnI.more hT bk.size
              replace bk := bk.trans (hk.mono bk.size)
              replace hS := HS.out _ bk
              go_wp2_with fail
              refine hC.out _ _ (fun _ => hS) ?_
              clear hC C hk
              try simp only [List.getElem_toArray, List.getElem_cons_zero, List.getElem_cons_succ, Act.put, List.setIfInBounds_toArray, List.set_cons_zero, List.set_cons_succ]
              refine Ord.Till.step 12 (by kernel_rfl) rfl (fun C hC => ?_)
              go_simp
              go_at_call 11
              refine (state_any T vT _ _ y6 hT.pl).mono ?_
              rintro e y7 ⟨rfl, hk⟩
              replace hT := OwnI.below hT hk
              replace h13 := Cel.Own.below h13 hk
              replace h17 := Cel.Own.below h17 hk
              replace bk := bk.trans (hk.mono bk.size)
              replace hS := HS.out _ bk
              go_wp2_with fail
              refine hC.out _ _ (fun _ => hS) ?_
              clear hC C hk
              try simp only [List.getElem_toArray, List.getElem_cons_zero, List.getElem_cons_succ, Act.put, List.setIfInBounds_toArray, List.set_cons_zero, List.set_cons_succ]
              refine Ord.Till.step 15 (by kernel_rfl) rfl (fun C hC => ?_)
              refine Cel.step_rd kU y7 w5.heap.size W.heap.size v13 0 [] h13 bk.size A n c (ucells xs) (HX5.out y7 bk).1.cel ucells_one (by omega) (by omega) (by kernel_rfl) (.tmp 70) (.tmp 71) rfl rfl rfl ?_
              intro v15 y8 h15 hk hf
              rw [Nat.zero_add, List.nil_append] at h15
              have hq := own_fr hT hf aT
              clear hT aT
              obtain ⟨hT, aT⟩ := hq
              have hq := cel_fr h17 hf a17
              clear h17 a17
              obtain ⟨h17, a17⟩ := hq
              replace bk := bk.trans hk
              replace hS := HS.out _ bk
              refine hC.out _ _ (fun _ => hS) ?_
              clear hC C hk hf h13
              try simp only [List.getElem_toArray, List.getElem_cons_zero, List.getElem_cons_succ, Act.put, List.setIfInBounds_toArray, List.set_cons_zero, List.set_cons_succ]
              refine Ord.Till.step 18 (by kernel_rfl) rfl (fun C hC => ?_)
              obtain ⟨A17, c17, rfl, hr17, _, _⟩ := Cel.Own.reads h17
              refine Cel.step_rd kU y8 w5.heap.size y8.heap.size v15 n _ h15 bk.size A17 1 c17 (ucells [x]) hr17 ucells_one (by omega) (by omega) (by kernel_rfl) (.tmp 72) (.tmp 74) rfl rfl rfl ?_
              intro v18 y9 h18 hk hf
              rw [← ucells_append] at h18
              have hq := own_fr hT hf aT
              clear hT aT
              obtain ⟨hT, aT⟩ := hq
              replace bk := bk.trans hk
              replace hS := HS.out _ bk
              refine hC.out _ _ (fun _ => hS) ?_
              clear hC C hk hf hr17 h17 h15
              try simp only [List.getElem_toArray, List.getElem_cons_zero, List.getElem_cons_succ, Act.put, List.setIfInBounds_toArray, List.set_cons_zero, List.set_cons_succ]
              obtain ⟨A18, c18, rfl, hr18, _, _⟩ := Cel.Own.reads h18
              refine Ord.Till.step 19 (by kernel_rfl) rfl (fun C hC => ?_)
              go_simp
              go_at_call 13
              refine (qof y9.heap.size A18 (n + 1) c18 (xs ++ [x]) T HOT.out y9 (rdu_of hr18) (Nat.le_refl _) (by omega)).mono ?_
              rintro e y10 ⟨vP, rfl, hO, hk⟩
              replace hT := OwnI.below hT hk
              replace bk := bk.trans (hk.mono bk.size)
              replace hS := HS.out _ bk
              go_wp2_with fail
              refine hC.out _ _ (fun _ => hS) ?_
              clear hC C hk hr18 h18
              try simp only [List.getElem_toArray, List.getElem_cons_zero, List.getElem_cons_succ, Act.put, List.setIfInBounds_toArray, List.set_cons_zero, List.set_cons_succ]
              refine Ord.Till.step 20 (by kernel_rfl) rfl (fun C hC => ?_)
              go_simp
              go_at_call 10
              refine (qsame T vT vP y10 hT.pl hO.pl (by omega)).mono ?_
              rintro e y11 ⟨rfl, hk⟩
              replace bk := bk.trans (hk.mono bk.size)
              replace hS := HS.out _ bk
              go_wp2_with fail
              refine hC.out _ _ (fun _ => hS) ?_
              clear hC C hk hO hT
              try simp only [List.getElem_toArray, List.getElem_cons_zero, List.getElem_cons_succ, Act.put, List.setIfInBounds_toArray, List.set_cons_zero, List.set_cons_succ]
              refine Ord.Till.take' 21 (some 78) (oi := _) (x := .bool true) rfl rfl (by kernel_rfl) (by kernel_rfl) (by kernel_rfl) (by kernel_rfl) (fun _ _ _ h => h) (by kernel_rfl) (fun v hv => by go_simp) hS ?_
              try simp only [List.getElem_toArray, List.getElem_cons_zero, List.getElem_cons_succ, Act.put, List.setIfInBounds_toArray, List.set_cons_zero, List.set_cons_succ]
              refine Ord.Till.take' 22 (some 4) (oi := _) (x := .bool true) rfl rfl (by kernel_rfl) (by kernel_rfl) (by kernel_rfl) (by kernel_rfl) (fun _ _ _ h => h) (by kernel_rfl) (fun v hv => by go_simp) hS ?_
              try simp only [List.getElem_toArray, List.getElem_cons_zero, List.getElem_cons_succ, Act.put, List.setIfInBounds_toArray, List.set_cons_zero, List.set_cons_succ]
              refine Ord.Till.done (by kernel_rfl) ?_ _
              go_wp2_with fail
              go_ret
              exact ⟨rfl, HB5.out y11 bk⟩
end Go.Proofs.YtechacnflegliaaDoor.Bnd
