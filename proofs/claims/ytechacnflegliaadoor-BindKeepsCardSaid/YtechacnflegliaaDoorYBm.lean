/-
  bind's laws: awake.
-/
import Derived.Test.YtechacnflegliaaDoorYBl
namespace Go.Proofs.YtechacnflegliaaDoor.Bnd
open Go.RowKit Go.Proofs Go.Proofs.YtechacnflegliaaDoor.Byt
open Go.Proofs.YtechacnflegliaaDoor.Obj (Sy)
open Go.Proofs.YtechacnflegliaaDoor.Arp (RdI)

/-- A guarded operation that is wanted is walked as one without guard. -/
theorem unguard {P : Program} {ops : Array Oper} {rest : List Oper} {o : Oper} {a : Act} {w : World} {Q : Exit → Act → World → Prop} (hw : Region.wanted o (yielded ops a.tmps) = true)
    (h : wpList P ops Q ({ o with guard := none } :: rest) a w) : wpList P ops Q (o :: rest) a w := by
  unfold wpList at h ⊢
  rw [if_pos hw]
  rw [if_pos (by simp [Region.wanted])] at h
  cases o
  exact h
theorem mrg (s : St) (v : Value) (x : Us) (t : St) (ht : joi s (sgl x) = t) (w : World) (hP : Prec w) (hs : Pl w w.heap.size v s.strongs) (hl : s.strongs.length ≤ 100000) (h1 : 1 ≤ x.s.bind) (h5 : x.s.bind ≤ 5) :
    Calls Tryd.prog 15 #[.agg #[.int .i64 s.bind, .int .i64 s.size, .int .i64 s.align, .int .i64 s.unit, .bool s.dfd, .bool s.sr, .bool s.wr, v], .agg #[.string x.s.name, .int .i64 x.s.bind, .int .i64 x.s.size, .int .i64 x.s.align], .int .i64 x.u] w (StP t w) := by
  subst ht
  exact merge_any w.heap.size s v x w hP hs (Nat.le_refl _) hl h1 h5
theorem pl_zero (w : World) (K : Nat) (A : Option Addr) (c : Nat) (hc : c ≤ maxLen) : Pl w K (.slice A 0 c) [] := ⟨A, 0, c, rfl, Arp.RdI.nil _ _ _, Nat.zero_le _, hc⟩
theorem qstate (s : St) (A : Option Addr) (n c : Nat) (w : World) :
    Calls Tryd.prog 11 #[.agg (row s (.slice A n c))] w fun e w' => e = .returned (s.val (.slice A n c)) ∧ Below w.heap.size w w' :=
  state_sl s A n c w
theorem qsame (s : St) (va vb : Value) (w : World) (ha : Pl w w.heap.size va s.strongs) (hb : Pl w w.heap.size vb s.strongs) (hn : s.strongs.length ≤ 1000000) :
    Calls Tryd.prog 10 #[.agg (row s va), .agg (row s vb)] w fun e w' => e = .returned (.bool true) ∧ Below w.heap.size w w' := same13_eq s va vb w ha hb hn
theorem qwant (s : St) (v : Value) (b : Bool) (hb : wantd s = b) (w : World) :
    Calls Tryd.prog 17 #[.agg (row s v)] w fun e w' => e = .returned (.bool b) ∧ Below w.heap.size w w' := hb ▸ wanted_any s v w
theorem qundef (s : St) (v : Value) (b : Bool) (hb : undfd s = b) (w : World) :
    Calls Tryd.prog 18 #[.agg (row s v)] w fun e w' => e = .returned (.bool b) ∧ Below w.heap.size w w' := hb ▸ undef_any s v w
theorem qdup (s : St) (v : Value) (b : Bool) (hb : dupl s = b) (w : World) (hs : Pl w w.heap.size v s.strongs) :
    Calls Tryd.prog 16 #[.agg (row s v)] w fun e w' => e = .returned (.bool b) ∧ Below w.heap.size w w' := hb ▸ dup_any s v _ w hs
theorem qjoin (s t j : St) (hj : joi s t = j) (v u : Value) (w : World) (hP : Prec w) (hs : Pl w w.heap.size v s.strongs) (ht : Pl w w.heap.size u t.strongs) (h1 : s.strongs.length ≤ 100000) (h2 : t.strongs.length ≤ 100000) :
    Calls Tryd.prog 12 #[.agg (row s v), .agg (row t u)] w (StP j w) := hj ▸ join_any w.heap.size s t v u w hP hs ht (Nat.le_refl _) h1 h2
set_option linter.unusedSimpArgs false in
set_option maxRecDepth 100000 in
set_option maxHeartbeats 8000000 in
theorem awake_any (w : World) (hP : Prec w) :
    Calls Tryd.prog 7 #[] w fun e w' => e = .returned (.bool true) ∧ Below w.heap.size w w' := by
  have HE := hid (fun (V : World) => empty_any V)
  unfold St.val emp at HE
  simp only [row] at HE
  go_enter Tryd.func7, Tryd.ntmps7
  go_upto_region 2 with (first | (go_at_call 14; refine (HE.out _).mono ?_; rintro e w1 ⟨rfl, hb1⟩; have hP1 := hP.on hb1) | (go_at_call 15; refine (mrg ⟨0, 0, 0, (-1), false, false, false, []⟩ (.slice none 0 0) ⟨⟨⟨#[120]⟩, 2, 9, 0⟩, 0⟩ ⟨2, 9, 0, 0, true, false, false, []⟩ rfl _ (hP1) (Pl.nil _ _) (by decide) (by decide) (by decide)).mono ?_; rintro e w2 ⟨v1, rfl, ho1, hb2⟩; obtain ⟨A1, n1, c1, rfl, hr1, _, hc⟩ := ho1.pl; obtain rfl : n1 = 0 := hr1.1.symm; clear ho1 hr1; simp only [St.val, row]))
  have hb12 := hb1.trans (hb2.mono hb1.size)
  have hq := (hb12).alloc (hb12).size (.cells #[.int .i64 2, .int .i64 9, .int .i64 0, .int .i64 0, .bool true, .bool false, .bool false, .slice A1 0 c1] 27)
  have hn := heap_alloc_new w2 (.cells #[.int .i64 2, .int .i64 9, .int .i64 0, .int .i64 0, .bool true, .bool false, .bool false, .slice A1 0 c1] 27)
  have hz := World.size_alloc w2 (.cells #[.int .i64 2, .int .i64 9, .int .i64 0, .int .i64 0, .bool true, .bool false, .bool false, .slice A1 0 c1] 27)
  have hx := (Below.refl w2.heap.size w2).alloc (Nat.le_refl _) (.cells #[.int .i64 2, .int .i64 9, .int .i64 0, .int .i64 0, .bool true, .bool false, .bool false, .slice A1 0 c1] 27)
  generalize w2.alloc (.cells #[.int .i64 2, .int .i64 9, .int .i64 0, .int .i64 0, .bool true, .bool false, .bool false, .slice A1 0 c1] 27) = V1 at *
  obtain ⟨u1, hu⟩ : ∃ u, w2.heap.size = u := ⟨_, rfl⟩
  rw [hu] at hn hz
  rw [hu]
  have HU1 : Hid (w.heap.size ≤ u1) := hid (by rw [← hu]; exact hb12.size)
  have HB1 := hid hq
  have HR1 := hid hn
  have hz1 : V1.heap.size = u1 + 1 := hz
  have HC1 := hid hc
  have HZ1 : Hid (u1 + 1 ≤ V1.heap.size) := hid (by omega)
  have HP1 := hid (hP.on hq)
  clear hx hc hq hn hz hb12 hb1 hb2 hP1 hu hz1
  have hr := HR1.out
  go_wp2_with (refine ldS rfl _ rfl u1 rfl _ hr rfl ?_)
  refine (mrg ⟨2, 9, 0, 0, true, false, false, []⟩ (.slice A1 0 c1) ⟨⟨⟨#[120]⟩, 3, 4, 4⟩, 1⟩ ⟨3, 4, 4, 1, true, false, false, []⟩ rfl _ (HP1.out) (pl_zero _ _ _ _ (HC1.out)) (by decide) (by decide) (by decide)).mono ?_
  rintro e w2 ⟨v1, rfl, ho1, hb2⟩
  rename_i hK
  obtain ⟨A2, n1, c2, rfl, hr1, hnc, hc⟩ := ho1.pl
  obtain rfl : n1 = 0 := hr1.1.symm
  clear ho1 hr1 hnc
  simp only [St.val, row]
  have hr2 := (hb2.block u1 (by have := HZ1.out; omega)).trans hr
  refine hK _ _ ?_
  clear hK
  refine stS rfl _ _ rfl u1 _ rfl rfl _ hr2 rfl rfl (row_one (s := ⟨_, _, _, _, _, _, _, []⟩) rfl) ?_
  go_upto_region 3 with fail
  have hq := below_setRow' (HB1.out.trans (hb2.mono HB1.out.size)) HU1.out #[.int .i64 3, .int .i64 4, .int .i64 4, .int .i64 1, .bool true, .bool false, .bool false, .slice A2 0 c2]
  have hn := setRow_heap _ _ _ #[.int .i64 3, .int .i64 4, .int .i64 4, .int .i64 1, .bool true, .bool false, .bool false, .slice A2 0 c2] _ _ hr2
  have hz : (w2.setRow u1 #[.int .i64 3, .int .i64 4, .int .i64 4, .int .i64 1, .bool true, .bool false, .bool false, .slice A2 0 c2]).heap.size = w2.heap.size := setRow_size _ _ _
  generalize w2.setRow u1 #[.int .i64 3, .int .i64 4, .int .i64 4, .int .i64 1, .bool true, .bool false, .bool false, .slice A2 0 c2] = V2 at *
  have HB2 := hid hq
  have HR2 := hid hn
  have HZ2 : Hid (u1 + 1 ≤ V2.heap.size) := hid (by have := HZ1.out; have := hb2.size; omega)
  have HP2 := hid (hP.on hq)
  have HC2 := hid hc
  clear hc hq hn hz hb2 hr hr2 HB1 HR1 HP1
  have hr := HR2.out
  go_wp2_with (refine ldS rfl _ rfl u1 rfl _ hr rfl ?_)
  refine (mrg ⟨3, 4, 4, 1, true, false, false, []⟩ (.slice A2 0 c2) ⟨⟨⟨#[120]⟩, 3, 2, 8⟩, 2⟩ ⟨3, 4, 8, 1, true, false, false, []⟩ rfl _ (HP2.out) (pl_zero _ _ _ _ (HC2.out)) (by decide) (by decide) (by decide)).mono ?_
  rintro e w2 ⟨v1, rfl, ho1, hb2⟩
  rename_i hK
  obtain ⟨A3, n1, c3, rfl, hr1, hnc, hc⟩ := ho1.pl
  obtain rfl : n1 = 0 := hr1.1.symm
  clear ho1 hr1 hnc
  simp only [St.val, row]
  have hr2 := (hb2.block u1 (by have := HZ2.out; omega)).trans hr
  refine hK _ _ ?_
  clear hK
  refine stS rfl _ _ rfl u1 _ rfl rfl _ hr2 rfl rfl (row_one (s := ⟨_, _, _, _, _, _, _, []⟩) rfl) ?_
  go_upto_region 4 with fail
  have hq := below_setRow' (HB2.out.trans (hb2.mono HB2.out.size)) HU1.out #[.int .i64 3, .int .i64 4, .int .i64 8, .int .i64 1, .bool true, .bool false, .bool false, .slice A3 0 c3]
  have hn := setRow_heap _ _ _ #[.int .i64 3, .int .i64 4, .int .i64 8, .int .i64 1, .bool true, .bool false, .bool false, .slice A3 0 c3] _ _ hr2
  have hz : (w2.setRow u1 #[.int .i64 3, .int .i64 4, .int .i64 8, .int .i64 1, .bool true, .bool false, .bool false, .slice A3 0 c3]).heap.size = w2.heap.size := setRow_size _ _ _
  generalize w2.setRow u1 #[.int .i64 3, .int .i64 4, .int .i64 8, .int .i64 1, .bool true, .bool false, .bool false, .slice A3 0 c3] = V3 at *
  have HB3 := hid hq
  have HR3 := hid hn
  have HZ3 : Hid (u1 + 1 ≤ V3.heap.size) := hid (by have := HZ2.out; have := hb2.size; omega)
  have HP3 := hid (hP.on hq)
  have HC3 := hid hc
  clear hc hq hn hz hb2 hr hr2 HB2 HR2 HP2
  have hr := HR3.out
  go_upto_region 5 with (first | (refine ldS rfl _ rfl u1 rfl _ hr rfl ?_) | (go_at_call 15; refine (mrg ⟨3, 4, 8, 1, true, false, false, []⟩ (.slice A3 0 c3) ⟨⟨⟨#[120]⟩, 1, 3, 0⟩, 5⟩ ⟨1, 3, 0, 5, true, false, false, [5]⟩ rfl _ (HP3.out) (pl_zero _ _ _ _ HC3.out) (by decide) (by decide) (by decide)).mono ?_; rintro e w2 ⟨v1, rfl, ho1, hb2⟩; obtain ⟨A4, n1, c4, rfl, hr1, hn4, hc⟩ := ho1.pl; obtain rfl : n1 = 1 := hr1.1.symm; have hr2 := (hb2.block u1 (by have := HZ3.out; omega)).trans hr; clear ho1; simp only [St.val, row]))
  have hb12 := HB3.out.trans (hb2.mono HB3.out.size)
  have hq := (hb12).alloc (hb12).size (.cells #[.int .i64 1, .int .i64 3, .int .i64 0, .int .i64 5, .bool true, .bool false, .bool false, .slice A4 1 c4] 27)
  have hn := heap_alloc_new w2 (.cells #[.int .i64 1, .int .i64 3, .int .i64 0, .int .i64 5, .bool true, .bool false, .bool false, .slice A4 1 c4] 27)
  have hz := World.size_alloc w2 (.cells #[.int .i64 1, .int .i64 3, .int .i64 0, .int .i64 5, .bool true, .bool false, .bool false, .slice A4 1 c4] 27)
  have hx := (Below.refl w2.heap.size w2).alloc (Nat.le_refl _) (.cells #[.int .i64 1, .int .i64 3, .int .i64 0, .int .i64 5, .bool true, .bool false, .bool false, .slice A4 1 c4] 27)
  generalize w2.alloc (.cells #[.int .i64 1, .int .i64 3, .int .i64 0, .int .i64 5, .bool true, .bool false, .bool false, .slice A4 1 c4] 27) = V4 at *
  obtain ⟨u2, hu⟩ : ∃ u, w2.heap.size = u := ⟨_, rfl⟩
  rw [hu] at hn hz
  rw [hu]
  have hlt : u1 < u2 := by have := HZ3.out; have := hb2.size; omega
  have HR4 : Hid (V4.heap[u1]? = some (.cells #[.int .i64 3, .int .i64 4, .int .i64 8, .int .i64 1, .bool true, .bool false, .bool false, .slice A3 0 c3] 27 (0, 0))) := hid ((hx.block u1 (by omega)).trans hr2)
  have HL4 : Hid (RdI V4 V4.heap.size A4 1 [5]) := hid ((hr1.below hx).more (by omega))
  have HN4 := hid hn4
  clear hn4
  have HT4 := hid hn
  have HB4 := hid hq
  have HP4 := hid (hP.on hq)
  have HC4 := hid hc
  have HZ4 : Hid (V4.heap.size = u2 + 1) := hid hz
  clear hx hc hq hn hz hb2 hb12 hr hr2 hr1 HB3 HR3 HP3 hu
  go_upto_region 6 with (first | (go_at_call 14; refine (HE.out _).mono ?_; rintro e w1 ⟨rfl, hb1⟩; have hP1 := HP4.out.on hb1) | (go_at_call 15; refine (mrg ⟨0, 0, 0, (-1), false, false, false, []⟩ (.slice none 0 0) ⟨⟨⟨#[120]⟩, 4, 0, 0⟩, 0⟩ ⟨0, 0, 0, (-1), false, true, false, []⟩ rfl _ (hP1) (Pl.nil _ _) (by decide) (by decide) (by decide)).mono ?_; rintro e w2 ⟨v1, rfl, ho1, hb2⟩; obtain ⟨A6, n1, c6, rfl, hr1, _, hc⟩ := ho1.pl; obtain rfl : n1 = 0 := hr1.1.symm; clear ho1 hr1; simp only [St.val, row]))
  have hb42 := hb1.trans (hb2.mono hb1.size)
  have hb12 := HB4.out.trans (hb42.mono HB4.out.size)
  have hq := (hb12).alloc (hb12).size (.cells #[.int .i64 0, .int .i64 0, .int .i64 0, .int .i64 (-1), .bool false, .bool true, .bool false, .slice A6 0 c6] 27)
  have hn := heap_alloc_new w2 (.cells #[.int .i64 0, .int .i64 0, .int .i64 0, .int .i64 (-1), .bool false, .bool true, .bool false, .slice A6 0 c6] 27)
  have hz := World.size_alloc w2 (.cells #[.int .i64 0, .int .i64 0, .int .i64 0, .int .i64 (-1), .bool false, .bool true, .bool false, .slice A6 0 c6] 27)
  have hx := (Below.refl w2.heap.size w2).alloc (Nat.le_refl _) (.cells #[.int .i64 0, .int .i64 0, .int .i64 0, .int .i64 (-1), .bool false, .bool true, .bool false, .slice A6 0 c6] 27)
  generalize w2.alloc (.cells #[.int .i64 0, .int .i64 0, .int .i64 0, .int .i64 (-1), .bool false, .bool true, .bool false, .slice A6 0 c6] 27) = V5 at *
  obtain ⟨u3, hu⟩ : ∃ u, w2.heap.size = u := ⟨_, rfl⟩
  rw [hu] at hn hz
  rw [hu]
  have hb5 : Below V4.heap.size V4 V5 := hb42.trans (hx.mono hb42.size)
  have hlt3 : u2 < u3 := by have := HZ4.out; have := hb42.size; omega
  have HB5 := hid hq
  have HP5 := hid (hP.on hq)
  have HC6 := hid hc
  have HZ5 : Hid (V5.heap.size = u3 + 1) := hid hz
  have HS := hid (fun (V : World) (h : Below V5.heap.size V5 V) => (⟨(h.block u1 (by omega)).trans ((hb5.block u1 (by have := HZ4.out; omega)).trans HR4.out), (h.block u2 (by omega)).trans ((hb5.block u2 (by have := HZ4.out; omega)).trans HT4.out), (h.block u3 (by omega)).trans hn⟩ : V.heap[u1]? = some (.cells #[.int .i64 3, .int .i64 4, .int .i64 8, .int .i64 1, .bool true, .bool false, .bool false, .slice A3 0 c3] 27 (0, 0)) ∧ V.heap[u2]? = some (.cells #[.int .i64 1, .int .i64 3, .int .i64 0, .int .i64 5, .bool true, .bool false, .bool false, .slice A4 1 c4] 27 (0, 0)) ∧ V.heap[u3]? = some (.cells #[.int .i64 0, .int .i64 0, .int .i64 0, .int .i64 (-1), .bool false, .bool true, .bool false, .slice A6 0 c6] 27 (0, 0))))
  have HL := hid (fun (V : World) (h : Below V5.heap.size V5 V) => (((HL4.out.below hb5).more hb5.size).below h).more h.size)
  have b5 : Below V5.heap.size V5 V5 := Below.refl _ _
  clear hx hc hq hn hz hb1 hb2 hb12 hb42 hP1 hu hb5 HR4 HT4 HL4 HB4 HP4 HZ4
  have hs := HS.out _ b5
  go_wp2_with (first | (refine ldS rfl _ rfl u1 rfl _ hs.1 rfl ?_) | (refine unguard (by kernel_rfl) ?_; first | (refine ldS rfl _ rfl u1 rfl _ hs.1 rfl ?_) | (refine ldS rfl _ rfl u2 rfl _ hs.2.1 rfl ?_) | (refine ldS rfl _ rfl u3 rfl _ hs.2.2 rfl ?_)))
  refine (qstate ⟨3, 4, 8, 1, true, false, false, []⟩ A3 0 c3 _).mono ?_
  rintro e y6 ⟨rfl, q6⟩
  simp only [St.val, row]
  have b6 := b5.trans (q6.mono b5.size)
  clear q6 b5 hs
  have hs := HS.out _ b6
  go_wp2_with (first | (refine ldS rfl _ rfl u1 rfl _ hs.1 rfl ?_) | (refine unguard (by kernel_rfl) ?_; first | (refine ldS rfl _ rfl u1 rfl _ hs.1 rfl ?_) | (refine ldS rfl _ rfl u2 rfl _ hs.2.1 rfl ?_) | (refine ldS rfl _ rfl u3 rfl _ hs.2.2 rfl ?_)))
  refine (qsame ⟨3, 4, 8, 1, true, false, false, []⟩ _ _ _ (pl_zero _ _ _ _ HC3.out) (Pl.nil _ _) (by decide)).mono ?_
  rintro e y7 ⟨rfl, q7⟩
  have b7 := b6.trans (q7.mono b6.size)
  clear q7 b6 hs
  have hs := HS.out _ b7
  go_wp2_with (first | (refine ldS rfl _ rfl u1 rfl _ hs.1 rfl ?_) | (refine unguard (by kernel_rfl) ?_; first | (refine ldS rfl _ rfl u1 rfl _ hs.1 rfl ?_) | (refine ldS rfl _ rfl u2 rfl _ hs.2.1 rfl ?_) | (refine ldS rfl _ rfl u3 rfl _ hs.2.2 rfl ?_)))
  refine (qstate ⟨1, 3, 0, 5, true, false, false, [5]⟩ A4 1 c4 _).mono ?_
  rintro e y8 ⟨rfl, q8⟩
  simp only [St.val, row]
  have b8 := b7.trans (q8.mono b7.size)
  clear q8 b7 hs
  have hs := HS.out _ b8
  go_wp2_with (first | (refine ldS rfl _ rfl u1 rfl _ hs.1 rfl ?_) | (refine unguard (by kernel_rfl) ?_; first | (refine ldS rfl _ rfl u1 rfl _ hs.1 rfl ?_) | (refine ldS rfl _ rfl u2 rfl _ hs.2.1 rfl ?_) | (refine ldS rfl _ rfl u3 rfl _ hs.2.2 rfl ?_)))
  have bA := b8.alloc b8.size (.cells #[.int .i64 5] 3)
  refine (qsame ⟨1, 3, 0, 5, true, false, false, [5]⟩ _ _ (y8.alloc (.cells #[.int .i64 5] 3)) ⟨A4, 1, c4, rfl, HL.out _ bA, HN4.out, HC4.out⟩ (own_one (n := 5) y8.heap.size (Nat.le_refl _)).pl (by decide)).mono ?_
  rintro e y9 ⟨rfl, q9⟩
  have b9 := bA.trans (q9.mono bA.size)
  clear q9 b8 hs bA
  have hs := HS.out _ b9
  go_wp2_with (first | (refine ldS rfl _ rfl u1 rfl _ hs.1 rfl ?_) | (refine unguard (by kernel_rfl) ?_; first | (refine ldS rfl _ rfl u1 rfl _ hs.1 rfl ?_) | (refine ldS rfl _ rfl u2 rfl _ hs.2.1 rfl ?_) | (refine ldS rfl _ rfl u3 rfl _ hs.2.2 rfl ?_)))
  refine (HE.out _).mono ?_
  rintro e y10 ⟨rfl, q10⟩
  have b10 := b9.trans (q10.mono b9.size)
  clear q10 b9 hs
  have hs := HS.out _ b10
  go_wp2_with (first | (refine ldS rfl _ rfl u1 rfl _ hs.1 rfl ?_) | (refine unguard (by kernel_rfl) ?_; first | (refine ldS rfl _ rfl u1 rfl _ hs.1 rfl ?_) | (refine ldS rfl _ rfl u2 rfl _ hs.2.1 rfl ?_) | (refine ldS rfl _ rfl u3 rfl _ hs.2.2 rfl ?_)))
  refine (qstate ⟨0, 0, 0, (-1), false, false, false, []⟩ none 0 0 _).mono ?_
  rintro e y11 ⟨rfl, q11⟩
  simp only [St.val, row]
  have b11 := b10.trans (q11.mono b10.size)
  clear q11 b10 hs
  have hs := HS.out _ b11
  go_wp2_with (first | (refine ldS rfl _ rfl u1 rfl _ hs.1 rfl ?_) | (refine unguard (by kernel_rfl) ?_; first | (refine ldS rfl _ rfl u1 rfl _ hs.1 rfl ?_) | (refine ldS rfl _ rfl u2 rfl _ hs.2.1 rfl ?_) | (refine ldS rfl _ rfl u3 rfl _ hs.2.2 rfl ?_)))
  refine (qsame ⟨0, 0, 0, (-1), false, false, false, []⟩ _ _ _ (Pl.nil _ _) (Pl.nil _ _) (by decide)).mono ?_
  rintro e y12 ⟨rfl, q12⟩
  have b12 := b11.trans (q12.mono b11.size)
  clear q12 b11 hs
  have hs := HS.out _ b12
  go_wp2_with (first | (refine ldS rfl _ rfl u1 rfl _ hs.1 rfl ?_) | (refine unguard (by kernel_rfl) ?_; first | (refine ldS rfl _ rfl u1 rfl _ hs.1 rfl ?_) | (refine ldS rfl _ rfl u2 rfl _ hs.2.1 rfl ?_) | (refine ldS rfl _ rfl u3 rfl _ hs.2.2 rfl ?_)))
  refine (qwant ⟨0, 0, 0, (-1), false, true, false, []⟩ _ true rfl _).mono ?_
  rintro e y13 ⟨rfl, q13⟩
  have b13 := b12.trans (q13.mono b12.size)
  clear q13 b12 hs
  have hs := HS.out _ b13
  go_wp2_with (first | (refine ldS rfl _ rfl u1 rfl _ hs.1 rfl ?_) | (refine unguard (by kernel_rfl) ?_; first | (refine ldS rfl _ rfl u1 rfl _ hs.1 rfl ?_) | (refine ldS rfl _ rfl u2 rfl _ hs.2.1 rfl ?_) | (refine ldS rfl _ rfl u3 rfl _ hs.2.2 rfl ?_)))
  refine (qundef ⟨0, 0, 0, (-1), false, true, false, []⟩ _ true rfl _).mono ?_
  rintro e y14 ⟨rfl, q14⟩
  have b14 := b13.trans (q14.mono b13.size)
  clear q14 b13 hs
  have hs := HS.out _ b14
  go_wp2_with (first | (refine ldS rfl _ rfl u1 rfl _ hs.1 rfl ?_) | (refine unguard (by kernel_rfl) ?_; first | (refine ldS rfl _ rfl u1 rfl _ hs.1 rfl ?_) | (refine ldS rfl _ rfl u2 rfl _ hs.2.1 rfl ?_) | (refine ldS rfl _ rfl u3 rfl _ hs.2.2 rfl ?_)))
  refine (qwant ⟨3, 4, 8, 1, true, false, false, []⟩ _ false rfl _).mono ?_
  rintro e y15 ⟨rfl, q15⟩
  have b15 := b14.trans (q15.mono b14.size)
  clear q15 b14 hs
  have hs := HS.out _ b15
  go_wp2_with (first | (refine ldS rfl _ rfl u1 rfl _ hs.1 rfl ?_) | (refine unguard (by kernel_rfl) ?_; first | (refine ldS rfl _ rfl u1 rfl _ hs.1 rfl ?_) | (refine ldS rfl _ rfl u2 rfl _ hs.2.1 rfl ?_) | (refine ldS rfl _ rfl u3 rfl _ hs.2.2 rfl ?_)))
  refine (qdup ⟨1, 3, 0, 5, true, false, false, [5]⟩ _ false rfl _ ⟨A4, 1, c4, rfl, HL.out _ b15, HN4.out, HC4.out⟩).mono ?_
  rintro e y16 ⟨rfl, q16⟩
  have b16 := b15.trans (q16.mono b15.size)
  clear q16 b15 hs
  have hs := HS.out _ b16
  go_wp2_with (first | (refine ldS rfl _ rfl u1 rfl _ hs.1 rfl ?_) | (refine unguard (by kernel_rfl) ?_; first | (refine ldS rfl _ rfl u1 rfl _ hs.1 rfl ?_) | (refine ldS rfl _ rfl u2 rfl _ hs.2.1 rfl ?_) | (refine ldS rfl _ rfl u3 rfl _ hs.2.2 rfl ?_)))
  refine (qjoin ⟨1, 3, 0, 5, true, false, false, [5]⟩ ⟨1, 3, 0, 5, true, false, false, [5]⟩ ⟨1, 3, 0, 5, true, false, false, [5, 5]⟩ rfl _ _ _ (HP5.out.on b16) ⟨A4, 1, c4, rfl, HL.out _ b16, HN4.out, HC4.out⟩ ⟨A4, 1, c4, rfl, HL.out _ b16, HN4.out, HC4.out⟩ (by decide) (by decide)).mono ?_
  rintro e y17 ⟨v9, rfl, o9, q17⟩
  simp only [St.val, row]
  have b17 := b16.trans (q17.mono b16.size)
  clear q17 b16 hs
  have hs := HS.out _ b17
  go_wp2_with (first | (refine ldS rfl _ rfl u1 rfl _ hs.1 rfl ?_) | (refine unguard (by kernel_rfl) ?_; first | (refine ldS rfl _ rfl u1 rfl _ hs.1 rfl ?_) | (refine ldS rfl _ rfl u2 rfl _ hs.2.1 rfl ?_) | (refine ldS rfl _ rfl u3 rfl _ hs.2.2 rfl ?_)))
  refine (qdup ⟨1, 3, 0, 5, true, false, false, [5, 5]⟩ _ true rfl _ o9.pl).mono ?_
  rintro e y18 ⟨rfl, q18⟩
  have b18 := b17.trans (q18.mono b17.size)
  clear q18 b17 hs
  go_wp2_with fail
  go_ret
  exact ⟨rfl, HB5.out.trans (b18.mono HB5.out.size)⟩
end Go.Proofs.YtechacnflegliaaDoor.Bnd
