/-
  BindOrder, walked.
-/
import Derived.Test.YtechacnflegliaaDoorZBo
namespace Go.Proofs.YtechacnflegliaaDoor.Bnd
open Go.RowKit Go.Proofs Go.Proofs.YtechacnflegliaaDoor.Byt
open Go.Proofs.YtechacnflegliaaDoor.Obj (Sy)
open Go.Proofs.YtechacnflegliaaDoor.Arp (RdI)

/-- Where l[k:] lies. -/
def frU (A : Option Addr) (c k : Nat) : Option Addr := if c = k then A else A.map fun a => a.add (k * 5)
theorem RdU.from_ {w : World} {K n c k : Nat} {A : Option Addr} {xs : List Us} (h : RdU w K A n xs) (hk : k ≤ n) (hc : n ≤ c) : RdU w K (frU A c k) (n - k) (xs.drop k) :=
  ⟨by rw [List.length_drop, h.1], fun j hj => by
    have hj' : k + j < xs.length := by rw [List.length_drop] at hj; omega
    have hl := h.1
    rw [List.getElem_drop]
    obtain ⟨b, o, e, hb, hm⟩ := h.2 (k + j) hj'
    refine ⟨b, o + k * 5, ?_, hb, ?_⟩
    · unfold frU
      rw [if_neg (by omega), e]
      simp [Addr.add]
    · rw [show o + k * 5 + j * 5 = o + (k + j) * 5 by omega]
      exact hm⟩
theorem upto_uses (A : Option Addr) (n c k : Nat) (hk : k ≤ n) (hc : n ≤ c) (W : World) :
    (Instr.sliceAt 22 (.slice A n c) none (some (.int .i64 (k : Int))) none).run Tryd.prog W = .ok (.slice A k c) W := by
  have h1 : (k : Int) ≤ (c : Int) := by omega
  rcases A with _ | a
  · go_simp
  · go_simp
theorem from_uses (A : Option Addr) (n c k : Nat) (hk : k ≤ n) (hc : n ≤ c) (W : World) :
    (Instr.sliceAt 22 (.slice A n c) (some (.int .i64 (k : Int))) none none).run Tryd.prog W = .ok (.slice (frU A c k) (n - k) (c - k)) W := by
  have h1 : (k : Int) ≤ (n : Int) := by omega
  have h2 : (n : Int) ≤ (c : Int) := by omega
  have h3 : (k : Int) ≤ (c : Int) := by omega
  unfold frU
  by_cases hq : c = k
  · subst hq
    rw [if_pos rfl]
    rcases A with _ | a
    · go_simp
    · go_simp
  · rw [if_neg hq]
    rcases A with _ | a
    · go_simp
    · go_simp
/-- Two states joined either way. -/
theorem turn_all {a b : St} (ha : WF a) (hb : WF b) : (joi a b).bind = (joi b a).bind ∧ (joi a b).dfd = (joi b a).dfd ∧ wantd (joi a b) = wantd (joi b a) ∧ undfd (joi a b) = undfd (joi b a) ∧ dupl (joi a b) = dupl (joi b a) ∧ (joi a b).strongs.length = (joi b a).strongs.length ∧
    ((joi a b).bind = 3 → (joi a b).size = (joi b a).size ∧ (joi a b).align = (joi b a).align) := by
  have e1 : (joi a b).bind = (joi b a).bind := by
    show (prv a b).bind = (prv b a).bind
    rw [prv_bind, prv_bind]
    rcases ha.1 with h | h | h | h <;> rcases hb.1 with g | g | g | g <;> rw [h, g] <;> decide
  have e2 : (joi a b).dfd = (joi b a).dfd := Bool.or_comm _ _
  have e3 : (joi a b).sr = (joi b a).sr := Bool.or_comm _ _
  have e4 : (joi a b).strongs.length = (joi b a).strongs.length := by
    show (a.strongs ++ b.strongs).length = (b.strongs ++ a.strongs).length
    rw [List.length_append, List.length_append, Nat.add_comm]
  refine ⟨e1, e2, by unfold wantd; rw [e2, e3], by unfold undfd; rw [e1, e3], by unfold dupl; rw [e4], e4, fun h3 => ?_⟩
  have hq : ∀ x y : St, (joi x y).size = (prv x y).size ∧ (joi x y).align = (prv x y).align := fun _ _ => ⟨rfl, rfl⟩
  rw [(hq a b).1, (hq a b).2, (hq b a).1, (hq b a).2]
  have h3' : (prv a b).bind = 3 := h3
  rw [prv_bind] at h3'
  have lt : ∀ x y : St, rnk x.bind < rnk y.bind → prv x y = y := fun x y h => by unfold prv; rw [if_pos h]
  have ge : ∀ x y : St, ¬ rnk x.bind < rnk y.bind → ¬ (x.bind = 3 ∧ y.bind = 3) → prv x y = x := fun x y h g => by unfold prv; rw [if_neg h, if_neg g]
  have two : ∀ x y : St, x.bind = 3 → y.bind = 3 → (prv x y).size = max x.size y.size ∧ (prv x y).align = max x.align y.align := fun x y h g => by
    unfold prv
    rw [if_neg (by rw [h, g]; decide), if_pos ⟨h, g⟩]
    exact ⟨rfl, rfl⟩
  rcases ha.1 with h | h | h | h <;> rcases hb.1 with g | g | g | g <;> rw [h, g] at h3'
  all_goals first
    | (exfalso; revert h3'; decide)
    | (rw [(two a b h g).1, (two a b h g).2, (two b a g h).1, (two b a g h).2]; exact ⟨Int.max_comm _ _, Int.max_comm _ _⟩)
    | (rw [lt a b (by rw [h, g]; decide), ge b a (by rw [h, g]; decide) (by rw [h, g]; decide)]; exact ⟨rfl, rfl⟩)
    | (rw [ge a b (by rw [h, g]; decide) (by rw [h, g]; decide), lt b a (by rw [h, g]; decide)]; exact ⟨rfl, rfl⟩)
/-- Two states in their variables. -/
def OrdS (u t : Nat) (r q : Array Value) (W : World) : Prop := W.heap[u]? = some (.cells r 27 (0, 0)) ∧ W.heap[t]? = some (.cells q 27 (0, 0))
set_option linter.unusedSimpArgs false in
set_option maxRecDepth 100000 in
set_option maxHeartbeats 16000000 in
theorem order13 (w : World) (hP : Prec w) (A : Option Addr) (n c : Nat) (xs : List Us) (h : RdU w w.heap.size A n xs) (hnc : n ≤ c) (q : Nat) (hq : q < 256) :
    Calls Tryd.prog 5 #[.slice A n c, .int .u8 (q : Int)] w fun e w' => e = .returned (.bool true) ∧ Below w.heap.size w w' := by
  obtain ⟨W, rfl⟩ : ∃ W : World, W = w := ⟨_, rfl⟩
  have HP := hid (fun (V : World) (hV : Below W.heap.size W V) => hP.on hV)
  have HX := hid (fun (V : World) (hV : Below W.heap.size W V) => h.below hV)
  have HNC := hid hnc
  clear hP h hnc
  go_enter Tryd.func5, Tryd.ntmps5
  go_wp2_with fail
  refine (awake_any W (HP.out W (Below.refl _ _))).mono ?_
  rintro e w1 ⟨rfl, b1⟩
  go_wp2_with fail
  refine (right_any W.heap.size A n c xs w1 (HX.out w1 b1) b1.size).mono ?_
  rintro e w2 ⟨rfl, b2'⟩
  have b2 := b1.trans (b2'.mono b1.size)
  clear b1 b2'
  cases hr : rightL xs
  · clear hr
    go_wp2_with fail
    refine (awake_any w2 (HP.out w2 b2)).mono ?_
    rintro e w3 ⟨rfl, b3⟩
    go_wp2_with fail
    go_ret
    exact ⟨rfl, b2.trans (b3.mono b2.size)⟩
  have hok := rightL_iff.1 hr
  have hln : n ≤ 50 := by have := (HX.out w2 b2).1; omega
  by_cases h0 : n = 0
  · subst h0
    clear hr hok
    go_wp2_with fail
    refine (awake_any w2 (HP.out w2 b2)).mono ?_
    rintro e w3 ⟨rfl, b3⟩
    go_wp2_with fail
    go_ret
    exact ⟨rfl, b2.trans (b3.mono b2.size)⟩
  have h0b : ((n : Int) == 0) = false := by simp; omega
  obtain ⟨k, hk⟩ : ∃ k, q % n = k := ⟨_, rfl⟩
  have hkn : k < n := by rw [← hk]; exact Nat.mod_lt _ (by omega)
  have HK : Hid ((q : Int) % (n : Int) = (k : Int)) := hid (by rw [← hk]; rfl)
  have hn1 : (1 : Int) ≤ (n : Int) := by omega
  have HOK := hid hok.2
  clear hr hok hk
  go_upto_region 4 with fail
  rw [HK.out]
  have hnc := HNC.out
  have hbd : Below w2.heap.size w2 w2.drew := (Below.refl _ _).drew
  have hS : (fun _ : World => True) w2.drew := trivial
  refine Ord.Till.begin (fun _ => True) 9 (by kernel_rfl) ?_
  generalize w2.drew = wd at *
  refine Ord.Till.take' 1 (some 28) (oi := _) (x := .slice A n c) rfl rfl (by kernel_rfl) (by kernel_rfl) (by kernel_rfl) (by kernel_rfl) (fun _ _ _ h => h) (by kernel_rfl) (fun v hv => by go_simp) hS ?_
  try simp only [List.getElem_toArray, List.getElem_cons_zero, List.getElem_cons_succ, Act.put, List.setIfInBounds_toArray, List.set_cons_zero, List.set_cons_succ]
  refine Ord.Till.take' 2 (some 29) (oi := _) (x := .int .i64 (k : Int)) rfl rfl (by kernel_rfl) (by kernel_rfl) (by kernel_rfl) (by kernel_rfl) (fun _ _ _ h => h) (by kernel_rfl) (fun v hv => by go_simp) hS ?_
  try simp only [List.getElem_toArray, List.getElem_cons_zero, List.getElem_cons_succ, Act.put, List.setIfInBounds_toArray, List.set_cons_zero, List.set_cons_succ]
  refine Ord.Till.take' 3 (some 30) (oi := _) (x := .slice (frU A c k) (n - k) (c - k)) rfl rfl (by kernel_rfl) (by kernel_rfl) (by kernel_rfl) (by kernel_rfl) (fun _ _ _ h => h) (by kernel_rfl) (fun v _ => by have hf := from_uses A n c k (by omega) hnc v; go_simp) hS ?_
  try simp only [List.getElem_toArray, List.getElem_cons_zero, List.getElem_cons_succ, Act.put, List.setIfInBounds_toArray, List.set_cons_zero, List.set_cons_succ]
  refine Ord.Till.take' 5 (some 32) (oi := _) (x := .slice A n c) rfl rfl (by kernel_rfl) (by kernel_rfl) (by kernel_rfl) (by kernel_rfl) (fun _ _ _ h => h) (by kernel_rfl) (fun v hv => by go_simp) hS ?_
  try simp only [List.getElem_toArray, List.getElem_cons_zero, List.getElem_cons_succ, Act.put, List.setIfInBounds_toArray, List.set_cons_zero, List.set_cons_succ]
  refine Ord.Till.take' 6 (some 33) (oi := _) (x := .int .i64 (k : Int)) rfl rfl (by kernel_rfl) (by kernel_rfl) (by kernel_rfl) (by kernel_rfl) (fun _ _ _ h => h) (by kernel_rfl) (fun v hv => by go_simp) hS ?_
  try simp only [List.getElem_toArray, List.getElem_cons_zero, List.getElem_cons_succ, Act.put, List.setIfInBounds_toArray, List.set_cons_zero, List.set_cons_succ]
  refine Ord.Till.take' 7 (some 34) (oi := _) (x := .slice A k c) rfl rfl (by kernel_rfl) (by kernel_rfl) (by kernel_rfl) (by kernel_rfl) (fun _ _ _ h => h) (by kernel_rfl) (fun v _ => by have hf := upto_uses A n c k (by omega) hnc v; go_simp) hS ?_
  try simp only [List.getElem_toArray, List.getElem_cons_zero, List.getElem_cons_succ, Act.put, List.setIfInBounds_toArray, List.set_cons_zero, List.set_cons_succ]
  refine Ord.Till.step 0 (by kernel_rfl) rfl (fun C hC => ?_)
  go_simp
  have hlit := Cel.Own.lit0 39 5 wd W.heap.size (b2.trans (hbd.mono b2.size)).size
  have bl := (b2.trans (hbd.mono b2.size)).alloc (b2.trans (hbd.mono b2.size)).size (.cells #[] 39)
  refine hC.out _ _ (fun _ => trivial) ?_
  clear hC C
  try simp only [List.getElem_toArray, List.getElem_cons_zero, List.getElem_cons_succ, Act.put, List.setIfInBounds_toArray, List.set_cons_zero, List.set_cons_succ]
  generalize hlw : wd.alloc (.cells #[] 39) = wl at *
  refine Ord.Till.step 4 (by kernel_rfl) rfl (fun C hC => ?_)
  refine Cel.step_rd kU wl W.heap.size W.heap.size _ 0 [] hlit bl.size (frU A c k) (n - k) (c - k) (ucells (xs.drop k)) ((HX.out wl bl).from_ (by omega) hnc).cel ucells_one (by omega) (by omega) (by kernel_rfl) (.tmp 27) (.tmp 30) rfl rfl rfl ?_
  intro v1 y1 ho1 hb1 _
  rw [Nat.zero_add, List.nil_append] at ho1
  have bl1 := bl.trans hb1
  refine hC.out _ _ (fun _ => trivial) ?_
  clear hC C
  try simp only [List.getElem_toArray, List.getElem_cons_zero, List.getElem_cons_succ, Act.put, List.setIfInBounds_toArray, List.set_cons_zero, List.set_cons_succ]
  refine Ord.Till.step 8 (by kernel_rfl) rfl (fun C hC => ?_)
  refine Cel.step_rd kU y1 W.heap.size W.heap.size v1 (n - k) _ ho1 bl1.size A k c (ucells (xs.take k)) ((HX.out y1 bl1).pre (by omega)).cel ucells_one (by omega) (by omega) (by kernel_rfl) (.tmp 31) (.tmp 34) rfl rfl rfl ?_
  intro v2 y2 ho2 hb2 _
  rw [show n - k + k = n by omega, ← ucells_append] at ho2
  have bl2 := bl1.trans hb2
  refine hC.out _ _ (fun _ => trivial) ?_
  clear hC C
  try simp only [List.getElem_toArray, List.getElem_cons_zero, List.getElem_cons_succ, Act.put, List.setIfInBounds_toArray, List.set_cons_zero, List.set_cons_succ]
  refine Ord.Till.step 9 (by kernel_rfl) rfl (fun C hC => ?_)
  go_simp
  refine hC.out _ _ (fun _ => trivial) ?_
  clear hC C
  try simp only [List.getElem_toArray, List.getElem_cons_zero, List.getElem_cons_succ, Act.put, List.setIfInBounds_toArray, List.set_cons_zero, List.set_cons_succ]
  refine Ord.Till.done (by kernel_rfl) ?_ _
  obtain ⟨A2, c2, rfl, hrd, _, _⟩ := ho2.reads
  have hm2 := rdu_of hrd
  have HTA := hid (turn_all (wf_all (xs.take k)) (wf_all (xs.drop k)))
  rw [← all_append, ← all_append, List.take_append_drop] at HTA
  have hokm : ∀ x ∈ xs.drop k ++ xs.take k, uOk x = true := fun x hx => by
    rcases List.mem_append.1 hx with hx | hx
    · exact HOK.out x (List.mem_of_mem_drop hx)
    · exact HOK.out x (List.mem_of_mem_take hx)
  have HAM := hid (fun (V : World) (hV : Below y2.heap.size y2 V) => all_any y2.heap.size A2 n c2 (xs.drop k ++ xs.take k) V (HP.out V (bl2.trans (hV.mono bl2.size))) (hm2.below hV) hV.size (by omega) hokm)
  have hAS := all_any W.heap.size A n c xs y2 (HP.out y2 bl2) (HX.out y2 bl2) bl2.size (by omega) HOK.out
  generalize allL (xs.drop k ++ xs.take k) = T at *
  generalize allL xs = S at *
  clear ho2 hrd hm2 hokm hlit bl ho1 hb1 bl1 hb2 hS hbd hlw b2 HX
  go_wp2_with fail
  refine hAS.mono ?_
  rintro e w4 ⟨v, rfl, o4, b4'⟩
  have b4 := bl2.trans (b4'.mono bl2.size)
  have hpl := o4.pl
  clear hAS o4
  obtain ⟨A5, n5, c5, rfl, hri, _, _⟩ := id hpl
  have hn5 := hri.1
  clear hri
  have bS := b4.alloc b4.size (.cells (row S (.slice A5 n5 c5)) 27)
  have bS2 := b4'.alloc b4'.size (.cells (row S (.slice A5 n5 c5)) 27)
  have nS := heap_alloc_new w4 (.cells (row S (.slice A5 n5 c5)) 27)
  have zS := World.size_alloc w4 (.cells (row S (.slice A5 n5 c5)) 27)
  have bP := (Below.refl w4.heap.size w4).alloc (Nat.le_refl _) (.cells (row S (.slice A5 n5 c5)) 27)
  simp only [St.val, row] at *
  go_upto_region 6 with fail
  generalize w4.alloc (.cells #[.int .i64 S.bind, .int .i64 S.size, .int .i64 S.align, .int .i64 S.unit, .bool S.dfd, .bool S.sr, .bool S.wr, .slice A5 n5 c5] 27) = w5 at *
  obtain ⟨u, hue⟩ : ∃ u, w4.heap.size = u := ⟨_, rfl⟩
  rw [hue] at nS zS
  rw [hue]
  have hp5 := (hpl.below bP).more bP.size
  have hAT := HAM.out w5 bS2
  clear HAM hpl bP b4 b4' bS2 hue
  go_wp2_with fail
  refine hAT.mono ?_
  rintro e w6 ⟨v, rfl, o6, b6'⟩
  have b6 := bS.trans (b6'.mono bS.size)
  have hp6 := o6.pl
  have hps := (hp5.below b6').more b6'.size
  have nS6 := (b6'.block u (by omega)).trans nS
  have hu6 : u < w6.heap.size := by have := b6'.size; omega
  obtain ⟨A6, n6, c6, rfl, hri, _, _⟩ := id hp6
  obtain rfl : n6 = n5 := by rw [← hri.1, ← hn5]; exact HTA.out.2.2.2.2.2.1.symm
  clear hAT o6 hp5 b6' nS zS bS hri
  have bT := b6.alloc b6.size (.cells (row T (.slice A6 n6 c6)) 27)
  have nT := heap_alloc_new w6 (.cells (row T (.slice A6 n6 c6)) 27)
  have zT := World.size_alloc w6 (.cells (row T (.slice A6 n6 c6)) 27)
  have bQ := (Below.refl w6.heap.size w6).alloc (Nat.le_refl _) (.cells (row T (.slice A6 n6 c6)) 27)
  simp only [St.val, row] at *
  go_upto_region 7 with fail
  generalize w6.alloc (.cells #[.int .i64 T.bind, .int .i64 T.size, .int .i64 T.align, .int .i64 T.unit, .bool T.dfd, .bool T.sr, .bool T.wr, .slice A6 n6 c6] 27) = w7 at *
  obtain ⟨t, hte⟩ : ∃ t, w6.heap.size = t := ⟨_, rfl⟩
  rw [hte] at nT zT hu6
  rw [hte]
  obtain ⟨E1, E2, E3, E4, E5, _, E7⟩ := HTA.out
  have HE7 := hid E7
  have hws := hid fun (V : World) => wanted_any S (.slice A5 n6 c5) V
  have hwt := hid fun (V : World) => wanted_any T (.slice A6 n6 c6) V
  have hus := hid fun (V : World) => undef_any S (.slice A5 n6 c5) V
  have hut := hid fun (V : World) => undef_any T (.slice A6 n6 c6) V
  have hds := hid fun (V : World) (hp : Pl V V.heap.size (.slice A5 n6 c5) S.strongs) => dup_any S (.slice A5 n6 c5) _ V hp
  have hdt := hid fun (V : World) (hp : Pl V V.heap.size (.slice A6 n6 c6) T.strongs) => dup_any T (.slice A6 n6 c6) _ V hp
  have HPS := hid fun (V : World) (hV : Below w7.heap.size w7 V) => (((hps.below bQ).more bQ.size).below hV).more hV.size
  have HPT := hid fun (V : World) (hV : Below w7.heap.size w7 V) => (((hp6.below bQ).more bQ.size).below hV).more hV.size
  rw [← E3] at hwt
  rw [← E4] at hut
  rw [← E5] at hdt
  have HS := hid fun (V : World) (hV : Below w7.heap.size w7 V) => (⟨(hV.block u (by omega)).trans ((bQ.block u (by omega)).trans nS6), (hV.block t (by omega)).trans nT⟩ : OrdS u t _ _ V)
  have B7 := hid bT
  generalize wantd S = wW at *
  generalize undfd S = wU at *
  generalize dupl S = wD at *
  obtain ⟨s0, s1, s2, s3, s4, s5, s6, sl⟩ := S
  obtain ⟨t0, t1, t2, t3, t4, t5, t6, tl⟩ := T
  simp only [St.val, row] at *
  subst E1 E2
  have HWS := hid hws.out
  have HWT := hid hwt.out
  have HUS := hid hus.out
  have HUT := hid hut.out
  have HDS := hid hds.out
  have HDT := hid hdt.out
  have hbb : (wW != wW) = false ∧ (wU != wU) = false ∧ (wD != wD) = false ∧ (s4 != s4) = false ∧ (s0 != s0) = false ∧ ((n6 : Int) != (n6 : Int)) = false := by simp
  obtain ⟨e1, e2, e3, e4, e5, e6⟩ := hbb
  clear hws hwt hus hut hds hdt E3 E4 E5 E7 HTA hps hp6 nS6 nT bQ bT zT hu6 hte HP b6
  have b0 : Below w7.heap.size w7 w7.drew := (Below.refl _ _).drew
  have hS := HS.out _ b0
  refine Ord.Till.begin (OrdS u t #[.int .i64 s0, .int .i64 s1, .int .i64 s2, .int .i64 s3, .bool s4, .bool s5, .bool s6, .slice A5 n6 c5] #[.int .i64 s0, .int .i64 t1, .int .i64 t2, .int .i64 t3, .bool s4, .bool t5, .bool t6, .slice A6 n6 c6]) 60 (by kernel_rfl) ?_
  generalize w7.drew = wd at *
  refine Ord.Till.take' 0 (some 40) (oi := _) (x := .agg #[.int .i64 s0, .int .i64 s1, .int .i64 s2, .int .i64 s3, .bool s4, .bool s5, .bool s6, .slice A5 n6 c5]) rfl rfl (by kernel_rfl) (by kernel_rfl) (by kernel_rfl) (by kernel_rfl) (fun _ _ _ h => h) (by kernel_rfl) (fun v hv => exec_ld 27 _ Tryd.underlying27 rfl _ rfl u 0 rfl _ (by kernel_rfl) (range_row hv.1)) hS ?_
  try simp only [List.getElem_toArray, List.getElem_cons_zero, List.getElem_cons_succ, Act.put, List.setIfInBounds_toArray, List.set_cons_zero, List.set_cons_succ]
  refine Ord.Till.take' 2 (some 42) (oi := _) (x := .agg #[.int .i64 s0, .int .i64 t1, .int .i64 t2, .int .i64 t3, .bool s4, .bool t5, .bool t6, .slice A6 n6 c6]) rfl rfl (by kernel_rfl) (by kernel_rfl) (by kernel_rfl) (by kernel_rfl) (fun _ _ _ h => h) (by kernel_rfl) (fun v hv => exec_ld 27 _ Tryd.underlying27 rfl _ rfl t 0 rfl _ (by kernel_rfl) (range_row hv.2)) hS ?_
  try simp only [List.getElem_toArray, List.getElem_cons_zero, List.getElem_cons_succ, Act.put, List.setIfInBounds_toArray, List.set_cons_zero, List.set_cons_succ]
  refine Ord.Till.step 1 (by kernel_rfl) rfl (fun C hC => ?_)
  go_simp
  go_at_call 17
  refine (HWS.out _).mono ?_
  rintro e y1 ⟨rfl, hb⟩
  have b1 := b0.trans (hb.mono b0.size)
  have hS := HS.out _ b1
  clear hb b0
  go_wp2_with fail
  refine hC.out _ _ (fun _ => hS) ?_
  clear hC C
  try simp only [List.getElem_toArray, List.getElem_cons_zero, List.getElem_cons_succ, Act.put, List.setIfInBounds_toArray, List.set_cons_zero, List.set_cons_succ]
  refine Ord.Till.step 3 (by kernel_rfl) rfl (fun C hC => ?_)
  go_simp
  go_at_call 17
  refine (HWT.out _).mono ?_
  rintro e y2 ⟨rfl, hb⟩
  have b2 := b1.trans (hb.mono b1.size)
  have hS := HS.out _ b2
  clear hb b1
  go_wp2_with fail
  refine hC.out _ _ (fun _ => hS) ?_
  clear hC C
  try simp only [List.getElem_toArray, List.getElem_cons_zero, List.getElem_cons_succ, Act.put, List.setIfInBounds_toArray, List.set_cons_zero, List.set_cons_succ]
  refine Ord.Till.take' 4 (some 44) (oi := _) (x := .bool false) rfl rfl (by kernel_rfl) (by kernel_rfl) (by kernel_rfl) (by kernel_rfl) (fun _ _ _ h => h) (by kernel_rfl) (fun v hv => by go_simp) hS ?_
  try simp only [List.getElem_toArray, List.getElem_cons_zero, List.getElem_cons_succ, Act.put, List.setIfInBounds_toArray, List.set_cons_zero, List.set_cons_succ]
  refine Ord.Till.take' 5 (some 45) (oi := _) (x := .bool false) rfl rfl (by kernel_rfl) (by kernel_rfl) (by kernel_rfl) (by kernel_rfl) (fun _ _ _ h => h) (by kernel_rfl) (fun v hv => by go_simp) hS ?_
  try simp only [List.getElem_toArray, List.getElem_cons_zero, List.getElem_cons_succ, Act.put, List.setIfInBounds_toArray, List.set_cons_zero, List.set_cons_succ]
  refine Ord.Till.take' 6 (some 46) (oi := _) (x := .agg #[.int .i64 s0, .int .i64 s1, .int .i64 s2, .int .i64 s3, .bool s4, .bool s5, .bool s6, .slice A5 n6 c5]) rfl rfl (by kernel_rfl) (by kernel_rfl) (by kernel_rfl) (by kernel_rfl) (fun _ _ _ h => h) (by kernel_rfl) (fun v hv => exec_ld 27 _ Tryd.underlying27 rfl _ rfl u 0 rfl _ (by kernel_rfl) (range_row hv.1)) hS ?_
  try simp only [List.getElem_toArray, List.getElem_cons_zero, List.getElem_cons_succ, Act.put, List.setIfInBounds_toArray, List.set_cons_zero, List.set_cons_succ]
  refine Ord.Till.take' 8 (some 48) (oi := _) (x := .agg #[.int .i64 s0, .int .i64 t1, .int .i64 t2, .int .i64 t3, .bool s4, .bool t5, .bool t6, .slice A6 n6 c6]) rfl rfl (by kernel_rfl) (by kernel_rfl) (by kernel_rfl) (by kernel_rfl) (fun _ _ _ h => h) (by kernel_rfl) (fun v hv => exec_ld 27 _ Tryd.underlying27 rfl _ rfl t 0 rfl _ (by kernel_rfl) (range_row hv.2)) hS ?_
  try simp only [List.getElem_toArray, List.getElem_cons_zero, List.getElem_cons_succ, Act.put, List.setIfInBounds_toArray, List.set_cons_zero, List.set_cons_succ]
  refine Ord.Till.step 7 (by kernel_rfl) rfl (fun C hC => ?_)
  go_simp
  go_at_call 18
  refine (HUS.out _).mono ?_
  rintro e y3 ⟨rfl, hb⟩
  have b3 := b2.trans (hb.mono b2.size)
  have hS := HS.out _ b3
  clear hb b2
  go_wp2_with fail
  refine hC.out _ _ (fun _ => hS) ?_
  clear hC C
  try simp only [List.getElem_toArray, List.getElem_cons_zero, List.getElem_cons_succ, Act.put, List.setIfInBounds_toArray, List.set_cons_zero, List.set_cons_succ]
  refine Ord.Till.step 9 (by kernel_rfl) rfl (fun C hC => ?_)
  go_simp
  go_at_call 18
  refine (HUT.out _).mono ?_
  rintro e y4 ⟨rfl, hb⟩
  have b4 := b3.trans (hb.mono b3.size)
  have hS := HS.out _ b4
  clear hb b3
  go_wp2_with fail
  refine hC.out _ _ (fun _ => hS) ?_
  clear hC C
  try simp only [List.getElem_toArray, List.getElem_cons_zero, List.getElem_cons_succ, Act.put, List.setIfInBounds_toArray, List.set_cons_zero, List.set_cons_succ]
  refine Ord.Till.take' 10 (some 50) (oi := _) (x := .bool false) rfl rfl (by kernel_rfl) (by kernel_rfl) (by kernel_rfl) (by kernel_rfl) (fun _ _ _ h => h) (by kernel_rfl) (fun v hv => by go_simp) hS ?_
  try simp only [List.getElem_toArray, List.getElem_cons_zero, List.getElem_cons_succ, Act.put, List.setIfInBounds_toArray, List.set_cons_zero, List.set_cons_succ]
  refine Ord.Till.take' 11 (some 51) (oi := _) (x := .bool false) rfl rfl (by kernel_rfl) (by kernel_rfl) (by kernel_rfl) (by kernel_rfl) (fun _ _ _ h => h) (by kernel_rfl) (fun v hv => by go_simp) hS ?_
  try simp only [List.getElem_toArray, List.getElem_cons_zero, List.getElem_cons_succ, Act.put, List.setIfInBounds_toArray, List.set_cons_zero, List.set_cons_succ]
  refine Ord.Till.take' 12 (some 52) (oi := _) (x := .bool false) rfl rfl (by kernel_rfl) (by kernel_rfl) (by kernel_rfl) (by kernel_rfl) (fun _ _ _ h => h) (by kernel_rfl) (fun v hv => by go_simp) hS ?_
  try simp only [List.getElem_toArray, List.getElem_cons_zero, List.getElem_cons_succ, Act.put, List.setIfInBounds_toArray, List.set_cons_zero, List.set_cons_succ]
  refine Ord.Till.take' 13 (some 53) (oi := _) (x := .agg #[.int .i64 s0, .int .i64 s1, .int .i64 s2, .int .i64 s3, .bool s4, .bool s5, .bool s6, .slice A5 n6 c5]) rfl rfl (by kernel_rfl) (by kernel_rfl) (by kernel_rfl) (by kernel_rfl) (fun _ _ _ h => h) (by kernel_rfl) (fun v hv => exec_ld 27 _ Tryd.underlying27 rfl _ rfl u 0 rfl _ (by kernel_rfl) (range_row hv.1)) hS ?_
  try simp only [List.getElem_toArray, List.getElem_cons_zero, List.getElem_cons_succ, Act.put, List.setIfInBounds_toArray, List.set_cons_zero, List.set_cons_succ]
  refine Ord.Till.take' 15 (some 55) (oi := _) (x := .agg #[.int .i64 s0, .int .i64 t1, .int .i64 t2, .int .i64 t3, .bool s4, .bool t5, .bool t6, .slice A6 n6 c6]) rfl rfl (by kernel_rfl) (by kernel_rfl) (by kernel_rfl) (by kernel_rfl) (fun _ _ _ h => h) (by kernel_rfl) (fun v hv => exec_ld 27 _ Tryd.underlying27 rfl _ rfl t 0 rfl _ (by kernel_rfl) (range_row hv.2)) hS ?_
  try simp only [List.getElem_toArray, List.getElem_cons_zero, List.getElem_cons_succ, Act.put, List.setIfInBounds_toArray, List.set_cons_zero, List.set_cons_succ]
  refine Ord.Till.step 14 (by kernel_rfl) rfl (fun C hC => ?_)
  go_simp
  go_at_call 16
  refine (HDS.out _ (HPS.out _ b4)).mono ?_
  rintro e y5 ⟨rfl, hb⟩
  have b5 := b4.trans (hb.mono b4.size)
  have hS := HS.out _ b5
  clear hb b4
  go_wp2_with fail
  refine hC.out _ _ (fun _ => hS) ?_
  clear hC C
  try simp only [List.getElem_toArray, List.getElem_cons_zero, List.getElem_cons_succ, Act.put, List.setIfInBounds_toArray, List.set_cons_zero, List.set_cons_succ]
  refine Ord.Till.step 16 (by kernel_rfl) rfl (fun C hC => ?_)
  go_simp
  go_at_call 16
  refine (HDT.out _ (HPT.out _ b5)).mono ?_
  rintro e y6 ⟨rfl, hb⟩
  have b6 := b5.trans (hb.mono b5.size)
  have hS := HS.out _ b6
  clear hb b5
  go_wp2_with fail
  refine hC.out _ _ (fun _ => hS) ?_
  clear hC C
  try simp only [List.getElem_toArray, List.getElem_cons_zero, List.getElem_cons_succ, Act.put, List.setIfInBounds_toArray, List.set_cons_zero, List.set_cons_succ]
  refine Ord.Till.take' 17 (some 57) (oi := _) (x := .bool false) rfl rfl (by kernel_rfl) (by kernel_rfl) (by kernel_rfl) (by kernel_rfl) (fun _ _ _ h => h) (by kernel_rfl) (fun v hv => by go_simp) hS ?_
  try simp only [List.getElem_toArray, List.getElem_cons_zero, List.getElem_cons_succ, Act.put, List.setIfInBounds_toArray, List.set_cons_zero, List.set_cons_succ]
  refine Ord.Till.take' 18 (some 58) (oi := _) (x := .bool false) rfl rfl (by kernel_rfl) (by kernel_rfl) (by kernel_rfl) (by kernel_rfl) (fun _ _ _ h => h) (by kernel_rfl) (fun v hv => by go_simp) hS ?_
  try simp only [List.getElem_toArray, List.getElem_cons_zero, List.getElem_cons_succ, Act.put, List.setIfInBounds_toArray, List.set_cons_zero, List.set_cons_succ]
  refine Ord.Till.take' 19 (some 59) (oi := _) (x := .bool false) rfl rfl (by kernel_rfl) (by kernel_rfl) (by kernel_rfl) (by kernel_rfl) (fun _ _ _ h => h) (by kernel_rfl) (fun v hv => by go_simp) hS ?_
  try simp only [List.getElem_toArray, List.getElem_cons_zero, List.getElem_cons_succ, Act.put, List.setIfInBounds_toArray, List.set_cons_zero, List.set_cons_succ]
  refine Ord.Till.take' 20 (some 60) (oi := _) (x := .pointer (some ⟨u, 0, none⟩)) rfl rfl (by kernel_rfl) (by kernel_rfl) (by kernel_rfl) (by kernel_rfl) (fun _ _ _ h => h) (by kernel_rfl) (fun v hv => by go_simp) hS ?_
  try simp only [List.getElem_toArray, List.getElem_cons_zero, List.getElem_cons_succ, Act.put, List.setIfInBounds_toArray, List.set_cons_zero, List.set_cons_succ]
  refine Ord.Till.take' 21 (some 61) (oi := _) (x := .int .i64 s0) rfl rfl (by kernel_rfl) (by kernel_rfl) (by kernel_rfl) (by kernel_rfl) (fun _ _ _ h => h) (by kernel_rfl) (fun v hv => by have z := cell_of_row _ u 0 _ _ _ hv.1; go_simp) hS ?_
  try simp only [List.getElem_toArray, List.getElem_cons_zero, List.getElem_cons_succ, Act.put, List.setIfInBounds_toArray, List.set_cons_zero, List.set_cons_succ]
  refine Ord.Till.take' 22 (some 62) (oi := _) (x := .pointer (some ⟨t, 0, none⟩)) rfl rfl (by kernel_rfl) (by kernel_rfl) (by kernel_rfl) (by kernel_rfl) (fun _ _ _ h => h) (by kernel_rfl) (fun v hv => by go_simp) hS ?_
  try simp only [List.getElem_toArray, List.getElem_cons_zero, List.getElem_cons_succ, Act.put, List.setIfInBounds_toArray, List.set_cons_zero, List.set_cons_succ]
  refine Ord.Till.take' 23 (some 63) (oi := _) (x := .int .i64 s0) rfl rfl (by kernel_rfl) (by kernel_rfl) (by kernel_rfl) (by kernel_rfl) (fun _ _ _ h => h) (by kernel_rfl) (fun v hv => by have z := cell_of_row _ t 0 _ _ _ hv.2; go_simp) hS ?_
  try simp only [List.getElem_toArray, List.getElem_cons_zero, List.getElem_cons_succ, Act.put, List.setIfInBounds_toArray, List.set_cons_zero, List.set_cons_succ]
  refine Ord.Till.take' 24 (some 64) (oi := _) (x := .bool false) rfl rfl (by kernel_rfl) (by kernel_rfl) (by kernel_rfl) (by kernel_rfl) (fun _ _ _ h => h) (by kernel_rfl) (fun v hv => by go_simp) hS ?_
  try simp only [List.getElem_toArray, List.getElem_cons_zero, List.getElem_cons_succ, Act.put, List.setIfInBounds_toArray, List.set_cons_zero, List.set_cons_succ]
  refine Ord.Till.take' 25 (some 65) (oi := _) (x := .bool false) rfl rfl (by kernel_rfl) (by kernel_rfl) (by kernel_rfl) (by kernel_rfl) (fun _ _ _ h => h) (by kernel_rfl) (fun v hv => by go_simp) hS ?_
  try simp only [List.getElem_toArray, List.getElem_cons_zero, List.getElem_cons_succ, Act.put, List.setIfInBounds_toArray, List.set_cons_zero, List.set_cons_succ]
  refine Ord.Till.take' 26 (some 66) (oi := _) (x := .bool false) rfl rfl (by kernel_rfl) (by kernel_rfl) (by kernel_rfl) (by kernel_rfl) (fun _ _ _ h => h) (by kernel_rfl) (fun v hv => by go_simp) hS ?_
  try simp only [List.getElem_toArray, List.getElem_cons_zero, List.getElem_cons_succ, Act.put, List.setIfInBounds_toArray, List.set_cons_zero, List.set_cons_succ]
  refine Ord.Till.take' 27 (some 67) (oi := _) (x := .pointer (some ⟨u, 4, none⟩)) rfl rfl (by kernel_rfl) (by kernel_rfl) (by kernel_rfl) (by kernel_rfl) (fun _ _ _ h => h) (by kernel_rfl) (fun v hv => by go_simp) hS ?_
  try simp only [List.getElem_toArray, List.getElem_cons_zero, List.getElem_cons_succ, Act.put, List.setIfInBounds_toArray, List.set_cons_zero, List.set_cons_succ]
  refine Ord.Till.take' 28 (some 68) (oi := _) (x := .bool s4) rfl rfl (by kernel_rfl) (by kernel_rfl) (by kernel_rfl) (by kernel_rfl) (fun _ _ _ h => h) (by kernel_rfl) (fun v hv => by have z := cell_of_row _ u 4 _ _ _ hv.1; go_simp) hS ?_
  try simp only [List.getElem_toArray, List.getElem_cons_zero, List.getElem_cons_succ, Act.put, List.setIfInBounds_toArray, List.set_cons_zero, List.set_cons_succ]
  refine Ord.Till.take' 29 (some 69) (oi := _) (x := .pointer (some ⟨t, 4, none⟩)) rfl rfl (by kernel_rfl) (by kernel_rfl) (by kernel_rfl) (by kernel_rfl) (fun _ _ _ h => h) (by kernel_rfl) (fun v hv => by go_simp) hS ?_
  try simp only [List.getElem_toArray, List.getElem_cons_zero, List.getElem_cons_succ, Act.put, List.setIfInBounds_toArray, List.set_cons_zero, List.set_cons_succ]
  refine Ord.Till.take' 30 (some 70) (oi := _) (x := .bool s4) rfl rfl (by kernel_rfl) (by kernel_rfl) (by kernel_rfl) (by kernel_rfl) (fun _ _ _ h => h) (by kernel_rfl) (fun v hv => by have z := cell_of_row _ t 4 _ _ _ hv.2; go_simp) hS ?_
  try simp only [List.getElem_toArray, List.getElem_cons_zero, List.getElem_cons_succ, Act.put, List.setIfInBounds_toArray, List.set_cons_zero, List.set_cons_succ]
  refine Ord.Till.take' 31 (some 71) (oi := _) (x := .bool false) rfl rfl (by kernel_rfl) (by kernel_rfl) (by kernel_rfl) (by kernel_rfl) (fun _ _ _ h => h) (by kernel_rfl) (fun v hv => by go_simp) hS ?_
  try simp only [List.getElem_toArray, List.getElem_cons_zero, List.getElem_cons_succ, Act.put, List.setIfInBounds_toArray, List.set_cons_zero, List.set_cons_succ]
  refine Ord.Till.take' 32 (some 72) (oi := _) (x := .bool false) rfl rfl (by kernel_rfl) (by kernel_rfl) (by kernel_rfl) (by kernel_rfl) (fun _ _ _ h => h) (by kernel_rfl) (fun v hv => by go_simp) hS ?_
  try simp only [List.getElem_toArray, List.getElem_cons_zero, List.getElem_cons_succ, Act.put, List.setIfInBounds_toArray, List.set_cons_zero, List.set_cons_succ]
  refine Ord.Till.take' 33 (some 73) (oi := _) (x := .bool false) rfl rfl (by kernel_rfl) (by kernel_rfl) (by kernel_rfl) (by kernel_rfl) (fun _ _ _ h => h) (by kernel_rfl) (fun v hv => by go_simp) hS ?_
  try simp only [List.getElem_toArray, List.getElem_cons_zero, List.getElem_cons_succ, Act.put, List.setIfInBounds_toArray, List.set_cons_zero, List.set_cons_succ]
  refine Ord.Till.take' 34 (some 74) (oi := _) (x := .pointer (some ⟨u, 7, none⟩)) rfl rfl (by kernel_rfl) (by kernel_rfl) (by kernel_rfl) (by kernel_rfl) (fun _ _ _ h => h) (by kernel_rfl) (fun v hv => by go_simp) hS ?_
  try simp only [List.getElem_toArray, List.getElem_cons_zero, List.getElem_cons_succ, Act.put, List.setIfInBounds_toArray, List.set_cons_zero, List.set_cons_succ]
  refine Ord.Till.take' 35 (some 75) (oi := _) (x := .slice A5 n6 c5) rfl rfl (by kernel_rfl) (by kernel_rfl) (by kernel_rfl) (by kernel_rfl) (fun _ _ _ h => h) (by kernel_rfl) (fun v hv => by have z := cell_of_row _ u 7 _ _ _ hv.1; go_simp) hS ?_
  try simp only [List.getElem_toArray, List.getElem_cons_zero, List.getElem_cons_succ, Act.put, List.setIfInBounds_toArray, List.set_cons_zero, List.set_cons_succ]
  refine Ord.Till.take' 36 (some 76) (oi := _) (x := .int .i64 (n6 : Int)) rfl rfl (by kernel_rfl) (by kernel_rfl) (by kernel_rfl) (by kernel_rfl) (fun _ _ _ h => h) (by kernel_rfl) (fun v hv => by go_simp) hS ?_
  try simp only [List.getElem_toArray, List.getElem_cons_zero, List.getElem_cons_succ, Act.put, List.setIfInBounds_toArray, List.set_cons_zero, List.set_cons_succ]
  refine Ord.Till.take' 37 (some 77) (oi := _) (x := .pointer (some ⟨t, 7, none⟩)) rfl rfl (by kernel_rfl) (by kernel_rfl) (by kernel_rfl) (by kernel_rfl) (fun _ _ _ h => h) (by kernel_rfl) (fun v hv => by go_simp) hS ?_
  try simp only [List.getElem_toArray, List.getElem_cons_zero, List.getElem_cons_succ, Act.put, List.setIfInBounds_toArray, List.set_cons_zero, List.set_cons_succ]
  refine Ord.Till.take' 38 (some 78) (oi := _) (x := .slice A6 n6 c6) rfl rfl (by kernel_rfl) (by kernel_rfl) (by kernel_rfl) (by kernel_rfl) (fun _ _ _ h => h) (by kernel_rfl) (fun v hv => by have z := cell_of_row _ t 7 _ _ _ hv.2; go_simp) hS ?_
  try simp only [List.getElem_toArray, List.getElem_cons_zero, List.getElem_cons_succ, Act.put, List.setIfInBounds_toArray, List.set_cons_zero, List.set_cons_succ]
  refine Ord.Till.take' 39 (some 79) (oi := _) (x := .int .i64 (n6 : Int)) rfl rfl (by kernel_rfl) (by kernel_rfl) (by kernel_rfl) (by kernel_rfl) (fun _ _ _ h => h) (by kernel_rfl) (fun v hv => by go_simp) hS ?_
  try simp only [List.getElem_toArray, List.getElem_cons_zero, List.getElem_cons_succ, Act.put, List.setIfInBounds_toArray, List.set_cons_zero, List.set_cons_succ]
  refine Ord.Till.take' 40 (some 80) (oi := _) (x := .bool false) rfl rfl (by kernel_rfl) (by kernel_rfl) (by kernel_rfl) (by kernel_rfl) (fun _ _ _ h => h) (by kernel_rfl) (fun v hv => by go_simp) hS ?_
  try simp only [List.getElem_toArray, List.getElem_cons_zero, List.getElem_cons_succ, Act.put, List.setIfInBounds_toArray, List.set_cons_zero, List.set_cons_succ]
  refine Ord.Till.take' 41 (some 81) (oi := _) (x := .bool false) rfl rfl (by kernel_rfl) (by kernel_rfl) (by kernel_rfl) (by kernel_rfl) (fun _ _ _ h => h) (by kernel_rfl) (fun v hv => by go_simp) hS ?_
  try simp only [List.getElem_toArray, List.getElem_cons_zero, List.getElem_cons_succ, Act.put, List.setIfInBounds_toArray, List.set_cons_zero, List.set_cons_succ]
  refine Ord.Till.done (by kernel_rfl) ?_ _
  have HB9 := hid (B7.out.trans (b6.mono B7.out.size))
  have cu0 := cell_of_row _ u 0 _ _ _ hS.1
  have cu1 := cell_of_row _ u 1 _ _ _ hS.1
  have cu2 := cell_of_row _ u 2 _ _ _ hS.1
  have ct1 := cell_of_row _ t 1 _ _ _ hS.2
  have ct2 := cell_of_row _ t 2 _ _ _ hS.2
  clear hS b6 HWS HWT HUS HUT HDS HDT HPS HPT HS B7 e1 e2 e3 e4 e5 e6
  by_cases h3 : s0 = 3
  · subst h3
    obtain ⟨rfl, rfl⟩ := HE7.out rfl
    clear HE7
    go_wp2_with fail
    go_ret
    exact ⟨rfl, HB9.out⟩
  · have h3b : (s0 != 3) = true := by simpa using h3
    clear HE7
    go_wp2_with fail
    go_ret
    exact ⟨rfl, HB9.out⟩
end Go.Proofs.YtechacnflegliaaDoor.Bnd
