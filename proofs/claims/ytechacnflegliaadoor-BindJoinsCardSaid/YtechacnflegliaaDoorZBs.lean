/-
  BindJoins, walked.
-/
import Derived.Test.YtechacnflegliaaDoorZBq
namespace Go.Proofs.YtechacnflegliaaDoor.Bnd
open Go.RowKit Go.Proofs Go.Proofs.YtechacnflegliaaDoor.Byt
open Go.Proofs.YtechacnflegliaaDoor.Obj (Sy)
open Go.Proofs.YtechacnflegliaaDoor.Arp (RdI)

theorem pl_low {w : World} {K : Nat} {v : Value} {l : List Int} {a : Nat} {cs : Array Value} (h : Pl w K v l) (ha : K ≤ a) : Pl (w.setRow a cs) K v l := by
  obtain ⟨A, n, c, rfl, hr, h1, h2⟩ := h
  refine ⟨A, n, c, rfl, ⟨hr.1, fun k hk => ?_⟩, h1, h2⟩
  obtain ⟨b, o, e, hb, hc⟩ := hr.2 k hk
  exact ⟨b, o, e, hb, (cell_setRow_other _ _ _ _ (by show b ≠ a; omega)).trans hc⟩
def FinS (a b u : Nat) (r q p : Array Value) (W : World) : Prop := W.heap[a]? = some (.cells r 27 (0, 0)) ∧ W.heap[b]? = some (.cells q 27 (0, 0)) ∧ W.heap[u]? = some (.cells p 27 (0, 0))
/-- Three states in their variables. -/
def JnS (u : Nat) (r q p : Array Value) (W : World) : Prop := W.heap[u]? = some (.cells r 27 (0, 0)) ∧ W.heap[u + 1]? = some (.cells q 27 (0, 0)) ∧ W.heap[u + 1 + 1]? = some (.cells p 27 (0, 0))
set_option linter.unusedSimpArgs false in
set_option maxRecDepth 100000 in
set_option maxHeartbeats 16000000 in
theorem joins13 (w : World) (hP : Prec w) (A : Option Addr) (n c : Nat) (xs : List Us) (h : RdU w w.heap.size A n xs) (B : Option Addr) (m d : Nat) (ys : List Us) (h' : RdU w w.heap.size B m ys) (C : Option Addr) (l ce : Nat) (zs : List Us) (h'' : RdU w w.heap.size C l zs) :
    Calls Tryd.prog 3 #[.slice A n c, .slice B m d, .slice C l ce] w fun e w' => e = .returned (.bool true) ∧ Below w.heap.size w w' := by
  obtain ⟨W, rfl⟩ : ∃ W : World, W = w := ⟨_, rfl⟩
  have HP := hid (fun (V : World) (hV : Below W.heap.size W V) => hP.on hV)
  have HX := hid (fun (V : World) (hV : Below W.heap.size W V) => h.below hV)
  have HY := hid (fun (V : World) (hV : Below W.heap.size W V) => h'.below hV)
  have HZ := hid (fun (V : World) (hV : Below W.heap.size W V) => h''.below hV)
  clear hP h h' h''
  go_enter Tryd.func3, Tryd.ntmps3
  go_wp2_with fail
  refine (awake_any W (HP.out W (Below.refl _ _))).mono ?_
  rintro e w1 ⟨rfl, b1⟩
  go_wp2_with fail
  refine (right_any W.heap.size A n c xs w1 (HX.out w1 b1) b1.size).mono ?_
  rintro e w2 ⟨rfl, b2'⟩
  have b2 := b1.trans (b2'.mono b1.size)
  clear b1 b2'
  cases hr : rightL xs
  · clear hr
    go_wp2_with fail
    refine (awake_any w2 (HP.out w2 b2)).mono ?_
    rintro e w3 ⟨rfl, b3⟩
    go_wp2_with fail
    go_ret
    exact ⟨rfl, b2.trans (b3.mono b2.size)⟩
  have HRX := hid (rightL_iff.1 hr)
  have hln : n ≤ 50 := by have := (HX.out w2 b2).1; have := HRX.out; omega
  clear hr
  go_wp2_with fail
  refine (right_any W.heap.size B m d ys w2 (HY.out w2 b2) b2.size).mono ?_
  rintro e w3 ⟨rfl, b3'⟩
  have b3 := b2.trans (b3'.mono b2.size)
  clear b2 b3'
  cases hr : rightL ys
  · clear hr
    go_wp2_with fail
    refine (awake_any w3 (HP.out w3 b3)).mono ?_
    rintro e w4 ⟨rfl, b4⟩
    go_wp2_with fail
    go_ret
    exact ⟨rfl, b3.trans (b4.mono b3.size)⟩
  have HRY := hid (rightL_iff.1 hr)
  have hlm : m ≤ 50 := by have := (HY.out w3 b3).1; have := HRY.out; omega
  clear hr
  go_wp2_with fail
  refine (right_any W.heap.size C l ce zs w3 (HZ.out w3 b3) b3.size).mono ?_
  rintro e w4 ⟨rfl, b4'⟩
  have b4 := b3.trans (b4'.mono b3.size)
  clear b3 b4'
  cases hr : rightL zs
  · clear hr
    go_wp2_with fail
    refine (awake_any w4 (HP.out w4 b4)).mono ?_
    rintro e w5 ⟨rfl, b5⟩
    go_wp2_with fail
    go_ret
    exact ⟨rfl, b4.trans (b5.mono b4.size)⟩
  have HRZ := hid (rightL_iff.1 hr)
  have hll : l ≤ 50 := by have := (HZ.out w4 b4).1; have := HRZ.out; omega
  clear hr
  have HAX := hid (fun (V : World) (hV : Below W.heap.size W V) => all_any W.heap.size A n c xs V (HP.out V hV) (HX.out V hV) hV.size (by omega) HRX.out.2)
  have HAY := hid (fun (V : World) (hV : Below W.heap.size W V) => all_any W.heap.size B m d ys V (HP.out V hV) (HY.out V hV) hV.size (by omega) HRY.out.2)
  have HAZ := hid (fun (V : World) (hV : Below W.heap.size W V) => all_any W.heap.size C l ce zs V (HP.out V hV) (HZ.out V hV) hV.size (by omega) HRZ.out.2)
  have LX := hid (all_len xs)
  have LY := hid (all_len ys)
  have LZ := hid (all_len zs)
  have HWX := hid (wf_all xs)
  have HOF : Hid (ofL (xs ++ ys) = joi (allL xs) (allL ys)) := hid (by
    rw [ofL_all (xs ++ ys) (fun x hx => by
      rcases List.mem_append.1 hx with hx | hx
      · exact HRX.out.2 x hx
      · exact HRY.out.2 x hx), all_append])
  generalize allL xs = X at *
  generalize allL ys = Y at *
  generalize allL zs = Z at *
  go_wp2_with fail
  refine (HAX.out w4 b4).mono ?_
  rintro e w5 ⟨v1, rfl, o1, b5'⟩
  have b5 := b4.trans (b5'.mono b4.size)
  have p1 := o1.pl
  obtain ⟨A1, n1, c1, rfl, _, _, _⟩ := id p1
  clear o1 b4 b5'
  go_wp2_with fail
  refine (HAY.out w5 b5).mono ?_
  rintro e w6 ⟨v2, rfl, o2, b6'⟩
  have b6 := b5.trans (b6'.mono b5.size)
  have p1 := (p1.below b6').more b6'.size
  have p2 := o2.pl
  obtain ⟨A2, n2, c2, rfl, _, _, _⟩ := id p2
  clear o2 b5 b6'
  go_wp2_with fail
  refine (HAZ.out w6 b6).mono ?_
  rintro e w7 ⟨v3, rfl, o3, b7'⟩
  have b7 := b6.trans (b7'.mono b6.size)
  have p1 := (p1.below b7').more b7'.size
  have p2 := (p2.below b7').more b7'.size
  have p3 := o3.pl
  obtain ⟨A3, n3, c3, rfl, _, _, _⟩ := id p3
  clear o3 b6 b7' HAX HAY HAZ
  simp only [St.val, row] at *
  go_upto_region 4 with fail
  obtain ⟨W3, hW3, bW3, r0, r1, r2, z3⟩ := three_new w7 (.cells #[.int .i64 X.bind, .int .i64 X.size, .int .i64 X.align, .int .i64 X.unit, .bool X.dfd, .bool X.sr, .bool X.wr, .slice A1 n1 c1] 27) (.cells #[.int .i64 Y.bind, .int .i64 Y.size, .int .i64 Y.align, .int .i64 Y.unit, .bool Y.dfd, .bool Y.sr, .bool Y.wr, .slice A2 n2 c2] 27) (.cells #[.int .i64 Z.bind, .int .i64 Z.size, .int .i64 Z.align, .int .i64 Z.unit, .bool Z.dfd, .bool Z.sr, .bool Z.wr, .slice A3 n3 c3] 27)
  rw [hW3]
  clear hW3
  obtain ⟨u, hue⟩ : ∃ u, w7.heap.size = u := ⟨_, rfl⟩
  rw [hue] at r0 r1 r2 z3
  rw [hue]
  have b73 := b7.trans (bW3.mono b7.size)
  have HS := hid fun (V : World) (hV : Below W3.heap.size W3 V) => (⟨(hV.block u (by omega)).trans r0, (hV.block (u + 1) (by omega)).trans r1, (hV.block (u + 1 + 1) (by omega)).trans r2⟩ : JnS u _ _ _ V)
  have P1 := hid fun (V : World) (hV : Below W3.heap.size W3 V) => (((p1.below bW3).more bW3.size).below hV).more hV.size
  have P2 := hid fun (V : World) (hV : Below W3.heap.size W3 V) => (((p2.below bW3).more bW3.size).below hV).more hV.size
  have P3 := hid fun (V : World) (hV : Below W3.heap.size W3 V) => (((p3.below bW3).more bW3.size).below hV).more hV.size
  have HP3 := hid fun (V : World) (hV : Below W3.heap.size W3 V) => HP.out V (b73.trans (hV.mono b73.size))
  have HX3 := hid fun (V : World) (hV : Below W3.heap.size W3 V) => HX.out V (b73.trans (hV.mono b73.size))
  have HY3 := hid fun (V : World) (hV : Below W3.heap.size W3 V) => HY.out V (b73.trans (hV.mono b73.size))
  have HB := hid fun (V : World) (hV : Below W3.heap.size W3 V) => b73.trans (hV.mono b73.size)
  have bl := (Below.refl W3.heap.size W3).alloc (Nat.le_refl _) (.cells #[] 39)
  have hlit := Cel.Own.lit0 39 5 W3 W3.heap.size (Nat.le_refl _)
  have LX' : X.strongs.length ≤ 50 := by have := LX.out; have := HRX.out.1; omega
  have LY' : Y.strongs.length ≤ 50 := by have := LY.out; have := HRY.out.1; omega
  have LZ' : Z.strongs.length ≤ 50 := by have := LZ.out; have := HRZ.out.1; omega
  clear r0 r1 r2 z3 p1 p2 p3 bW3 b7 hue b73 HP HX HY HZ
  go_upto_region 5 with (at_builtin; first | (refine Cel.wpList_rd kU _ W3.heap.size W.heap.size _ 0 [] hlit bl.size A n c (ucells xs) (HX3.out _ bl).cel ucells_one (by omega) (by omega) rfl (.tmp 37) (.tmp 38) rfl rfl rfl ?_; intro v1 y1 ho1 hb1; rw [Nat.zero_add, List.nil_append] at ho1; have bl1 := bl.trans hb1) | (refine Cel.wpList_rd kU _ W3.heap.size W.heap.size v1 n _ ho1 bl1.size B m d (ucells ys) (HY3.out _ bl1).cel ucells_one (by omega) (by omega) rfl (.tmp 39) (.tmp 40) rfl rfl rfl ?_; intro v2 y2 ho2 hb2; rw [← ucells_append] at ho2; have b2 := bl1.trans hb2))
  obtain ⟨A4, c4, rfl, hrd, _, _⟩ := ho2.reads
  have hm2 := rdu_of hrd
  clear hlit bl ho1 hb1 bl1 hb2 ho2 hrd HX3 HY3
  have hs := HS.out y2 b2
  go_wp2_with (first | (refine ldS rfl _ rfl u rfl _ hs.1 rfl ?_) | (refine ldS rfl _ rfl (u + 1) rfl _ hs.2.1 rfl ?_))
  refine (qjoin X Y (joi X Y) rfl _ _ y2 (HP3.out y2 b2) (P1.out y2 b2) (P2.out y2 b2) (by omega) (by omega)).mono ?_
  rintro e y3 ⟨v3, rfl, o3, k3⟩
  have LJ : (joi X Y).strongs.length ≤ 100 := by have e : (joi X Y).strongs = X.strongs ++ Y.strongs := rfl; rw [e, List.length_append]; omega
  have HA := hid (joi_assoc X Y Z)
  have HE1 := hid (joi_emp X)
  have HE2 := hid (emp_joi HWX.out)
  have b3 := b2.trans (k3.mono b2.size)
  have pj := o3.pl
  have hm3 := (hm2.below k3).more k3.size
  obtain ⟨A5, n5, c5, rfl, _, _, _⟩ := id pj
  clear o3 k3 b2 hm2 hs
  generalize hJ : joi X Y = J at *
  have HJ := hid hJ
  clear hJ
  simp only [St.val, row]
  go_wp2_with fail
  refine (qstate J A5 n5 c5 y3).mono ?_
  rintro e y4 ⟨rfl, k4⟩
  simp only [St.val, row]
  have b4 := b3.trans (k4.mono b3.size)
  have pj := (pj.below k4).more k4.size
  have hm3 := (hm3.below k4).more k4.size
  clear k4 b3
  go_wp2_with fail
  refine (of_any y4.heap.size A4 (n + m) c4 (xs ++ ys) y4 hm3 (Nat.le_refl _) (by omega)).mono ?_
  rw [HOF.out]
  rintro e y5 ⟨v5, rfl, o5, k5⟩
  have b5 := b4.trans (k5.mono b4.size)
  have pj := (pj.below k5).more k5.size
  have pk := o5.pl
  obtain ⟨A6, n6, c6, rfl, _, _, _⟩ := id pk
  clear o5 k5 b4 hm3
  simp only [St.val, row]
  go_wp2_with fail
  refine (qsame J _ _ y5 pj pk (by omega)).mono ?_
  rintro e y6 ⟨rfl, k6⟩
  have b6 := b5.trans (k6.mono b5.size)
  clear k6 b5 pj pk
  go_upto_region 7 with fail
  go_cut [11] from 50 to 54 (fun sv wx => ∃ a v, sv = .pointer (some ⟨a, 0, none⟩) ∧ W3.heap.size ≤ a ∧ wx.heap[a]? = some (.cells (row (joi J Z) v) 27 (0, 0)) ∧ Below W3.heap.size W3 wx ∧ Pl wx wx.heap.size v (joi J Z).strongs)
  case first =>
    have bd : Below y6.heap.size y6 y6.drew := (Below.refl _ _).drew
    have c0 := b6.trans (bd.mono b6.size)
    clear bd
    have hS := HS.out _ c0
    refine Ord.Till.begin (JnS u #[.int .i64 X.bind, .int .i64 X.size, .int .i64 X.align, .int .i64 X.unit, .bool X.dfd, .bool X.sr, .bool X.wr, .slice A1 n1 c1] #[.int .i64 Y.bind, .int .i64 Y.size, .int .i64 Y.align, .int .i64 Y.unit, .bool Y.dfd, .bool Y.sr, .bool Y.wr, .slice A2 n2 c2] #[.int .i64 Z.bind, .int .i64 Z.size, .int .i64 Z.align, .int .i64 Z.unit, .bool Z.dfd, .bool Z.sr, .bool Z.wr, .slice A3 n3 c3]) 6 (by kernel_rfl) ?_
    generalize y6.drew = wd at *
    refine Ord.Till.take' 0 (some 50) (oi := _) (x := .agg #[.int .i64 X.bind, .int .i64 X.size, .int .i64 X.align, .int .i64 X.unit, .bool X.dfd, .bool X.sr, .bool X.wr, .slice A1 n1 c1]) rfl rfl (by kernel_rfl) (by kernel_rfl) (by kernel_rfl) (by kernel_rfl) (fun _ _ _ h => h) (by kernel_rfl) (fun v hv => exec_ld 27 _ Tryd.underlying27 rfl _ rfl u 0 rfl _ (by kernel_rfl) (range_row hv.1)) hS ?_
    try simp only [List.getElem_toArray, List.getElem_cons_zero, List.getElem_cons_succ, Act.put, List.setIfInBounds_toArray, List.set_cons_zero, List.set_cons_succ]
    refine Ord.Till.take' 1 (some 51) (oi := _) (x := .agg #[.int .i64 Y.bind, .int .i64 Y.size, .int .i64 Y.align, .int .i64 Y.unit, .bool Y.dfd, .bool Y.sr, .bool Y.wr, .slice A2 n2 c2]) rfl rfl (by kernel_rfl) (by kernel_rfl) (by kernel_rfl) (by kernel_rfl) (fun _ _ _ h => h) (by kernel_rfl) (fun v hv => exec_ld 27 _ Tryd.underlying27 rfl _ rfl (u + 1) 0 rfl _ (by kernel_rfl) (range_row hv.2.1)) hS ?_
    try simp only [List.getElem_toArray, List.getElem_cons_zero, List.getElem_cons_succ, Act.put, List.setIfInBounds_toArray, List.set_cons_zero, List.set_cons_succ]
    refine Ord.Till.take' 3 (some 53) (oi := _) (x := .agg #[.int .i64 Z.bind, .int .i64 Z.size, .int .i64 Z.align, .int .i64 Z.unit, .bool Z.dfd, .bool Z.sr, .bool Z.wr, .slice A3 n3 c3]) rfl rfl (by kernel_rfl) (by kernel_rfl) (by kernel_rfl) (by kernel_rfl) (fun _ _ _ h => h) (by kernel_rfl) (fun v hv => exec_ld 27 _ Tryd.underlying27 rfl _ rfl (u + 1 + 1) 0 rfl _ (by kernel_rfl) (range_row hv.2.2)) hS ?_
    try simp only [List.getElem_toArray, List.getElem_cons_zero, List.getElem_cons_succ, Act.put, List.setIfInBounds_toArray, List.set_cons_zero, List.set_cons_succ]
    refine Ord.Till.two 2 5 (by kernel_rfl) rfl rfl (fun C hC => ?_) (fun C hC => ?_)
    · go_simp
      go_at_call 12
      refine (qjoin X Y J HJ.out _ _ wd (HP3.out wd c0) (P1.out wd c0) (P2.out wd c0) (by omega) (by omega)).mono ?_
      rintro e y7 ⟨v7, rfl, o7, hk⟩
      have cy7 := c0.trans (hk.mono c0.size)
      have hS := HS.out _ cy7
      clear hk
      have pv7 := o7.pl
      go_wp2_with fail
      refine hC.out _ _ (fun _ => hS) ?_
      clear hC C
      try simp only [List.getElem_toArray, List.getElem_cons_zero, List.getElem_cons_succ, Act.put, List.setIfInBounds_toArray, List.set_cons_zero, List.set_cons_succ]
      refine Ord.Till.two 4 5 (by kernel_rfl) rfl rfl (fun C hC => ?_) (fun C hC => ?_)
      · go_simp
        go_at_call 12
        refine (qjoin J Z (joi J Z) rfl _ _ y7 (HP3.out y7 cy7) pv7 (P3.out y7 cy7) (by omega) (by omega)).mono ?_
        rintro e y8 ⟨v8, rfl, o8, hk⟩
        have cy8 := cy7.trans (hk.mono cy7.size)
        have hS := HS.out _ cy8
        clear hk
        have pv8 := o8.pl
        go_wp2_with fail
        refine hC.out _ _ (fun _ => hS) ?_
        clear hC C
        try simp only [List.getElem_toArray, List.getElem_cons_zero, List.getElem_cons_succ, Act.put, List.setIfInBounds_toArray, List.set_cons_zero, List.set_cons_succ]
        refine Ord.Till.step 5 (by kernel_rfl) rfl (fun C hC => ?_)
        go_simp
        have hk := (Below.refl y8.heap.size y8).alloc (Nat.le_refl _) (.cells #[.int .i64 0, .int .i64 0, .int .i64 0, .int .i64 0, .bool false, .bool false, .bool false, .slice none 0 0] 27)
        have hZ := heap_alloc_new y8 (.cells #[.int .i64 0, .int .i64 0, .int .i64 0, .int .i64 0, .bool false, .bool false, .bool false, .slice none 0 0] 27)
        have hz := World.size_alloc y8 (.cells #[.int .i64 0, .int .i64 0, .int .i64 0, .int .i64 0, .bool false, .bool false, .bool false, .slice none 0 0] 27)
        have cy9 := cy8.trans (hk.mono cy8.size)
        have hS := HS.out _ cy9
        have pq := pv8.below hk
        refine hC.out _ _ (fun _ => hS) ?_
        clear hC C
        try simp only [List.getElem_toArray, List.getElem_cons_zero, List.getElem_cons_succ, Act.put, List.setIfInBounds_toArray, List.set_cons_zero, List.set_cons_succ]
        generalize y8.alloc (.cells #[.int .i64 0, .int .i64 0, .int .i64 0, .int .i64 0, .bool false, .bool false, .bool false, .slice none 0 0] 27) = y9 at *
        have hgea : W3.heap.size ≤ y8.heap.size := cy8.size
        obtain ⟨a, ha⟩ : ∃ a, y8.heap.size = a := ⟨_, rfl⟩
        rw [ha] at hZ hz hgea pq
        rw [ha]
        have hal : a < y9.heap.size := by omega
        clear hk ha hz
        have hv8 := pl_slice pv8
        refine Ord.Till.step 6 (by kernel_rfl) rfl (fun C hC => ?_)
        rw [if_pos (by kernel_rfl)]
        refine wp_store_row 27 _ _ rfl a (row (joi J Z) v8) rfl rfl 27 _ hZ (by kernel_rfl) rfl (row_one hv8) ?_
        refine hC.out _ _ (fun hz => absurd rfl hz) ?_
        clear hC C
        try simp only [List.getElem_toArray, List.getElem_cons_zero, List.getElem_cons_succ, Act.put, List.setIfInBounds_toArray, List.set_cons_zero, List.set_cons_succ]
        refine Ord.Till.done (by kernel_rfl) ?_ _
        go_wp2_with fail
        go_meet
        exact ⟨a, v8, rfl, hgea, setRow_heap _ _ _ _ _ _ hZ, below_setRow' cy9 hgea _, (pl_low pq (Nat.le_refl _)).more (by rw [setRow_size]; omega)⟩
      · go_simp
        have hk := (Below.refl y7.heap.size y7).alloc (Nat.le_refl _) (.cells #[.int .i64 0, .int .i64 0, .int .i64 0, .int .i64 0, .bool false, .bool false, .bool false, .slice none 0 0] 27)
        have hZ := heap_alloc_new y7 (.cells #[.int .i64 0, .int .i64 0, .int .i64 0, .int .i64 0, .bool false, .bool false, .bool false, .slice none 0 0] 27)
        have hz := World.size_alloc y7 (.cells #[.int .i64 0, .int .i64 0, .int .i64 0, .int .i64 0, .bool false, .bool false, .bool false, .slice none 0 0] 27)
        have cy9 := cy7.trans (hk.mono cy7.size)
        have hS := HS.out _ cy9
        have pv7 := (pv7.below hk).more hk.size
        refine hC.out _ _ (fun _ => hS) ?_
        clear hC C
        try simp only [List.getElem_toArray, List.getElem_cons_zero, List.getElem_cons_succ, Act.put, List.setIfInBounds_toArray, List.set_cons_zero, List.set_cons_succ]
        generalize y7.alloc (.cells #[.int .i64 0, .int .i64 0, .int .i64 0, .int .i64 0, .bool false, .bool false, .bool false, .slice none 0 0] 27) = y9 at *
        have hgea : W3.heap.size ≤ y7.heap.size := cy7.size
        obtain ⟨a, ha⟩ : ∃ a, y7.heap.size = a := ⟨_, rfl⟩
        rw [ha] at hZ hz hgea
        rw [ha]
        have hal : a < y9.heap.size := by omega
        clear hk ha hz
        refine Ord.Till.step 4 (by kernel_rfl) rfl (fun C hC => ?_)
        go_simp
        go_at_call 12
        refine (qjoin J Z (joi J Z) rfl _ _ y9 (HP3.out y9 cy9) pv7 (P3.out y9 cy9) (by omega) (by omega)).mono ?_
        rintro e y8 ⟨v8, rfl, o8, hk⟩
        have cy8 := cy9.trans (hk.mono cy9.size)
        have hS := HS.out _ cy8
        have hZ := (hk.block a hal).trans hZ
        have hlo : a < y9.heap.size := hal
        have hal : a < y8.heap.size := by have := hk.size; omega
        clear hk
        have pv8 := o8.pl
        go_wp2_with fail
        refine hC.out _ _ (fun _ => hS) ?_
        clear hC C
        try simp only [List.getElem_toArray, List.getElem_cons_zero, List.getElem_cons_succ, Act.put, List.setIfInBounds_toArray, List.set_cons_zero, List.set_cons_succ]
        have hv8 := pl_slice pv8
        refine Ord.Till.step 6 (by kernel_rfl) rfl (fun C hC => ?_)
        rw [if_pos (by kernel_rfl)]
        refine wp_store_row 27 _ _ rfl a (row (joi J Z) v8) rfl rfl 27 _ hZ (by kernel_rfl) rfl (row_one hv8) ?_
        refine hC.out _ _ (fun hz => absurd rfl hz) ?_
        clear hC C
        try simp only [List.getElem_toArray, List.getElem_cons_zero, List.getElem_cons_succ, Act.put, List.setIfInBounds_toArray, List.set_cons_zero, List.set_cons_succ]
        refine Ord.Till.done (by kernel_rfl) ?_ _
        go_wp2_with fail
        go_meet
        exact ⟨a, v8, rfl, hgea, setRow_heap _ _ _ _ _ _ hZ, below_setRow' cy8 hgea _, (OwnI.keep o8 fun q hq _ => setRow_other _ _ _ _ (by omega)).pl⟩
    · go_simp
      have hk := (Below.refl wd.heap.size wd).alloc (Nat.le_refl _) (.cells #[.int .i64 0, .int .i64 0, .int .i64 0, .int .i64 0, .bool false, .bool false, .bool false, .slice none 0 0] 27)
      have hZ := heap_alloc_new wd (.cells #[.int .i64 0, .int .i64 0, .int .i64 0, .int .i64 0, .bool false, .bool false, .bool false, .slice none 0 0] 27)
      have hz := World.size_alloc wd (.cells #[.int .i64 0, .int .i64 0, .int .i64 0, .int .i64 0, .bool false, .bool false, .bool false, .slice none 0 0] 27)
      have cy9 := c0.trans (hk.mono c0.size)
      have hS := HS.out _ cy9
      refine hC.out _ _ (fun _ => hS) ?_
      clear hC C
      try simp only [List.getElem_toArray, List.getElem_cons_zero, List.getElem_cons_succ, Act.put, List.setIfInBounds_toArray, List.set_cons_zero, List.set_cons_succ]
      generalize wd.alloc (.cells #[.int .i64 0, .int .i64 0, .int .i64 0, .int .i64 0, .bool false, .bool false, .bool false, .slice none 0 0] 27) = y9 at *
      have hgea : W3.heap.size ≤ wd.heap.size := c0.size
      obtain ⟨a, ha⟩ : ∃ a, wd.heap.size = a := ⟨_, rfl⟩
      rw [ha] at hZ hz hgea
      rw [ha]
      have hal : a < y9.heap.size := by omega
      clear hk ha hz
      refine Ord.Till.step 2 (by kernel_rfl) rfl (fun C hC => ?_)
      go_simp
      go_at_call 12
      refine (qjoin X Y J HJ.out _ _ y9 (HP3.out y9 cy9) (P1.out y9 cy9) (P2.out y9 cy9) (by omega) (by omega)).mono ?_
      rintro e y7 ⟨v7, rfl, o7, hk⟩
      have cy7 := cy9.trans (hk.mono cy9.size)
      have hS := HS.out _ cy7
      have hZ := (hk.block a hal).trans hZ
      have hlo : a < y9.heap.size := hal
      have hal : a < y7.heap.size := by have := hk.size; omega
      clear hk
      have pv7 := o7.pl
      go_wp2_with fail
      refine hC.out _ _ (fun _ => hS) ?_
      clear hC C
      try simp only [List.getElem_toArray, List.getElem_cons_zero, List.getElem_cons_succ, Act.put, List.setIfInBounds_toArray, List.set_cons_zero, List.set_cons_succ]
      refine Ord.Till.step 4 (by kernel_rfl) rfl (fun C hC => ?_)
      go_simp
      go_at_call 12
      refine (qjoin J Z (joi J Z) rfl _ _ y7 (HP3.out y7 cy7) pv7 (P3.out y7 cy7) (by omega) (by omega)).mono ?_
      rintro e y8 ⟨v8, rfl, o8, hk⟩
      have cy8 := cy7.trans (hk.mono cy7.size)
      have hS := HS.out _ cy8
      have hZ := (hk.block a hal).trans hZ
      have hlo : a < y7.heap.size := hal
      have hal : a < y8.heap.size := by have := hk.size; omega
      clear hk
      have pv8 := o8.pl
      go_wp2_with fail
      refine hC.out _ _ (fun _ => hS) ?_
      clear hC C
      try simp only [List.getElem_toArray, List.getElem_cons_zero, List.getElem_cons_succ, Act.put, List.setIfInBounds_toArray, List.set_cons_zero, List.set_cons_succ]
      have hv8 := pl_slice pv8
      refine Ord.Till.step 6 (by kernel_rfl) rfl (fun C hC => ?_)
      rw [if_pos (by kernel_rfl)]
      refine wp_store_row 27 _ _ rfl a (row (joi J Z) v8) rfl rfl 27 _ hZ (by kernel_rfl) rfl (row_one hv8) ?_
      refine hC.out _ _ (fun hz => absurd rfl hz) ?_
      clear hC C
      try simp only [List.getElem_toArray, List.getElem_cons_zero, List.getElem_cons_succ, Act.put, List.setIfInBounds_toArray, List.set_cons_zero, List.set_cons_succ]
      refine Ord.Till.done (by kernel_rfl) ?_ _
      go_wp2_with fail
      go_meet
      exact ⟨a, v8, rfl, hgea, setRow_heap _ _ _ _ _ _ hZ, below_setRow' cy8 hgea _, (OwnI.keep o8 fun q hq _ => setRow_other _ _ _ _ (by omega)).pl⟩
  case rest =>
    obtain ⟨a, v9, rfl, hga, hra, ba, pva⟩ := hcut
    generalize wc = wj at *
    have hla : a < wj.heap.size := (Array.getElem?_eq_some_iff.1 hra).1
    rw [HA.out] at hra pva
    obtain ⟨A7, n7, c7, rfl, _, _, _⟩ := id pva
    clear b6
    obtain ⟨al, hal0⟩ : ∃ al, a = al := ⟨_, rfl⟩
    rw [hal0] at hra hla hga
    rw [hal0]
    clear hal0
    generalize hE : joi X (joi Y Z) = E at *
    have HE := hid hE
    clear hE
    have LK : (joi Y Z).strongs.length ≤ 100 := by have e : (joi Y Z).strongs = Y.strongs ++ Z.strongs := rfl; rw [e, List.length_append]; omega
    generalize hK : joi Y Z = K at *
    have HK := hid hK
    clear hK
    go_upto_region 8 with fail
    have HS := hid fun (V : World) (hV : Below wj.heap.size wj V) => HS.out V (ba.trans (hV.mono ba.size))
    have P1 := hid fun (V : World) (hV : Below wj.heap.size wj V) => P1.out V (ba.trans (hV.mono ba.size))
    have P2 := hid fun (V : World) (hV : Below wj.heap.size wj V) => P2.out V (ba.trans (hV.mono ba.size))
    have P3 := hid fun (V : World) (hV : Below wj.heap.size wj V) => P3.out V (ba.trans (hV.mono ba.size))
    have HP3 := hid fun (V : World) (hV : Below wj.heap.size wj V) => HP3.out V (ba.trans (hV.mono ba.size))
    have HB := hid fun (V : World) (hV : Below wj.heap.size wj V) => HB.out V (ba.trans (hV.mono ba.size))
    have HLR := hid fun (V : World) (hV : Below wj.heap.size wj V) => (⟨(hV.block al hla).trans hra, (pva.below hV).more hV.size⟩ : _ ∧ _)
    have bb : Below wj.heap.size wj wj := Below.refl _ _
    clear ba hra pva hga
    go_cut [12] from 55 to 59 (fun sv wx => ∃ a v, sv = .pointer (some ⟨a, 0, none⟩) ∧ wj.heap.size ≤ a ∧ wx.heap[a]? = some (.cells (row E v) 27 (0, 0)) ∧ Below wj.heap.size wj wx ∧ Pl wx wx.heap.size v E.strongs)
    case first =>
      have bd : Below wj.heap.size wj wj.drew := (Below.refl _ _).drew
      have c0 := bb.trans (bd.mono bb.size)
      clear bd
      have hS := HS.out _ c0
      refine Ord.Till.begin (JnS u #[.int .i64 X.bind, .int .i64 X.size, .int .i64 X.align, .int .i64 X.unit, .bool X.dfd, .bool X.sr, .bool X.wr, .slice A1 n1 c1] #[.int .i64 Y.bind, .int .i64 Y.size, .int .i64 Y.align, .int .i64 Y.unit, .bool Y.dfd, .bool Y.sr, .bool Y.wr, .slice A2 n2 c2] #[.int .i64 Z.bind, .int .i64 Z.size, .int .i64 Z.align, .int .i64 Z.unit, .bool Z.dfd, .bool Z.sr, .bool Z.wr, .slice A3 n3 c3]) 6 (by kernel_rfl) ?_
      generalize wj.drew = wd at *
      refine Ord.Till.take' 0 (some 55) (oi := _) (x := .agg #[.int .i64 X.bind, .int .i64 X.size, .int .i64 X.align, .int .i64 X.unit, .bool X.dfd, .bool X.sr, .bool X.wr, .slice A1 n1 c1]) rfl rfl (by kernel_rfl) (by kernel_rfl) (by kernel_rfl) (by kernel_rfl) (fun _ _ _ h => h) (by kernel_rfl) (fun v hv => exec_ld 27 _ Tryd.underlying27 rfl _ rfl u 0 rfl _ (by kernel_rfl) (range_row hv.1)) hS ?_
      try simp only [List.getElem_toArray, List.getElem_cons_zero, List.getElem_cons_succ, Act.put, List.setIfInBounds_toArray, List.set_cons_zero, List.set_cons_succ]
      refine Ord.Till.take' 1 (some 56) (oi := _) (x := .agg #[.int .i64 Y.bind, .int .i64 Y.size, .int .i64 Y.align, .int .i64 Y.unit, .bool Y.dfd, .bool Y.sr, .bool Y.wr, .slice A2 n2 c2]) rfl rfl (by kernel_rfl) (by kernel_rfl) (by kernel_rfl) (by kernel_rfl) (fun _ _ _ h => h) (by kernel_rfl) (fun v hv => exec_ld 27 _ Tryd.underlying27 rfl _ rfl (u + 1) 0 rfl _ (by kernel_rfl) (range_row hv.2.1)) hS ?_
      try simp only [List.getElem_toArray, List.getElem_cons_zero, List.getElem_cons_succ, Act.put, List.setIfInBounds_toArray, List.set_cons_zero, List.set_cons_succ]
      refine Ord.Till.take' 2 (some 57) (oi := _) (x := .agg #[.int .i64 Z.bind, .int .i64 Z.size, .int .i64 Z.align, .int .i64 Z.unit, .bool Z.dfd, .bool Z.sr, .bool Z.wr, .slice A3 n3 c3]) rfl rfl (by kernel_rfl) (by kernel_rfl) (by kernel_rfl) (by kernel_rfl) (fun _ _ _ h => h) (by kernel_rfl) (fun v hv => exec_ld 27 _ Tryd.underlying27 rfl _ rfl (u + 1 + 1) 0 rfl _ (by kernel_rfl) (range_row hv.2.2)) hS ?_
      try simp only [List.getElem_toArray, List.getElem_cons_zero, List.getElem_cons_succ, Act.put, List.setIfInBounds_toArray, List.set_cons_zero, List.set_cons_succ]
      refine Ord.Till.two 3 5 (by kernel_rfl) rfl rfl (fun C hC => ?_) (fun C hC => ?_)
      · go_simp
        go_at_call 12
        refine (qjoin Y Z K HK.out _ _ wd (HP3.out wd c0) (P2.out wd c0) (P3.out wd c0) (by omega) (by omega)).mono ?_
        rintro e y7 ⟨v7, rfl, o7, hk⟩
        have cy7 := c0.trans (hk.mono c0.size)
        have hS := HS.out _ cy7
        clear hk
        have pv7 := o7.pl
        go_wp2_with fail
        refine hC.out _ _ (fun _ => hS) ?_
        clear hC C
        try simp only [List.getElem_toArray, List.getElem_cons_zero, List.getElem_cons_succ, Act.put, List.setIfInBounds_toArray, List.set_cons_zero, List.set_cons_succ]
        refine Ord.Till.two 4 5 (by kernel_rfl) rfl rfl (fun C hC => ?_) (fun C hC => ?_)
        · go_simp
          go_at_call 12
          refine (qjoin X K E HE.out _ _ y7 (HP3.out y7 cy7) (P1.out y7 cy7) pv7 (by omega) (by omega)).mono ?_
          rintro e y8 ⟨v8, rfl, o8, hk⟩
          have cy8 := cy7.trans (hk.mono cy7.size)
          have hS := HS.out _ cy8
          clear hk
          have pv8 := o8.pl
          go_wp2_with fail
          refine hC.out _ _ (fun _ => hS) ?_
          clear hC C
          try simp only [List.getElem_toArray, List.getElem_cons_zero, List.getElem_cons_succ, Act.put, List.setIfInBounds_toArray, List.set_cons_zero, List.set_cons_succ]
          refine Ord.Till.step 5 (by kernel_rfl) rfl (fun C hC => ?_)
          go_simp
          have hk := (Below.refl y8.heap.size y8).alloc (Nat.le_refl _) (.cells #[.int .i64 0, .int .i64 0, .int .i64 0, .int .i64 0, .bool false, .bool false, .bool false, .slice none 0 0] 27)
          have hZ := heap_alloc_new y8 (.cells #[.int .i64 0, .int .i64 0, .int .i64 0, .int .i64 0, .bool false, .bool false, .bool false, .slice none 0 0] 27)
          have hz := World.size_alloc y8 (.cells #[.int .i64 0, .int .i64 0, .int .i64 0, .int .i64 0, .bool false, .bool false, .bool false, .slice none 0 0] 27)
          have cy9 := cy8.trans (hk.mono cy8.size)
          have hS := HS.out _ cy9
          have pq := pv8.below hk
          refine hC.out _ _ (fun _ => hS) ?_
          clear hC C
          try simp only [List.getElem_toArray, List.getElem_cons_zero, List.getElem_cons_succ, Act.put, List.setIfInBounds_toArray, List.set_cons_zero, List.set_cons_succ]
          generalize y8.alloc (.cells #[.int .i64 0, .int .i64 0, .int .i64 0, .int .i64 0, .bool false, .bool false, .bool false, .slice none 0 0] 27) = y9 at *
          have hgea : wj.heap.size ≤ y8.heap.size := cy8.size
          obtain ⟨a, ha⟩ : ∃ a, y8.heap.size = a := ⟨_, rfl⟩
          rw [ha] at hZ hz hgea pq
          rw [ha]
          have hal : a < y9.heap.size := by omega
          clear hk ha hz
          have hv8 := pl_slice pv8
          refine Ord.Till.step 6 (by kernel_rfl) rfl (fun C hC => ?_)
          rw [if_pos (by kernel_rfl)]
          refine wp_store_row 27 _ _ rfl a (row E v8) rfl rfl 27 _ hZ (by kernel_rfl) rfl (row_one hv8) ?_
          refine hC.out _ _ (fun hz => absurd rfl hz) ?_
          clear hC C
          try simp only [List.getElem_toArray, List.getElem_cons_zero, List.getElem_cons_succ, Act.put, List.setIfInBounds_toArray, List.set_cons_zero, List.set_cons_succ]
          refine Ord.Till.done (by kernel_rfl) ?_ _
          go_wp2_with fail
          go_meet
          exact ⟨a, v8, rfl, hgea, setRow_heap _ _ _ _ _ _ hZ, below_setRow' cy9 hgea _, (pl_low pq (Nat.le_refl _)).more (by rw [setRow_size]; omega)⟩
        · go_simp
          have hk := (Below.refl y7.heap.size y7).alloc (Nat.le_refl _) (.cells #[.int .i64 0, .int .i64 0, .int .i64 0, .int .i64 0, .bool false, .bool false, .bool false, .slice none 0 0] 27)
          have hZ := heap_alloc_new y7 (.cells #[.int .i64 0, .int .i64 0, .int .i64 0, .int .i64 0, .bool false, .bool false, .bool false, .slice none 0 0] 27)
          have hz := World.size_alloc y7 (.cells #[.int .i64 0, .int .i64 0, .int .i64 0, .int .i64 0, .bool false, .bool false, .bool false, .slice none 0 0] 27)
          have cy9 := cy7.trans (hk.mono cy7.size)
          have hS := HS.out _ cy9
          have pv7 := (pv7.below hk).more hk.size
          refine hC.out _ _ (fun _ => hS) ?_
          clear hC C
          try simp only [List.getElem_toArray, List.getElem_cons_zero, List.getElem_cons_succ, Act.put, List.setIfInBounds_toArray, List.set_cons_zero, List.set_cons_succ]
          generalize y7.alloc (.cells #[.int .i64 0, .int .i64 0, .int .i64 0, .int .i64 0, .bool false, .bool false, .bool false, .slice none 0 0] 27) = y9 at *
          have hgea : wj.heap.size ≤ y7.heap.size := cy7.size
          obtain ⟨a, ha⟩ : ∃ a, y7.heap.size = a := ⟨_, rfl⟩
          rw [ha] at hZ hz hgea
          rw [ha]
          have hal : a < y9.heap.size := by omega
          clear hk ha hz
          refine Ord.Till.step 4 (by kernel_rfl) rfl (fun C hC => ?_)
          go_simp
          go_at_call 12
          refine (qjoin X K E HE.out _ _ y9 (HP3.out y9 cy9) (P1.out y9 cy9) pv7 (by omega) (by omega)).mono ?_
          rintro e y8 ⟨v8, rfl, o8, hk⟩
          have cy8 := cy9.trans (hk.mono cy9.size)
          have hS := HS.out _ cy8
          have hZ := (hk.block a hal).trans hZ
          have hlo : a < y9.heap.size := hal
          have hal : a < y8.heap.size := by have := hk.size; omega
          clear hk
          have pv8 := o8.pl
          go_wp2_with fail
          refine hC.out _ _ (fun _ => hS) ?_
          clear hC C
          try simp only [List.getElem_toArray, List.getElem_cons_zero, List.getElem_cons_succ, Act.put, List.setIfInBounds_toArray, List.set_cons_zero, List.set_cons_succ]
          have hv8 := pl_slice pv8
          refine Ord.Till.step 6 (by kernel_rfl) rfl (fun C hC => ?_)
          rw [if_pos (by kernel_rfl)]
          refine wp_store_row 27 _ _ rfl a (row E v8) rfl rfl 27 _ hZ (by kernel_rfl) rfl (row_one hv8) ?_
          refine hC.out _ _ (fun hz => absurd rfl hz) ?_
          clear hC C
          try simp only [List.getElem_toArray, List.getElem_cons_zero, List.getElem_cons_succ, Act.put, List.setIfInBounds_toArray, List.set_cons_zero, List.set_cons_succ]
          refine Ord.Till.done (by kernel_rfl) ?_ _
          go_wp2_with fail
          go_meet
          exact ⟨a, v8, rfl, hgea, setRow_heap _ _ _ _ _ _ hZ, below_setRow' cy8 hgea _, (OwnI.keep o8 fun q hq _ => setRow_other _ _ _ _ (by omega)).pl⟩
      · go_simp
        have hk := (Below.refl wd.heap.size wd).alloc (Nat.le_refl _) (.cells #[.int .i64 0, .int .i64 0, .int .i64 0, .int .i64 0, .bool false, .bool false, .bool false, .slice none 0 0] 27)
        have hZ := heap_alloc_new wd (.cells #[.int .i64 0, .int .i64 0, .int .i64 0, .int .i64 0, .bool false, .bool false, .bool false, .slice none 0 0] 27)
        have hz := World.size_alloc wd (.cells #[.int .i64 0, .int .i64 0, .int .i64 0, .int .i64 0, .bool false, .bool false, .bool false, .slice none 0 0] 27)
        have cy9 := c0.trans (hk.mono c0.size)
        have hS := HS.out _ cy9
        refine hC.out _ _ (fun _ => hS) ?_
        clear hC C
        try simp only [List.getElem_toArray, List.getElem_cons_zero, List.getElem_cons_succ, Act.put, List.setIfInBounds_toArray, List.set_cons_zero, List.set_cons_succ]
        generalize wd.alloc (.cells #[.int .i64 0, .int .i64 0, .int .i64 0, .int .i64 0, .bool false, .bool false, .bool false, .slice none 0 0] 27) = y9 at *
        have hgea : wj.heap.size ≤ wd.heap.size := c0.size
        obtain ⟨a, ha⟩ : ∃ a, wd.heap.size = a := ⟨_, rfl⟩
        rw [ha] at hZ hz hgea
        rw [ha]
        have hal : a < y9.heap.size := by omega
        clear hk ha hz
        refine Ord.Till.step 3 (by kernel_rfl) rfl (fun C hC => ?_)
        go_simp
        go_at_call 12
        refine (qjoin Y Z K HK.out _ _ y9 (HP3.out y9 cy9) (P2.out y9 cy9) (P3.out y9 cy9) (by omega) (by omega)).mono ?_
        rintro e y7 ⟨v7, rfl, o7, hk⟩
        have cy7 := cy9.trans (hk.mono cy9.size)
        have hS := HS.out _ cy7
        have hZ := (hk.block a hal).trans hZ
        have hlo : a < y9.heap.size := hal
        have hal : a < y7.heap.size := by have := hk.size; omega
        clear hk
        have pv7 := o7.pl
        go_wp2_with fail
        refine hC.out _ _ (fun _ => hS) ?_
        clear hC C
        try simp only [List.getElem_toArray, List.getElem_cons_zero, List.getElem_cons_succ, Act.put, List.setIfInBounds_toArray, List.set_cons_zero, List.set_cons_succ]
        refine Ord.Till.step 4 (by kernel_rfl) rfl (fun C hC => ?_)
        go_simp
        go_at_call 12
        refine (qjoin X K E HE.out _ _ y7 (HP3.out y7 cy7) (P1.out y7 cy7) pv7 (by omega) (by omega)).mono ?_
        rintro e y8 ⟨v8, rfl, o8, hk⟩
        have cy8 := cy7.trans (hk.mono cy7.size)
        have hS := HS.out _ cy8
        have hZ := (hk.block a hal).trans hZ
        have hlo : a < y7.heap.size := hal
        have hal : a < y8.heap.size := by have := hk.size; omega
        clear hk
        have pv8 := o8.pl
        go_wp2_with fail
        refine hC.out _ _ (fun _ => hS) ?_
        clear hC C
        try simp only [List.getElem_toArray, List.getElem_cons_zero, List.getElem_cons_succ, Act.put, List.setIfInBounds_toArray, List.set_cons_zero, List.set_cons_succ]
        have hv8 := pl_slice pv8
        refine Ord.Till.step 6 (by kernel_rfl) rfl (fun C hC => ?_)
        rw [if_pos (by kernel_rfl)]
        refine wp_store_row 27 _ _ rfl a (row E v8) rfl rfl 27 _ hZ (by kernel_rfl) rfl (row_one hv8) ?_
        refine hC.out _ _ (fun hz => absurd rfl hz) ?_
        clear hC C
        try simp only [List.getElem_toArray, List.getElem_cons_zero, List.getElem_cons_succ, Act.put, List.setIfInBounds_toArray, List.set_cons_zero, List.set_cons_succ]
        refine Ord.Till.done (by kernel_rfl) ?_ _
        go_wp2_with fail
        go_meet
        exact ⟨a, v8, rfl, hgea, setRow_heap _ _ _ _ _ _ hZ, below_setRow' cy8 hgea _, (OwnI.keep o8 fun q hq _ => setRow_other _ _ _ _ (by omega)).pl⟩
    case rest =>
      obtain ⟨ar, v8, rfl, hgr, hrr, br, pvr⟩ := hcut
      obtain ⟨A8, n8, c8, rfl, _, _, _⟩ := id pvr
      have hlr : ar < wc.heap.size := (Array.getElem?_eq_some_iff.1 hrr).1
      have LE : E.strongs.length ≤ 1000 := by have e : E = joi X K := HE.out.symm; rw [e]; have e2 : (joi X K).strongs = X.strongs ++ K.strongs := rfl; rw [e2, List.length_append]; omega
      have HS := hid fun (V : World) (hV : Below wc.heap.size wc V) => (⟨(HLR.out V (br.trans (hV.mono br.size))).1, (hV.block ar hlr).trans hrr, (HS.out V (br.trans (hV.mono br.size))).1⟩ : FinS al ar u _ _ _ V)
      have PL := hid fun (V : World) (hV : Below wc.heap.size wc V) => (HLR.out V (br.trans (hV.mono br.size))).2
      have PR := hid fun (V : World) (hV : Below wc.heap.size wc V) => (pvr.below hV).more hV.size
      have P1 := hid fun (V : World) (hV : Below wc.heap.size wc V) => P1.out V (br.trans (hV.mono br.size))
      have HP3 := hid fun (V : World) (hV : Below wc.heap.size wc V) => HP3.out V (br.trans (hV.mono br.size))
      have HB := hid fun (V : World) (hV : Below wc.heap.size wc V) => HB.out V (br.trans (hV.mono br.size))
      have HEm := hid (fun (V : World) => empty_any V)
      unfold St.val emp at HEm
      simp only [row] at HEm
      clear bb br hrr pvr hgr HLR P2 P3
      go_upto_region 9 with fail
      have b0 : Below wc.heap.size wc wc.drew := (Below.refl _ _).drew
      have hS := HS.out _ b0
      simp only [row] at hS
      refine Ord.Till.begin (FinS al ar u #[.int .i64 E.bind, .int .i64 E.size, .int .i64 E.align, .int .i64 E.unit, .bool E.dfd, .bool E.sr, .bool E.wr, .slice A7 n7 c7] #[.int .i64 E.bind, .int .i64 E.size, .int .i64 E.align, .int .i64 E.unit, .bool E.dfd, .bool E.sr, .bool E.wr, .slice A8 n8 c8] #[.int .i64 X.bind, .int .i64 X.size, .int .i64 X.align, .int .i64 X.unit, .bool X.dfd, .bool X.sr, .bool X.wr, .slice A1 n1 c1]) 60 (by kernel_rfl) ?_
      generalize wc.drew = yy0 at *
      refine Ord.Till.take' 0 (some 60) (oi := _) (x := .agg #[.int .i64 E.bind, .int .i64 E.size, .int .i64 E.align, .int .i64 E.unit, .bool E.dfd, .bool E.sr, .bool E.wr, .slice A7 n7 c7]) rfl rfl (by kernel_rfl) (by kernel_rfl) (by kernel_rfl) (by kernel_rfl) (fun _ _ _ h => h) (by kernel_rfl) (fun v hv => exec_ld 27 _ Tryd.underlying27 rfl _ rfl al 0 rfl _ (by kernel_rfl) (range_row hv.1)) hS ?_
      try simp only [List.getElem_toArray, List.getElem_cons_zero, List.getElem_cons_succ, Act.put, List.setIfInBounds_toArray, List.set_cons_zero, List.set_cons_succ]
      refine Ord.Till.take' 2 (some 62) (oi := _) (x := .agg #[.int .i64 E.bind, .int .i64 E.size, .int .i64 E.align, .int .i64 E.unit, .bool E.dfd, .bool E.sr, .bool E.wr, .slice A8 n8 c8]) rfl rfl (by kernel_rfl) (by kernel_rfl) (by kernel_rfl) (by kernel_rfl) (fun _ _ _ h => h) (by kernel_rfl) (fun v hv => exec_ld 27 _ Tryd.underlying27 rfl _ rfl ar 0 rfl _ (by kernel_rfl) (range_row hv.2.1)) hS ?_
      try simp only [List.getElem_toArray, List.getElem_cons_zero, List.getElem_cons_succ, Act.put, List.setIfInBounds_toArray, List.set_cons_zero, List.set_cons_succ]
      refine Ord.Till.step 1 (by kernel_rfl) rfl (fun C hC => ?_)
      go_simp
      go_at_call 11
      refine (qstate E A7 n7 c7 yy0).mono ?_
      rintro e yy1 ⟨rfl, hk⟩
      simp only [St.val, row]
      have b1 := b0.trans (hk.mono b0.size)
      have hS := HS.out _ b1
      simp only [row] at hS
      clear hk b0
      go_wp2_with fail
      refine hC.out _ _ (fun _ => hS) ?_
      clear hC C
      try simp only [List.getElem_toArray, List.getElem_cons_zero, List.getElem_cons_succ, Act.put, List.setIfInBounds_toArray, List.set_cons_zero, List.set_cons_succ]
      refine Ord.Till.step 3 (by kernel_rfl) rfl (fun C hC => ?_)
      go_simp
      go_at_call 11
      refine (qstate E A8 n8 c8 yy1).mono ?_
      rintro e yy2 ⟨rfl, hk⟩
      simp only [St.val, row]
      have b2 := b1.trans (hk.mono b1.size)
      have hS := HS.out _ b2
      simp only [row] at hS
      clear hk b1
      go_wp2_with fail
      refine hC.out _ _ (fun _ => hS) ?_
      clear hC C
      try simp only [List.getElem_toArray, List.getElem_cons_zero, List.getElem_cons_succ, Act.put, List.setIfInBounds_toArray, List.set_cons_zero, List.set_cons_succ]
      refine Ord.Till.step 4 (by kernel_rfl) rfl (fun C hC => ?_)
      go_simp
      go_at_call 10
      refine (qsame E _ _ yy2 (PL.out _ b2) (PR.out _ b2) (by omega)).mono ?_
      rintro e yy3 ⟨rfl, hk⟩
      have b3 := b2.trans (hk.mono b2.size)
      have hS := HS.out _ b3
      simp only [row] at hS
      clear hk b2
      go_wp2_with fail
      refine hC.out _ _ (fun _ => hS) ?_
      clear hC C
      try simp only [List.getElem_toArray, List.getElem_cons_zero, List.getElem_cons_succ, Act.put, List.setIfInBounds_toArray, List.set_cons_zero, List.set_cons_succ]
      refine Ord.Till.take' 5 (some 65) (oi := _) (x := .bool true) rfl rfl (by kernel_rfl) (by kernel_rfl) (by kernel_rfl) (by kernel_rfl) (fun _ _ _ h => h) (by kernel_rfl) (fun v hv => by go_simp) hS ?_
      try simp only [List.getElem_toArray, List.getElem_cons_zero, List.getElem_cons_succ, Act.put, List.setIfInBounds_toArray, List.set_cons_zero, List.set_cons_succ]
      refine Ord.Till.take' 6 (some 66) (oi := _) (x := .agg #[.int .i64 X.bind, .int .i64 X.size, .int .i64 X.align, .int .i64 X.unit, .bool X.dfd, .bool X.sr, .bool X.wr, .slice A1 n1 c1]) rfl rfl (by kernel_rfl) (by kernel_rfl) (by kernel_rfl) (by kernel_rfl) (fun _ _ _ h => h) (by kernel_rfl) (fun v hv => exec_ld 27 _ Tryd.underlying27 rfl _ rfl u 0 rfl _ (by kernel_rfl) (range_row hv.2.2)) hS ?_
      try simp only [List.getElem_toArray, List.getElem_cons_zero, List.getElem_cons_succ, Act.put, List.setIfInBounds_toArray, List.set_cons_zero, List.set_cons_succ]
      refine Ord.Till.take' 10 (some 70) (oi := _) (x := .agg #[.int .i64 X.bind, .int .i64 X.size, .int .i64 X.align, .int .i64 X.unit, .bool X.dfd, .bool X.sr, .bool X.wr, .slice A1 n1 c1]) rfl rfl (by kernel_rfl) (by kernel_rfl) (by kernel_rfl) (by kernel_rfl) (fun _ _ _ h => h) (by kernel_rfl) (fun v hv => exec_ld 27 _ Tryd.underlying27 rfl _ rfl u 0 rfl _ (by kernel_rfl) (range_row hv.2.2)) hS ?_
      try simp only [List.getElem_toArray, List.getElem_cons_zero, List.getElem_cons_succ, Act.put, List.setIfInBounds_toArray, List.set_cons_zero, List.set_cons_succ]
      refine Ord.Till.step 7 (by kernel_rfl) rfl (fun C hC => ?_)
      go_simp
      go_at_call 14
      refine (HEm.out yy3).mono ?_
      rintro e yy4 ⟨rfl, hk⟩
      have b4 := b3.trans (hk.mono b3.size)
      have hS := HS.out _ b4
      simp only [row] at hS
      clear hk b3
      go_wp2_with fail
      refine hC.out _ _ (fun _ => hS) ?_
      clear hC C
      try simp only [List.getElem_toArray, List.getElem_cons_zero, List.getElem_cons_succ, Act.put, List.setIfInBounds_toArray, List.set_cons_zero, List.set_cons_succ]
      refine Ord.Till.step 8 (by kernel_rfl) rfl (fun C hC => ?_)
      go_simp
      go_at_call 12
      refine (qjoin X ⟨0, 0, 0, -1, false, false, false, []⟩ X HE1.out _ _ yy4 (HP3.out _ b4) (P1.out _ b4) (Pl.nil _ _) (by omega) (by decide)).mono ?_
      rintro e yy5 ⟨vj, rfl, oj, hk⟩
      have pvj := oj.pl
      obtain ⟨A9, n9, c9, rfl, _, _, _⟩ := id pvj
      clear oj
      simp only [St.val, row]
      have b5 := b4.trans (hk.mono b4.size)
      have hS := HS.out _ b5
      simp only [row] at hS
      clear hk b4
      go_wp2_with fail
      refine hC.out _ _ (fun _ => hS) ?_
      clear hC C
      try simp only [List.getElem_toArray, List.getElem_cons_zero, List.getElem_cons_succ, Act.put, List.setIfInBounds_toArray, List.set_cons_zero, List.set_cons_succ]
      refine Ord.Till.step 9 (by kernel_rfl) rfl (fun C hC => ?_)
      go_simp
      go_at_call 11
      refine (qstate X A9 n9 c9 yy5).mono ?_
      rintro e yy6 ⟨rfl, hk⟩
      simp only [St.val, row]
      have b6 := b5.trans (hk.mono b5.size)
      have hS := HS.out _ b6
      simp only [row] at hS
      have pvj := (pvj.below hk).more hk.size
      clear hk b5
      go_wp2_with fail
      refine hC.out _ _ (fun _ => hS) ?_
      clear hC C
      try simp only [List.getElem_toArray, List.getElem_cons_zero, List.getElem_cons_succ, Act.put, List.setIfInBounds_toArray, List.set_cons_zero, List.set_cons_succ]
      refine Ord.Till.step 11 (by kernel_rfl) rfl (fun C hC => ?_)
      go_simp
      go_at_call 11
      refine (qstate X A1 n1 c1 yy6).mono ?_
      rintro e yy7 ⟨rfl, hk⟩
      simp only [St.val, row]
      have b7 := b6.trans (hk.mono b6.size)
      have hS := HS.out _ b7
      simp only [row] at hS
      have pvj := (pvj.below hk).more hk.size
      clear hk b6
      go_wp2_with fail
      refine hC.out _ _ (fun _ => hS) ?_
      clear hC C
      try simp only [List.getElem_toArray, List.getElem_cons_zero, List.getElem_cons_succ, Act.put, List.setIfInBounds_toArray, List.set_cons_zero, List.set_cons_succ]
      refine Ord.Till.step 12 (by kernel_rfl) rfl (fun C hC => ?_)
      go_simp
      go_at_call 10
      refine (qsame X _ _ yy7 pvj (P1.out _ b7) (by omega)).mono ?_
      rintro e yy8 ⟨rfl, hk⟩
      clear pvj
      have b8 := b7.trans (hk.mono b7.size)
      have hS := HS.out _ b8
      simp only [row] at hS
      clear hk b7
      go_wp2_with fail
      refine hC.out _ _ (fun _ => hS) ?_
      clear hC C
      try simp only [List.getElem_toArray, List.getElem_cons_zero, List.getElem_cons_succ, Act.put, List.setIfInBounds_toArray, List.set_cons_zero, List.set_cons_succ]
      refine Ord.Till.take' 13 (some 73) (oi := _) (x := .bool true) rfl rfl (by kernel_rfl) (by kernel_rfl) (by kernel_rfl) (by kernel_rfl) (fun _ _ _ h => h) (by kernel_rfl) (fun v hv => by go_simp) hS ?_
      try simp only [List.getElem_toArray, List.getElem_cons_zero, List.getElem_cons_succ, Act.put, List.setIfInBounds_toArray, List.set_cons_zero, List.set_cons_succ]
      refine Ord.Till.take' 14 (some 74) (oi := _) (x := .bool true) rfl rfl (by kernel_rfl) (by kernel_rfl) (by kernel_rfl) (by kernel_rfl) (fun _ _ _ h => h) (by kernel_rfl) (fun v hv => by go_simp) hS ?_
      try simp only [List.getElem_toArray, List.getElem_cons_zero, List.getElem_cons_succ, Act.put, List.setIfInBounds_toArray, List.set_cons_zero, List.set_cons_succ]
      refine Ord.Till.take' 16 (some 76) (oi := _) (x := .agg #[.int .i64 X.bind, .int .i64 X.size, .int .i64 X.align, .int .i64 X.unit, .bool X.dfd, .bool X.sr, .bool X.wr, .slice A1 n1 c1]) rfl rfl (by kernel_rfl) (by kernel_rfl) (by kernel_rfl) (by kernel_rfl) (fun _ _ _ h => h) (by kernel_rfl) (fun v hv => exec_ld 27 _ Tryd.underlying27 rfl _ rfl u 0 rfl _ (by kernel_rfl) (range_row hv.2.2)) hS ?_
      try simp only [List.getElem_toArray, List.getElem_cons_zero, List.getElem_cons_succ, Act.put, List.setIfInBounds_toArray, List.set_cons_zero, List.set_cons_succ]
      refine Ord.Till.take' 19 (some 79) (oi := _) (x := .agg #[.int .i64 X.bind, .int .i64 X.size, .int .i64 X.align, .int .i64 X.unit, .bool X.dfd, .bool X.sr, .bool X.wr, .slice A1 n1 c1]) rfl rfl (by kernel_rfl) (by kernel_rfl) (by kernel_rfl) (by kernel_rfl) (fun _ _ _ h => h) (by kernel_rfl) (fun v hv => exec_ld 27 _ Tryd.underlying27 rfl _ rfl u 0 rfl _ (by kernel_rfl) (range_row hv.2.2)) hS ?_
      try simp only [List.getElem_toArray, List.getElem_cons_zero, List.getElem_cons_succ, Act.put, List.setIfInBounds_toArray, List.set_cons_zero, List.set_cons_succ]
      refine Ord.Till.step 15 (by kernel_rfl) rfl (fun C hC => ?_)
      go_simp
      go_at_call 14
      refine (HEm.out yy8).mono ?_
      rintro e yy9 ⟨rfl, hk⟩
      have b9 := b8.trans (hk.mono b8.size)
      have hS := HS.out _ b9
      simp only [row] at hS
      clear hk b8
      go_wp2_with fail
      refine hC.out _ _ (fun _ => hS) ?_
      clear hC C
      try simp only [List.getElem_toArray, List.getElem_cons_zero, List.getElem_cons_succ, Act.put, List.setIfInBounds_toArray, List.set_cons_zero, List.set_cons_succ]
      refine Ord.Till.step 17 (by kernel_rfl) rfl (fun C hC => ?_)
      go_simp
      go_at_call 12
      refine (qjoin ⟨0, 0, 0, -1, false, false, false, []⟩ X X HE2.out _ _ yy9 (HP3.out _ b9) (Pl.nil _ _) (P1.out _ b9) (by decide) (by omega)).mono ?_
      rintro e yy10 ⟨vj, rfl, oj, hk⟩
      have pvj := oj.pl
      obtain ⟨A10, n10, c10, rfl, _, _, _⟩ := id pvj
      clear oj
      simp only [St.val, row]
      have b10 := b9.trans (hk.mono b9.size)
      have hS := HS.out _ b10
      simp only [row] at hS
      clear hk b9
      go_wp2_with fail
      refine hC.out _ _ (fun _ => hS) ?_
      clear hC C
      try simp only [List.getElem_toArray, List.getElem_cons_zero, List.getElem_cons_succ, Act.put, List.setIfInBounds_toArray, List.set_cons_zero, List.set_cons_succ]
      refine Ord.Till.step 18 (by kernel_rfl) rfl (fun C hC => ?_)
      go_simp
      go_at_call 11
      refine (qstate X A10 n10 c10 yy10).mono ?_
      rintro e yy11 ⟨rfl, hk⟩
      simp only [St.val, row]
      have b11 := b10.trans (hk.mono b10.size)
      have hS := HS.out _ b11
      simp only [row] at hS
      have pvj := (pvj.below hk).more hk.size
      clear hk b10
      go_wp2_with fail
      refine hC.out _ _ (fun _ => hS) ?_
      clear hC C
      try simp only [List.getElem_toArray, List.getElem_cons_zero, List.getElem_cons_succ, Act.put, List.setIfInBounds_toArray, List.set_cons_zero, List.set_cons_succ]
      refine Ord.Till.step 20 (by kernel_rfl) rfl (fun C hC => ?_)
      go_simp
      go_at_call 11
      refine (qstate X A1 n1 c1 yy11).mono ?_
      rintro e yy12 ⟨rfl, hk⟩
      simp only [St.val, row]
      have b12 := b11.trans (hk.mono b11.size)
      have hS := HS.out _ b12
      simp only [row] at hS
      have pvj := (pvj.below hk).more hk.size
      clear hk b11
      go_wp2_with fail
      refine hC.out _ _ (fun _ => hS) ?_
      clear hC C
      try simp only [List.getElem_toArray, List.getElem_cons_zero, List.getElem_cons_succ, Act.put, List.setIfInBounds_toArray, List.set_cons_zero, List.set_cons_succ]
      refine Ord.Till.step 21 (by kernel_rfl) rfl (fun C hC => ?_)
      go_simp
      go_at_call 10
      refine (qsame X _ _ yy12 pvj (P1.out _ b12) (by omega)).mono ?_
      rintro e yy13 ⟨rfl, hk⟩
      clear pvj
      have b13 := b12.trans (hk.mono b12.size)
      have hS := HS.out _ b13
      simp only [row] at hS
      clear hk b12
      go_wp2_with fail
      refine hC.out _ _ (fun _ => hS) ?_
      clear hC C
      try simp only [List.getElem_toArray, List.getElem_cons_zero, List.getElem_cons_succ, Act.put, List.setIfInBounds_toArray, List.set_cons_zero, List.set_cons_succ]
      refine Ord.Till.take' 22 (some 82) (oi := _) (x := .bool true) rfl rfl (by kernel_rfl) (by kernel_rfl) (by kernel_rfl) (by kernel_rfl) (fun _ _ _ h => h) (by kernel_rfl) (fun v hv => by go_simp) hS ?_
      try simp only [List.getElem_toArray, List.getElem_cons_zero, List.getElem_cons_succ, Act.put, List.setIfInBounds_toArray, List.set_cons_zero, List.set_cons_succ]
      refine Ord.Till.step 23 (by kernel_rfl) rfl (fun C hC => ?_)
      go_simp
      refine hC.out _ _ (fun _ => hS) ?_
      clear hC C
      try simp only [List.getElem_toArray, List.getElem_cons_zero, List.getElem_cons_succ, Act.put, List.setIfInBounds_toArray, List.set_cons_zero, List.set_cons_succ]
      refine Ord.Till.done (by kernel_rfl) ?_ _
      have HB9 := hid (HB.out _ b13)
      clear hS b13
      go_wp2_with fail
      go_ret
      exact ⟨rfl, HB9.out⟩
end Go.Proofs.YtechacnflegliaaDoor.Bnd
