/-
  ArparseAppends: a member with a short name that is appended to an archive is parsed as the last one, and the others are unchanged; a prefix that ends within it is rejected at its offset. No condition.
-/
import Derived.Test.YtfpendpbloeedaaDoorP4z
import Derived.Test.YtfpendpbloeedaaDoorMo
import Derived.Test.YtfpendpbloeedaaDoorCards
import Derived.Deep.RegionHeld3
import Derived.Deep.CutRange
namespace Go.Proofs.YtfpendpbloeedaaDoor.Appends
open Go.ChangeShapes Go.WideShapes Go.ChangeAt Go.RowKit Go.Proofs Go.Proofs.YtfpendpbloeedaaDoor.Byt Go.Proofs.YtfpendpbloeedaaDoor.Dec Go.Proofs.YtfpendpbloeedaaDoor.Lnm Go.Proofs.YtfpendpbloeedaaDoor.Hdr Go.Proofs.YtfpendpbloeedaaDoor.Arp Go.Proofs.YtfpendpbloeedaaDoor.Frame

set_option maxRecDepth 100000 in
set_option maxHeartbeats 2000000 in
theorem big (w : World) (hg : Gnd w) (A : Option Addr) (n c : Nat) (A1 : Option Addr) (n1 c1 : Nat) (q : Nat) (hn : 10000 < n) :
    Calls Tryd.prog 4 #[.slice A n c, .slice A1 n1 c1, .int .u16 (q : Int)] w fun e w' => e = .returned (.bool true) ∧ Below w.heap.size w w' := by
  have hni : (10000 : Int) < (n : Int) := by omega
  go_enter Tryd.func4, Tryd.ntmps4
  go_wp2_with fail
  refine (awake_any _ hg).mono ?_
  rintro e w1 ⟨rfl, hb1⟩
  go_wp2_with fail
  refine (awake_any _ (hg.on hb1)).mono ?_
  rintro e w2 ⟨rfl, hb2⟩
  go_wp2_with fail
  go_ret
  exact ⟨rfl, hb1.trans (hb2.mono hb1.size)⟩

set_option maxRecDepth 100000 in
set_option maxHeartbeats 2000000 in
theorem big1 (w : World) (hg : Gnd w) (A : Option Addr) (n c : Nat) (A1 : Option Addr) (n1 c1 : Nat) (q : Nat) (hn : ¬ 10000 < n) (hm : 5000 < n1) :
    Calls Tryd.prog 4 #[.slice A n c, .slice A1 n1 c1, .int .u16 (q : Int)] w fun e w' => e = .returned (.bool true) ∧ Below w.heap.size w w' := by
  have hni : ¬ (10000 : Int) < (n : Int) := by omega
  have hmi : (5000 : Int) < (n1 : Int) := by omega
  go_enter Tryd.func4, Tryd.ntmps4
  go_wp2_with fail
  refine (awake_any _ hg).mono ?_
  rintro e w1 ⟨rfl, hb1⟩
  go_wp2_with fail
  refine (awake_any _ (hg.on hb1)).mono ?_
  rintro e w2 ⟨rfl, hb2⟩
  go_wp2_with fail
  go_ret
  exact ⟨rfl, hb1.trans (hb2.mono hb1.size)⟩

set_option maxRecDepth 100000 in
set_option maxHeartbeats 2000000 in
theorem rejected (w : World) (hg : Gnd w) (A : Option Addr) (n c : Nat) (A1 : Option Addr) (n1 c1 : Nat) (q : Nat) (l : List UInt8) (hr : Rd w w.heap.size A n l) (hnc : n ≤ c) (hn : ¬ 10000 < n) (hm : ¬ 5000 < n1) (t : St) (k : Nat) (z : Int) (har : ar l = (t, k, z)) (hz : z ≠ 0) :
    Calls Tryd.prog 4 #[.slice A n c, .slice A1 n1 c1, .int .u16 (q : Int)] w fun e w' => e = .returned (.bool true) ∧ Below w.heap.size w w' := by
  have hni : ¬ (10000 : Int) < (n : Int) := by omega
  have hmi : ¬ (5000 : Int) < (n1 : Int) := by omega
  have hzb : (z != 0) = true := by simpa using hz
  have Hg := hid hg
  clear hz hg
  go_enter Tryd.func4, Tryd.ntmps4
  go_wp2_with fail
  refine (awake_any _ Hg.out).mono ?_
  rintro e w1 ⟨rfl, hb1⟩
  go_wp2_with fail
  refine (parse_at A n c l w1 (Hg.out.on hb1) ((hr.below hb1).more hb1.size) hnc (by omega) _ k z har).mono ?_
  rintro e w2 ⟨X, rfl, hx, ho, hb2⟩
  obtain ⟨x0, x1, x2, x3, x4, x5, x6, x7, x8, x9, x10, x11, x12⟩ := X
  clear hx ho
  simp only [Arc.val]
  have hb02 := hb1.trans (hb2.mono hb1.size)
  clear hb1 hb2
  go_wp2_with fail
  go_ret
  exact ⟨rfl, hb02.alloc hb02.size _⟩

set_option maxRecDepth 100000 in
set_option maxHeartbeats 8000000 in
theorem accepted (w : World) (hg : Gnd w) (A : Option Addr) (n c : Nat) (A1 : Option Addr) (n1 c1 : Nat) (q : Nat) (l : List UInt8) (hr : Rd w w.heap.size A n l) (hnc : n ≤ c) (d : List UInt8) (hd : Rd w w.heap.size A1 n1 d) (_ : n1 ≤ c1) (hn : ¬ 10000 < n) (hm : ¬ 5000 < n1) (hq : q < 65536) (t : St) (har : ar l = (t, 0, 0)) :
    Calls Tryd.prog 4 #[.slice A n c, .slice A1 n1 c1, .int .u16 (q : Int)] w fun e w' => e = .returned (.bool true) ∧ Below w.heap.size w w' := by
  have hni : ¬ (10000 : Int) < (n : Int) := by omega
  have hmi : ¬ (5000 : Int) < (n1 : Int) := by omega
  have hl := hr.1
  have hdl := hd.1
  obtain ⟨E, hE⟩ : ∃ E, eout nmNew (num 1 0 0 0 (n1 : Int)) = E := ⟨_, rfl⟩
  have hf : num 1 0 0 0 (n1 : Int) 4 = (d.length : Int) := by rw [hdl]; rfl
  have hEl : E.length = 60 := by rw [← hE]; exact (mkp_ok (d := d) (new_ok n1 (by omega)) hf []).2.2.2.2.2
  obtain ⟨hshort, hcut⟩ := ar_short har (new_ok n1 (by omega)) hf (by decide) (by decide) new_name
  have hmk : mkp nmNew (num 1 0 0 0 (n1 : Int)) d = E ++ d ++ (if n1 % 2 = 1 then [10] else []) := by unfold mkp; rw [hE, hdl]
  have hml : (mkp nmNew (num 1 0 0 0 (n1 : Int)) d).length = 60 + n1 + n1 % 2 := by
    rw [hmk, List.length_append, List.length_append, hEl, hdl]
    split
    · rename_i h; rw [List.length_singleton, h]
    · rename_i h; rw [List.length_nil]; omega
  rw [hl] at hshort hcut
  generalize hM : mkp nmNew (num 1 0 0 0 (n1 : Int)) d = M at *
  have HEn := hid (fun w' => rencode_rd nmNew 1 0 0 0 (n1 : Int) 0 E ⟨new_ok n1 (by omega), hE⟩ w' (by decide) (by decide) (by decide) (by decide) (by decide) (by omega))
  rw [hEl] at HEn
  have Hg := hid hg
  have Hshort := hid hshort
  have Hcut := hid hcut
  have Hmk := hid hmk
  clear hg hshort hcut hmk hE hM hf
  go_enter Tryd.func4, Tryd.ntmps4
  go_wp2_with fail
  refine (awake_any _ Hg.out).mono ?_
  rintro e w1 ⟨rfl, hb1⟩
  go_wp2_with fail
  refine (parse_at A n c l w1 (Hg.out.on hb1) ((hr.below hb1).more hb1.size) hnc (by omega) _ 0 0 har).mono ?_
  rintro e w2 ⟨X, rfl, hx, ho, hb2⟩
  obtain ⟨x0, x1, x2, x3, x4, x5, N, x7, x8, x9, x10, x11, x12⟩ := X
  simp only [Arc.val]
  have hb02 := hb1.trans (hb2.mono hb1.size)
  clear hb1 hb2
  have hrow := heap_alloc_new w2 (.cells #[.bool x0, .slice x1 x2 x3, .slice x5 N x7, .slice x9 x10 x11] 27)
  have hb23 := (Below.refl w2.heap.size w2).alloc (Nat.le_refl _) (.cells #[.bool x0, .slice x1 x2 x3, .slice x5 N x7, .slice x9 x10 x11] 27)
  have hoa := ho.below hb23
  have hb03 := hb02.trans (hb23.mono hb02.size)
  have hlt2 : w2.heap.size < (w2.alloc (.cells #[.bool x0, .slice x1 x2 x3, .slice x5 N x7, .slice x9 x10 x11] 27)).heap.size := by simp
  clear ho hb02 hb23
  go_wp2_with fail
  generalize hP : w2.heap.size = P at *
  generalize w2.alloc (.cells #[.bool x0, .slice x1 x2 x3, .slice x5 N x7, .slice x9 x10 x11] 27) = V at *
  refine (HEn.out _).mono ?_
  rintro e w3 ⟨A3, c3, rfl, _, hr3, hc3, _, hb3⟩
  have hb33 := hb03.trans (hb3.mono hb03.size)
  have hrl3 := (hr.below hb33).more hb33.size
  have hdl3 := (hd.below hb33).more hb33.size
  go_wp2_with fail
  refine (Byt.add_any w3.heap.size w3.heap.size _ A3 n c 60 c3 l E w3 hrl3 hr3 (Nat.le_refl _) (Nat.le_refl _) (by omega) (by omega)).mono ?_
  rintro e w4 ⟨v4, rfl, ho4, hb4⟩
  obtain ⟨A4, c4, rfl, hr4, hc4, _⟩ := ho4.reads
  go_wp2_with fail
  refine (Byt.add_any w4.heap.size w4.heap.size A4 A1 (n + 60) c4 n1 c1 (l ++ E) d w4 hr4 ((hdl3.below hb4).more hb4.size) (Nat.le_refl _) (Nat.le_refl _) (by omega) (by omega)).mono ?_
  rintro e w5 ⟨v5, rfl, ho5, hb5⟩
  have hb35 := hb4.trans (hb5.mono hb4.size)
  have hbV5 := hb3.trans (hb35.mono hb3.size)
  have hV4 : V.heap.size ≤ w4.heap.size := by have := hb3.size; have := hb4.size; omega
  clear hr4 ho4 hb4 hb35 hb3 hr3 hrl3
  go_upto_if 57 with fail
  go_cut [12] from 54 to 60 (fun s12 wx => ∃ D k, s12 = .slice D (n + (60 + n1 + n1 % 2)) k ∧ Rd wx wx.heap.size D (n + (60 + n1 + n1 % 2)) (l ++ M) ∧ n + (60 + n1 + n1 % 2) ≤ k ∧ Below V.heap.size V wx)
  case first =>
    by_cases hodd : n1 % 2 = 1
    · have hoi : (n1 : Int) % 2 = 1 := by omega
      have hob : ((n1 : Int) % 2 == 1) = true := by simp [hoi]
      go_wp2_with (at_builtin; refine Byt.wpList_push w5 w4.heap.size v5 (n + 60 + n1) (l ++ E ++ d) 10 10 rfl ho5 hb5.size (by omega) rfl (.tmp 58) (.tmp 59) rfl rfl rfl ?_; intro v6 w6 ho6 hb6)
      go_meet
      obtain ⟨D, k, rfl, hr6, hk6, _⟩ := ho6.reads
      have e1 : n + 60 + n1 + 1 = n + (60 + n1 + n1 % 2) := by omega
      have e2 : l ++ E ++ d ++ [10] = l ++ M := by rw [Hmk.out, if_pos hodd]; simp
      rw [e1, e2] at hr6
      rw [e1] at hk6 ⊢
      exact ⟨D, k, rfl, hr6, hk6, hbV5.trans (hb6.mono hV4)⟩
    · have hoi : (n1 : Int) % 2 = 0 := by omega
      have hob : ((n1 : Int) % 2 == 1) = false := by simp [hoi]
      obtain ⟨D, k, rfl, hr6, hk6, _⟩ := ho5.reads
      go_wp2_with fail
      go_meet
      have e1 : n + 60 + n1 = n + (60 + n1 + n1 % 2) := by omega
      have e2 : l ++ E ++ d = l ++ M := by rw [Hmk.out, if_neg hodd]; simp
      rw [e1, e2] at hr6
      rw [e1] at hk6 ⊢
      exact ⟨D, k, rfl, hr6, hk6, hbV5⟩
  case rest =>
    obtain ⟨D, k, rfl, hr6, hk6, hb6⟩ := hcut
    clear ho5 hb5 hbV5 hdl3
    generalize hL : n + (60 + n1 + n1 % 2) = L at *
    go_wp2_with fail
    have hg6 := (Hg.out.on hb03).on hb6
    refine (parse_at D L k (l ++ M) wc hg6 hr6 hk6 (by omega) _ 0 0 Hshort.out).mono ?_
    rintro e w7 ⟨Y, rfl, hy, hoy, hb7⟩
    have hNb : N ≤ 10000 := by
      have h1 := ar_count har
      have h2 := hoa.lens.1
      have h3 := congrArg List.length hx.2.2.1
      rw [List.length_map] at h3
      have h4 : x8.length = N := h2
      have h5 : x8.length = t.mems.length := h3
      omega
    have ht8 : x8.map Mem.pure = t.mems := hx.2.2.1
    have ht12 : x12 = t.offs := hx.2.2.2
    have ht0 : x0 = t.hasMap := hx.1
    have hon : x10 = x12.length := hoa.lens.2.symm
    have hx10 : x10 ≤ 10000 := by
      have h1 := ar_count har
      have h2 := (ar_fit har).2.2.2.len
      rw [hon, ht12]
      omega
    have hry := hoy.reads
    obtain ⟨y0, y1, y2, y3, y4, y5, y6, y7, y8, y9, y10, y11, y12⟩ := Y
    have hy0 : y0 = t.hasMap := hy.1
    have hy8 : y8.map Mem.pure = t.mems ++ [⟨⟨#[110, 101, 119, 46, 111]⟩, 1, 0, 0, 0, d⟩] := hy.2.2.1
    have hy12 : y12 = t.offs ++ [(n : Int)] := hy.2.2.2
    subst hy0 ht0
    have Ht8 := hid ht8
    have Ht12 := hid ht12
    have Hy8 := hid hy8
    have Hy12 := hid hy12
    clear hy hoy hx hon ht8 ht12 hy8 hy12
    simp only [Arc.val]
    obtain ⟨_, hmy, hiy, _, hy6, hy10⟩ := hry
    simp only at hmy hiy hy6 hy10
    have hb78 := (Below.refl w7.heap.size w7).alloc (Nat.le_refl _) (.cells #[.bool t.hasMap, .slice y1 y2 y3, .slice y5 y6 y7, .slice y9 y10 y11] 27)
    have hrow8 := heap_alloc_new w7 (.cells #[.bool t.hasMap, .slice y1 y2 y3, .slice y5 y6 y7, .slice y9 y10 y11] 27)
    have hbc8 := hb7.trans (hb78.mono hb7.size)
    have hbV8 := hb6.trans (hbc8.mono hb6.size)
    have hr8 := hr6.below hbc8 |>.more hbc8.size
    have hmy8 := hmy.below hb78 |>.more hb78.size
    have hiy8 := hiy.below hb78 |>.more hb78.size
    have hPV : P < V.heap.size := hlt2
    have hrowP := (hbV8.block P hPV).trans hrow
    have hd8 := ((hd.below hb03).more hb03.size).below hbV8 |>.more hbV8.size
    clear hr6 hb7 hb78 hmy hiy hbc8 hg6
    go_upto_region 11 with fail
    generalize hP2 : w7.heap.size = P2 at *
    generalize w7.alloc (.cells #[.bool t.hasMap, .slice y1 y2 y3, .slice y5 y6 y7, .slice y9 y10 y11] 27) = W8 at *
    have a2 := cell_of_row W8 P 2 _ _ _ hrowP
    have hP8 : P2 < W8.heap.size := (Array.getElem?_eq_some_iff.1 hrow8).1
    have hPW : P < W8.heap.size := (Array.getElem?_eq_some_iff.1 hrowP).1
    obtain ⟨Am, cm, em, hrm, hcm, _⟩ := hoa.mems.reads
    injection em with em _ em3
    subst em em3
    obtain ⟨Ao, co, eo, hro, hco, _⟩ := hoa.offs.reads
    injection eo with eo _ eo3
    subst eo eo3
    have hrm8 := hrm.below hbV8 |>.more hbV8.size
    have hro8 := hro.below hbV8 |>.more hbV8.size
    have hw80 : W8.heap.size ≤ (W8.alloc (.cells #[] 32)).heap.size := by simp
    have hb80 := (Below.refl W8.heap.size W8).alloc (Nat.le_refl _) (.cells #[] 32)
    go_upto_region 12 with (first
      | (at_builtin; refine Cel.wpList_rd kM _ W8.heap.size W8.heap.size _ 0 [] (Cel.Own.lit0 _ _ W8 W8.heap.size (Nat.le_refl _)) hw80 x5 N x7 (mcells x8) (hrm8.below hb80) (mcells_one x8) (by omega) (by omega) rfl (.tmp 67) (.tmp 69) rfl rfl rfl ?_; intro v9 w9 ho9 hb9; have hb89 := hb80.trans hb9; rw [Nat.zero_add, List.nil_append] at ho9)
      | (at_builtin; refine Cel.wpList_push kM w9 W8.heap.size v9 N (mcells x8) ho9 hb89.size 1 1 #[.string ⟨#[110, 101, 119, 46, 111]⟩, .int .i64 1, .int .i64 0, .int .i64 0, .int .i64 0, .slice A1 n1 c1] (0, 0) rfl (by simp [Value.oneCell']) (by omega) (by omega) rfl (.tmp 70) (.tmp 73) rfl rfl rfl ?_; intro v10 w10 ho10 hb10 _ _; obtain ⟨A10, c10, rfl, hr10, hc10, _⟩ := ho10.reads))
    have hb810 := hb89.trans hb10
    have hw10 := hb810.size
    have e0 : w10.cell? ⟨P2, 0, none⟩ = some (.bool t.hasMap) := cell_of_row w10 P2 0 _ _ _ ((hb810.block P2 hP8).trans hrow8)
    have e2 : w10.cell? ⟨P2, 2, none⟩ = some (.slice y5 y6 y7) := cell_of_row w10 P2 2 _ _ _ ((hb810.block P2 hP8).trans hrow8)
    have e3 : w10.cell? ⟨P2, 3, none⟩ = some (.slice y9 y10 y11) := cell_of_row w10 P2 3 _ _ _ ((hb810.block P2 hP8).trans hrow8)
    have a0 : w10.cell? ⟨P, 0, none⟩ = some (.bool t.hasMap) := cell_of_row w10 P 0 _ _ _ ((hb810.block P hPW).trans hrowP)
    have a3 : w10.cell? ⟨P, 3, none⟩ = some (.slice x9 x10 x11) := cell_of_row w10 P 3 _ _ _ ((hb810.block P hPW).trans hrowP)
    have hlP2 : P2 < w10.heap.size := by omega
    have hlP : P < w10.heap.size := by omega
    have hbV10 := hbV8.trans (hb810.mono hbV8.size)
    have hF10 := hb03.trans (hbV10.mono hb03.size)
    have hgV := Hg.out.on hb03
    have hr10' := (hr8.below hb810).more hw10
    have hkb : ∀ W, Below w10.heap.size w10 W → W.cell? ⟨P2, 0, none⟩ = some (.bool t.hasMap) ∧ W.cell? ⟨P2, 2, none⟩ = some (.slice y5 y6 y7) ∧ W.cell? ⟨P2, 3, none⟩ = some (.slice y9 y10 y11) ∧ W.cell? ⟨P, 0, none⟩ = some (.bool t.hasMap) ∧ W.cell? ⟨P, 3, none⟩ = some (.slice x9 x10 x11) ∧ Below w10.heap.size w10 W := fun W hb =>
      ⟨(hb.cell (p := ⟨P2, 0, none⟩) hlP2).trans e0, (hb.cell (p := ⟨P2, 2, none⟩) hlP2).trans e2, (hb.cell (p := ⟨P2, 3, none⟩) hlP2).trans e3, (hb.cell (p := ⟨P, 0, none⟩) hlP).trans a0, (hb.cell (p := ⟨P, 3, none⟩) hlP).trans a3, hb⟩
    have hal : ∀ (W : World) (o : Obj), (W.cell? ⟨P2, 0, none⟩ = some (.bool t.hasMap) ∧ W.cell? ⟨P2, 2, none⟩ = some (.slice y5 y6 y7) ∧ W.cell? ⟨P2, 3, none⟩ = some (.slice y9 y10 y11) ∧ W.cell? ⟨P, 0, none⟩ = some (.bool t.hasMap) ∧ W.cell? ⟨P, 3, none⟩ = some (.slice x9 x10 x11) ∧ Below w10.heap.size w10 W) → ((W.alloc o).cell? ⟨P2, 0, none⟩ = some (.bool t.hasMap) ∧ (W.alloc o).cell? ⟨P2, 2, none⟩ = some (.slice y5 y6 y7) ∧ (W.alloc o).cell? ⟨P2, 3, none⟩ = some (.slice y9 y10 y11) ∧ (W.alloc o).cell? ⟨P, 0, none⟩ = some (.bool t.hasMap) ∧ (W.alloc o).cell? ⟨P, 3, none⟩ = some (.slice x9 x10 x11) ∧ Below w10.heap.size w10 (W.alloc o)) := fun W o h =>
      hkb _ (h.2.2.2.2.2.alloc h.2.2.2.2.2.size o)
    have HSM : Hid (∀ W, Below w10.heap.size w10 W → Calls Tryd.prog 15 #[.slice y5 y6 y7, .slice A10 (N + 1) c10] W fun e w' => e = .returned (.bool true) ∧ Below W.heap.size W w') := hid fun W hb => by
      have hwant : RdM w10 w10.heap.size A10 (N + 1) (x8 ++ [⟨⟨#[110, 101, 119, 46, 111]⟩, 1, 0, 0, 0, A1, n1, c1, d⟩]) := rdm_of (by rw [mcells_append]; exact hr10) fun m hm => by
        rcases List.mem_append.1 hm with hm | hm
        · obtain ⟨q1, q2, q3, q4, _, _⟩ := (hoa.data m hm).reads
          injection q3 with q3 _
          subst q3
          exact ⟨(q4.below hbV10).more hbV10.size, hoa.small.2.2.2 m hm⟩
        · rw [List.mem_singleton] at hm
          subst hm
          exact ⟨(hd8.below hb810).more hw10, by show n1 ≤ _; omega⟩
      have hsame : sameMs y8 (x8 ++ [⟨⟨#[110, 101, 119, 46, 111]⟩, 1, 0, 0, 0, A1, n1, c1, d⟩]) = true := sameMs_pure (by rw [Hy8.out, List.map_append, Ht8.out]; rfl)
      have := rsamemembers_any w10.heap.size y5 A10 y6 y7 (N + 1) c10 y8 _ W (((hmy8.below hb810).more hw10).below hb) (hwant.below hb) hb.size hy6
      rw [hsame] at this
      exact this
    have hoff : (y12 == x12 ++ [(n : Int)]) = true := by rw [Hy12.out, Ht12.out]; simp
    have Hro := hid ((hro8.below hb810).more hw10)
    have Hiy := hid ((hiy8.below hb810).more hw10)
    have hX0 := hkb _ (Below.refl w10.heap.size w10).drew
    clear hrm8 hrm hro hro8 hb80 hw80 hbV8 a2 hrow8 hrowP hr10 ho10 ho9 hmy8 hiy8 hb9 hb10 hb89 e0 e2 e3 a0 a3
    go_cut [104] from 75 to 104 (fun s104 wx => s104 = .bool false ∧ Below w10.heap.size w10 wx)
    case first =>
     go_region_held3 (fun W' => W'.cell? ⟨P2, 0, none⟩ = some (.bool t.hasMap) ∧ W'.cell? ⟨P2, 2, none⟩ = some (.slice y5 y6 y7) ∧ W'.cell? ⟨P2, 3, none⟩ = some (.slice y9 y10 y11) ∧ W'.cell? ⟨P, 0, none⟩ = some (.bool t.hasMap) ∧ W'.cell? ⟨P, 3, none⟩ = some (.slice x9 x10 x11) ∧ Below w10.heap.size w10 W')
      (first | exact hX0 | assumption | exact hal _ _ (by assumption))
      (first
        | (go_at_call 15; refine (HSM.out _ hX0.2.2.2.2.2).mono ?_; rintro e w11 ⟨rfl, hb11⟩; have hq11 := hX0.2.2.2.2.2.trans (hb11.mono hX0.2.2.2.2.2.size); have hS11 := hkb _ hq11; have hs11 := hq11.size)
        | (refine Cel.step_rd kI (w11.alloc (.cells #[] 3)) w11.heap.size w10.heap.size _ 0 [] (Cel.Own.lit0 _ _ w11 w11.heap.size (Nat.le_refl _)) (by simp; try omega) x9 x10 x11 (x12.map (Value.int .i64)) (Hro.out.below (hq11.alloc hs11 _ : Below w10.heap.size w10 (w11.alloc (.cells #[] 3)))) (ints_one x12) (by omega) (by omega) (by rfl) (.tmp 87) (.tmp 89) rfl rfl rfl ?_; intro v12 w12 ho12 hb12 hf12; rw [Nat.zero_add, List.nil_append] at ho12; have hq12 : Below w10.heap.size w10 w12 := (hq11.alloc hs11 _ : Below w10.heap.size w10 (w11.alloc (.cells #[] 3))).trans (hb12.mono hs11); have hS12 := hkb _ hq12; have hs12 := hq12.size; have hw12 : w11.heap.size ≤ w12.heap.size := (by have := hb12.size; simp only [World.size_alloc] at this; omega))
        | (refine Cel.step_rd kI ((w11.alloc (.cells #[] 3)).alloc (.cells #[.int .i64 (n : Int)] 3)) w11.heap.size w10.heap.size _ 0 [] ((Cel.Own.lit0 _ _ w11 w11.heap.size (Nat.le_refl _)).alloc _) (by simp; try omega) x9 x10 x11 (x12.map (Value.int .i64)) (Hro.out.below ((hq11.alloc hs11 _).alloc (hq11.alloc hs11 _).size _ : Below w10.heap.size w10 ((w11.alloc (.cells #[] 3)).alloc (.cells #[.int .i64 (n : Int)] 3)))) (ints_one x12) (by omega) (by omega) (by rfl) (.tmp 87) (.tmp 89) rfl rfl rfl ?_; intro v12 w12 ho12 hb12 hf12; rw [Nat.zero_add, List.nil_append] at ho12; have hq12 : Below w10.heap.size w10 w12 := ((hq11.alloc hs11 _).alloc (hq11.alloc hs11 _).size _ : Below w10.heap.size w10 ((w11.alloc (.cells #[] 3)).alloc (.cells #[.int .i64 (n : Int)] 3))).trans (hb12.mono hs11); have hS12 := hkb _ hq12; have hs12 := hq12.size; have hw12 : w11.heap.size ≤ w12.heap.size := (by have := hb12.size; simp only [World.size_alloc] at this; omega); have hq1 := Cel.rd1 ((hf12.1 (w11.heap.size + 1) (by simp) (by simp [Sls.blk])).trans (two_new w11 _ _)))
        | (refine Cel.step_rd kI ((w11.alloc (.cells #[.int .i64 (n : Int)] 3)).alloc (.cells #[] 3)) w11.heap.size w10.heap.size _ 0 [] (Cel.Own.lit1 _ _ w11 _) (by simp; try omega) x9 x10 x11 (x12.map (Value.int .i64)) (Hro.out.below ((hq11.alloc hs11 _).alloc (hq11.alloc hs11 _).size _ : Below w10.heap.size w10 ((w11.alloc (.cells #[.int .i64 (n : Int)] 3)).alloc (.cells #[] 3)))) (ints_one x12) (by omega) (by omega) (by rfl) (.tmp 87) (.tmp 89) rfl rfl rfl ?_; intro v12 w12 ho12 hb12 hf12; rw [Nat.zero_add, List.nil_append] at ho12; have hq12 : Below w10.heap.size w10 w12 := ((hq11.alloc hs11 _).alloc (hq11.alloc hs11 _).size _ : Below w10.heap.size w10 ((w11.alloc (.cells #[.int .i64 (n : Int)] 3)).alloc (.cells #[] 3))).trans (hb12.mono hs11); have hS12 := hkb _ hq12; have hs12 := hq12.size; have hw12 : w11.heap.size ≤ w12.heap.size := (by have := hb12.size; simp only [World.size_alloc] at this; omega); have hq1 := Cel.rd1 ((hf12.1 w11.heap.size (by simp; omega) (by simp [Sls.blk])).trans ((Below.heap_alloc _ _ _ (by simp)).trans (heap_alloc_new w11 _))))
        | (refine Cel.step_rd kI w12 w11.heap.size _ v12 x10 (x12.map (Value.int .i64)) ho12 hw12 (some ⟨_, 0, none⟩) 1 1 [.int .i64 (n : Int)] hq1 (by simp [Value.oneCell']) (by omega) (by omega) (by rfl) (.tmp 90) (.tmp 93) rfl rfl rfl ?_; intro v13 w13 ho13 hb13 _; have hq13 : Below w10.heap.size w10 w13 := hq12.trans (hb13.mono hs11); have hS13 := hkb _ hq13; obtain ⟨A13, c13, rfl, hr13, _, _⟩ := ho13.reads)
        | (refine Cel.step_rd kI (w12.alloc (.cells #[.int .i64 (n : Int)] 3)) w11.heap.size _ v12 x10 (x12.map (Value.int .i64)) (ho12.alloc _) (by rw [World.size_alloc]; omega) (some ⟨_, 0, none⟩) 1 1 [.int .i64 (n : Int)] (Cel.rd1 (heap_alloc_new w12 _)) (by simp [Value.oneCell']) (by omega) (by omega) (by rfl) (.tmp 90) (.tmp 93) rfl rfl rfl ?_; intro v13 w13 ho13 hb13 _; have hq13 : Below w10.heap.size w10 w13 := (hq12.alloc hs12 _).trans (hb13.mono hs11); have hS13 := hkb _ hq13; obtain ⟨A13, c13, rfl, hr13, _, _⟩ := ho13.reads)
        | (go_at_call 16; refine (rnumbers_any w10.heap.size w13.heap.size y9 A13 y10 y11 (x10 + 1) c13 y12 (x12 ++ [(n : Int)]) w13 (Hiy.out.below hq13) (RdI.cells.2 (by rw [List.map_append]; exact hr13)) hy10).mono ?_; rintro e w14 ⟨rfl, m14, rfl⟩; rw [hoff]; have hS14 := hkb _ (hq13.trans (below_drewN _ m14)))
        | fail)
     all_goals (rename_i hh; have hz := hh.2.2.2.2.2; go_wp2_with fail; go_meet; exact ⟨rfl, hz⟩)
    case rest =>
      obtain ⟨rfl, hbc⟩ := hcut
      have hcutk : n < n + 1 + q % (L - n - 1) ∧ n + 1 + q % (L - n - 1) < L := by
        have := Nat.mod_lt q (show 0 < L - n - 1 by omega)
        omega
      have hbVc := hbV10.trans (hbc.mono hbV10.size)
      have hrc := (hr10'.below hbc).more hbc.size
      have hFc := hb03.trans (hbVc.mono hb03.size)
      have hgc := hgV.on hbVc
      have hLi : (n : Int) < (L : Int) := by omega
      have hcM : ar ((l ++ M).take (n + 1 + q % (L - n - 1))) = (St.zero, n, 2) := by
        have e : (l ++ M).take (n + 1 + q % (L - n - 1)) = l ++ M.take (n + 1 + q % (L - n - 1) - n) := by
          rw [List.take_append, hl, List.take_of_length_le (by omega)]
        rw [e]
        exact Hcut.out _ (by omega) (by omega)
      have HcM := hid hcM
      clear HSM Hro Hiy hX0 hkb hal hcM hrow hr hd hr10' hb810 hbV10 hF10
      go_upto_region 14 with fail
      go_cut [17] from 105 to 117 (fun s17 wx => s17 = .int .i64 ((n + 1 + q % (L - n - 1) : Nat) : Int) ∧ wx = wc)
      case first =>
        go_wp2_with fail
        go_meet
        have e1 : (L : Int) - (n : Int) - 1 = ((L - n - 1 : Nat) : Int) := by omega
        have e2 : (n : Int) + 1 + (q : Int) % ((L : Int) - (n : Int) - 1) = ((n + 1 + q % (L - n - 1) : Nat) : Int) := by rw [e1, ← Int.natCast_emod]; omega
        refine ⟨?_, rfl⟩
        rw [e2, IntWalk.wrap64_in _ (by omega)]
      case rest =>
        obtain ⟨rfl, rfl⟩ := hcut
        generalize n + 1 + q % (L - n - 1) = kk at *
        have hkki : (kk : Int) ≤ (k : Int) := by omega
        have hnb : ((n : Int) == (n : Int)) = true := by simp
        go_wp2_with fail
        refine (parse_at D kk k ((l ++ M).take kk) _ hgc (hrc.pre (by omega)) (by omega) (by omega) _ _ _ HcM.out).mono ?_
        rintro e w15 ⟨Z, rfl, _, _, hb15⟩
        obtain ⟨z0, z1, z2, z3, z4, z5, z6, z7, z8, z9, z10, z11, z12⟩ := Z
        simp only [Arc.val]
        go_wp2_with fail
        go_ret
        have hF := hFc.trans (hb15.mono hFc.size)
        exact ⟨rfl, hF.alloc hF.size _⟩

theorem walk (w : World) (hg : Gnd w) (A : Option Addr) (n c : Nat) (l : List UInt8) (hr : Rd w w.heap.size A n l) (hnc : n ≤ c) (_ : c ≤ maxLen) (A1 : Option Addr) (n1 c1 : Nat) (d : List UInt8) (hd : Rd w w.heap.size A1 n1 d) (hdc : n1 ≤ c1) (_ : c1 ≤ maxLen) (q : Nat) (hq : q < 65536) :
    Calls Tryd.prog 4 #[.slice A n c, .slice A1 n1 c1, .int .u16 (q : Int)] w fun e w' => e = .returned (.bool true) ∧ Below w.heap.size w w' := by
  by_cases h : 10000 < n
  · exact big w hg A n c A1 n1 c1 q h
  · by_cases h1 : 5000 < n1
    · exact big1 w hg A n c A1 n1 c1 q h h1
    · obtain ⟨t, k, z, har⟩ : ∃ t k z, ar l = (t, k, z) := ⟨_, _, _, rfl⟩
      by_cases hz : z = 0
      · subst hz
        obtain ⟨rfl, _⟩ := ar_fit har
        exact accepted w hg A n c A1 n1 c1 q l hr hnc d hd hdc h h1 hq t har
      · exact rejected w hg A n c A1 n1 c1 q l hr hnc h h1 t k z har hz

set_option maxRecDepth 100000 in
theorem held : Rows.ArparseAppendsSaid :=
  OpenClaim.holds_of_wide 4 Tryd.f4 rfl rfl rfl rfl rfl rfl rfl ⟨rfl, rfl, rfl, rfl, rfl⟩ rfl rfl rfl rfl rfl (by kernel_rfl) Tryd.func4 (by kernel_rfl)
    (of_decide_eq_true (by kernel_rfl)) (by unfold Func.isWrapper; first | (rw [if_pos (by decide +kernel)]; kernel_rfl) | (rw [if_neg (by decide +kernel)]; exact ⟨rfl, rfl⟩))
    (fun os started H enc _ => liftedG (started := started) (s := Rows.arparseAppendsSpec) (L := Rows.arparseAppendsRow.laid) rfl
      (fun ds h => by match ds, h with | [_, _, _], _ => rfl) (by kernel_rfl)
      (by kernel_rfl) (by kernel_rfl) Tryd.func4
      (ChangeSpec.witness_shaped (enc := enc) (C := Tryd.checked) (os := os) (X := fun w _ => laidMetH Tryd.prog Rows.arparseAppendsRow.laid w) false (World.laidAll Tryd.prog os Rows.arparseAppendsRow.laid) #[.slice none 0 0, .slice none 0 0, .int .u16 0] 8 (World.laidAll_os _ _ _)
        (World.shaped_of_ZipB (by kernel_rfl) (by kernel_rfl)) (by kernel_rfl) (by kernel_rfl) (by kernel_rfl)
        (by rw [MakeChecks.laidMetH_plain _ _ _ (by kernel_rfl)]; exact laidMet_laidAll _ (by kernel_rfl) (by kernel_rfl)))
      gnd_of (fun W base args ds p hG h => by
        obtain ⟨hval, hA, _⟩ := h
        rw [show Tryd.f4.params = #[22, 22, 40] from by kernel_rfl] at hA hval
        obtain ⟨v0, vs0, d0, ds0, p0, q0, hargs, rfl, rfl, k0, r0⟩ := trodAll_cons hA
        obtain ⟨v1, vs1, d1, ds1, p1, q1, rfl, rfl, rfl, k1, r1⟩ := trodAll_cons r0
        obtain ⟨v2, vs2, d2, ds2, p2, q2, rfl, rfl, rfl, k2, r2⟩ := trodAll_cons r1
        obtain ⟨rfl, rfl, rfl⟩ := trodAll_nil r2
        obtain rfl : args = #[v0, v1, v2] := by cases args; simp_all
        obtain ⟨A0, n0, c0, l0, rfl, h0, m0, g0⟩ := open_bytes (hval 0 _ v0 rfl rfl) k0
        obtain ⟨A1, n1, c1, l1, rfl, h1, m1, g1⟩ := open_bytes (hval 1 _ v1 rfl rfl) k1
        obtain ⟨a2, rfl, u2⟩ := open_u16 (hval 2 _ v2 rfl rfl) k2
        exact walk W hG A0 n0 c0 l0 h0 m0 g0 A1 n1 c1 l1 h1 m1 g1 a2 u2))
theorem proved : Rows.ArparseAppendsCardSaid :=
  Claim7.holds_tied_plain_at .later [] [.data, .pinned] true (true, "48f2ff196254b2af6b45da2ec089731cc37ebc39530793c05c357d595e7f75e7") false held (fun _ h => by cases h) (by kernel_rfl) (fun _ h => by cases h) arparseAppends_row_tie rfl ⟨rfl, rfl⟩ (by kernel_rfl) rfl
    (fun f fn hf hfn => by
      obtain rfl : f = 4 := Option.some.inj ((show Tryd.prog.funcNamed "arlink/arlinklaw04.ArparseAppends" = some 4 by kernel_rfl).symm.trans hf) |>.symm
      obtain rfl : fn = Tryd.f4 := (Option.some.inj (Tryd.func4.symm.trans hfn)).symm
      exact ⟨by kernel_rfl, fun j t ht => by
        rw [Tryd.params4] at ht
        have hm : t ∈ [22, 22, 40] := by simpa using Array.mem_of_getElem? ht
        have hall : ([22, 22, 40].all fun u => !Tryd.prog.wantsStandIn u) = true := by kernel_rfl
        exact (show Tryd.prog.wantsStandIn t = false by simpa using List.all_eq_true.1 hall t hm)⟩)
    (by kernel_rfl)
#print axioms proved
end Go.Proofs.YtfpendpbloeedaaDoor.Appends
