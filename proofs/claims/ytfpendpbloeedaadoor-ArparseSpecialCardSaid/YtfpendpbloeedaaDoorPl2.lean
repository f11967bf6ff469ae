/-
  ArparseSpecial: a map after a member is rejected with ErrMap, and a table after a member, or a second one, with ErrTable, at their offset. No condition.
-/
import Derived.Test.YtfpendpbloeedaaDoorMn
import Derived.Test.YtfpendpbloeedaaDoorMk
import Derived.Test.YtfpendpbloeedaaDoorMo
import Derived.Test.YtfpendpbloeedaaDoorCards
import Derived.Deep.RegionHeld3
import Derived.Deep.CutRange
namespace Go.Proofs.YtfpendpbloeedaaDoor.Special
open Go.ChangeShapes Go.WideShapes Go.ChangeAt Go.RowKit Go.Proofs Go.Proofs.YtfpendpbloeedaaDoor.Byt Go.Proofs.YtfpendpbloeedaaDoor.Dec Go.Proofs.YtfpendpbloeedaaDoor.Lnm Go.Proofs.YtfpendpbloeedaaDoor.Hdr Go.Proofs.YtfpendpbloeedaaDoor.Arp Go.Proofs.YtfpendpbloeedaaDoor.Frame

set_option maxRecDepth 100000 in
set_option maxHeartbeats 2000000 in
theorem big (w : World) (hg : Gnd w) (A : Option Addr) (n c : Nat) (x : Bool) (hn : 10000 < n) :
    Calls Tryd.prog 5 #[.slice A n c, .bool x] w fun e w' => e = .returned (.bool true) ∧ Below w.heap.size w w' := by
  have hni : (10000 : Int) < (n : Int) := by omega
  go_enter Tryd.func5, Tryd.ntmps5
  go_wp2_with fail
  refine (awake_any _ hg).mono ?_
  rintro e w1 ⟨rfl, hb1⟩
  go_wp2_with fail
  refine (awake_any _ (hg.on hb1)).mono ?_
  rintro e w2 ⟨rfl, hb2⟩
  go_wp2_with fail
  go_ret
  exact ⟨rfl, hb1.trans (hb2.mono hb1.size)⟩

set_option maxRecDepth 100000 in
set_option maxHeartbeats 2000000 in
theorem rejected (w : World) (hg : Gnd w) (A : Option Addr) (n c : Nat) (x : Bool) (l : List UInt8) (hr : Rd w w.heap.size A n l) (hnc : n ≤ c) (hn : ¬ 10000 < n) (t : St) (k : Nat) (z : Int) (har : ar l = (t, k, z)) (hz : z ≠ 0) :
    Calls Tryd.prog 5 #[.slice A n c, .bool x] w fun e w' => e = .returned (.bool true) ∧ Below w.heap.size w w' := by
  have hni : ¬ (10000 : Int) < (n : Int) := by omega
  have hzb : (z != 0) = true := by simpa using hz
  have Hg := hid hg
  clear hz hg
  go_enter Tryd.func5, Tryd.ntmps5
  go_wp2_with fail
  refine (awake_any _ Hg.out).mono ?_
  rintro e w1 ⟨rfl, hb1⟩
  go_wp2_with fail
  refine (parse_at A n c l w1 (Hg.out.on hb1) ((hr.below hb1).more hb1.size) hnc (by omega) _ k z har).mono ?_
  rintro e w2 ⟨X, rfl, hx, ho, hb2⟩
  obtain ⟨x0, x1, x2, x3, x4, x5, x6, x7, x8, x9, x10, x11, x12⟩ := X
  clear hx ho
  simp only [Arc.val]
  have hb02 := hb1.trans (hb2.mono hb1.size)
  clear hb1 hb2
  go_wp2_with fail
  go_ret
  exact ⟨rfl, hb02.alloc hb02.size _⟩

set_option maxRecDepth 100000 in
set_option maxHeartbeats 2000000 in
theorem empty (w : World) (hg : Gnd w) (A : Option Addr) (n c : Nat) (x : Bool) (l : List UInt8) (hr : Rd w w.heap.size A n l) (hnc : n ≤ c) (hn : ¬ 10000 < n) (t : St) (har : ar l = (t, 0, 0)) (hm : t.mems = []) :
    Calls Tryd.prog 5 #[.slice A n c, .bool x] w fun e w' => e = .returned (.bool true) ∧ Below w.heap.size w w' := by
  have hni : ¬ (10000 : Int) < (n : Int) := by omega
  have Hg := hid hg
  clear hg
  go_enter Tryd.func5, Tryd.ntmps5
  go_wp2_with fail
  refine (awake_any _ Hg.out).mono ?_
  rintro e w1 ⟨rfl, hb1⟩
  go_wp2_with fail
  refine (parse_at A n c l w1 (Hg.out.on hb1) ((hr.below hb1).more hb1.size) hnc (by omega) _ 0 0 har).mono ?_
  rintro e w2 ⟨X, rfl, hx, ho, hb2⟩
  have q1 := ho.lens.1
  have q2 := hx.2.2.1
  rw [hm] at q2
  have q3 := congrArg List.length q2
  rw [List.length_map] at q3
  obtain ⟨x0, x1, x2, x3, x4, x5, x6, x7, x8, x9, x10, x11, x12⟩ := X
  simp only at q1 q3
  obtain rfl : x6 = 0 := by rw [← q1]; exact q3
  clear hx ho q1 q2 q3
  simp only [Arc.val]
  have hb02 := hb1.trans (hb2.mono hb1.size)
  clear hb1 hb2
  go_wp2_with fail
  go_ret
  exact ⟨rfl, hb02.alloc hb02.size _⟩

theorem zrow {W W' : World} {cs : Array Value} {t : TypeId} (q : Nat) (h : W.heap[q]? = some (.cells cs t (0, 0))) (hb : Below W.heap.size W W') : W'.heap[q]? = some (.cells cs t (0, 0)) :=
  (hb.block q (Array.getElem?_eq_some_iff.1 h).1).trans h
theorem zcells {W : World} {a b c d : Value} {t : TypeId} (q : Nat) (h : W.heap[q]? = some (.cells #[a, b, c, d] t (0, 0))) : W.cell? ⟨q, 0, none⟩ = some a ∧ W.cell? ⟨q, 1, none⟩ = some b ∧ W.cell? ⟨q, 2, none⟩ = some c ∧ W.cell? ⟨q, 3, none⟩ = some d ∧ ∀ j, W.frozen? ⟨q, j, none⟩ = false :=
  ⟨cell_of_row W q 0 _ _ _ h, cell_of_row W q 1 _ _ _ h, cell_of_row W q 2 _ _ _ h, cell_of_row W q 3 _ _ _ h, fun j => frozen_of_row W q j _ _ h⟩

/-- What the calls with a map | with a table give. -/
def named (x : Bool) : ByteArray := if x = true then nmTab else nmMap
def wants (x : Bool) : Int := if x = true then 7 else 8
theorem enc_named (x : Bool) : eerr (named x) (num 0 0 0 0 0) = 0 := by cases x <;> decide +kernel
theorem late (x : Bool) {l : List UInt8} {t : St} (h : ar l = (t, 0, 0)) (hm : t.mems ≠ []) : ar (l ++ eout (named x) (num 0 0 0 0 0)) = (St.zero, l.length, wants x) := by
  obtain ⟨h1, h2⟩ := ar_late h hm (enc_named x) rfl
  cases x
  · exact h1 rfl
  · exact h2 rfl

set_option maxRecDepth 100000 in
set_option maxHeartbeats 4000000 in
theorem accepted_f (w : World) (hg : Gnd w) (A : Option Addr) (n c : Nat) (l : List UInt8) (hr : Rd w w.heap.size A n l) (hnc : n ≤ c) (hn : ¬ 10000 < n) (t : St) (har : ar l = (t, 0, 0)) (hm : t.mems ≠ []) :
    Calls Tryd.prog 5 #[.slice A n c, .bool false] w fun e w' => e = .returned (.bool true) ∧ Below w.heap.size w w' := by
  have hni : ¬ (10000 : Int) < (n : Int) := by omega
  have hl := hr.1
  have hi := ar_isAr har
  have h8 : 8 ≤ n := by unfold isAr at hi; simp at hi; omega
  obtain ⟨b, o, rfl, _⟩ := Rd_where hr (by omega)
  obtain ⟨E, hE⟩ : ∃ E, eout (named false) (num 0 0 0 0 0) = E := ⟨_, rfl⟩
  have hEl : E.length = 60 := by rw [← hE]; exact (mkp_ok (d := []) (enc_named false) rfl []).2.2.2.2.2
  have hlate := late false har hm
  rw [hE, hl] at hlate
  obtain ⟨t2, k2, z2, har2⟩ : ∃ t2 k2 z2, ar (l.take 8 ++ E ++ l.drop 8) = (t2, k2, z2) := ⟨_, _, _, rfl⟩
  have hearly : z2 = 0 ∨ 68 ≤ k2 := ar_early hi (enc_named false) rfl (.inl rfl) (by rw [hE]; exact har2)
  have HEn : Hid (∀ w', Calls Tryd.prog 13 #[.agg #[.string (named false), .int .i64 0, .int .i64 0, .int .i64 0, .int .i64 0, .int .i64 0]] w' fun e w'' =>
      ∃ A c, e = .returned (.tuple #[.slice A E.length c, .int .i64 0]) ∧ Byt.Own w'' w'.heap.size (.slice A E.length c) E.length E ∧ Rd w'' w''.heap.size A E.length E ∧ E.length ≤ c ∧ E.length ≤ 60 ∧ Below w'.heap.size w' w'') :=
    hid fun w' => rencode_rd (named false) 0 0 0 0 0 0 E ⟨enc_named false, hE⟩ w' (by decide) (by decide) (by decide) (by decide) (by decide) (by decide)
  rw [hEl] at HEn
  have Hg := hid hg
  have Hlate := hid hlate
  have Har2 := hid har2
  clear hg hlate har2 hi
  go_enter Tryd.func5, Tryd.ntmps5
  go_wp2_with fail
  refine (awake_any _ Hg.out).mono ?_
  rintro e w1 ⟨rfl, hb1⟩
  go_wp2_with fail
  refine (parse_at _ n c l w1 (Hg.out.on hb1) ((hr.below hb1).more hb1.size) hnc (by omega) _ 0 0 har).mono ?_
  rintro e w2 ⟨X, rfl, hx, ho, hb2⟩
  have q1 := ho.lens.1
  have q2 := congrArg List.length hx.2.2.1
  rw [List.length_map] at q2
  obtain ⟨x0, x1, x2, x3, x4, x5, N, x7, x8, x9, x10, x11, x12⟩ := X
  simp only at q1 q2
  have hN : 0 < N := by have := List.length_pos_iff.2 hm; omega
  have hNb : ((N : Int) == 0) = false := by rw [beq_eq_false_iff_ne]; omega
  clear hx ho q1 q2
  simp only [Arc.val]
  have hb02 := hb1.trans (hb2.mono hb1.size)
  clear hb1 hb2
  have hrow := heap_alloc_new w2 (.cells #[.bool x0, .slice x1 x2 x3, .slice x5 N x7, .slice x9 x10 x11] 27)
  have hb03 := hb02.alloc hb02.size (.cells #[.bool x0, .slice x1 x2 x3, .slice x5 N x7, .slice x9 x10 x11] 27)
  have h9 : 8 < n := by
    rcases Nat.lt_or_ge 8 n with h | h
    · exact h
    · have e : l.drop 8 = [] := List.drop_eq_nil_of_le (by omega)
      rw [ar_go (ar_isAr har), e, go_nil] at har
      injection har with har
      exact absurd (by rw [← har]; rfl) hm
  have h8i : (8 : Int) ≤ (n : Int) := by omega
  have h8c : (8 : Int) ≤ (c : Int) := by omega
  have hnci : (n : Int) ≤ (c : Int) := by omega
  have hc8 : c ≠ 8 := by omega
  go_wp2_with fail
  refine (HEn.out _).mono ?_
  rintro e w3 ⟨A3, c3, rfl, _, hr3, hc3, _, hb3⟩
  have hb23 : Below w2.heap.size w2 w3 := ((Below.refl _ _).alloc (Nat.le_refl _) _).trans (hb3.mono (by simp))
  have hrow3 := (hb3.block w2.heap.size (by simp)).trans hrow
  have hb13 := hb02.trans (hb23.mono hb02.size)
  have hrl3 := (hr.below hb13).more hb13.size
  clear hb3 hb23 hrow
  go_wp2_with fail
  refine (Byt.add_any w3.heap.size w3.heap.size _ A3 n c 60 c3 l E w3 hrl3 hr3 (Nat.le_refl _) (Nat.le_refl _) (by omega) (by omega)).mono ?_
  rintro e w4 ⟨v4, rfl, ho4, hb4⟩
  obtain ⟨A4, c4, rfl, hr4, hc4, _⟩ := ho4.reads
  have hb14 := hb13.trans (hb4.mono hb13.size)
  clear ho4
  go_wp2_with fail
  refine (parse_at A4 (n + 60) c4 (l ++ E) w4 (Hg.out.on hb14) hr4 hc4 (by omega) _ _ _ Hlate.out).mono ?_
  rintro e w5 ⟨X5, rfl, hx5, ho5, hb5⟩
  obtain ⟨y0, y1, y2, y3, y4, y5, y6, y7, y8, y9, y10, y11, y12⟩ := X5
  clear hx5 ho5 hr4
  simp only [Arc.val]
  have hb35 := (hb4.trans (hb5.mono hb4.size)).alloc (hb4.trans (hb5.mono hb4.size)).size (.cells #[.bool y0, .slice y1 y2 y3, .slice y5 y6 y7, .slice y9 y10 y11] 27)
  clear hb4 hb5 hb14
  go_upto_region 13 with fail
  generalize w5.alloc (.cells #[.bool y0, .slice y1 y2 y3, .slice y5 y6 y7, .slice y9 y10 y11] 27) = V at *
  have hbV := hb13.trans (hb35.mono hb13.size)
  have hcell : V.cell? ⟨w2.heap.size, 0, none⟩ = some (.bool x0) := cell_of_row V w2.heap.size 0 _ _ _ ((hb35.block w2.heap.size (Array.getElem?_eq_some_iff.1 hrow3).1).trans hrow3)
  have hVs := hb35.size
  have hlt2 : w2.heap.size < V.heap.size := World.block_lt_of_cell? _ _ hcell
  have hrlV := hrl3.below hb35 |>.more hVs
  have HA1 : Hid (∀ W, Below V.heap.size V W → Calls Tryd.prog 14 #[.slice (some ⟨b, o, none⟩) 8 c, .slice A3 60 c3] W fun e w' => ∃ v, e = .returned v ∧ Byt.Own w' W.heap.size v (8 + 60) (l.take 8 ++ E) ∧ Below W.heap.size W w') := hid fun W hb =>
    Byt.add_any W.heap.size W.heap.size _ A3 8 c 60 c3 (l.take 8) E W (((hrlV.pre (by omega)).below hb).more hb.size) (((hr3.below hb35).more hVs).below hb |>.more hb.size) (Nat.le_refl _) (Nat.le_refl _) (by omega) (by omega)
  have HR8 : Hid (∀ W, Below V.heap.size V W → Byt.Rd W W.heap.size (some ⟨b, o + 8, none⟩) (n - 8) (l.drop 8)) := hid fun W hb => ((hrlV.cut 8).below hb).more hb.size
  have HG : Hid (∀ W, Below V.heap.size V W → Gnd W) := hid fun W hb => (Hg.out.on hbV).on hb
  have HF : Hid (∀ W, Below V.heap.size V W → Below w.heap.size w W) := hid fun W hb => hbV.trans (hb.mono hbV.size)
  have HC : Hid (∀ W, Below V.heap.size V W → W.cell? ⟨w2.heap.size, 0, none⟩ = some (.bool x0)) := hid fun W hb => (hb.cell (p := ⟨w2.heap.size, 0, none⟩) hlt2).trans hcell
  have hal : ∀ (W : World) (o : Obj), Below V.heap.size V W → Below V.heap.size V (W.alloc o) := fun W o h => h.alloc h.size o
  have hkeep : ∀ {W W' : World}, Below V.heap.size V W → Below W.heap.size W W' → Below V.heap.size V W' := fun h1 h2 => h1.trans (h2.mono h1.size)
  have hbX0 := (Below.refl V.heap.size V).drew
  have ha0 : ∀ W : World, (W.alloc (.cells #[.bool false, .slice none 0 0, .slice none 0 0, .slice none 0 0] 27)).cell? ⟨W.heap.size, 0, none⟩ = some (.bool false) := fun W => cell_of_row _ _ 0 _ _ _ (heap_alloc_new W _)
  have ha1 : ∀ W : World, (W.alloc (.cells #[.bool false, .slice none 0 0, .slice none 0 0, .slice none 0 0] 27)).cell? ⟨W.heap.size, 1, none⟩ = some (.slice none 0 0) := fun W => cell_of_row _ _ 1 _ _ _ (heap_alloc_new W _)
  have ha2 : ∀ W : World, (W.alloc (.cells #[.bool false, .slice none 0 0, .slice none 0 0, .slice none 0 0] 27)).cell? ⟨W.heap.size, 2, none⟩ = some (.slice none 0 0) := fun W => cell_of_row _ _ 2 _ _ _ (heap_alloc_new W _)
  have ha3 : ∀ W : World, (W.alloc (.cells #[.bool false, .slice none 0 0, .slice none 0 0, .slice none 0 0] 27)).cell? ⟨W.heap.size, 3, none⟩ = some (.slice none 0 0) := fun W => cell_of_row _ _ 3 _ _ _ (heap_alloc_new W _)
  have haf : ∀ (W : World) (j : Nat), (W.alloc (.cells #[.bool false, .slice none 0 0, .slice none 0 0, .slice none 0 0] 27)).frozen? ⟨W.heap.size, j, none⟩ = false := fun W j => frozen_of_row _ _ j _ _ (heap_alloc_new W _)
  have hs4 : ∀ (W : World) (q : Nat) (v0 v1 v2 v3 : Value), V.heap.size ≤ q → Below V.heap.size V W → Below V.heap.size V ((((W.setCell ⟨q, 0, none⟩ v0).setCell ⟨q, 1, none⟩ v1).setCell ⟨q, 2, none⟩ v2).setCell ⟨q, 3, none⟩ v3) := fun W q v0 v1 v2 v3 hq h => (((h.setCell (p := ⟨q, 0, none⟩) hq v0).setCell (p := ⟨q, 1, none⟩) hq v1).setCell (p := ⟨q, 2, none⟩) hq v2).setCell (p := ⟨q, 3, none⟩) hq v3
  clear hb13 hb35 hrow3 hrl3 hr hr3 hrlV hcell hb02 hb03 hbV
  go_cut [15, 16, 17] from 56 to 67 (fun _ s16 s17 wx => s16 = .int .i64 (k2 : Int) ∧ s17 = .int .i64 z2 ∧ Below V.heap.size V wx)
  case first =>
   go_region_held3 (fun W' => Below V.heap.size V W') (first | exact hbX0 | assumption | exact hal _ _ (by assumption) | exact hs4 _ _ _ _ _ _ (Nat.le_refl _) hS8 | exact hs4 _ _ _ _ _ _ hs6 hS8 | exact hs4 _ _ _ _ _ _ hs7 hS8)
     (first
       | (go_at_call 14; refine (HA1.out V.drew hbX0).mono ?_; rintro e w6 ⟨v6, rfl, ho6, hb6⟩; obtain ⟨A6, c6, rfl, hr6, hc6, _⟩ := ho6.reads; clear ho6; have hS6 := hkeep hbX0 hb6; have hs6 := hS6.size)
       | (go_at_call 14; refine (HA1.out (V.drew.alloc (.cells #[.bool false, .slice none 0 0, .slice none 0 0, .slice none 0 0] 27)) (hal _ _ hbX0)).mono ?_; rintro e w6 ⟨v6, rfl, ho6, hb6⟩; obtain ⟨A6, c6, rfl, hr6, hc6, _⟩ := ho6.reads; clear ho6; have hS6 := hkeep (hal _ _ hbX0) hb6; have hs6 := hS6.size; have hz6 := zrow V.heap.size (heap_alloc_new V.drew _) hb6)
       | (go_at_call 14; refine (Byt.add_any _ _ A6 (some ⟨b, o + 8, none⟩) (8 + 60) c6 (n - 8) (c - 8) (l.take 8 ++ E) (l.drop 8) w6 hr6 (HR8.out _ hS6) (Nat.le_refl _) (Nat.le_refl _) (by omega) (by omega)).mono ?_; rintro e w7 ⟨v7, rfl, ho7, hb7⟩; obtain ⟨A7, c7, rfl, hr7, hc7, _⟩ := ho7.reads; clear ho7; have hS7 := hkeep hS6 hb7; have hs7 := hS7.size; have hz7 := zrow _ hz6 hb7)
       | (go_at_call 14; refine (Byt.add_any _ _ A6 (some ⟨b, o + 8, none⟩) (8 + 60) c6 (n - 8) (c - 8) (l.take 8 ++ E) (l.drop 8) w6 hr6 (HR8.out _ hS6) (Nat.le_refl _) (Nat.le_refl _) (by omega) (by omega)).mono ?_; rintro e w7 ⟨v7, rfl, ho7, hb7⟩; obtain ⟨A7, c7, rfl, hr7, hc7, _⟩ := ho7.reads; clear ho7; have hS7 := hkeep hS6 hb7; have hs7 := hS7.size)
       | (go_at_call 14; refine (Byt.add_any _ _ A6 (some ⟨b, o + 8, none⟩) (8 + 60) c6 (n - 8) (c - 8) (l.take 8 ++ E) (l.drop 8) (w6.alloc _) ((hr6.below ((Below.refl _ _).alloc (Nat.le_refl _) _)).more (by simp)) (HR8.out _ (hal _ _ hS6)) (Nat.le_refl _) (Nat.le_refl _) (by omega) (by omega)).mono ?_; rintro e w7 ⟨v7, rfl, ho7, hb7⟩; obtain ⟨A7, c7, rfl, hr7, hc7, _⟩ := ho7.reads; clear ho7; have hS7 := hkeep (hal _ _ hS6) hb7; have hs7 := hS7.size; have hz7 := zrow w6.heap.size (heap_alloc_new _ _) hb7)
       | (go_at_call 9; refine (parse_at A7 _ c7 _ w7 (HG.out _ hS7) hr7 hc7 (by omega) _ _ _ Har2.out).mono ?_; rintro e w8 ⟨X8, rfl, hx8, ho8, hb8⟩; obtain ⟨u0, u1, u2, u3, u4, u5, u6, u7, u8, u9, u10, u11, u12⟩ := X8; clear hx8 ho8; simp only [Arc.val]; have hS8 := hkeep hS7 hb8; have hz8 := zrow _ hz7 hb8; obtain ⟨z0, z1, z2, z3, zf⟩ := zcells _ hz8)
       | (go_at_call 9; refine (parse_at A7 _ c7 _ w7 (HG.out _ hS7) hr7 hc7 (by omega) _ _ _ Har2.out).mono ?_; rintro e w8 ⟨X8, rfl, hx8, ho8, hb8⟩; obtain ⟨u0, u1, u2, u3, u4, u5, u6, u7, u8, u9, u10, u11, u12⟩ := X8; clear hx8 ho8; simp only [Arc.val]; have hS8 := hkeep hS7 hb8)
       | (go_at_call 9; refine (parse_at A7 _ c7 _ (w7.alloc _) (HG.out _ (hal _ _ hS7)) ((hr7.below ((Below.refl _ _).alloc (Nat.le_refl _) _)).more (by simp)) hc7 (by omega) _ _ _ Har2.out).mono ?_; rintro e w8 ⟨X8, rfl, hx8, ho8, hb8⟩; obtain ⟨u0, u1, u2, u3, u4, u5, u6, u7, u8, u9, u10, u11, u12⟩ := X8; clear hx8 ho8; simp only [Arc.val]; have hS8 := hkeep (hal _ _ hS7) hb8; have hz8 := zrow w7.heap.size (heap_alloc_new _ _) hb8; obtain ⟨z0, z1, z2, z3, zf⟩ := zcells _ hz8)
       | fail)
   all_goals (go_wp2_with fail; go_meet; exact ⟨rfl, rfl, by assumption⟩)
  case rest =>
    obtain ⟨rfl, rfl, hbc⟩ := hcut
    have hF := HF.out _ hbc
    have hC := HC.out _ hbc
    by_cases hz : z2 = 0
    · subst hz
      go_wp2_with fail
      go_ret
      exact ⟨rfl, hF⟩
    · have hzb : (z2 == 0) = false := by rw [beq_eq_false_iff_ne]; exact hz
      have hk : (68 : Int) ≤ (k2 : Int) := by omega
      clear hz
      go_wp2_with fail
      go_ret
      exact ⟨rfl, hF⟩

set_option maxRecDepth 100000 in
set_option maxHeartbeats 4000000 in
theorem accepted_t (w : World) (hg : Gnd w) (A : Option Addr) (n c : Nat) (l : List UInt8) (hr : Rd w w.heap.size A n l) (hnc : n ≤ c) (hn : ¬ 10000 < n) (t : St) (har : ar l = (t, 0, 0)) (hm : t.mems ≠ []) :
    Calls Tryd.prog 5 #[.slice A n c, .bool true] w fun e w' => e = .returned (.bool true) ∧ Below w.heap.size w w' := by
  have hni : ¬ (10000 : Int) < (n : Int) := by omega
  have hl := hr.1
  have hi := ar_isAr har
  have h8 : 8 ≤ n := by unfold isAr at hi; simp at hi; omega
  obtain ⟨b, o, rfl, _⟩ := Rd_where hr (by omega)
  obtain ⟨E, hE⟩ : ∃ E, eout (named true) (num 0 0 0 0 0) = E := ⟨_, rfl⟩
  have hEl : E.length = 60 := by rw [← hE]; exact (mkp_ok (d := []) (enc_named true) rfl []).2.2.2.2.2
  have hlate := late true har hm
  rw [hE, hl] at hlate
  obtain ⟨t2, k2, z2, har2⟩ : ∃ t2 k2 z2, ar (l.take 8 ++ E ++ l.drop 8) = (t2, k2, z2) := ⟨_, _, _, rfl⟩
  have hearly : z2 = 0 ∨ 68 ≤ k2 := ar_early hi (enc_named true) rfl (.inr rfl) (by rw [hE]; exact har2)
  have HEn : Hid (∀ w', Calls Tryd.prog 13 #[.agg #[.string (named true), .int .i64 0, .int .i64 0, .int .i64 0, .int .i64 0, .int .i64 0]] w' fun e w'' =>
      ∃ A c, e = .returned (.tuple #[.slice A E.length c, .int .i64 0]) ∧ Byt.Own w'' w'.heap.size (.slice A E.length c) E.length E ∧ Rd w'' w''.heap.size A E.length E ∧ E.length ≤ c ∧ E.length ≤ 60 ∧ Below w'.heap.size w' w'') :=
    hid fun w' => rencode_rd (named true) 0 0 0 0 0 0 E ⟨enc_named true, hE⟩ w' (by decide) (by decide) (by decide) (by decide) (by decide) (by decide)
  rw [hEl] at HEn
  have Hg := hid hg
  have Hlate := hid hlate
  have Har2 := hid har2
  clear hg hlate har2 hi
  go_enter Tryd.func5, Tryd.ntmps5
  go_wp2_with fail
  refine (awake_any _ Hg.out).mono ?_
  rintro e w1 ⟨rfl, hb1⟩
  go_wp2_with fail
  refine (parse_at _ n c l w1 (Hg.out.on hb1) ((hr.below hb1).more hb1.size) hnc (by omega) _ 0 0 har).mono ?_
  rintro e w2 ⟨X, rfl, hx, ho, hb2⟩
  have q1 := ho.lens.1
  have q2 := congrArg List.length hx.2.2.1
  rw [List.length_map] at q2
  obtain ⟨x0, x1, x2, x3, x4, x5, N, x7, x8, x9, x10, x11, x12⟩ := X
  simp only at q1 q2
  have hN : 0 < N := by have := List.length_pos_iff.2 hm; omega
  have hNb : ((N : Int) == 0) = false := by rw [beq_eq_false_iff_ne]; omega
  clear hx ho q1 q2
  simp only [Arc.val]
  have hb02 := hb1.trans (hb2.mono hb1.size)
  clear hb1 hb2
  have hrow := heap_alloc_new w2 (.cells #[.bool x0, .slice x1 x2 x3, .slice x5 N x7, .slice x9 x10 x11] 27)
  have hb03 := hb02.alloc hb02.size (.cells #[.bool x0, .slice x1 x2 x3, .slice x5 N x7, .slice x9 x10 x11] 27)
  have h9 : 8 < n := by
    rcases Nat.lt_or_ge 8 n with h | h
    · exact h
    · have e : l.drop 8 = [] := List.drop_eq_nil_of_le (by omega)
      rw [ar_go (ar_isAr har), e, go_nil] at har
      injection har with har
      exact absurd (by rw [← har]; rfl) hm
  have h8i : (8 : Int) ≤ (n : Int) := by omega
  have h8c : (8 : Int) ≤ (c : Int) := by omega
  have hnci : (n : Int) ≤ (c : Int) := by omega
  have hc8 : c ≠ 8 := by omega
  go_wp2_with fail
  refine (HEn.out _).mono ?_
  rintro e w3 ⟨A3, c3, rfl, _, hr3, hc3, _, hb3⟩
  have hb23 : Below w2.heap.size w2 w3 := ((Below.refl _ _).alloc (Nat.le_refl _) _).trans (hb3.mono (by simp))
  have hrow3 := (hb3.block w2.heap.size (by simp)).trans hrow
  have hb13 := hb02.trans (hb23.mono hb02.size)
  have hrl3 := (hr.below hb13).more hb13.size
  clear hb3 hb23 hrow
  go_wp2_with fail
  refine (Byt.add_any w3.heap.size w3.heap.size _ A3 n c 60 c3 l E w3 hrl3 hr3 (Nat.le_refl _) (Nat.le_refl _) (by omega) (by omega)).mono ?_
  rintro e w4 ⟨v4, rfl, ho4, hb4⟩
  obtain ⟨A4, c4, rfl, hr4, hc4, _⟩ := ho4.reads
  have hb14 := hb13.trans (hb4.mono hb13.size)
  clear ho4
  go_wp2_with fail
  refine (parse_at A4 (n + 60) c4 (l ++ E) w4 (Hg.out.on hb14) hr4 hc4 (by omega) _ _ _ Hlate.out).mono ?_
  rintro e w5 ⟨X5, rfl, hx5, ho5, hb5⟩
  obtain ⟨y0, y1, y2, y3, y4, y5, y6, y7, y8, y9, y10, y11, y12⟩ := X5
  clear hx5 ho5 hr4
  simp only [Arc.val]
  have hb35 := (hb4.trans (hb5.mono hb4.size)).alloc (hb4.trans (hb5.mono hb4.size)).size (.cells #[.bool y0, .slice y1 y2 y3, .slice y5 y6 y7, .slice y9 y10 y11] 27)
  clear hb4 hb5 hb14
  go_upto_region 13 with fail
  generalize w5.alloc (.cells #[.bool y0, .slice y1 y2 y3, .slice y5 y6 y7, .slice y9 y10 y11] 27) = V at *
  have hbV := hb13.trans (hb35.mono hb13.size)
  have hcell : V.cell? ⟨w2.heap.size, 0, none⟩ = some (.bool x0) := cell_of_row V w2.heap.size 0 _ _ _ ((hb35.block w2.heap.size (Array.getElem?_eq_some_iff.1 hrow3).1).trans hrow3)
  have hVs := hb35.size
  have hlt2 : w2.heap.size < V.heap.size := World.block_lt_of_cell? _ _ hcell
  have hrlV := hrl3.below hb35 |>.more hVs
  have HA1 : Hid (∀ W, Below V.heap.size V W → Calls Tryd.prog 14 #[.slice (some ⟨b, o, none⟩) 8 c, .slice A3 60 c3] W fun e w' => ∃ v, e = .returned v ∧ Byt.Own w' W.heap.size v (8 + 60) (l.take 8 ++ E) ∧ Below W.heap.size W w') := hid fun W hb =>
    Byt.add_any W.heap.size W.heap.size _ A3 8 c 60 c3 (l.take 8) E W (((hrlV.pre (by omega)).below hb).more hb.size) (((hr3.below hb35).more hVs).below hb |>.more hb.size) (Nat.le_refl _) (Nat.le_refl _) (by omega) (by omega)
  have HR8 : Hid (∀ W, Below V.heap.size V W → Byt.Rd W W.heap.size (some ⟨b, o + 8, none⟩) (n - 8) (l.drop 8)) := hid fun W hb => ((hrlV.cut 8).below hb).more hb.size
  have HG : Hid (∀ W, Below V.heap.size V W → Gnd W) := hid fun W hb => (Hg.out.on hbV).on hb
  have HF : Hid (∀ W, Below V.heap.size V W → Below w.heap.size w W) := hid fun W hb => hbV.trans (hb.mono hbV.size)
  have HC : Hid (∀ W, Below V.heap.size V W → W.cell? ⟨w2.heap.size, 0, none⟩ = some (.bool x0)) := hid fun W hb => (hb.cell (p := ⟨w2.heap.size, 0, none⟩) hlt2).trans hcell
  have hal : ∀ (W : World) (o : Obj), Below V.heap.size V W → Below V.heap.size V (W.alloc o) := fun W o h => h.alloc h.size o
  have hkeep : ∀ {W W' : World}, Below V.heap.size V W → Below W.heap.size W W' → Below V.heap.size V W' := fun h1 h2 => h1.trans (h2.mono h1.size)
  have hbX0 := (Below.refl V.heap.size V).drew
  have ha0 : ∀ W : World, (W.alloc (.cells #[.bool false, .slice none 0 0, .slice none 0 0, .slice none 0 0] 27)).cell? ⟨W.heap.size, 0, none⟩ = some (.bool false) := fun W => cell_of_row _ _ 0 _ _ _ (heap_alloc_new W _)
  have ha1 : ∀ W : World, (W.alloc (.cells #[.bool false, .slice none 0 0, .slice none 0 0, .slice none 0 0] 27)).cell? ⟨W.heap.size, 1, none⟩ = some (.slice none 0 0) := fun W => cell_of_row _ _ 1 _ _ _ (heap_alloc_new W _)
  have ha2 : ∀ W : World, (W.alloc (.cells #[.bool false, .slice none 0 0, .slice none 0 0, .slice none 0 0] 27)).cell? ⟨W.heap.size, 2, none⟩ = some (.slice none 0 0) := fun W => cell_of_row _ _ 2 _ _ _ (heap_alloc_new W _)
  have ha3 : ∀ W : World, (W.alloc (.cells #[.bool false, .slice none 0 0, .slice none 0 0, .slice none 0 0] 27)).cell? ⟨W.heap.size, 3, none⟩ = some (.slice none 0 0) := fun W => cell_of_row _ _ 3 _ _ _ (heap_alloc_new W _)
  have haf : ∀ (W : World) (j : Nat), (W.alloc (.cells #[.bool false, .slice none 0 0, .slice none 0 0, .slice none 0 0] 27)).frozen? ⟨W.heap.size, j, none⟩ = false := fun W j => frozen_of_row _ _ j _ _ (heap_alloc_new W _)
  have hs4 : ∀ (W : World) (q : Nat) (v0 v1 v2 v3 : Value), V.heap.size ≤ q → Below V.heap.size V W → Below V.heap.size V ((((W.setCell ⟨q, 0, none⟩ v0).setCell ⟨q, 1, none⟩ v1).setCell ⟨q, 2, none⟩ v2).setCell ⟨q, 3, none⟩ v3) := fun W q v0 v1 v2 v3 hq h => (((h.setCell (p := ⟨q, 0, none⟩) hq v0).setCell (p := ⟨q, 1, none⟩) hq v1).setCell (p := ⟨q, 2, none⟩) hq v2).setCell (p := ⟨q, 3, none⟩) hq v3
  clear hb13 hb35 hrow3 hrl3 hr hr3 hrlV hcell hb02 hb03 hbV
  go_cut [15, 16, 17] from 56 to 67 (fun _ s16 s17 wx => s16 = .int .i64 (k2 : Int) ∧ s17 = .int .i64 z2 ∧ Below V.heap.size V wx)
  case first =>
   go_region_held3 (fun W' => Below V.heap.size V W') (first | exact hbX0 | assumption | exact hal _ _ (by assumption) | exact hs4 _ _ _ _ _ _ (Nat.le_refl _) hS8 | exact hs4 _ _ _ _ _ _ hs6 hS8 | exact hs4 _ _ _ _ _ _ hs7 hS8)
     (first
       | (go_at_call 14; refine (HA1.out V.drew hbX0).mono ?_; rintro e w6 ⟨v6, rfl, ho6, hb6⟩; obtain ⟨A6, c6, rfl, hr6, hc6, _⟩ := ho6.reads; clear ho6; have hS6 := hkeep hbX0 hb6; have hs6 := hS6.size)
       | (go_at_call 14; refine (HA1.out (V.drew.alloc (.cells #[.bool false, .slice none 0 0, .slice none 0 0, .slice none 0 0] 27)) (hal _ _ hbX0)).mono ?_; rintro e w6 ⟨v6, rfl, ho6, hb6⟩; obtain ⟨A6, c6, rfl, hr6, hc6, _⟩ := ho6.reads; clear ho6; have hS6 := hkeep (hal _ _ hbX0) hb6; have hs6 := hS6.size; have hz6 := zrow V.heap.size (heap_alloc_new V.drew _) hb6)
       | (go_at_call 14; refine (Byt.add_any _ _ A6 (some ⟨b, o + 8, none⟩) (8 + 60) c6 (n - 8) (c - 8) (l.take 8 ++ E) (l.drop 8) w6 hr6 (HR8.out _ hS6) (Nat.le_refl _) (Nat.le_refl _) (by omega) (by omega)).mono ?_; rintro e w7 ⟨v7, rfl, ho7, hb7⟩; obtain ⟨A7, c7, rfl, hr7, hc7, _⟩ := ho7.reads; clear ho7; have hS7 := hkeep hS6 hb7; have hs7 := hS7.size; have hz7 := zrow _ hz6 hb7)
       | (go_at_call 14; refine (Byt.add_any _ _ A6 (some ⟨b, o + 8, none⟩) (8 + 60) c6 (n - 8) (c - 8) (l.take 8 ++ E) (l.drop 8) w6 hr6 (HR8.out _ hS6) (Nat.le_refl _) (Nat.le_refl _) (by omega) (by omega)).mono ?_; rintro e w7 ⟨v7, rfl, ho7, hb7⟩; obtain ⟨A7, c7, rfl, hr7, hc7, _⟩ := ho7.reads; clear ho7; have hS7 := hkeep hS6 hb7; have hs7 := hS7.size)
       | (go_at_call 14; refine (Byt.add_any _ _ A6 (some ⟨b, o + 8, none⟩) (8 + 60) c6 (n - 8) (c - 8) (l.take 8 ++ E) (l.drop 8) (w6.alloc _) ((hr6.below ((Below.refl _ _).alloc (Nat.le_refl _) _)).more (by simp)) (HR8.out _ (hal _ _ hS6)) (Nat.le_refl _) (Nat.le_refl _) (by omega) (by omega)).mono ?_; rintro e w7 ⟨v7, rfl, ho7, hb7⟩; obtain ⟨A7, c7, rfl, hr7, hc7, _⟩ := ho7.reads; clear ho7; have hS7 := hkeep (hal _ _ hS6) hb7; have hs7 := hS7.size; have hz7 := zrow w6.heap.size (heap_alloc_new _ _) hb7)
       | (go_at_call 9; refine (parse_at A7 _ c7 _ w7 (HG.out _ hS7) hr7 hc7 (by omega) _ _ _ Har2.out).mono ?_; rintro e w8 ⟨X8, rfl, hx8, ho8, hb8⟩; obtain ⟨u0, u1, u2, u3, u4, u5, u6, u7, u8, u9, u10, u11, u12⟩ := X8; clear hx8 ho8; simp only [Arc.val]; have hS8 := hkeep hS7 hb8; have hz8 := zrow _ hz7 hb8; obtain ⟨z0, z1, z2, z3, zf⟩ := zcells _ hz8)
       | (go_at_call 9; refine (parse_at A7 _ c7 _ w7 (HG.out _ hS7) hr7 hc7 (by omega) _ _ _ Har2.out).mono ?_; rintro e w8 ⟨X8, rfl, hx8, ho8, hb8⟩; obtain ⟨u0, u1, u2, u3, u4, u5, u6, u7, u8, u9, u10, u11, u12⟩ := X8; clear hx8 ho8; simp only [Arc.val]; have hS8 := hkeep hS7 hb8)
       | (go_at_call 9; refine (parse_at A7 _ c7 _ (w7.alloc _) (HG.out _ (hal _ _ hS7)) ((hr7.below ((Below.refl _ _).alloc (Nat.le_refl _) _)).more (by simp)) hc7 (by omega) _ _ _ Har2.out).mono ?_; rintro e w8 ⟨X8, rfl, hx8, ho8, hb8⟩; obtain ⟨u0, u1, u2, u3, u4, u5, u6, u7, u8, u9, u10, u11, u12⟩ := X8; clear hx8 ho8; simp only [Arc.val]; have hS8 := hkeep (hal _ _ hS7) hb8; have hz8 := zrow w7.heap.size (heap_alloc_new _ _) hb8; obtain ⟨z0, z1, z2, z3, zf⟩ := zcells _ hz8)
       | fail)
   all_goals (go_wp2_with fail; go_meet; exact ⟨rfl, rfl, by assumption⟩)
  case rest =>
    obtain ⟨rfl, rfl, hbc⟩ := hcut
    have hF := HF.out _ hbc
    have hC := HC.out _ hbc
    by_cases hz : z2 = 0
    · subst hz
      cases x0
      · go_wp2_with fail
        go_ret
        exact ⟨rfl, hF⟩
      · go_wp2_with fail
        go_ret
        exact ⟨rfl, hF⟩
    · have hzb : (z2 == 0) = false := by rw [beq_eq_false_iff_ne]; exact hz
      have hk : (68 : Int) ≤ (k2 : Int) := by omega
      clear hz
      cases x0
      · go_wp2_with fail
        go_ret
        exact ⟨rfl, hF⟩
      · go_wp2_with fail
        go_ret
        exact ⟨rfl, hF⟩

theorem walk (w : World) (hg : Gnd w) (A : Option Addr) (n c : Nat) (l : List UInt8) (hr : Rd w w.heap.size A n l) (hnc : n ≤ c) (_ : c ≤ maxLen) (x : Bool) :
    Calls Tryd.prog 5 #[.slice A n c, .bool x] w fun e w' => e = .returned (.bool true) ∧ Below w.heap.size w w' := by
  by_cases h : 10000 < n
  · exact big w hg A n c x h
  · obtain ⟨t, k, z, har⟩ : ∃ t k z, ar l = (t, k, z) := ⟨_, _, _, rfl⟩
    by_cases hz : z = 0
    · subst hz
      obtain ⟨rfl, _⟩ := ar_fit har
      by_cases hm : t.mems = []
      · exact empty w hg A n c x l hr hnc h t har hm
      · cases x
        · exact accepted_f w hg A n c l hr hnc h t har hm
        · exact accepted_t w hg A n c l hr hnc h t har hm
    · exact rejected w hg A n c x l hr hnc h t k z har hz

set_option maxRecDepth 100000 in
theorem held : Rows.ArparseSpecialSaid :=
  OpenClaim.holds_of_wide 5 Tryd.f5 rfl rfl rfl rfl rfl rfl rfl ⟨rfl, rfl, rfl, rfl, rfl⟩ rfl rfl rfl rfl rfl (by kernel_rfl) Tryd.func5 (by kernel_rfl)
    (of_decide_eq_true (by kernel_rfl)) (by unfold Func.isWrapper; first | (rw [if_pos (by decide +kernel)]; kernel_rfl) | (rw [if_neg (by decide +kernel)]; exact ⟨rfl, rfl⟩))
    (fun os started H enc _ => liftedG (started := started) (s := Rows.arparseSpecialSpec) (L := Rows.arparseSpecialRow.laid) rfl
      (fun ds h => by match ds, h with | [_, _], _ => rfl) (by kernel_rfl)
      (by kernel_rfl) (by kernel_rfl) Tryd.func5
      (ChangeSpec.witness_shaped (enc := enc) (C := Tryd.checked) (os := os) (X := fun w _ => laidMetH Tryd.prog Rows.arparseSpecialRow.laid w) false (World.laidAll Tryd.prog os Rows.arparseSpecialRow.laid) #[.slice none 0 0, .bool false] 8 (World.laidAll_os _ _ _)
        (World.shaped_of_ZipB (by kernel_rfl) (by kernel_rfl)) (by kernel_rfl) (by kernel_rfl) (by kernel_rfl)
        (by rw [MakeChecks.laidMetH_plain _ _ _ (by kernel_rfl)]; exact laidMet_laidAll _ (by kernel_rfl) (by kernel_rfl)))
      gnd_of (fun W base args ds p hG h => by
        obtain ⟨hval, hA, _⟩ := h
        rw [show Tryd.f5.params = #[22, 4] from by kernel_rfl] at hA hval
        obtain ⟨v0, vs0, d0, ds0, p0, q0, hargs, rfl, rfl, k0, r0⟩ := trodAll_cons hA
        obtain ⟨v1, vs1, d1, ds1, p1, q1, rfl, rfl, rfl, k1, r1⟩ := trodAll_cons r0
        obtain ⟨rfl, rfl, rfl⟩ := trodAll_nil r1
        obtain rfl : args = #[v0, v1] := by cases args; simp_all
        obtain ⟨A0, n0, c0, l0, rfl, h0, m0, g0⟩ := open_bytes (hval 0 _ v0 rfl rfl) k0
        obtain ⟨a1, rfl⟩ := open_b (hval 1 _ v1 rfl rfl) k1
        exact walk W hG A0 n0 c0 l0 h0 m0 g0 a1))
theorem proved : Rows.ArparseSpecialCardSaid :=
  Claim7.holds_tied_plain_at .later [] [.data, .pinned] true (true, "48f2ff196254b2af6b45da2ec089731cc37ebc39530793c05c357d595e7f75e7") false held (fun _ h => by cases h) (by kernel_rfl) (fun _ h => by cases h) arparseSpecial_row_tie rfl ⟨rfl, rfl⟩ (by kernel_rfl) rfl
    (fun f fn hf hfn => by
      obtain rfl : f = 5 := Option.some.inj ((show Tryd.prog.funcNamed "arlink/arlinklaw04.ArparseSpecial" = some 5 by kernel_rfl).symm.trans hf) |>.symm
      obtain rfl : fn = Tryd.f5 := (Option.some.inj (Tryd.func5.symm.trans hfn)).symm
      exact ⟨by kernel_rfl, fun j t ht => by
        rw [Tryd.params5] at ht
        have hm : t ∈ [22, 4] := by simpa using Array.mem_of_getElem? ht
        have hall : ([22, 4].all fun u => !Tryd.prog.wantsStandIn u) = true := by kernel_rfl
        exact (show Tryd.prog.wantsStandIn t = false by simpa using List.all_eq_true.1 hall t hm)⟩)
    (by kernel_rfl)
#print axioms proved
end Go.Proofs.YtfpendpbloeedaaDoor.Special
