/-
  objsym's reference: Decode.
  objsym: what Encode and Decode give, in the forms that callers take.
-/
import Derived.Test.YtpedngfmjhpojaaGreatDoorZOm
import Derived.Deep.RegionHeld3
namespace Go.Proofs.YtpedngfmjhpojaaGreatDoor.Obj
open Go.RowKit Go.Proofs Go.Proofs.YtpedngfmjhpojaaGreatDoor.Byt
open Go.Proofs.YtpedngfmjhpojaaGreatDoor.Sls (Oth)

/-- A variable of two cells, set. -/
def put2 (W : World) (B : Nat) (v0 v1 : Value) : World := (W.setCell ⟨B, 0, none⟩ v0).setCell ⟨B, 1, none⟩ v1
theorem put2_row {W : World} {B : Nat} {a b : Value} {t : TypeId} (h : W.heap[B]? = some (.cells #[a, b] t (0, 0))) (v0 v1 : Value) : (put2 W B v0 v1).heap[B]? = some (.cells #[v0, v1] t (0, 0)) :=
  heap_setCell_same _ B 1 _ _ v1 (heap_setCell_same W B 0 _ _ v0 h)
theorem put2_below {w W : World} {K B : Nat} (h : Below K w W) (hB : K ≤ B) (v0 v1 : Value) : Below K w (put2 W B v0 v1) :=
  (h.setCell (p := ⟨B, 0, none⟩) hB v0).setCell (p := ⟨B, 1, none⟩) hB v1

set_option maxRecDepth 100000 in
set_option maxHeartbeats 1000000 in
theorem rdecode_2 (w : World) (A : Option Addr) (n c : Nat) (l : List UInt8) (hl : l.length = n) (h4 : n < 4) :
    Calls Tryz.prog 33 #[.slice A n c] w (Decodes l w) := by
  have Hd : Hid (decO l = (2, [], [])) := hid (by unfold decO; rw [if_pos (by omega)])
  have h4i : (n : Int) < 4 := by omega
  have hb := (Below.refl w.heap.size w).alloc (Nat.le_refl _) (.cells #[.slice none 0 0, .slice none 0 0] 61)
  have hl2 := load2 _ _ _ (heap_alloc_new w (.cells #[.slice none 0 0, .slice none 0 0] 61)) rfl
  go_enter Tryz.func33, Tryz.ntmps33
  go_wp2_with fail
  exact bodyPost_ret (v := .tuple #[.agg #[.slice none 0 0, .slice none 0 0], .int .i64 2]) (by simp [results, Tryz.results33, asAddr, hl2]) rfl (Decodes.bad Hd.out hb)

set_option maxRecDepth 100000 in
set_option maxHeartbeats 1000000 in
theorem rdecode_early (w : World) (K b o n c : Nat) (l : List UInt8) (hr : Byt.Rd w K (some ⟨b, o, none⟩) n l) (hK : K ≤ w.heap.size) (hnc : n ≤ c) (h4 : 4 ≤ n) (hm : l.take 4 ≠ magic ∨ (l.take 4 = magic ∧ n < 8) ∨ (l.take 4 = magic ∧ 8 ≤ n ∧ 65536 < n4 (l.drop 4))) :
    Calls Tryz.prog 33 #[.slice (some ⟨b, o, none⟩) n c] w (Decodes l w) := by
  have hl := hr.1
  have h4i : ¬ (n : Int) < 4 := by omega
  have h4c : (4 : Int) ≤ (c : Int) := by omega
  have hb := (Below.refl w.heap.size w).alloc (Nat.le_refl _) (.cells #[.slice none 0 0, .slice none 0 0] 61)
  have hrow := heap_alloc_new w (.cells #[.slice none 0 0, .slice none 0 0] 61)
  have hl2 := load2 _ _ _ hrow rfl
  have hr4 := (hr.below (hb.mono hK)).pre (m := 4) h4
  have Hr4 := hid hr4
  rcases hm with hm | ⟨hm, h8⟩ | ⟨hm, h8, hbig⟩
  · have Hd : Hid (decO l = (1, [], [])) := hid (by unfold decO; rw [if_neg (by omega), if_pos hm])
    have hbq : (l.take 4 == [79, 66, 74, 49]) = false := by rw [beq_eq_false_iff_ne]; exact hm
    obtain ⟨t, ht⟩ : ∃ t, l.take 4 = t := ⟨_, rfl⟩
    rw [ht] at hbq Hr4
    clear hr4 hm ht
    go_enter Tryz.func33, Tryz.ntmps33
    go_wp2_with (first | (refine wpList_str _ _ _ _ _ _ Hr4.out rfl (.tmp 15) rfl rfl ?_))
    exact bodyPost_ret (v := .tuple #[.agg #[.slice none 0 0, .slice none 0 0], .int .i64 1]) (by simp [results, Tryz.results33, asAddr, hl2]) rfl (Decodes.bad Hd.out hb)
  · have Hd : Hid (decO l = (2, [], [])) := hid (by unfold decO; rw [if_neg (by omega), if_neg (fun q => q hm), if_pos (by omega)])
    have hbq : (l.take 4 == [79, 66, 74, 49]) = true := by rw [beq_iff_eq]; exact hm
    have h8i : (n : Int) < 8 := by omega
    obtain ⟨t, ht⟩ : ∃ t, l.take 4 = t := ⟨_, rfl⟩
    rw [ht] at hbq Hr4
    clear hr4 hm ht
    go_enter Tryz.func33, Tryz.ntmps33
    go_wp2_with (first | (refine wpList_str _ _ _ _ _ _ Hr4.out rfl (.tmp 15) rfl rfl ?_))
    exact bodyPost_ret (v := .tuple #[.agg #[.slice none 0 0, .slice none 0 0], .int .i64 2]) (by simp [results, Tryz.results33, asAddr, hl2]) rfl (Decodes.bad Hd.out hb)
  · have Hd : Hid (decO l = (12, [], [])) := hid (by unfold decO; rw [if_neg (by omega), if_neg (fun q => q hm), if_neg (by omega), if_pos hbig])
    have hbq : (l.take 4 == [79, 66, 74, 49]) = true := by rw [beq_iff_eq]; exact hm
    have h8i : ¬ (n : Int) < 8 := by omega
    have h8c : (8 : Int) ≤ (c : Int) := by omega
    have hr8 := ((hr.below (hb.mono hK)).cut 4).pre (m := 4) (by omega)
    have hn4 : n4 ((l.drop 4).take 4) = n4 (l.drop 4) := by unfold n4; rw [List.take_take, Nat.min_self]
    have Hn := hid (rnumber_any _ K _ 4 (c - 4) _ hr8 (Nat.le_refl _))
    rw [hn4] at Hn
    have hbi : (65536 : Int) < (n4 (l.drop 4) : Int) := by omega
    obtain ⟨q, hq⟩ : ∃ q, n4 (l.drop 4) = q := ⟨_, rfl⟩
    rw [hq] at hbi Hn
    obtain ⟨t, ht⟩ : ∃ t, l.take 4 = t := ⟨_, rfl⟩
    rw [ht] at hbq Hr4
    clear hr4 hm ht hq hbig hn4
    go_enter Tryz.func33, Tryz.ntmps33
    go_wp2_with (first | (refine wpList_str _ _ _ _ _ _ Hr4.out rfl (.tmp 15) rfl rfl ?_))
    refine Hn.out.mono ?_
    rintro e w2 ⟨rfl, nm, hw⟩
    have hrow2 : w2.heap[w.heap.size]? = some (.cells #[.slice none 0 0, .slice none 0 0] 61 (0, 0)) := by rw [hw]; exact hrow
    have hb2 : Below w.heap.size w w2 := by rw [hw]; exact hb.trans (below_drewN _ _)
    have q0 := cell_of_row w2 w.heap.size 0 _ _ _ hrow2
    have q1 := cell_of_row w2 w.heap.size 1 _ _ _ hrow2
    have qf := fun o => frozen_of_row w2 w.heap.size o _ _ hrow2
    have hl3 := load2 _ _ _ (put2_row hrow2 (.slice none 0 0) (.slice none 0 0)) rfl
    have hb3 := put2_below hb2 (Nat.le_refl _) (.slice none 0 0) (.slice none 0 0)
    unfold put2 at hl3 hb3
    clear hw hrow2 hb hrow hl2 Hn hr8
    go_wp2_with fail
    exact bodyPost_ret (v := .tuple #[.agg #[.slice none 0 0, .slice none 0 0], .int .i64 12]) (by simp [results, Tryz.results33, asAddr, hl3]) rfl (Decodes.bad Hd.out hb3)

theorem slice_mid (K b o n c f t : Nat) (u v : Int) (hu : u = (f : Int)) (hv : v = (t : Int)) (hft : f ≤ t) (htn : t ≤ n) (hnc : n ≤ c) :
    ∃ p, (∀ w, (Instr.sliceAt 23 (.slice (some ⟨b, o, none⟩) n c) (some (.int .i64 u)) (some (.int .i64 v)) none).run Tryz.prog w = .ok (.slice (some ⟨b, p, none⟩) (t - f) (c - f)) w) ∧ (∀ w, (Instr.slice 23 (.slice (some ⟨b, o, none⟩) n c) (some (.int .i64 u)) (some (.int .i64 v)) none).run Tryz.prog w = .ok (.slice (some ⟨b, p, none⟩) (t - f) (c - f)) w) ∧ ∀ w l, Byt.Rd w K (some ⟨b, o, none⟩) n l → Byt.Rd w K (some ⟨b, p, none⟩) (t - f) ((l.drop f).take (t - f)) := by
  subst hu hv
  have h1 : (f : Int) ≤ (t : Int) := by omega
  have h2 : (t : Int) ≤ (c : Int) := by omega
  have h3 : (f : Int) ≤ (c : Int) := by omega
  by_cases hc : c = f
  · subst hc
    obtain rfl : t = c := by omega
    obtain rfl : t = n := by omega
    refine ⟨o, fun w => by go_simp, fun w => by go_simp, fun w l hr => ?_⟩
    rw [Nat.sub_self, List.take_zero]
    exact Rd.nil _ _ _
  · exact ⟨o + f, fun w => by go_simp, fun w => by go_simp, fun w l hr => (hr.cut f).pre (by omega)⟩

/-- What holds at the head of a round of Decode. -/
structure RD (w W : World) (M cnt n : Nat) (l : List UInt8) (k a : Nat) (A : Option Addr) (c : Nat) (acc : List Sy) : Prop where
  res : W.heap[w.heap.size]? = some (.cells #[.slice none 0 0, .slice none 0 0] 61 (0, 0))
  row : W.heap[M]? = some (.cells #[.slice A k c, .slice none 0 0] 61 (0, 0))
  own : Cel.Own 58 4 W (M + 1) (.slice A k c) k (scells acc)
  len : acc.length = k
  names : ∀ x ∈ acc, x.name.size ≤ maxLen
  lt : w.heap.size < M
  below : Below w.heap.size w W
  go : decO l = decL (cnt - k) acc (l.drop a)
  le : k ≤ cnt ∧ a ≤ n
theorem RD.on {w W W' : World} {M cnt n k a c : Nat} {l : List UInt8} {A : Option Addr} {acc : List Sy} (h : RD w W M cnt n l k a A c acc) (hb : Below W.heap.size W W') : RD w W' M cnt n l k a A c acc :=
  ⟨(hb.block _ (Array.getElem?_eq_some_iff.1 h.res).1).trans h.res, (hb.block _ (Array.getElem?_eq_some_iff.1 h.row).1).trans h.row, h.own.below hb, h.len, h.names, h.lt, h.below.trans (hb.mono h.below.size), h.go, h.le⟩

set_option linter.unusedSimpArgs false in
set_option maxRecDepth 100000 in
set_option maxHeartbeats 16000000 in
theorem rdecode_go (w : World) (K b o n c : Nat) (l : List UInt8) (hr : Byt.Rd w K (some ⟨b, o, none⟩) n l) (hK : K ≤ w.heap.size) (hnc : n ≤ c) (hn : n ≤ 1000000) (h8 : 8 ≤ n) (hm : l.take 4 = magic) (hbig : ¬ 65536 < n4 (l.drop 4)) :
    Calls Tryz.prog 33 #[.slice (some ⟨b, o, none⟩) n c] w (Decodes l w) := by
  have hl := hr.1
  have h4i : ¬ (n : Int) < 4 := by omega
  have h4c : (4 : Int) ≤ (c : Int) := by omega
  have h8i : ¬ (n : Int) < 8 := by omega
  have h8c : (8 : Int) ≤ (c : Int) := by omega
  have hb := (Below.refl w.heap.size w).alloc (Nat.le_refl _) (.cells #[.slice none 0 0, .slice none 0 0] 61)
  have hrow := heap_alloc_new w (.cells #[.slice none 0 0, .slice none 0 0] 61)
  have hr4 := (hr.below (hb.mono hK)).pre (m := 4) (by omega)
  have Hr4 := hid hr4
  have hbq : (l.take 4 == [79, 66, 74, 49]) = true := by rw [beq_iff_eq]; exact hm
  have hr8 := ((hr.below (hb.mono hK)).cut 4).pre (m := 4) (by omega)
  have hn4 : n4 ((l.drop 4).take 4) = n4 (l.drop 4) := by unfold n4; rw [List.take_take, Nat.min_self]
  have Hn := hid (rnumber_any _ K _ 4 (c - 4) _ hr8 (Nat.le_refl _))
  rw [hn4] at Hn
  have Hd : Hid (decO l = decL (n4 (l.drop 4)) [] (l.drop 8)) := hid (by unfold decO; rw [if_neg (by omega), if_neg (fun q => q hm), if_neg (by omega), if_neg hbig])
  obtain ⟨q, hq⟩ : ∃ q, n4 (l.drop 4) = q := ⟨_, rfl⟩
  rw [hq] at hbig Hn Hd
  have hqi : ¬ (65536 : Int) < (q : Int) := by omega
  obtain ⟨t, ht⟩ : ∃ t, l.take 4 = t := ⟨_, rfl⟩
  rw [ht] at hbq Hr4
  clear hr4 hm ht hq hn4
  go_enter Tryz.func33, Tryz.ntmps33
  go_wp2_with (first | (refine wpList_str _ _ _ _ _ _ Hr4.out rfl (.tmp 15) rfl rfl ?_))
  refine Hn.out.mono ?_
  rintro e w2 ⟨rfl, nm, hw⟩
  have hrow2 : w2.heap[w.heap.size]? = some (.cells #[.slice none 0 0, .slice none 0 0] 61 (0, 0)) := by rw [hw]; exact hrow
  have hb2 : Below w.heap.size w w2 := by rw [hw]; exact hb.trans (below_drewN _ _)
  have hlt2 : w.heap.size < w2.heap.size := (Array.getElem?_eq_some_iff.1 hrow2).1
  have hb3 := (Below.refl w2.heap.size w2).alloc (Nat.le_refl _) (.cells #[.slice none 0 0, .slice none 0 0] 61)
  have hP : RD w (w2.alloc (.cells #[.slice none 0 0, .slice none 0 0] 61)) w2.heap.size q n l 0 8 none 0 [] :=
    ⟨(hb3.block _ hlt2).trans hrow2, heap_alloc_new w2 _, Cel.Own.nil _ _ _ _, rfl, by simp, hlt2, hb2.trans (hb3.mono hb2.size), by rw [Hd.out]; rfl, by omega, h8⟩
  clear hw hrow2 hb hrow Hn hr8 hb3 hb2 Hd
  go_wp2_with fail
  generalize w2.alloc (.cells #[.slice none 0 0, .slice none 0 0] 61) = w3 at *
  generalize w2.heap.size = M at *
  go_loopw [6, 7] (fun av iv W => ∃ (k a : Nat) (A : Option Addr) (c1 : Nat) (acc : List Sy), iv = .int .i64 (k : Int) ∧ av = .int .i64 (a : Int) ∧ RD w W M q n l k a A c1 acc) (fun _ i _ => q - (intOf i).toNat)
  case atStart => exact ⟨0, 8, none, 0, [], rfl, rfl, hP⟩
  case round =>
    obtain ⟨k, a, A, c1, acc, rfl, rfl, hP1⟩ := hrel
    clear hP
    obtain ⟨hkq, han⟩ := hP1.le
    by_cases hlt : k < q
    · have hki : (k : Int) < (q : Int) := by omega
      obtain ⟨j, hj⟩ : ∃ j, q - k = j + 1 := ⟨q - k - 1, by omega⟩
      have HD : Hid (decO l = if cutS (l.drop a) then (2, [], []) else if has acc (rdS (l.drop a)).name = true ∨ symOk (rdS (l.drop a)) = false then (12, [], []) else decL (q - (k + 1)) (acc ++ [rdS (l.drop a)]) ((l.drop a).drop (10 + kS (l.drop a)))) := hid (by rw [hP1.go, hj, show q - (k + 1) = j by omega]; rfl)
      clear hj
      have q0 := cell_of_row wr w.heap.size 0 _ _ _ hP1.res
      have q1 := cell_of_row wr w.heap.size 1 _ _ _ hP1.res
      have qf := fun o => frozen_of_row wr w.heap.size o _ _ hP1.res
      have hl3 := load2 _ _ _ (put2_row hP1.res (.slice none 0 0) (.slice none 0 0)) rfl
      have hb3 := put2_below hP1.below (Nat.le_refl _) (.slice none 0 0) (.slice none 0 0)
      unfold put2 at hl3 hb3
      have hrw := hr.below (hP1.below.mono hK)
      by_cases h10 : n < a + 10
      · have h10i : decide ((n : Int) < (a : Int) + 10) = true := by simp; omega
        have hd : Hid (decO l = (2, [], [])) := hid (by rw [HD.out, if_pos (by unfold cutS; left; rw [List.length_drop]; omega)])
        go_wp2_with fail
        exact bodyPost_ret (v := .tuple #[.agg #[.slice none 0 0, .slice none 0 0], .int .i64 2]) (by simp [results, Tryz.results33, asAddr, hl3]) rfl (Decodes.bad hd.out hb3)
      · have h10i : decide ((n : Int) < (a : Int) + 10) = false := by simp; omega
        obtain ⟨r, hrr⟩ : ∃ r, r = l.drop a := ⟨_, rfl⟩
        have hrl : r.length = n - a := by rw [hrr, List.length_drop, hl]
        have hra : Byt.Rd wr K (some ⟨b, o + a, none⟩) (n - a) r := by rw [hrr]; exact hrw.cut a
        rw [← hrr] at HD
        obtain ⟨b', o', e', hbK, hc9⟩ := hra.2 9 (by omega)
        injection e' with e'
        injection e' with e1 e2
        subst e1 e2
        obtain ⟨_, _, e0, _, hc0⟩ := hra.2 0 (by omega)
        injection e0 with e0
        injection e0 with e01 e02
        subst e01 e02
        have hk9 : kS r = (r[9]'(by omega)).toNat := by unfold kS; rw [List.getD_eq_getElem?_getD, List.getElem?_eq_getElem (by omega)]; rfl
        have hk0 : (rdS r).bind = ((r[0]'(by omega)).toNat : Int) := by show ((r.getD 0 0).toNat : Int) = _; rw [List.getD_eq_getElem?_getD, List.getElem?_eq_getElem (by omega)]; rfl
        have hu9 := (r[9]'(by omega)).toNat_lt
        have hu0 := (r[0]'(by omega)).toNat_lt
        have Hk9 := hid hk9
        have Hk0 := hid hk0
        clear hk9 hk0
        generalize r[9]'(by omega) = u9 at *
        generalize r[0]'(by omega) = u0 at *
        rw [Nat.add_assoc] at hc9
        rw [Nat.add_zero] at hc0
        have i9 : (a : Int) + 9 < (n : Int) := by omega
        by_cases h11 : n < a + 10 + u9.toNat
        · have h11i : decide ((n : Int) < (a : Int) + 10 + (u9.toNat : Int)) = true := by simp; omega
          have hd : Hid (decO l = (2, [], [])) := hid (by rw [HD.out, if_pos (by unfold cutS; right; rw [Hk9.out]; omega)])
          go_wp2_with fail
          exact bodyPost_ret (v := .tuple #[.agg #[.slice none 0 0, .slice none 0 0], .int .i64 2]) (by simp [results, Tryz.results33, asAddr, hl3]) rfl (Decodes.bad hd.out hb3)
        · have h11i : decide ((n : Int) < (a : Int) + 10 + (u9.toNat : Int)) = false := by simp; omega
          have HD2 : Hid (decO l = if has acc (rdS r).name = true ∨ symOk (rdS r) = false then (12, [], []) else decL (q - (k + 1)) (acc ++ [rdS r]) (r.drop (10 + kS r))) := hid (by rw [HD.out, if_neg (by unfold cutS; rw [Hk9.out]; omega)])
          have HP := hid hP1
          have Hra := hid hra
          have hHK : K ≤ wr.heap.size := Nat.le_trans hK hP1.below.size
          clear HD hl3 hb3 q0 q1 qf hP1 hra
          go_upto_region 18 with fail
          obtain ⟨p1, hs1, ht1, hq1⟩ := slice_mid K b o n c (a + 10) (a + 10 + u9.toNat) ((a : Int) + 10) ((a : Int) + 10 + (u9.toNat : Int)) (by omega) (by omega) (by omega) (by omega) hnc
          obtain ⟨p2, hs2, ht2, hq2⟩ := slice_mid K b o n c (a + 1) (a + 5) ((a : Int) + 1) ((a : Int) + 5) (by omega) (by omega) (by omega) (by omega) hnc
          obtain ⟨p3, hs3, ht3, hq3⟩ := slice_mid K b o n c (a + 5) (a + 9) ((a : Int) + 5) ((a : Int) + 9) (by omega) (by omega) (by omega) (by omega) hnc
          rw [show a + 10 + u9.toNat - (a + 10) = u9.toNat by omega] at hs1 ht1 hq1
          rw [show a + 5 - (a + 1) = 4 by omega] at hs2 ht2 hq2
          rw [show a + 9 - (a + 5) = 4 by omega] at hs3 ht3 hq3
          obtain ⟨ls, hls⟩ : ∃ ls, ls = (r.drop 10).take u9.toNat := ⟨_, rfl⟩
          have Hls := hid hls
          have hSall : ∀ W', Below wr.heap.size wr W' → (convert 23 9 (.slice (some ⟨b, p1, none⟩) u9.toNat (c - (a + 10)))).run Tryz.prog W' = .ok (.string ⟨ls.toArray⟩) W' ∧ W'.cell? ⟨b, o + a, none⟩ = some (.int .u8 (u0.toNat : Int)) ∧ Below wr.heap.size wr W' := fun W' hW => by
            refine ⟨?_, (hW.cell (p := ⟨b, o + a, none⟩) (by show b < _; omega)).trans hc0, hW⟩
            have := hq1 W' l (hrw.below (hW.mono hHK))
            rw [← List.drop_drop, ← hrr, ← hls] at this
            exact run_str W' K _ _ _ _ this
          have HN2 : Hid (∀ W', Below wr.heap.size wr W' → Calls Tryz.prog 63 #[.slice (some ⟨b, p2, none⟩) 4 (c - (a + 1))] W' fun e W'' => e = .returned (.int .i64 (n4 (r.drop 1) : Int)) ∧ ∃ m, W'' = W'.drewN m) := hid fun W' hW => by
            have h1 := hq2 W' l (hrw.below (hW.mono hHK))
            have h2 := rnumber_any W' K _ 4 (c - (a + 1)) _ h1 (Nat.le_refl _)
            have e : n4 ((l.drop (a + 1)).take 4) = n4 (r.drop 1) := by rw [hrr, List.drop_drop]; unfold n4; rw [List.take_take, Nat.min_self]
            rw [e] at h2
            exact h2
          have HN3 : Hid (∀ W', Below wr.heap.size wr W' → Calls Tryz.prog 63 #[.slice (some ⟨b, p3, none⟩) 4 (c - (a + 5))] W' fun e W'' => e = .returned (.int .i64 (n4 (r.drop 5) : Int)) ∧ ∃ m, W'' = W'.drewN m) := hid fun W' hW => by
            have h1 := hq3 W' l (hrw.below (hW.mono hHK))
            have h2 := rnumber_any W' K _ 4 (c - (a + 5)) _ h1 (Nat.le_refl _)
            have e : n4 ((l.drop (a + 5)).take 4) = n4 (r.drop 5) := by rw [hrr, List.drop_drop]; unfold n4; rw [List.take_take, Nat.min_self]
            rw [e] at h2
            exact h2
          obtain ⟨z2, hz2⟩ : ∃ z, z = n4 (r.drop 1) := ⟨_, rfl⟩
          obtain ⟨z3, hz3⟩ : ∃ z, z = n4 (r.drop 5) := ⟨_, rfl⟩
          rw [← hz2] at HN2
          rw [← hz3] at HN3
          have hx : rdS r = ⟨⟨ls.toArray⟩, (u0.toNat : Int), (z2 : Int), (z3 : Int)⟩ := by
            have h1 : (rdS r).name = ⟨ls.toArray⟩ := by show str ((r.drop 10).take (kS r)) = _; rw [Hk9.out, ← hls]; rfl
            have h2 : (rdS r).size = (z2 : Int) := by rw [hz2]; rfl
            have h3 : (rdS r).align = (z3 : Int) := by rw [hz3]; rfl
            rw [← h1, ← Hk0.out, ← h2, ← h3]
          have Hx := hid hx
          clear hls hz2 hz3 hx hq1 hq2 hq3
          have hbX0 : Below wr.heap.size wr wr.drew := (Below.refl _ _).drew
          have i0 : (a : Int) < (n : Int) := by omega
          have wu0 : IntKind.i64.wrap (u0.toNat : Int) = (u0.toNat : Int) := by rw [IntKind.wrap_i64]; omega
          have wa1 : IntKind.i64.wrap ((a : Int) + 1) = (a : Int) + 1 := by rw [IntKind.wrap_i64]; omega
          have wa5 : IntKind.i64.wrap ((a : Int) + 5) = (a : Int) + 5 := by rw [IntKind.wrap_i64]; omega
          have wa9 : IntKind.i64.wrap ((a : Int) + 9) = (a : Int) + 9 := by rw [IntKind.wrap_i64]; omega
          have wa10 : IntKind.i64.wrap ((a : Int) + 10) = (a : Int) + 10 := by rw [IntKind.wrap_i64]; omega
          go_cut [9] from 63 to 88 (fun s9 wx => ∃ g, s9 = .pointer (some ⟨g, 0, none⟩) ∧ wx.heap[g]? = some (.cells #[.string ⟨ls.toArray⟩, .int .i64 (u0.toNat : Int), .int .i64 (z2 : Int), .int .i64 (z3 : Int)] 58 (0, 0)) ∧ wr.heap.size ≤ g ∧ Below wr.heap.size wr wx)
          case first =>
            refine Ord.Till.begin (fun W' => (convert 23 9 (.slice (some ⟨b, p1, none⟩) u9.toNat (c - (a + 10)))).run Tryz.prog W' = .ok (.string ⟨ls.toArray⟩) W' ∧ W'.cell? ⟨b, o + a, none⟩ = some (.int .u8 (u0.toNat : Int)) ∧ Below wr.heap.size wr W') 50 (by kernel_rfl) ?_
            have hS0 : (fun W' => (convert 23 9 (.slice (some ⟨b, p1, none⟩) u9.toNat (c - (a + 10)))).run Tryz.prog W' = .ok (.string ⟨ls.toArray⟩) W' ∧ W'.cell? ⟨b, o + a, none⟩ = some (.int .u8 (u0.toNat : Int)) ∧ Below wr.heap.size wr W') wr.drew := hSall _ hbX0
            refine Ord.Till.take 0 (oi := _) (x := ?_) rfl (by kernel_rfl) (by kernel_rfl) (by kernel_rfl) (by kernel_rfl) (fun _ _ _ h => h) (by rfl) ?_ hS0 ?_
            rotate_left 1
            · intro v hv; obtain ⟨z1, z2', z3'⟩ := hv; go_simp; first | done | with_reducible rfl
            try simp only [Act.put, List.setIfInBounds_toArray, List.set_cons_zero, List.set_cons_succ]
            refine Ord.Till.take 1 (oi := _) (x := ?_) rfl (by kernel_rfl) (by kernel_rfl) (by kernel_rfl) (by kernel_rfl) (fun _ _ _ h => h) (by rfl) ?_ hS0 ?_
            rotate_left 1
            · intro v hv; obtain ⟨z1, z2', z3'⟩ := hv; go_simp; first | done | with_reducible rfl
            try simp only [Act.put, List.setIfInBounds_toArray, List.set_cons_zero, List.set_cons_succ]
            refine Ord.Till.take 2 (oi := _) (x := ?_) rfl (by kernel_rfl) (by kernel_rfl) (by kernel_rfl) (by kernel_rfl) (fun _ _ _ h => h) (by rfl) ?_ hS0 ?_
            rotate_left 1
            · intro v hv; obtain ⟨z1, z2', z3'⟩ := hv; go_simp; first | done | with_reducible rfl
            try simp only [Act.put, List.setIfInBounds_toArray, List.set_cons_zero, List.set_cons_succ]
            refine Ord.Till.take 3 (oi := _) (x := ?_) rfl (by kernel_rfl) (by kernel_rfl) (by kernel_rfl) (by kernel_rfl) (fun _ _ _ h => h) (by rfl) ?_ hS0 ?_
            rotate_left 1
            · intro v hv; obtain ⟨z1, z2', z3'⟩ := hv; go_simp; first | done | with_reducible rfl
            try simp only [Act.put, List.setIfInBounds_toArray, List.set_cons_zero, List.set_cons_succ]
            refine Ord.Till.take 4 (oi := _) (x := ?_) rfl (by kernel_rfl) (by kernel_rfl) (by kernel_rfl) (by kernel_rfl) (fun _ _ _ h => h) (by rfl) ?_ hS0 ?_
            rotate_left 1
            · intro v hv; obtain ⟨z1, z2', z3'⟩ := hv; go_simp; first | done | with_reducible rfl
            try simp only [Act.put, List.setIfInBounds_toArray, List.set_cons_zero, List.set_cons_succ]
            refine Ord.Till.take 5 (oi := _) (x := ?_) rfl (by kernel_rfl) (by kernel_rfl) (by kernel_rfl) (by kernel_rfl) (fun _ _ _ h => h) (by rfl) ?_ hS0 ?_
            rotate_left 1
            · intro v hv; obtain ⟨z1, z2', z3'⟩ := hv; go_simp; first | done | with_reducible rfl
            try simp only [Act.put, List.setIfInBounds_toArray, List.set_cons_zero, List.set_cons_succ]
            refine Ord.Till.take 6 (oi := _) (x := ?_) rfl (by kernel_rfl) (by kernel_rfl) (by kernel_rfl) (by kernel_rfl) (fun _ _ _ h => h) (by rfl) ?_ hS0 ?_
            rotate_left 1
            · intro v hv; obtain ⟨z1, z2', z3'⟩ := hv; go_simp; first | done | with_reducible rfl
            try simp only [Act.put, List.setIfInBounds_toArray, List.set_cons_zero, List.set_cons_succ]
            refine Ord.Till.take 7 (oi := _) (x := ?_) rfl (by kernel_rfl) (by kernel_rfl) (by kernel_rfl) (by kernel_rfl) (fun _ _ _ h => h) (by rfl) ?_ hS0 ?_
            rotate_left 1
            · intro v hv; obtain ⟨z1, z2', z3'⟩ := hv; go_simp; first | done | with_reducible rfl
            try simp only [Act.put, List.setIfInBounds_toArray, List.set_cons_zero, List.set_cons_succ]
            refine Ord.Till.take 8 (oi := _) (x := ?_) rfl (by kernel_rfl) (by kernel_rfl) (by kernel_rfl) (by kernel_rfl) (fun _ _ _ h => h) (by rfl) ?_ hS0 ?_
            rotate_left 1
            · intro v hv; obtain ⟨z1, z2', z3'⟩ := hv; go_simp; first | done | with_reducible rfl
            try simp only [Act.put, List.setIfInBounds_toArray, List.set_cons_zero, List.set_cons_succ]
            refine Ord.Till.take 9 (oi := _) (x := ?_) rfl (by kernel_rfl) (by kernel_rfl) (by kernel_rfl) (by kernel_rfl) (fun _ _ _ h => h) (by rfl) ?_ hS0 ?_
            rotate_left 1
            · intro v hv; obtain ⟨z1, z2', z3'⟩ := hv; go_simp; first | done | with_reducible rfl
            try simp only [Act.put, List.setIfInBounds_toArray, List.set_cons_zero, List.set_cons_succ]
            refine Ord.Till.take 10 (oi := _) (x := ?_) rfl (by kernel_rfl) (by kernel_rfl) (by kernel_rfl) (by kernel_rfl) (fun _ _ _ h => h) (by rfl) ?_ hS0 ?_
            rotate_left 1
            · intro v hv; obtain ⟨z1, z2', z3'⟩ := hv; go_simp; first | done | with_reducible rfl
            try simp only [Act.put, List.setIfInBounds_toArray, List.set_cons_zero, List.set_cons_succ]
            refine Ord.Till.take 11 (oi := _) (x := ?_) rfl (by kernel_rfl) (by kernel_rfl) (by kernel_rfl) (by kernel_rfl) (fun _ _ _ h => h) (by rfl) ?_ hS0 ?_
            rotate_left 1
            · intro v hv; obtain ⟨z1, z2', z3'⟩ := hv; go_simp; first | done | with_reducible rfl
            try simp only [Act.put, List.setIfInBounds_toArray, List.set_cons_zero, List.set_cons_succ]
            refine Ord.Till.take 12 (oi := _) (x := ?_) rfl (by kernel_rfl) (by kernel_rfl) (by kernel_rfl) (by kernel_rfl) (fun _ _ _ h => h) (by rfl) ?_ hS0 ?_
            rotate_left 1
            · intro v hv; obtain ⟨z1, z2', z3'⟩ := hv; go_simp; first | done | with_reducible rfl
            try simp only [Act.put, List.setIfInBounds_toArray, List.set_cons_zero, List.set_cons_succ]
            refine Ord.Till.take 13 (oi := _) (x := ?_) rfl (by kernel_rfl) (by kernel_rfl) (by kernel_rfl) (by kernel_rfl) (fun _ _ _ h => h) (by rfl) ?_ hS0 ?_
            rotate_left 1
            · intro v hv; obtain ⟨z1, z2', z3'⟩ := hv; go_simp; first | done | with_reducible rfl
            try simp only [Act.put, List.setIfInBounds_toArray, List.set_cons_zero, List.set_cons_succ]
            refine Ord.Till.take 14 (oi := _) (x := ?_) rfl (by kernel_rfl) (by kernel_rfl) (by kernel_rfl) (by kernel_rfl) (fun _ _ _ h => h) (by rfl) ?_ hS0 ?_
            rotate_left 1
            · intro v hv; obtain ⟨z1, z2', z3'⟩ := hv; go_simp; first | done | with_reducible rfl
            try simp only [Act.put, List.setIfInBounds_toArray, List.set_cons_zero, List.set_cons_succ]
            refine Ord.Till.take 15 (oi := _) (x := ?_) rfl (by kernel_rfl) (by kernel_rfl) (by kernel_rfl) (by kernel_rfl) (fun _ _ _ h => h) (by rfl) ?_ hS0 ?_
            rotate_left 1
            · intro v hv; obtain ⟨z1, z2', z3'⟩ := hv; go_simp; first | done | with_reducible rfl
            try simp only [Act.put, List.setIfInBounds_toArray, List.set_cons_zero, List.set_cons_succ]
            refine Ord.Till.take 16 (oi := _) (x := ?_) rfl (by kernel_rfl) (by kernel_rfl) (by kernel_rfl) (by kernel_rfl) (fun _ _ _ h => h) (by rfl) ?_ hS0 ?_
            rotate_left 1
            · intro v hv; obtain ⟨z1, z2', z3'⟩ := hv; go_simp; first | done | with_reducible rfl
            try simp only [Act.put, List.setIfInBounds_toArray, List.set_cons_zero, List.set_cons_succ]
            refine Ord.Till.take 18 (oi := _) (x := ?_) rfl (by kernel_rfl) (by kernel_rfl) (by kernel_rfl) (by kernel_rfl) (fun _ _ _ h => h) (by rfl) ?_ hS0 ?_
            rotate_left 1
            · intro v hv; obtain ⟨z1, z2', z3'⟩ := hv; go_simp; first | done | with_reducible rfl
            try simp only [Act.put, List.setIfInBounds_toArray, List.set_cons_zero, List.set_cons_succ]
            refine Ord.Till.take 19 (oi := _) (x := ?_) rfl (by kernel_rfl) (by kernel_rfl) (by kernel_rfl) (by kernel_rfl) (fun _ _ _ h => h) (by rfl) ?_ hS0 ?_
            rotate_left 1
            · intro v hv; obtain ⟨z1, z2', z3'⟩ := hv; go_simp; first | done | with_reducible rfl
            try simp only [Act.put, List.setIfInBounds_toArray, List.set_cons_zero, List.set_cons_succ]
            refine Ord.Till.take 20 (oi := _) (x := ?_) rfl (by kernel_rfl) (by kernel_rfl) (by kernel_rfl) (by kernel_rfl) (fun _ _ _ h => h) (by rfl) ?_ hS0 ?_
            rotate_left 1
            · intro v hv; obtain ⟨z1, z2', z3'⟩ := hv; go_simp; first | done | with_reducible rfl
            try simp only [Act.put, List.setIfInBounds_toArray, List.set_cons_zero, List.set_cons_succ]
            refine Ord.Till.take 21 (oi := _) (x := ?_) rfl (by kernel_rfl) (by kernel_rfl) (by kernel_rfl) (by kernel_rfl) (fun _ _ _ h => h) (by rfl) ?_ hS0 ?_
            rotate_left 1
            · intro v hv; obtain ⟨z1, z2', z3'⟩ := hv; go_simp; first | done | with_reducible rfl
            try simp only [Act.put, List.setIfInBounds_toArray, List.set_cons_zero, List.set_cons_succ]
            refine Ord.Till.take 22 (oi := _) (x := ?_) rfl (by kernel_rfl) (by kernel_rfl) (by kernel_rfl) (by kernel_rfl) (fun _ _ _ h => h) (by rfl) ?_ hS0 ?_
            rotate_left 1
            · intro v hv; obtain ⟨z1, z2', z3'⟩ := hv; go_simp; first | done | with_reducible rfl
            try simp only [Act.put, List.setIfInBounds_toArray, List.set_cons_zero, List.set_cons_succ]
            refine Ord.Till.take 23 (oi := _) (x := ?_) rfl (by kernel_rfl) (by kernel_rfl) (by kernel_rfl) (by kernel_rfl) (fun _ _ _ h => h) (by rfl) ?_ hS0 ?_
            rotate_left 1
            · intro v hv; obtain ⟨z1, z2', z3'⟩ := hv; go_simp; first | done | with_reducible rfl
            try simp only [Act.put, List.setIfInBounds_toArray, List.set_cons_zero, List.set_cons_succ]
            refine Ord.Till.two 17 26 (by kernel_rfl) rfl rfl (fun C hC => ?_) (fun C hC => ?_)
            · go_simp
              go_at_call 63
              refine (HN2.out _ hbX0).mono ?_
              rintro e v1 ⟨rfl, mv1, hwv1⟩
              have hv1 : Below wr.heap.size wr v1 := by rw [hwv1]; exact hbX0.trans (below_drewN _ _)
              clear hwv1
              refine hC.out _ _ (fun _ => hSall _ hv1) ?_
              clear hC C
              try simp only [Act.put, List.setIfInBounds_toArray, List.set_cons_zero, List.set_cons_succ]
              refine Ord.Till.two 24 26 (by kernel_rfl) rfl rfl (fun C hC => ?_) (fun C hC => ?_)
              · go_simp
                go_at_call 63
                refine (HN3.out _ hv1).mono ?_
                rintro e v2 ⟨rfl, mv2, hwv2⟩
                have hv2 : Below wr.heap.size wr v2 := by rw [hwv2]; exact hv1.trans (below_drewN _ _)
                clear hwv2
                refine hC.out _ _ (fun _ => hSall _ hv2) ?_
                clear hC C
                try simp only [Act.put, List.setIfInBounds_toArray, List.set_cons_zero, List.set_cons_succ]
                refine Ord.Till.take 25 (oi := _) (x := ?_) rfl (by kernel_rfl) (by kernel_rfl) (by kernel_rfl) (by kernel_rfl) (fun _ _ _ h => h) (by rfl) ?_ (hSall _ hv2) ?_
                rotate_left 1
                · intro v hv; obtain ⟨z1, z2', z3'⟩ := hv; go_simp; first | done | with_reducible rfl
                try simp only [Act.put, List.setIfInBounds_toArray, List.set_cons_zero, List.set_cons_succ]
                refine Ord.Till.step 26 (by kernel_rfl) rfl (fun C hC => ?_)
                go_simp
                have hA := heap_alloc_new v2 (.cells #[.string ⟨#[]⟩, .int .i64 0, .int .i64 0, .int .i64 0] 58)
                have hB : Below wr.heap.size wr (World.alloc v2 (.cells #[.string ⟨#[]⟩, .int .i64 0, .int .i64 0, .int .i64 0] 58)) := (hv2).alloc (hv2).size _
                have hg : wr.heap.size ≤ v2.heap.size := (hv2).size
                refine hC.out _ _ (fun _ => hSall _ hB) ?_
                clear hC C
                try simp only [Act.put, List.setIfInBounds_toArray, List.set_cons_zero, List.set_cons_succ]
                generalize World.alloc v2 (.cells #[.string ⟨#[]⟩, .int .i64 0, .int .i64 0, .int .i64 0] 58) = v3 at *
                generalize v2.heap.size = g at *
                have k0 := cell_of_row v3 g 0 _ _ _ hA
                have k1 := cell_of_row v3 g 1 _ _ _ hA
                have k2 := cell_of_row v3 g 2 _ _ _ hA
                have k3 := cell_of_row v3 g 3 _ _ _ hA
                have kf := fun o => frozen_of_row v3 g o _ _ hA
                have hrz := put4_row hA (.string ⟨ls.toArray⟩) (.int .i64 (u0.toNat : Int)) (.int .i64 (z2 : Int)) (.int .i64 (z3 : Int))
                have hbz := put4_below hB hg (.string ⟨ls.toArray⟩) (.int .i64 (u0.toNat : Int)) (.int .i64 (z2 : Int)) (.int .i64 (z3 : Int))
                unfold put4 at hrz hbz
                refine Ord.Till.step 27 (by kernel_rfl) rfl (fun C hC => ?_)
                go_simp
                refine hC.out _ _ (fun _ => hSall _ hbz) ?_
                clear hC C
                try simp only [Act.put, List.setIfInBounds_toArray, List.set_cons_zero, List.set_cons_succ]
                refine Ord.Till.done (by kernel_rfl) ?_ _
                clear k0 k1 k2 k3 kf
                go_wp2_with fail
                go_meet
                exact ⟨g, rfl, hrz, hg, hbz⟩
              · go_simp
                have hA := heap_alloc_new v1 (.cells #[.string ⟨#[]⟩, .int .i64 0, .int .i64 0, .int .i64 0] 58)
                have hB : Below wr.heap.size wr (World.alloc v1 (.cells #[.string ⟨#[]⟩, .int .i64 0, .int .i64 0, .int .i64 0] 58)) := (hv1).alloc (hv1).size _
                have hg : wr.heap.size ≤ v1.heap.size := (hv1).size
                refine hC.out _ _ (fun _ => hSall _ hB) ?_
                clear hC C
                try simp only [Act.put, List.setIfInBounds_toArray, List.set_cons_zero, List.set_cons_succ]
                generalize World.alloc v1 (.cells #[.string ⟨#[]⟩, .int .i64 0, .int .i64 0, .int .i64 0] 58) = v2 at *
                generalize v1.heap.size = g at *
                refine Ord.Till.step 24 (by kernel_rfl) rfl (fun C hC => ?_)
                go_simp
                go_at_call 63
                refine (HN3.out _ hB).mono ?_
                rintro e v3 ⟨rfl, mv3, hwv3⟩
                have hv3 : Below wr.heap.size wr v3 := by rw [hwv3]; exact hB.trans (below_drewN _ _)
                have rv3 : v3.heap[g]? = _ := (by rw [hwv3]; exact hA : v3.heap[g]? = some (.cells #[.string ⟨#[]⟩, .int .i64 0, .int .i64 0, .int .i64 0] 58 (0, 0)))
                clear hwv3
                refine hC.out _ _ (fun _ => hSall _ hv3) ?_
                clear hC C
                try simp only [Act.put, List.setIfInBounds_toArray, List.set_cons_zero, List.set_cons_succ]
                refine Ord.Till.take 25 (oi := _) (x := ?_) rfl (by kernel_rfl) (by kernel_rfl) (by kernel_rfl) (by kernel_rfl) (fun _ _ _ h => h) (by rfl) ?_ (hSall _ hv3) ?_
                rotate_left 1
                · intro v hv; obtain ⟨z1, z2', z3'⟩ := hv; go_simp; first | done | with_reducible rfl
                try simp only [Act.put, List.setIfInBounds_toArray, List.set_cons_zero, List.set_cons_succ]
                have k0 := cell_of_row v3 g 0 _ _ _ rv3
                have k1 := cell_of_row v3 g 1 _ _ _ rv3
                have k2 := cell_of_row v3 g 2 _ _ _ rv3
                have k3 := cell_of_row v3 g 3 _ _ _ rv3
                have kf := fun o => frozen_of_row v3 g o _ _ rv3
                have hrz := put4_row rv3 (.string ⟨ls.toArray⟩) (.int .i64 (u0.toNat : Int)) (.int .i64 (z2 : Int)) (.int .i64 (z3 : Int))
                have hbz := put4_below hv3 hg (.string ⟨ls.toArray⟩) (.int .i64 (u0.toNat : Int)) (.int .i64 (z2 : Int)) (.int .i64 (z3 : Int))
                unfold put4 at hrz hbz
                refine Ord.Till.step 27 (by kernel_rfl) rfl (fun C hC => ?_)
                go_simp
                refine hC.out _ _ (fun _ => hSall _ hbz) ?_
                clear hC C
                try simp only [Act.put, List.setIfInBounds_toArray, List.set_cons_zero, List.set_cons_succ]
                refine Ord.Till.done (by kernel_rfl) ?_ _
                clear k0 k1 k2 k3 kf
                go_wp2_with fail
                go_meet
                exact ⟨g, rfl, hrz, hg, hbz⟩
            · go_simp
              have hA : (World.alloc wr (.cells #[.string ⟨#[]⟩, .int .i64 0, .int .i64 0, .int .i64 0] 58)).drew.heap[wr.heap.size]? = some (.cells #[.string ⟨#[]⟩, .int .i64 0, .int .i64 0, .int .i64 0] 58 (0, 0)) := heap_alloc_new wr _
              have hB : Below wr.heap.size wr (World.alloc wr (.cells #[.string ⟨#[]⟩, .int .i64 0, .int .i64 0, .int .i64 0] 58)).drew := ((Below.refl wr.heap.size wr).alloc (Nat.le_refl _) _).drew
              have hg : wr.heap.size ≤ wr.heap.size := Nat.le_refl _
              refine hC.out _ _ (fun _ => hSall _ hB) ?_
              clear hC C
              try simp only [Act.put, List.setIfInBounds_toArray, List.set_cons_zero, List.set_cons_succ]
              generalize (World.alloc wr (.cells #[.string ⟨#[]⟩, .int .i64 0, .int .i64 0, .int .i64 0] 58)).drew = v1 at *
              refine Ord.Till.step 17 (by kernel_rfl) rfl (fun C hC => ?_)
              go_simp
              go_at_call 63
              refine (HN2.out _ hB).mono ?_
              rintro e v2 ⟨rfl, mv2, hwv2⟩
              have hv2 : Below wr.heap.size wr v2 := by rw [hwv2]; exact hB.trans (below_drewN _ _)
              have rv2 : v2.heap[wr.heap.size]? = _ := (by rw [hwv2]; exact hA : v2.heap[wr.heap.size]? = some (.cells #[.string ⟨#[]⟩, .int .i64 0, .int .i64 0, .int .i64 0] 58 (0, 0)))
              clear hwv2
              refine hC.out _ _ (fun _ => hSall _ hv2) ?_
              clear hC C
              try simp only [Act.put, List.setIfInBounds_toArray, List.set_cons_zero, List.set_cons_succ]
              refine Ord.Till.step 24 (by kernel_rfl) rfl (fun C hC => ?_)
              go_simp
              go_at_call 63
              refine (HN3.out _ hv2).mono ?_
              rintro e v3 ⟨rfl, mv3, hwv3⟩
              have hv3 : Below wr.heap.size wr v3 := by rw [hwv3]; exact hv2.trans (below_drewN _ _)
              have rv3 : v3.heap[wr.heap.size]? = _ := (by rw [hwv3]; exact rv2 : v3.heap[wr.heap.size]? = some (.cells #[.string ⟨#[]⟩, .int .i64 0, .int .i64 0, .int .i64 0] 58 (0, 0)))
              clear hwv3
              refine hC.out _ _ (fun _ => hSall _ hv3) ?_
              clear hC C
              try simp only [Act.put, List.setIfInBounds_toArray, List.set_cons_zero, List.set_cons_succ]
              refine Ord.Till.take 25 (oi := _) (x := ?_) rfl (by kernel_rfl) (by kernel_rfl) (by kernel_rfl) (by kernel_rfl) (fun _ _ _ h => h) (by rfl) ?_ (hSall _ hv3) ?_
              rotate_left 1
              · intro v hv; obtain ⟨z1, z2', z3'⟩ := hv; go_simp; first | done | with_reducible rfl
              try simp only [Act.put, List.setIfInBounds_toArray, List.set_cons_zero, List.set_cons_succ]
              have k0 := cell_of_row v3 wr.heap.size 0 _ _ _ rv3
              have k1 := cell_of_row v3 wr.heap.size 1 _ _ _ rv3
              have k2 := cell_of_row v3 wr.heap.size 2 _ _ _ rv3
              have k3 := cell_of_row v3 wr.heap.size 3 _ _ _ rv3
              have kf := fun o => frozen_of_row v3 wr.heap.size o _ _ rv3
              have hrz := put4_row rv3 (.string ⟨ls.toArray⟩) (.int .i64 (u0.toNat : Int)) (.int .i64 (z2 : Int)) (.int .i64 (z3 : Int))
              have hbz := put4_below hv3 hg (.string ⟨ls.toArray⟩) (.int .i64 (u0.toNat : Int)) (.int .i64 (z2 : Int)) (.int .i64 (z3 : Int))
              unfold put4 at hrz hbz
              refine Ord.Till.step 27 (by kernel_rfl) rfl (fun C hC => ?_)
              go_simp
              refine hC.out _ _ (fun _ => hSall _ hbz) ?_
              clear hC C
              try simp only [Act.put, List.setIfInBounds_toArray, List.set_cons_zero, List.set_cons_succ]
              refine Ord.Till.done (by kernel_rfl) ?_ _
              clear k0 k1 k2 k3 kf
              go_wp2_with fail
              go_meet
              exact ⟨wr.heap.size, rfl, hrz, hg, hbz⟩
          case rest =>
            obtain ⟨g, rfl, hrg, hg, hbc⟩ := hcut
            have hP2 := HP.out.on hbc
            have e0 := cell_of_row _ g 0 _ _ _ hrg
            have e1 := cell_of_row _ g 1 _ _ _ hrg
            have e2 := cell_of_row _ g 2 _ _ _ hrg
            have e3 := cell_of_row _ g 3 _ _ _ hrg
            have hgc := (Array.getElem?_eq_some_iff.1 hrg).1
            have HSy := hid (rsym_any ⟨⟨ls.toArray⟩, (u0.toNat : Int), (z2 : Int), (z3 : Int)⟩ wc)
            simp only [Sy.val] at HSy
            have hl10 : a + 10 + u9.toNat ≤ n := by omega
            rw [Hx.out, Hk9.out] at HD2
            clear hSall hs1 hs2 hs3 ht1 ht2 ht3 HN2 HN3 hbX0 wa1 wa5 wa9 wa10 wu0 hbc hc0 hc9 i0 i9
            go_wp2_with fail
            refine HSy.out.mono ?_
            rintro e w5 ⟨rfl, hb5⟩
            have hP3 := hP2.on hb5
            have hrg5 := (hb5.block g hgc).trans hrg
            clear HSy e0 e1 e2 e3 hrg hP2 hb5
            have q0 := cell_of_row w5 w.heap.size 0 _ _ _ hP3.res
            have q1 := cell_of_row w5 w.heap.size 1 _ _ _ hP3.res
            have qf := fun o => frozen_of_row w5 w.heap.size o _ _ hP3.res
            have hl3 := load2 _ _ _ (put2_row hP3.res (.slice none 0 0) (.slice none 0 0)) rfl
            have hb3 := put2_below hP3.below (Nat.le_refl _) (.slice none 0 0) (.slice none 0 0)
            unfold put2 at hl3 hb3
            have m0 := cell_of_row w5 M 0 _ _ _ hP3.row
            have e0 := cell_of_row _ g 0 _ _ _ hrg5
            have e1 := cell_of_row _ g 1 _ _ _ hrg5
            have e2 := cell_of_row _ g 2 _ _ _ hrg5
            have e3 := cell_of_row _ g 3 _ _ _ hrg5
            cases hsy : symOk ⟨⟨ls.toArray⟩, (u0.toNat : Int), (z2 : Int), (z3 : Int)⟩
            · have hd : Hid (decO l = (12, [], [])) := hid (by rw [HD2.out, if_pos (.inr hsy)])
              go_wp2_with fail
              exact bodyPost_ret (v := .tuple #[.agg #[.slice none 0 0, .slice none 0 0], .int .i64 12]) (by simp [results, Tryz.results33, asAddr, hl3]) rfl (Decodes.bad hd.out hb3)
            · obtain ⟨A', c1', eA, hrdA, hkc1, _⟩ := hP3.own.reads
              injection eA with eA1 _ eA3
              subst eA1 eA3
              have HH := hid (rhas_any w5.heap.size A k c1 acc ⟨ls.toArray⟩ w5 (rds_of hrdA hP3.names) (by omega))
              cases hhs : has acc ⟨ls.toArray⟩
              · rw [hhs] at HH
                have HD3 : Hid (decO l = decL (q - (k + 1)) (acc ++ [⟨⟨ls.toArray⟩, (u0.toNat : Int), (z2 : Int), (z3 : Int)⟩]) (r.drop (10 + u9.toNat))) := hid (by rw [HD2.out, if_neg (by rw [hhs, hsy]; simp)])
                have Hown := hid hP3.own
                have hMw := (Array.getElem?_eq_some_iff.1 hP3.row).1
                have hrowM := hP3.row
                have HP3 := hid hP3
                clear hP3 hl3 hb3 hrdA HD2
                go_wp2_with (first
                  | (go_at_call 65; go_must (refine HH.out.mono ?_; rintro e w6 ⟨rfl, rfl⟩))
                  | (at_builtin; go_must (refine Cel.wpList_push kS_kind _ (M + 1) (.slice A k c1) k (scells acc) Hown.out hMw 1 1 #[.string ⟨ls.toArray⟩, .int .i64 (u0.toNat : Int), .int .i64 (z2 : Int), .int .i64 (z3 : Int)] (0, 0) rfl (by simp [Value.oneCell']) (by omega) (by omega) rfl (.tmp 101) (.tmp 103) rfl rfl rfl ?_); intro v7 w7 hown7 hb7 ho7 hf7; obtain ⟨A7, c7, rfl, _⟩ := hown7.reads; have hM7 := (hb7.block M (Nat.lt_succ_self M)).trans hrowM; have mm0 := cell_of_row _ M 0 _ _ _ hM7; have mmf := fun o => frozen_of_row _ M o _ _ hM7))
                have hP := HP3.out
                have hlt := hP.lt
                have hnew : RD w (w7.setCell ⟨M, 0, none⟩ (.slice A7 (k + 1) c7)) M q n l (k + 1) (a + 10 + u9.toNat) A7 c7 (acc ++ [⟨⟨ls.toArray⟩, (u0.toNat : Int), (z2 : Int), (z3 : Int)⟩]) := by
                  refine ⟨?_, heap_setCell_same w7 M 0 _ _ _ hM7, ?_, by rw [List.length_append, hP.len]; rfl, ?_, hP.lt, ?_, ?_, by omega⟩
                  · exact (Below.heap_setCell w7 ⟨M, 0, none⟩ _ w.heap.size (by show w.heap.size ≠ M; omega)).trans ((hb7.block w.heap.size (by omega)).trans hP.res)
                  · have e4 : scells acc ++ [.string ⟨ls.toArray⟩, .int .i64 (u0.toNat : Int), .int .i64 (z2 : Int), .int .i64 (z3 : Int)] = scells (acc ++ [⟨⟨ls.toArray⟩, (u0.toNat : Int), (z2 : Int), (z3 : Int)⟩]) := by rw [scells_append]; rfl
                    rw [← e4]
                    exact hown7.setc hM7 (by decide) 0 _
                  · intro y hy
                    rcases List.mem_append.1 hy with hy | hy
                    · exact hP.names y hy
                    · rw [List.mem_singleton] at hy
                      subst hy
                      show (str ls).size ≤ _
                      rw [str_size, Hls.out, List.length_take]
                      unfold maxLen
                      omega
                  · exact (hP.below.trans (hb7.mono (by omega))).setCell (p := ⟨M, 0, none⟩) (by show w.heap.size ≤ M; omega) _
                  · rw [HD3.out, hrr, List.drop_drop, Nat.add_assoc]
                have HN := hid hnew
                clear hnew hP HP3 hlt
                go_roundw
                · exact ⟨k + 1, a + 10 + u9.toNat, A7, c7, _, by go_num, by go_num, HN.out⟩
                · simp [intOf]; omega
              · rw [hhs] at HH
                have hd : Hid (decO l = (12, [], [])) := hid (by rw [HD2.out, if_pos (.inl hhs)])
                clear hrdA
                go_wp2_with (first
                  | (go_at_call 65; go_must (refine HH.out.mono ?_; rintro e w6 ⟨rfl, rfl⟩)))
                exact bodyPost_ret (v := .tuple #[.agg #[.slice none 0 0, .slice none 0 0], .int .i64 12]) (by simp [results, Tryz.results33, asAddr, hl3]) rfl (Decodes.bad hd.out hb3)
    · obtain rfl : k = q := by omega
      have hdd : Hid (decO l = (0, acc, l.drop a)) := hid (by rw [hP1.go, Nat.sub_self]; rfl)
      have hMw : M + 1 ≤ wr.heap.size := (Array.getElem?_eq_some_iff.1 hP1.row).1
      have hlt := hP1.lt
      have hNw : w.heap.size < wr.heap.size := by omega
      have hbe := (Below.refl wr.heap.size wr).alloc (Nat.le_refl _) (.cells #[] 5)
      have hP2 := hP1.on hbe
      have hKw : K ≤ wr.heap.size := Nat.le_trans hK hP1.below.size
      obtain ⟨p, hrun, hrd⟩ := slice_from (wr.alloc (.cells #[] 5)) K b o n c a l ((hr.below (hP1.below.mono hK)).below (hbe.mono hKw)) (by omega) hnc
      have hrun' := hrun
      have hlit := Byt.Own.lit0 wr (M + 1) hMw
      have hsz2 : M + 1 ≤ (wr.alloc (.cells #[] 5)).heap.size := by simp; omega
      have m1 := cell_of_row wr M 1 _ _ _ hP1.row
      have HP2 := hid hP2
      have Hrd := hid hrd
      have hai : (a : Int) ≤ (n : Int) := by omega
      clear hbe hP1 hP2 hrd
      go_wp2_with (at_builtin; go_must (refine wpList_app2 (wr.alloc (.cells #[] 5)) (M + 1) _ 0 [] hlit hsz2 (some ⟨b, p, none⟩) (n - a) (c - a) K (l.drop a) Hrd.out (by omega) rfl (.tmp 107) (.tmp 110) rfl rfl rfl ?_); intro v7 w7 ho7 hb7 ot7; obtain ⟨A7, c7, rfl, _⟩ := ho7.reads; have hM7 := (hb7.block M (Nat.lt_succ_self M)).trans HP2.out.row; have hN7 := (hb7.block w.heap.size (by omega)).trans HP2.out.res; have mm0 := cell_of_row w7 M 0 _ _ _ hM7; have mm1 := cell_of_row w7 M 1 _ _ _ hM7; have mmf := fun o => frozen_of_row w7 M o _ _ hM7; have nn0 := cell_of_row w7 w.heap.size 0 _ _ _ hN7; have nn1 := cell_of_row w7 w.heap.size 1 _ _ _ hN7; have nnf := fun o => frozen_of_row w7 w.heap.size o _ _ hN7; have hne : ¬ w.heap.size = M := (by omega); have hne' : ¬ M = w.heap.size := (by omega))
      have hP := HP2.out
      rw [Nat.zero_add, List.nil_append] at ho7
      have hM8 := heap_setCell_same w7 M 1 _ _ (.slice A7 (n - a) c7) hM7
      have hN8 := (Below.heap_setCell w7 ⟨M, 1, none⟩ (.slice A7 (n - a) c7) w.heap.size (by show w.heap.size ≠ M; omega)).trans hN7
      have hN9 := heap_setCell_same _ w.heap.size 0 _ _ (.slice A k c1) hN8
      have hl9 := load2 _ _ _ (put2_row hN8 (.slice A k c1) (.slice A7 (n - a) c7)) rfl
      have hb7' : Below w.heap.size w w7 := hP.below.trans (hb7.mono (by omega))
      have hb9 := put2_below (hb7'.setCell (p := ⟨M, 1, none⟩) (by show w.heap.size ≤ M; omega) (.slice A7 (n - a) c7)) (Nat.le_refl _) (.slice A k c1) (.slice A7 (n - a) c7)
      have hc9 := ((((hP.own.oth ot7 (by decide)).setc hM7 (by decide) 1 (.slice A7 (n - a) c7)).setc hN8 (by decide) 0 (.slice A k c1)).setc hN9 (by decide) 1 (.slice A7 (n - a) c7)).more (K' := w.heap.size) (by omega)
      have ho9 := (((ho7.oth (Sls.Oth.put hM7 (fun k hk => Below.heap_setCell w7 ⟨M, 1, none⟩ (.slice A7 (n - a) c7) k hk)) (by decide)).oth (Sls.Oth.put hN8 (fun j hj => Below.heap_setCell _ ⟨w.heap.size, 0, none⟩ (.slice A k c1) j hj)) (by decide)).oth (Sls.Oth.put hN9 (fun k hk => Below.heap_setCell _ ⟨w.heap.size, 1, none⟩ (.slice A7 (n - a) c7) k hk)) (by decide)).more (K' := w.heap.size) (by omega)
      have hd := hdd.out
      unfold put2 at hl9 hb9
      exact bodyPost_ret (v := .tuple #[.agg #[.slice A k c1, .slice A7 (n - a) c7], .int .i64 0]) (by simp [results, Tryz.results33, asAddr, hl9]) rfl ⟨A, k, c1, A7, n - a, c7, by rw [hd], by rw [hd]; exact hc9, by rw [hd]; exact ho9, hb9⟩
end Go.Proofs.YtpedngfmjhpojaaGreatDoor.Obj

namespace Go.Proofs.YtpedngfmjhpojaaGreatDoor.Obj
open Go.RowKit Go.Proofs Go.Proofs.YtpedngfmjhpojaaGreatDoor.Byt
open Go.Proofs.YtpedngfmjhpojaaGreatDoor.Sls (Oth)

theorem decode_any (K : Nat) (A : Option Addr) (n c : Nat) (l : List UInt8) (w : World) (hr : Byt.Rd w K A n l) (hK : K ≤ w.heap.size) (hnc : n ≤ c) (hc : c ≤ maxLen) (hn : n ≤ 140737488355328) :
    Calls Tryz.prog 30 #[.slice A n c] w (Decodes l w) := by
  by_cases h4 : n < 4
  · exact decode_2 w A n c l hr.1 h4
  · obtain ⟨b, o, rfl, _⟩ := hr.2 0 (by have := hr.1; omega)
    exact decode_go w K b o n c l hr hK hnc hc (by omega) hn
theorem rdecode_any (K : Nat) (A : Option Addr) (n c : Nat) (l : List UInt8) (w : World) (hr : Byt.Rd w K A n l) (hK : K ≤ w.heap.size) (hnc : n ≤ c) (hn : n ≤ 1000000) :
    Calls Tryz.prog 33 #[.slice A n c] w (Decodes l w) := by
  by_cases h4 : n < 4
  · exact rdecode_2 w A n c l hr.1 h4
  · obtain ⟨b, o, rfl, _⟩ := hr.2 0 (by have := hr.1; omega)
    by_cases hm : l.take 4 = magic
    · by_cases h8 : n < 8
      · exact rdecode_early w K b o n c l hr hK hnc (by omega) (.inr (.inl ⟨hm, h8⟩))
      · by_cases hb : 65536 < n4 (l.drop 4)
        · exact rdecode_early w K b o n c l hr hK hnc (by omega) (.inr (.inr ⟨hm, by omega, hb⟩))
        · exact rdecode_go w K b o n c l hr hK hnc hn (by omega) hm hb
    · exact rdecode_early w K b o n c l hr hK hnc (by omega) (.inl hm)

theorem validO_names {xs : List Sy} (h : validO xs = true) : xs.length ≤ 65536 ∧ ∀ x ∈ xs, x.name.size ≤ maxLen := by
  unfold validO at h
  rw [Bool.and_eq_true, decide_eq_true_eq] at h
  refine ⟨h.1, fun x hx => ?_⟩
  have h1 := goodL_all h.2 x hx
  unfold symOk at h1
  rw [Bool.and_eq_true] at h1
  have := (nameOk_range h1.1).2
  unfold maxLen
  omega
/-- What a decoding is known to be. -/
theorem decO_known (l : List UInt8) : (decO l).2.1.length ≤ 65536 ∧ (∀ x ∈ (decO l).2.1, x.name.size ≤ maxLen) ∧ (decO l).2.2.length ≤ l.length := by
  by_cases h : (decO l).1 = 0
  · have h1 := enc_decO l (decO l).2.1 (decO l).2.2 (by rw [← h])
    obtain ⟨h2, h3⟩ := validO_names h1.1
    refine ⟨h2, h3, ?_⟩
    have h4 := congrArg List.length h1.2
    unfold encO at h4
    simp only [List.length_append] at h4
    omega
  · rw [decO_bad l h]
    exact ⟨by simp, by simp, by simp⟩
/-- The result of Decode, as it is read. -/
theorem Decodes.reads {l : List UInt8} {w w' : World} {e : Ending} (h : Decodes l w e w') :
    ∃ A n c B m d, e = .returned (.tuple #[.agg #[.slice A n c, .slice B m d], .int .i64 (decO l).1]) ∧ RdS w' w'.heap.size A n (decO l).2.1 ∧ Byt.Rd w' w'.heap.size B m (decO l).2.2 ∧ n ≤ c ∧ n ≤ 65536 ∧ m ≤ l.length ∧ Byt.Own w' w.heap.size (.slice B m d) m (decO l).2.2 ∧ Cel.Own 58 4 w' w.heap.size (.slice A n c) n (scells (decO l).2.1) ∧ Below w.heap.size w w' := by
  obtain ⟨A, n, c, B, m, d, he, hs, ho, hb⟩ := h
  obtain ⟨k1, k2, k3⟩ := decO_known l
  obtain ⟨A', c', e1, hrs, hnc, _⟩ := hs.reads
  obtain ⟨B', d', e2, hro, _, _⟩ := ho.reads
  injection e1 with e11 _ e13
  injection e2 with e21 _ e23
  subst e11 e13 e21 e23
  have hn := (rds_of hrs k2).1
  have hm := hro.1
  exact ⟨A, n, c, B, m, d, he, rds_of hrs k2, hro, hnc, by omega, by omega, ho, hs, hb⟩

/-- Encode of a valid object. -/
theorem Encodes.ok {xs : List Sy} {body : List UInt8} {w w' : World} {e : Ending} (h : Encodes xs body w e w') (hv : validO xs = true) :
    ∃ A n c, e = .returned (.tuple #[.slice A n c, .int .i64 0]) ∧ n = (encO xs body).length ∧ Byt.Own w' w.heap.size (.slice A n c) n (encO xs body) ∧ Byt.Rd w' w'.heap.size A n (encO xs body) ∧ n ≤ c ∧ c ≤ maxLen ∧ Below w.heap.size w w' := by
  obtain ⟨hb, ⟨_, v, n, he, ho⟩ | ⟨h0, _⟩⟩ := h
  · obtain ⟨A, c, rfl, hr, hc, hm⟩ := ho.reads
    exact ⟨A, n, c, he, hr.1.symm, ho, hr, hc, hm, hb⟩
  · rw [hv] at h0
    cases h0
/-- Encode of another. -/
theorem Encodes.no {xs : List Sy} {body : List UInt8} {w w' : World} {e : Ending} (h : Encodes xs body w e w') (hv : validO xs = false) :
    e = .returned (.tuple #[.slice none 0 0, .int .i64 12]) ∧ Below w.heap.size w w' := by
  obtain ⟨hb, ⟨h0, _⟩ | ⟨_, he⟩⟩ := h
  · rw [hv] at h0
    cases h0
  · exact ⟨he, hb⟩
/-- A row of cells is read. -/
theorem rd_row {w : World} {b K n sz : Nat} {cs : List Value} {t : TypeId} {m : Nat × Nat} (h : w.heap[b]? = some (.cells cs.toArray t m)) (hK : b < K) (hl : cs.length = n * sz) : Cel.Rd w K (some ⟨b, 0, none⟩) n sz cs :=
  ⟨hl, fun k hk => ⟨b, 0, rfl, hK, by rw [cell_of_row w b (0 + k) _ _ _ h, Nat.zero_add]; simp [List.getElem?_eq_getElem hk]⟩⟩
end Go.Proofs.YtpedngfmjhpojaaGreatDoor.Obj
