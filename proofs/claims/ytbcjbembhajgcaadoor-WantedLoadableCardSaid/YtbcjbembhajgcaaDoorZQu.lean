/-
  wanted: Loadable, of the program and of the reference.
  WantedLoadable, walked.
-/
import Derived.Test.YtbcjbembhajgcaaDoorZQi
import Derived.Test.YtbcjbembhajgcaaDoorZVt
import Derived.Test.YtbcjbembhajgcaaDoorZVe
import Derived.Test.YtbcjbembhajgcaaDoorZVg
namespace Go.Proofs.YtbcjbembhajgcaaDoor.Wnt
open Go.RowKit Go.Proofs Go.Proofs.YtbcjbembhajgcaaDoor.Byt
open Go.Proofs.YtbcjbembhajgcaaDoor.Obj (Sy RdS SCells)
open Go.Proofs.YtbcjbembhajgcaaDoor.Bnd
open Go.Proofs.YtbcjbembhajgcaaDoor.Tab

/-- A name is wanted. -/
def wt (os : List (List Sy)) (x : ByteArray) : Bool := wantd (ofL (uses os x))
/-- The first definition that is wanted. -/
def lodL (os : List (List Sy)) (ds : List ByteArray) : ByteArray × Bool := match ds.find? (wt os) with
  | some x => (x, true)
  | none => (⟨#[]⟩, false)
theorem lod_none {os : List (List Sy)} {ds : List ByteArray} (h : ∀ x ∈ ds, wt os x = false) : lodL os ds = (⟨#[]⟩, false) := by
  unfold lodL
  rw [List.find?_eq_none.2 fun x hx => by rw [h x hx]; decide]
theorem lod_some {os : List (List Sy)} {ds : List ByteArray} {k : Nat} (hk : k < ds.length) (h : ∀ x ∈ ds.take k, wt os x = false) (hx : wt os ds[k] = true) : lodL os ds = (ds[k], true) := by
  have e : ds.find? (wt os) = some ds[k] := by
    conv => lhs; rw [← List.take_append_drop k ds, List.drop_eq_getElem_cons hk]
    rw [List.find?_append, List.find?_eq_none.2 fun x hx => by rw [h x hx]; decide, List.find?_cons_of_pos hx]
    rfl
  unfold lodL
  rw [e]
theorem lod_any (os : List (List Sy)) (ds : List ByteArray) : (lodL os ds).2 = ds.any (wt os) := by
  unfold lodL
  rcases h : ds.find? (wt os) with _ | x
  · rw [List.find?_eq_none] at h
    symm
    rw [List.any_eq_false]
    exact h
  · symm
    exact List.any_eq_true.2 ⟨x, List.mem_of_find?_eq_some h, List.find?_some h⟩
theorem has_wnt (os : List (List Sy)) (x : ByteArray) : hasN (wntL os) x = wt os x := by
  by_cases h : x ∈ nms os
  · cases hw : wt os x
    · cases hh : hasN (wntL os) x
      · rfl
      · have := hasN_iff.1 hh
        unfold wntL at this
        rw [List.mem_filter] at this
        unfold wt at hw
        rw [hw] at this
        exact absurd this.2 (by decide)
    · exact hasN_iff.2 (List.mem_filter.2 ⟨h, hw⟩)
  · have e : uses os x = [] := by
      cases hu : uses os x with
      | nil => rfl
      | cons y r => exact absurd (uses_iff.1 (by rw [hu]; exact List.cons_ne_nil _ _)) h
    have hw : wt os x = false := by
      unfold wt
      rw [e]
      rfl
    rw [hw]
    cases hh : hasN (wntL os) x
    · rfl
    · exact absurd (List.mem_filter.1 (hasN_iff.1 hh)).1 h
/-- What Loadable gives. -/
def LodP (os : List (List Sy)) (ds : List ByteArray) (w : World) (e : Ending) (w' : World) : Prop :=
  e = .returned (.tuple #[.string (lodL os ds).1, .bool (lodL os ds).2]) ∧ Below w.heap.size w w'

set_option linter.unusedSimpArgs false in
set_option maxRecDepth 100000 in
set_option maxHeartbeats 4000000 in
theorem pload_any {w : World} {K T B : Nat} {mo : Option Nat} {os : List (List Sy)} {A : Option Addr} {n c : Nat} {ds : List ByteArray} (h : Tb w K T mo os) (hok : OK14 os) (hR : Sls.Rd w B A n ds) (hB : B ≤ w.heap.size) (hn : n ≤ 1000) :
    Calls Tryd.prog 7 #[.pointer (some ⟨T, 0, none⟩), .slice A n c] w (LodP os ds w) := by
  have HR := hid (hR.more hB)
  have Hl : ds.length = n := hR.1
  have HS := hid fun (V : World) (hV : Below w.heap.size w V) (x : ByteArray) => tstate_any (h.below hV) hok x
  clear h hR
  go_enter Tryd.func7, Tryd.ntmps7
  go_wp2_with fail
  go_loopw [11] (fun iv W => ∃ k : Nat, iv = .int .i64 (k : Int) ∧ k ≤ n ∧ Hid (∀ x ∈ ds.take k, wt os x = false) ∧ Below w.heap.size w W) (fun iv _ => n - (intOf iv).toNat)
  case atStart => exact ⟨0, rfl, Nat.zero_le _, hid (by simp), Below.refl _ _⟩
  case round =>
    obtain ⟨k, rfl, hk, hG, hb⟩ := hrel
    by_cases hlt : k < n
    · have hkl : k < ds.length := by omega
      have hki : (k : Int) < (n : Int) := by omega
      obtain ⟨b, o, rfl, _, c0⟩ := (HR.out.below hb).2 k hkl
      have HC := hid fun (V : World) (hV : Below w.heap.size w V) => (by obtain ⟨b', o', e, _, q⟩ := (HR.out.below hV).2 k hkl; injection e with e; injection e with e1 e2; subst e1 e2; exact q : V.cell? ⟨b, o + k, none⟩ = some (.string ds[k]))
      have HL := hid (lod_some hkl hG.out)
      have HN : Hid (wt os ds[k] = false → ∀ x ∈ ds.take (k + 1), wt os x = false) := hid fun e x hx => by
        rw [List.take_succ_eq_append_getElem hkl, List.mem_append, List.mem_singleton] at hx
        rcases hx with hx | rfl
        · exact hG.out x hx
        · exact e
      have HS1 := hid (HS.out wr hb ds[k])
      have HW : Hid (wt os ds[k] = wantd (ofL (uses os ds[k]))) := hid rfl
      clear hG
      generalize ds[k] = x at *
      generalize ofL (uses os x) = s at *
      go_wp2_with fail
      refine HS1.out.mono ?_
      rintro e w5 ⟨v, rfl, ho, hb5⟩
      obtain ⟨A5, c5, rfl, _⟩ := Cel.Own.reads ho
      generalize s.strongs.length = n5 at *
      obtain ⟨bi, si, al, un, df, sr, wr', st⟩ := s
      have hb6 := hid (hb.trans ((hb5.alloc hb5.size (.cells #[.int .i64 bi, .int .i64 si, .int .i64 al, .int .i64 un, .bool df, .bool sr, .bool wr', .slice A5 n5 c5] 57)).mono hb.size))
      have hn6 := heap_alloc_new w5 (.cells #[.int .i64 bi, .int .i64 si, .int .i64 al, .int .i64 un, .bool df, .bool sr, .bool wr', .slice A5 n5 c5] 57)
      have q4 := cell_of_row _ w5.heap.size 4 _ _ _ hn6
      have q5 := cell_of_row _ w5.heap.size 5 _ _ _ hn6
      have c0 := HC.out _ hb6.out
      clear ho hb5 HS1 HC hb hn6
      simp only [St.val, row]
      cases sr
      · have HN1 := hid (HN.out (by rw [HW.out]; rfl))
        go_wp2_with fail
        go_roundw
        · exact ⟨k + 1, by go_num, by omega, HN1, hb6.out⟩
        · simp [intOf]; omega
      · cases df
        · have HL1 := hid (HL.out (by rw [HW.out]; rfl))
          go_wp2_with fail
          go_ret2
          unfold LodP
          rw [HL1.out]
          exact ⟨rfl, hb6.out⟩
        · have HN1 := hid (HN.out (by rw [HW.out]; rfl))
          go_wp2_with fail
          go_roundw
          · exact ⟨k + 1, by go_num, by omega, HN1, hb6.out⟩
          · simp [intOf]; omega
    · obtain rfl : k = n := by omega
      have hki : ¬ (k : Int) < (k : Int) := by omega
      have HL := hid (lod_none (os := os) (ds := ds) (fun x hx => hG.out x (by rw [List.take_of_length_le (by omega)]; exact hx)))
      go_wp2_with fail
      go_ret2
      unfold LodP
      rw [HL.out]
      exact ⟨rfl, hb⟩
set_option linter.unusedSimpArgs false in
set_option maxRecDepth 100000 in
set_option maxHeartbeats 4000000 in
theorem rload_any {w : World} {K B : Nat} {os : List (List Sy)} {O A : Option Addr} {m d n c : Nat} {ds : List ByteArray} (h : RdO w K O m os) (hK : K ≤ w.heap.size) (hm : m ≤ 12) (hs : ∀ o ∈ os, o.length ≤ 20) (hR : Sls.Rd w B A n ds) (hB : B ≤ w.heap.size) (hn : n ≤ 1000) :
    Calls Tryd.prog 8 #[.slice O m d, .slice A n c] w (LodP os ds w) := by
  have HR := hid (hR.more hB)
  have Hl : ds.length = n := hR.1
  have HS := hid fun (V : World) (hV : Below w.heap.size w V) (x : ByteArray) => rstate_any K O m d os x V (h.below (hV.mono hK)) (Nat.le_trans hK hV.size) hm hs
  clear h hR
  go_enter Tryd.func8, Tryd.ntmps8
  go_wp2_with fail
  go_loopw [6] (fun iv W => ∃ k : Nat, iv = .int .i64 (k : Int) ∧ k ≤ n ∧ Hid (∀ x ∈ ds.take k, wt os x = false) ∧ Below w.heap.size w W) (fun iv _ => n - (intOf iv).toNat)
  case atStart => exact ⟨0, rfl, Nat.zero_le _, hid (by simp), Below.refl _ _⟩
  case round =>
    obtain ⟨k, rfl, hk, hG, hb⟩ := hrel
    by_cases hlt : k < n
    · have hkl : k < ds.length := by omega
      have hki : (k : Int) < (n : Int) := by omega
      obtain ⟨b, o, rfl, _, c0⟩ := (HR.out.below hb).2 k hkl
      have HC := hid fun (V : World) (hV : Below w.heap.size w V) => (by obtain ⟨b', o', e, _, q⟩ := (HR.out.below hV).2 k hkl; injection e with e; injection e with e1 e2; subst e1 e2; exact q : V.cell? ⟨b, o + k, none⟩ = some (.string ds[k]))
      have HL := hid (lod_some hkl hG.out)
      have HN : Hid (wt os ds[k] = false → ∀ x ∈ ds.take (k + 1), wt os x = false) := hid fun e x hx => by
        rw [List.take_succ_eq_append_getElem hkl, List.mem_append, List.mem_singleton] at hx
        rcases hx with hx | rfl
        · exact hG.out x hx
        · exact e
      have HS1 := hid (HS.out wr hb ds[k])
      have HW : Hid (wt os ds[k] = wantd (ofL (uses os ds[k]))) := hid rfl
      clear hG
      generalize ds[k] = x at *
      generalize ofL (uses os x) = s at *
      go_wp2_with fail
      refine HS1.out.mono ?_
      rintro e w5 ⟨v, rfl, ho, hb5⟩
      obtain ⟨A5, c5, rfl, _⟩ := Cel.Own.reads ho
      generalize s.strongs.length = n5 at *
      obtain ⟨bi, si, al, un, df, sr, wr', st⟩ := s
      have hb6 := hid (hb.trans ((hb5.alloc hb5.size (.cells #[.int .i64 bi, .int .i64 si, .int .i64 al, .int .i64 un, .bool df, .bool sr, .bool wr', .slice A5 n5 c5] 60)).mono hb.size))
      have hn6 := heap_alloc_new w5 (.cells #[.int .i64 bi, .int .i64 si, .int .i64 al, .int .i64 un, .bool df, .bool sr, .bool wr', .slice A5 n5 c5] 60)
      have q4 := cell_of_row _ w5.heap.size 4 _ _ _ hn6
      have q5 := cell_of_row _ w5.heap.size 5 _ _ _ hn6
      have c0 := HC.out _ hb6.out
      clear ho hb5 HS1 HC hb hn6
      simp only [St.val, row]
      cases sr
      · have HN1 := hid (HN.out (by rw [HW.out]; rfl))
        go_wp2_with fail
        go_roundw
        · exact ⟨k + 1, by go_num, by omega, HN1, hb6.out⟩
        · simp [intOf]; omega
      · cases df
        · have HL1 := hid (HL.out (by rw [HW.out]; rfl))
          go_wp2_with fail
          go_ret2
          unfold LodP
          rw [HL1.out]
          exact ⟨rfl, hb6.out⟩
        · have HN1 := hid (HN.out (by rw [HW.out]; rfl))
          go_wp2_with fail
          go_roundw
          · exact ⟨k + 1, by go_num, by omega, HN1, hb6.out⟩
          · simp [intOf]; omega
    · obtain rfl : k = n := by omega
      have hki : ¬ (k : Int) < (k : Int) := by omega
      have HL := hid (lod_none (os := os) (ds := ds) (fun x hx => hG.out x (by rw [List.take_of_length_le (by omega)]; exact hx)))
      go_wp2_with fail
      go_ret2
      unfold LodP
      rw [HL.out]
      exact ⟨rfl, hb⟩
end Go.Proofs.YtbcjbembhajgcaaDoor.Wnt

namespace Go.Proofs.YtbcjbembhajgcaaDoor.Wnt
open Go.RowKit Go.Proofs Go.Proofs.YtbcjbembhajgcaaDoor.Byt
open Go.Proofs.YtbcjbembhajgcaaDoor.Obj (Sy RdS SCells)
open Go.Proofs.YtbcjbembhajgcaaDoor.Bnd
open Go.Proofs.YtbcjbembhajgcaaDoor.Tab

/-- What the laws' loops have, before the k-th object is loaded. -/
structure Ld (w : World) (os : List (List Sy)) (T : Nat) (mo : Option Nat) (k : Nat) (W : World) : Prop where
  b : Below w.heap.size w W
  t : Tb W T T mo (os.take k)
  le : w.heap.size ≤ T
theorem Ld.on {w W W' : World} {os : List (List Sy)} {T k : Nat} {mo : Option Nat} (h : Ld w os T mo k W) (hb : Below W.heap.size W W') : Ld w os T mo k W' := ⟨h.b.trans (hb.mono h.b.size), h.t.below hb, h.le⟩
theorem Ld.start {w W : World} {os : List (List Sy)} {T : Nat} (hb : Below w.heap.size w W) (h : W.heap[T]? = some (.cells #[.int .i64 0, .map none] 30 (0, 0))) (hle : w.heap.size ≤ T) : Ld w os T none 0 W := ⟨hb, Tb.new h (Nat.le_refl _), hle⟩
/-- What a round of them gives. -/
def LdP (w : World) (os : List (List Sy)) (T : Nat) (mo : Option Nat) (k : Nat) (V : World) (e : Ending) (W : World) : Prop :=
  e = .returned (.int .i64 (k : Int)) ∧ ∃ M, Ld w os T (some M) (k + 1) W ∧ (mo = some M ∨ (mo = none ∧ V.heap.size ≤ M)) ∧ Below T V W ∧ Stay V T mo W
theorem ld_round {w V : World} {os : List (List Sy)} {T k : Nat} {mo : Option Nat} (h : Ld w os T mo k V) (hP : Prec w) (hok : OK14 os) (hk : k < os.length) {S B : Option Addr} {p c m d : Nat} (hob : Ob w w.heap.size S B p c m d os[k]) :
    Calls Tryd.prog 6 #[.pointer (some ⟨T, 0, none⟩), .agg #[.slice S p c, .slice B m d]] V (LdP w os T mo k V) := by
  have hm := List.getElem_mem hk
  have hg := Prec.pos hP
  have hTV := h.t.lt
  refine (tload_any T T mo (os.take k) S B p c m d os[k] V (Prec.low hP h.b hg) (by have := h.le; omega) h.t (reads_old (hob.below h.b).s h.le (Nat.le_of_lt hTV)) (hok.few _ hm) (fun s hs => ⟨(hok.sym _ hm s hs).1, (hok.sym _ hm s hs).2.1⟩) (hok.take k)).mono ?_
  rintro e W ⟨e1, M, h1, h2, h3, h4⟩
  refine ⟨?_, M, ⟨h.b.trans (h3.mono h.le), ?_, h.le⟩, h2, h3, h4⟩
  · rw [e1, List.length_take, Nat.min_eq_left (Nat.le_of_lt hk)]
  · rw [List.take_succ_eq_append_getElem hk]
    exact h1

set_option linter.unusedSimpArgs false in
set_option maxRecDepth 100000 in
set_option maxHeartbeats 16000000 in
theorem loadable15 (w : World) (hP : Prec w) (A : Option Addr) (n c : Nat) (os : List (List Sy)) (h : RdO w w.heap.size A n os) (D : Option Addr) (m d : Nat) (ds : List ByteArray) (hd : Sls.Rd w w.heap.size D m ds) :
    Calls Tryd.prog 3 #[.slice A n c, .slice D m d] w fun e w' => e = .returned (.bool true) ∧ Below w.heap.size w w' := by
  have Hl := hid h.1
  have Hd : ds.length = m := hd.1
  have HD := hid hd
  have HO := hid h
  have HA := hid fun (V : World) => awake15_any V
  clear hd
  go_enter Tryd.func3, Tryd.ntmps3
  go_wp2_with fail
  refine (HA.out w).mono ?_
  rintro e w1 ⟨rfl, b1⟩
  go_wp2_with fail
  refine (rright_any w.heap.size A n c os w1 (h.below b1) b1.size).mono ?_
  rintro e w2 ⟨b2', hr⟩
  have b2 := b1.trans (b2'.mono b1.size)
  clear b2' b1
  rcases hr with ⟨rfl, hR⟩ | rfl
  case inr =>
    go_wp2_with fail
    refine (HA.out w2).mono ?_
    rintro e w3 ⟨rfl, b3⟩
    go_wp2_with fail
    go_ret
    exact ⟨rfl, b2.trans (b3.mono b2.size)⟩
  case inl =>
  by_cases hm : (50 : Int) < (m : Int)
  · clear hR
    go_wp2_with fail
    refine (HA.out w2).mono ?_
    rintro e w3 ⟨rfl, b3⟩
    go_wp2_with fail
    go_ret
    exact ⟨rfl, b2.trans (b3.mono b2.size)⟩
  have HK := hid hR.ok
  have hn12 : n ≤ 12 := by have := HK.out.len; have := Hl.out; omega
  clear hR
  have hb3 := (Below.refl w2.heap.size w2).alloc (Nat.le_refl _) (.cells #[.int .i64 0, .map none] 30)
  have hn3 := heap_alloc_new w2 (.cells #[.int .i64 0, .map none] 30)
  have hL3 := Ld.start (os := os) (b2.trans (hb3.mono b2.size)) hn3 b2.size
  go_upto_region 4 with fail
  generalize w2.alloc (.cells #[.int .i64 0, .map none] 30) = w3 at *
  obtain ⟨T, hT⟩ : ∃ T, w2.heap.size = T := ⟨_, rfl⟩
  rw [hT] at hL3
  rw [hT]
  clear hb3 hn3 hT b2 HA
  go_wp2_with fail
  go_loopw [6] (fun iv W => ∃ (k : Nat) (mo : Option Nat), iv = .int .i64 (k : Int) ∧ k ≤ n ∧ Ld w os T mo k W) (fun iv _ => n - (intOf iv).toNat)
  case atStart => exact ⟨0, none, rfl, by omega, hL3⟩
  case round =>
    obtain ⟨k, mo, rfl, hk, hL⟩ := hrel
    clear hL3
    by_cases hlt : k < n
    · have hkl : k < os.length := by have := Hl.out; omega
      have hki : (k : Int) < (n : Int) := by omega
      obtain ⟨b, o, rfl, hbK, S, B, p, cs, md, dd, q0, q1, hob⟩ := h.2 k hkl
      have c0 := (hL.b.cell (p := ⟨b, o + k * 2, none⟩) hbK).trans q0
      have c1 := (hL.b.cell (p := ⟨b, o + k * 2 + 1, none⟩) hbK).trans q1
      have HR := hid (ld_round hL hP HK.out hkl hob)
      clear hL q0 q1 hob
      go_wp2_with fail
      refine HR.out.mono ?_
      rintro e w4 ⟨rfl, M, hL4, _⟩
      clear HR c0 c1
      go_wp2_with fail
      go_roundw
      · exact ⟨k + 1, some M, by go_num, by omega, hL4⟩
      · simp [intOf]; omega
    · obtain rfl : k = n := by omega
      have hki : ¬ (k : Int) < (k : Int) := by omega
      generalize wr = V0 at *
      have hos : os.take k = os := List.take_of_length_le (by have := Hl.out; omega)
      have HT := hid fun (V : World) (hV : Below V0.heap.size V0 V) => (hos ▸ (hL.on hV).t : Tb V T T mo os)
      have HB := hid fun (V : World) (hV : Below V0.heap.size V0 V) => (hL.on hV).b
      have b0 : Below V0.heap.size V0 V0 := Below.refl _ _
      clear hL hos
      have hm5 : m ≤ 1000 := by omega
      go_wp2_with fail
      refine (pload_any (HT.out V0 b0) HK.out (HD.out.below (HB.out V0 b0)) (HB.out V0 b0).size hm5).mono ?_
      rintro e w4 ⟨rfl, b4⟩
      have HRl := hid (rload_any (HO.out.below (HB.out w4 b4)) (HB.out w4 b4).size hn12 HK.out.few (HD.out.below (HB.out w4 b4)) (HB.out w4 b4).size hm5 (d := c) (c := d))
      have HLd := hid (lod_any os ds)
      have HHw := hid (has_wnt os)
      unfold LodP at HRl
      generalize lodL os ds = L at *
      obtain ⟨ls, lb⟩ := L
      simp only at HLd
      go_wp2_with fail
      refine HRl.out.mono ?_
      rintro e w5 ⟨rfl, b5⟩
      have b05 := b4.trans (b5.mono b4.size)
      go_wp2_with fail
      refine (twanted_any (HT.out w5 b05) HK.out).mono ?_
      rintro e w6 ⟨A6, c6, rfl, o6, b6⟩
      have b06 := b05.trans (b6.mono b05.size)
      have R6 := hid (own_rd o6)
      have hQ6 : (wntL os).length ≤ 240 := by
        have h1 : (wntL os).length ≤ (nms os).length := List.length_filter_le _ _
        have h2 := HK.out.nmsl
        omega
      have hB6 := hid (HB.out w6 b06)
      have hD6 := hid (HD.out.below (HB.out w6 b06))
      clear o6 b6 b05 b06 b5 b4 b0 HRl
      generalize wntL os = Q at *
      generalize hq : Q.length = q at *
      have HQ := hid hq
      clear hq
      go_wp2_with fail
      go_loopw [12, 13] (fun sv iv W => ∃ j : Nat, sv = .bool ((ds.take j).any (wt os)) ∧ iv = .int .i64 (j : Int) ∧ j ≤ m ∧ W = w6) (fun _ iv _ => m - (intOf iv).toNat)
      case atStart => exact ⟨0, rfl, rfl, Nat.zero_le _, rfl⟩
      case round =>
        obtain ⟨j, rfl, rfl, hj, rfl⟩ := hrel
        by_cases hjm : j < m
        · have hjl : j < ds.length := by omega
          have hji : (j : Int) < (m : Int) := by omega
          obtain ⟨b, o, rfl, _, c0⟩ := hD6.out.2 j hjl
          have HH := hid (rhas_any _ A6 q c6 Q ds[j] wr R6.out (by omega))
          rw [HHw.out] at HH
          have HN : Hid ((ds.take (j + 1)).any (wt os) = ((ds.take j).any (wt os) || wt os ds[j])) := hid (by rw [List.take_succ_eq_append_getElem hjl, List.any_append]; simp)
          generalize ds[j] = x at *
          generalize wt os x = y at *
          cases hs : (ds.take j).any (wt os)
          · rw [hs] at HN
            go_wp2_with fail
            refine HH.out.mono ?_
            rintro e w7 ⟨rfl, rfl⟩
            go_wp2_with fail
            go_roundw
            · exact ⟨j + 1, by rw [HN.out]; rfl, by go_num, by omega, trivial⟩
            · simp [intOf]; omega
          · rw [hs] at HN
            clear HH
            go_wp2_with fail
            go_roundw
            · exact ⟨j + 1, by rw [HN.out]; rfl, by go_num, by omega, trivial⟩
            · simp [intOf]; omega
        · obtain rfl : j = m := by omega
          have hji : ¬ (j : Int) < (j : Int) := by omega
          have ht : ds.take j = ds := List.take_of_length_le (by omega)
          rw [ht, ← HLd.out]
          go_wp2_with fail
          go_ret
          exact ⟨rfl, hB6.out⟩
end Go.Proofs.YtbcjbembhajgcaaDoor.Wnt
