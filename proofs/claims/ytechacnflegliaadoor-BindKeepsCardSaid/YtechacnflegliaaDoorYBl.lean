/-
  bind: the law's all.
-/
import Derived.Test.YtechacnflegliaaDoorYBk
namespace Go.Proofs.YtechacnflegliaaDoor.Bnd
open Go.RowKit Go.Proofs Go.Proofs.YtechacnflegliaaDoor.Byt
open Go.Proofs.YtechacnflegliaaDoor.Obj (Sy)
open Go.Proofs.YtechacnflegliaaDoor.Arp (RdI)

def AllS (b o u : Nat) (r : Array Value) (x : List Value) (n : Int) (W : World) : Prop := W.heap[u]? = some (.cells r 27 (0, 0)) ∧ W.rangeAt b o x ∧ W.cell? ⟨b, o + 4, none⟩ = some (.int .i64 n)
/-- The loop of all: its variable and what it holds. -/
structure AllR (w W : World) (g u : Nat) (xs : List Us) (k : Nat) : Prop where
  b : Below w.heap.size w W
  l : u < W.heap.size
  lt : w.heap.size = g ∧ g < u
  z : W.heap[g]? = some (.cells #[.int .i64 0, .int .i64 0, .int .i64 0, .int .i64 0, .bool false, .bool false, .bool false, .slice none 0 0] 27 (0, 0))
  r : ∃ v, W.heap[u]? = some (.cells (row (allL (xs.take k)) v) 27 (0, 0)) ∧ OwnI W (u + 1) v (allL (xs.take k)).strongs
theorem all_take {xs : List Us} {k : Nat} (hk : k < xs.length) : allL (xs.take (k + 1)) = joi (allL (xs.take k)) (sgl xs[k]) := by
  rw [List.take_succ_eq_append_getElem hk, allL_snoc]
theorem all_len : ∀ xs : List Us, (allL xs).strongs.length ≤ xs.length := by
  refine Dec.by_snoc (by simp [allL, emp]) (fun l x ih => ?_)
  rw [allL_snoc]
  have := sgl_len x
  have e : (joi (allL l) (sgl x)).strongs = (allL l).strongs ++ (sgl x).strongs := rfl
  rw [e, List.length_append, List.length_append]
  simp only [List.length_cons, List.length_nil]
  omega
set_option linter.unusedSimpArgs false in
set_option maxRecDepth 100000 in
set_option maxHeartbeats 8000000 in
theorem all_any (K : Nat) (A : Option Addr) (n c : Nat) (xs : List Us) (w : World) (hP : Prec w) (h : RdU w K A n xs) (hK : K ≤ w.heap.size) (hn : n ≤ 10000) (hx : ∀ x ∈ xs, uOk x = true) :
    Calls Tryd.prog 9 #[.slice A n c] w (StP (allL xs) w) := by
  have Hl := hid h.1
  have HU := hid fun (V : World) (hV : Below w.heap.size w V) => h.below (hV.mono hK)
  have HP := hid fun (V : World) (hV : Below w.heap.size w V) => hP.on hV
  have HX := hid hx
  have hb0 := (Below.refl w.heap.size w).alloc (Nat.le_refl _) (.cells #[.int .i64 0, .int .i64 0, .int .i64 0, .int .i64 0, .bool false, .bool false, .bool false, .slice none 0 0] 27)
  have hn0 := heap_alloc_new w (.cells #[.int .i64 0, .int .i64 0, .int .i64 0, .int .i64 0, .bool false, .bool false, .bool false, .slice none 0 0] 27)
  have hs0 := World.size_alloc w (.cells #[.int .i64 0, .int .i64 0, .int .i64 0, .int .i64 0, .bool false, .bool false, .bool false, .slice none 0 0] 27)
  have HE := hid (fun (V : World) => empty_any V)
  unfold St.val emp at HE
  simp only [row] at HE
  clear h hP hx
  go_enter Tryd.func9, Tryd.ntmps9
  go_upto_region 1 with fail
  generalize w.alloc (.cells #[.int .i64 0, .int .i64 0, .int .i64 0, .int .i64 0, .bool false, .bool false, .bool false, .slice none 0 0] 27) = W at *
  obtain ⟨g, hg⟩ : ∃ g, w.heap.size = g := ⟨_, rfl⟩
  rw [hg] at hn0 hs0
  rw [hg]
  have HG := hid hg
  have HB := hid hb0
  have HN0 := hid hn0
  clear hg hb0 hn0
  go_upto_region 2 with (first | (go_at_call 14; refine (HE.out _).mono ?_; rintro e w1 ⟨rfl, hb1⟩) | (refine stS rfl _ _ rfl _ _ rfl rfl _ (heap_alloc_new _ _) rfl rfl rfl ?_; rw [World.setRow_alloc_new]))
  have hq := hb1.alloc hb1.size (.cells (row emp (.slice none 0 0)) 27)
  have hn1 := heap_alloc_new w1 (.cells (row emp (.slice none 0 0)) 27)
  have hs1 := World.size_alloc w1 (.cells (row emp (.slice none 0 0)) 27)
  have hw1 := hb1.size
  simp only [row, emp] at hq hn1 hs1
  have HR : Hid (AllR w (w1.alloc (.cells #[.int .i64 0, .int .i64 0, .int .i64 0, .int .i64 (-1), .bool false, .bool false, .bool false, .slice none 0 0] 27)) g w1.heap.size xs 0) := hid
    ⟨HB.out.trans (hq.mono HB.out.size), by omega, ⟨HG.out, by omega⟩, (hq.block g (by omega)).trans HN0.out, .slice none 0 0, hn1, OwnI.nil _ _⟩
  generalize w1.alloc (.cells #[.int .i64 0, .int .i64 0, .int .i64 0, .int .i64 (-1), .bool false, .bool false, .bool false, .slice none 0 0] 27) = V at *
  obtain ⟨u, hu⟩ : ∃ u, w1.heap.size = u := ⟨_, rfl⟩
  rw [hu] at HR
  rw [hu]
  clear hq hn1 hs1 hw1 hb1 hu HE HN0 hs0
  go_wp2_with fail
  go_loopw [4] (fun i X => ∃ k : Nat, i = .int .i64 (k : Int) ∧ k ≤ n ∧ Hid (AllR w X g u xs k)) (fun i _ => n - (intOf i).toNat)
  case atStart => exact ⟨0, rfl, by omega, HR⟩
  case round =>
    obtain ⟨k, rfl, hk, hG⟩ := hrel
    clear HR
    obtain ⟨hb, hu, hgu, hz0, v0, hr, ho⟩ := hG.out
    have hpl := ho.pl
    have HLen := hid (all_len (xs.take k))
    by_cases hlt : k < n
    · have hkl : k < xs.length := by have := Hl.out; omega
      have hki : (k : Int) < (n : Int) := by omega
      have HJ := hid (all_take hkl)
      have hok := HX.out _ (List.getElem_mem hkl)
      obtain ⟨b0, o, hA, hb0K, hc⟩ := (HU.out wr hb).2 k hkl
      have hlen : (allL (xs.take k)).strongs.length ≤ 100000 := by have := HLen.out; rw [List.length_take] at this; omega
      have HM := hid fun (V : World) (hV : Below w.heap.size w V) (hp : Pl V wr.heap.size v0 (allL (xs.take k)).strongs) (hs : wr.heap.size ≤ V.heap.size) => merge_any wr.heap.size (allL (xs.take k)) v0 xs[k] V (HP.out V hV) hp hs hlen (by have := uOk_iff.1 hok; omega) (by have := uOk_iff.1 hok; omega)
      generalize allL (xs.take k) = s' at *
      generalize xs[k] = x' at *
      subst hA
      generalize joi s' (sgl x') = j at *
      have hpl2 := hpl
      obtain ⟨A0, m0, c0, rfl, _, _, _⟩ := hpl2
      have hb0 : b0 < wr.heap.size := by have := hb.size; omega
      have p4 := hc 4 _ rfl
      have hx4 : wr.rangeAt b0 (o + k * 5) (ucell x' |>.take 4) := fun j v hv => hc j v (by
        obtain ⟨h1, h2⟩ := List.getElem?_eq_some_iff.1 hv
        rw [List.getElem_take] at h2
        exact List.getElem?_eq_some_iff.2 ⟨by simp [ucell] at h1 ⊢; omega, h2⟩)
      unfold St.val Sy.val at HM
      obtain ⟨s0, s1, s2, s3, s4, s5, s6, sl⟩ := s'
      obtain ⟨⟨x0, x1, x2, x3⟩, x4⟩ := x'
      simp only [row, ucell, List.take_succ_cons, List.take_zero] at *
      clear hc hok hG hlen
      go_upto_region 5 with fail
      have hbd : Below wr.heap.size wr wr.drew := (Below.refl _ _).drew
      have hS : AllS b0 (o + k * 5) u #[.int .i64 s0, .int .i64 s1, .int .i64 s2, .int .i64 s3, .bool s4, .bool s5, .bool s6, .slice A0 m0 c0] [.string x0, .int .i64 x1, .int .i64 x2, .int .i64 x3] x4 wr.drew := ⟨hr, hx4, p4⟩
      refine Ord.Till.begin (AllS b0 (o + k * 5) u #[.int .i64 s0, .int .i64 s1, .int .i64 s2, .int .i64 s3, .bool s4, .bool s5, .bool s6, .slice A0 m0 c0] [.string x0, .int .i64 x1, .int .i64 x2, .int .i64 x3] x4) 12 (by kernel_rfl) ?_
      have hbw := hb.trans (hbd.mono hb.size)
      have hzd := (hbd.block g (by omega)).trans hz0
      have hPl := hpl.below hbd
      have hsz : u < wr.drew.heap.size := hu
      have HMd := HM.out wr.drew hbw hPl hbd.size
      generalize wr.drew = wd at *
      refine Ord.Till.take' 0 (some 12) (oi := _) (x := .agg #[.int .i64 s0, .int .i64 s1, .int .i64 s2, .int .i64 s3, .bool s4, .bool s5, .bool s6, .slice A0 m0 c0]) rfl rfl (by kernel_rfl) (by kernel_rfl) (by kernel_rfl) (by kernel_rfl) (fun _ _ _ h => h) (by kernel_rfl) (fun v hv => exec_ld 27 _ Tryd.underlying27 rfl _ rfl u 0 rfl _ (by kernel_rfl) (range_row hv.1)) hS ?_
      try simp only [List.getElem_toArray, List.getElem_cons_zero, List.getElem_cons_succ, Act.put, List.setIfInBounds_toArray, List.set_cons_zero, List.set_cons_succ]
      refine Ord.Till.take' 1 (some 13) (oi := _) (x := ?_) rfl rfl (by kernel_rfl) (by kernel_rfl) (by kernel_rfl) (by kernel_rfl) (fun _ _ _ h => h) (by kernel_rfl) ?_ hS ?_
      rotate_left 1
      · intro v hv; obtain ⟨z0, z1, z2⟩ := hv; go_simp; first | done | with_reducible rfl
      try simp only [List.getElem_toArray, List.getElem_cons_zero, List.getElem_cons_succ, Act.put, List.setIfInBounds_toArray, List.set_cons_zero, List.set_cons_succ]
      refine Ord.Till.take' 2 (some 14) (oi := _) (x := ?_) rfl rfl (by kernel_rfl) (by kernel_rfl) (by kernel_rfl) (by kernel_rfl) (fun _ _ _ h => h) (by kernel_rfl) ?_ hS ?_
      rotate_left 1
      · intro v hv; obtain ⟨z0, z1, z2⟩ := hv; go_simp; first | done | with_reducible rfl
      try simp only [List.getElem_toArray, List.getElem_cons_zero, List.getElem_cons_succ, Act.put, List.setIfInBounds_toArray, List.set_cons_zero, List.set_cons_succ]
      refine Ord.Till.take' 3 (some 15) (oi := _) (x := ?_) rfl rfl (by kernel_rfl) (by kernel_rfl) (by kernel_rfl) (by kernel_rfl) (fun _ _ _ h => h) (by kernel_rfl) ?_ hS ?_
      rotate_left 1
      · intro v hv; obtain ⟨z0, z1, z2⟩ := hv; go_simp; first | done | with_reducible rfl
      try simp only [List.getElem_toArray, List.getElem_cons_zero, List.getElem_cons_succ, Act.put, List.setIfInBounds_toArray, List.set_cons_zero, List.set_cons_succ]
      refine Ord.Till.take' 4 (some 16) (oi := _) (x := ?_) rfl rfl (by kernel_rfl) (by kernel_rfl) (by kernel_rfl) (by kernel_rfl) (fun _ _ _ h => h) (by kernel_rfl) ?_ hS ?_
      rotate_left 1
      · intro v hv; obtain ⟨z0, z1, z2⟩ := hv; go_simp; first | done | with_reducible rfl
      try simp only [List.getElem_toArray, List.getElem_cons_zero, List.getElem_cons_succ, Act.put, List.setIfInBounds_toArray, List.set_cons_zero, List.set_cons_succ]
      refine Ord.Till.take' 5 (some 17) (oi := _) (x := .agg #[.string x0, .int .i64 x1, .int .i64 x2, .int .i64 x3]) rfl rfl (by kernel_rfl) (by kernel_rfl) (by kernel_rfl) (by kernel_rfl) (fun _ _ _ h => h) (by kernel_rfl) (fun v hv => exec_ld 37 _ Tryd.underlying37 rfl _ rfl b0 (o + k * 5) rfl [.string x0, .int .i64 x1, .int .i64 x2, .int .i64 x3] (by kernel_rfl) hv.2.1) hS ?_
      try simp only [List.getElem_toArray, List.getElem_cons_zero, List.getElem_cons_succ, Act.put, List.setIfInBounds_toArray, List.set_cons_zero, List.set_cons_succ]
      refine Ord.Till.take' 6 (some 18) (oi := _) (x := ?_) rfl rfl (by kernel_rfl) (by kernel_rfl) (by kernel_rfl) (by kernel_rfl) (fun _ _ _ h => h) (by kernel_rfl) ?_ hS ?_
      rotate_left 1
      · intro v hv; obtain ⟨z0, z1, z2⟩ := hv; go_simp; first | done | with_reducible rfl
      try simp only [List.getElem_toArray, List.getElem_cons_zero, List.getElem_cons_succ, Act.put, List.setIfInBounds_toArray, List.set_cons_zero, List.set_cons_succ]
      refine Ord.Till.take' 7 (some 19) (oi := _) (x := ?_) rfl rfl (by kernel_rfl) (by kernel_rfl) (by kernel_rfl) (by kernel_rfl) (fun _ _ _ h => h) (by kernel_rfl) ?_ hS ?_
      rotate_left 1
      · intro v hv; obtain ⟨z0, z1, z2⟩ := hv; go_simp; first | done | with_reducible rfl
      try simp only [List.getElem_toArray, List.getElem_cons_zero, List.getElem_cons_succ, Act.put, List.setIfInBounds_toArray, List.set_cons_zero, List.set_cons_succ]
      refine Ord.Till.take' 8 (some 20) (oi := _) (x := ?_) rfl rfl (by kernel_rfl) (by kernel_rfl) (by kernel_rfl) (by kernel_rfl) (fun _ _ _ h => h) (by kernel_rfl) ?_ hS ?_
      rotate_left 1
      · intro v hv; obtain ⟨z0, z1, z2⟩ := hv; go_simp; first | done | with_reducible rfl
      try simp only [List.getElem_toArray, List.getElem_cons_zero, List.getElem_cons_succ, Act.put, List.setIfInBounds_toArray, List.set_cons_zero, List.set_cons_succ]
      refine Ord.Till.take' 9 (some 21) (oi := _) (x := ?_) rfl rfl (by kernel_rfl) (by kernel_rfl) (by kernel_rfl) (by kernel_rfl) (fun _ _ _ h => h) (by kernel_rfl) ?_ hS ?_
      rotate_left 1
      · intro v hv; obtain ⟨z0, z1, z2⟩ := hv; go_simp; first | done | with_reducible rfl
      try simp only [List.getElem_toArray, List.getElem_cons_zero, List.getElem_cons_succ, Act.put, List.setIfInBounds_toArray, List.set_cons_zero, List.set_cons_succ]
      refine Ord.Till.take' 10 (some 22) (oi := _) (x := ?_) rfl rfl (by kernel_rfl) (by kernel_rfl) (by kernel_rfl) (by kernel_rfl) (fun _ _ _ h => h) (by kernel_rfl) ?_ hS ?_
      rotate_left 1
      · intro v hv; obtain ⟨z0, z1, z2⟩ := hv; go_simp; first | done | with_reducible rfl
      try simp only [List.getElem_toArray, List.getElem_cons_zero, List.getElem_cons_succ, Act.put, List.setIfInBounds_toArray, List.set_cons_zero, List.set_cons_succ]
      refine Ord.Till.step 11 (by kernel_rfl) rfl (fun C hC => ?_)
      go_simp
      go_at_call 15
      refine HMd.mono ?_
      rintro e w2 ⟨v2, rfl, ho2, hb2⟩
      have hS2 : AllS b0 (o + k * 5) u #[.int .i64 s0, .int .i64 s1, .int .i64 s2, .int .i64 s3, .bool s4, .bool s5, .bool s6, .slice A0 m0 c0] [.string x0, .int .i64 x1, .int .i64 x2, .int .i64 x3] x4 w2 := ⟨(hb2.block u hsz).trans hS.1, fun j v hv => (hb2.cell (p := ⟨b0, o + k * 5 + j, none⟩) (by show b0 < _; omega)).trans (hS.2.1 j v hv), (hb2.cell (p := ⟨b0, o + k * 5 + 4, none⟩) (by show b0 < _; omega)).trans hS.2.2⟩
      have hb02 := hbw.trans (hb2.mono hbw.size)
      have hz2 := (hb2.block g (by omega)).trans hzd
      have hk2 := hb2.size
      clear hS HMd
      go_wp2_with fail
      refine hC.out _ _ (fun _ => hS2) ?_
      clear hC C
      try simp only [List.getElem_toArray, List.getElem_cons_zero, List.getElem_cons_succ, Act.put, List.setIfInBounds_toArray, List.set_cons_zero, List.set_cons_succ]
      have hv2 := pl_slice ho2.pl
      refine Ord.Till.step 12 (by kernel_rfl) rfl (fun C hC => ?_)
      rw [if_pos (by kernel_rfl)]
      refine wp_store_row 27 _ _ rfl u (row j v2) rfl rfl 27 _ hS2.1 (by kernel_rfl) rfl (row_one hv2) ?_
      refine hC.out _ _ (fun hz => absurd rfl hz) ?_
      clear hC C
      try simp only [List.getElem_toArray, List.getElem_cons_zero, List.getElem_cons_succ, Act.put, List.setIfInBounds_toArray, List.set_cons_zero, List.set_cons_succ]
      refine Ord.Till.done (by kernel_rfl) ?_ _
      have HN : Hid (AllR w (w2.setRow u (row j v2)) g u xs (k + 1)) := hid (by
        refine ⟨below_setRow' hb02 (by omega) _, by rw [setRow_size]; omega, hgu, (setRow_other _ _ _ _ (by omega)).trans hz2, v2, ?_, ?_⟩
        · rw [HJ.out]; exact setRow_heap _ _ _ _ _ _ hS2.1
        · rw [HJ.out]; exact (OwnI.keep ho2 fun q hq _ => setRow_other _ _ _ _ (by omega)).more (by omega))
      generalize w2.setRow u (row j v2) = w7 at *
      clear hS2 ho2 hb2 hz2 hb02 hv2
      go_wp2_with fail
      go_roundw
      · exact ⟨k + 1, by go_num, by omega, HN⟩
      · simp [intOf]; omega
    · obtain rfl : k = n := by omega
      have hki : ¬ (k : Int) < (k : Int) := by omega
      have hT : xs.take k = xs := List.take_of_length_le (by have := Hl.out; omega)
      rw [hT] at hr ho hpl HLen
      have hv0 := pl_slice hpl
      clear hT
      go_wp2_with (first | (refine ldS rfl _ rfl u rfl _ hr rfl ?_) | (refine stS rfl _ _ rfl g _ rfl rfl _ hz0 rfl rfl (row_one hv0) ?_))
      exact retS (g := g) rfl rfl rfl (setRow_heap _ _ _ _ _ _ hz0) rfl ⟨v0, rfl, (OwnI.keep ho fun q hq _ => setRow_other _ _ _ _ (by omega)).more (by omega), below_setRow' hb (by omega) _⟩
end Go.Proofs.YtechacnflegliaaDoor.Bnd
