/-
  SymtabKeeps, walked.
-/
import Derived.Test.YtndjnmeblpjlhaaDoorZUb
namespace Go.Proofs.YtndjnmeblpjlhaaDoor.Tab
open Go.RowKit Go.Proofs Go.Proofs.YtndjnmeblpjlhaaDoor.Byt
open Go.Proofs.YtndjnmeblpjlhaaDoor.Obj (Sy RdS SCells)
open Go.Proofs.YtndjnmeblpjlhaaDoor.Bnd

/-- A cell of what the call has made is written. -/
theorem cel_put {t : TypeId} {sz : Nat} {V : World} {K n c k j : Nat} {A : Option Addr} {cs : List Value} (h : Cel.Own t sz V K (.slice A n c) n cs) (hk : k < n) (hj : j = k * sz) (hsz : 0 < sz) (y : Value) :
    ∃ b : Nat, A = some ⟨b, 0, none⟩ ∧ K ≤ b ∧ (∃ v, V.cell? ⟨b, j, none⟩ = some v) ∧ V.frozen? ⟨b, j, none⟩ = false ∧
      (∀ (g : Nat) (cs' : Array Value) (t' : TypeId) (m : Nat × Nat), V.heap[g]? = some (.cells cs' t' m) → t' ≠ t → (V.setCell ⟨b, j, none⟩ y).heap[g]? = some (.cells cs' t' m)) ∧ ∃ cs', Cel.Own t sz (V.setCell ⟨b, j, none⟩ y) K (.slice A n c) n cs' := by
  subst hj
  rcases h.2 with ⟨_, rfl⟩ | ⟨b, cap, cur, m, hv, hg, hh, hn, hm, hs, ht, hf⟩
  · omega
  · injection hv with e1 _ e3
    subst e1 e3
    have hkc : k * sz < c * sz := (Nat.mul_lt_mul_right hsz).2 (by omega)
    have hkn : k * sz < n * sz := (Nat.mul_lt_mul_right hsz).2 hk
    have hnc : n * sz ≤ c * sz := Nat.mul_le_mul_right sz hn
    have hf' := hf (k * sz) hkc
    refine ⟨b, rfl, hg, ⟨cur[k * sz]'(by omega), ?_⟩, ?_, ?_, ((cur.setIfInBounds (k * sz) y).toList.take (n * sz)), ?_, .inr ⟨b, c, cur.setIfInBounds (k * sz) y, m, rfl, hg, ?_, hn, hm, by simpa using hs, rfl, hf⟩⟩
    · rw [cell_of_row V b (k * sz) cur _ m hh]
      exact Array.getElem?_eq_getElem (by omega)
    · simp only [World.frozen?, hh]
      simp
      omega
    · intro g cs' t' m' hr hne
      refine (Below.heap_setCell V ⟨b, k * sz, none⟩ y g ?_).trans hr
      intro e
      have e' : g = b := e
      subst e'
      rw [hr] at hh
      injection hh with hh
      injection hh with _ e2
      exact hne e2
    · rw [List.length_take, Array.length_toList, Array.size_setIfInBounds]
      omega
    · simp [World.setCell, Array.getElem?_modify, hh]
theorem sown_cel {w : World} {K n : Nat} {v : Value} {l : List ByteArray} (h : Sls.Own w K v n l) : Cel.Own 9 1 w K v n (Sls.enc l) := by
  obtain ⟨hl, h⟩ := h
  refine ⟨by rw [Sls.enc_length, hl, Nat.mul_one], ?_⟩
  rcases h with h | ⟨g, cap, cur, m, hv, hg, hh, hn, hm, hs, ht, hf⟩
  · exact .inl h
  · exact .inr ⟨g, cap, cur, m, hv, hg, hh, hn, hm, by rw [hs, Nat.mul_one], by rw [Nat.mul_one]; exact ht, fun j hj => hf j (by omega)⟩
/-- What the loops write over: nothing that was there before the world w. -/
def WrK (w V : World) (u : Nat) (r : Array Value) (A : Option Addr) (n c : Nat) : Prop :=
  Below w.heap.size w V ∧ V.heap[u]? = some (.cells r 41 (0, 0)) ∧ ∃ cs, Cel.Own 3 1 V w.heap.size (.slice A n c) n cs
def WrT (t : TypeId) (sz : Nat) (w V : World) (A : Option Addr) (n c : Nat) : Prop := Below w.heap.size w V ∧ ∃ cs, Cel.Own t sz V w.heap.size (.slice A n c) n cs
set_option linter.unusedSimpArgs false in
set_option maxRecDepth 100000 in
set_option maxHeartbeats 16000000 in
theorem keeps14 (w : World) (hP : Prec w) (A : Option Addr) (n c : Nat) (os : List (List Sy)) (h : RdO w w.heap.size A n os) (nm : ByteArray) :
    Calls Tryd.prog 6 #[.slice A n c, .string nm] w fun e w' => e = .returned (.bool true) ∧ Below w.heap.size w w' := by
  have Hl := hid h.1
  have HA := hid fun (V : World) (hV : Below w.heap.size w V) => awake_any V (hP.on hV)
  go_enter Tryd.func6, Tryd.ntmps6
  go_wp2_with fail
  refine (HA.out w (Below.refl _ _)).mono ?_
  rintro e w1 ⟨rfl, b1⟩
  go_wp2_with fail
  refine (rright_any w.heap.size A n c os w1 (h.below b1) b1.size).mono ?_
  rintro e w2 ⟨b2', hr⟩
  have b2 := b1.trans (b2'.mono b1.size)
  clear b2' b1
  rcases hr with ⟨rfl, hR⟩ | rfl
  case inr =>
    go_wp2_with fail
    refine (HA.out w2 b2).mono ?_
    rintro e w3 ⟨rfl, b3⟩
    go_wp2_with fail
    go_ret
    exact ⟨rfl, b2.trans (b3.mono b2.size)⟩
  case inl =>
  have HK := hid hR.ok
  have hn12 : n ≤ 12 := by have := HK.out.len; have := Hl.out; omega
  clear hR
  have hb3 := (Below.refl w2.heap.size w2).alloc (Nat.le_refl _) (.cells #[.int .i64 0, .map none] 29)
  have hn3 := heap_alloc_new w2 (.cells #[.int .i64 0, .map none] 29)
  have hL3 := Ld.start (os := os) (b2.trans (hb3.mono b2.size)) hn3 b2.size
  go_upto_region 4 with fail
  generalize w2.alloc (.cells #[.int .i64 0, .map none] 29) = w3 at *
  obtain ⟨T, hT⟩ : ∃ T, w2.heap.size = T := ⟨_, rfl⟩
  rw [hT] at hL3
  rw [hT]
  clear hb3 hn3 hT b2 HA
  go_wp2_with fail
  go_loopw [6] (fun iv W => ∃ (k : Nat) (mo : Option Nat), iv = .int .i64 (k : Int) ∧ k ≤ n ∧ Ld w os T mo k W) (fun iv _ => n - (intOf iv).toNat)
  case atStart => exact ⟨0, none, rfl, by omega, hL3⟩
  case round =>
    obtain ⟨k, mo, rfl, hk, hL⟩ := hrel
    clear hL3
    by_cases hlt : k < n
    · have hkl : k < os.length := by have := Hl.out; omega
      have hki : (k : Int) < (n : Int) := by omega
      obtain ⟨b, o, rfl, hbK, S, B, p, cs, md, d, q0, q1, hob⟩ := h.2 k hkl
      have c0 := (hL.b.cell (p := ⟨b, o + k * 2, none⟩) hbK).trans q0
      have c1 := (hL.b.cell (p := ⟨b, o + k * 2 + 1, none⟩) hbK).trans q1
      have HR := hid (ld_round hL hP HK.out hkl hob)
      clear hL q0 q1 hob
      go_wp2_with fail
      refine HR.out.mono ?_
      rintro e w4 ⟨rfl, M, hL4, _⟩
      clear HR c0 c1
      go_wp2_with fail
      go_roundw
      · exact ⟨k + 1, some M, by go_num, by omega, hL4⟩
      · simp [intOf]; omega
    · obtain rfl : k = n := by omega
      have hki : ¬ (k : Int) < (k : Int) := by omega
      generalize wr = V0 at *
      have hos : os.take k = os := List.take_of_length_le (by have := Hl.out; omega)
      have HT := hid fun (V : World) (hV : Below V0.heap.size V0 V) => (hos ▸ (hL.on hV).t : Tb V T T mo os)
      have HB := hid fun (V : World) (hV : Below V0.heap.size V0 V) => (hL.on hV).b
      have b0 : Below V0.heap.size V0 V0 := Below.refl _ _
      have HN := hid (HK.out.all nm)
      have HU := hid (Nat.le_trans (allL_len (uses os nm)) (HK.out.uln nm))
      clear hL hos
      go_wp2_with fail
      refine (tstate_any (HT.out V0 b0) HK.out nm).mono ?_
      rintro e w6 ⟨v6, rfl, o6, b6⟩
      obtain ⟨A6, n6, c6, rfl, h6, _, _⟩ := id o6.pl
      have hl6 := h6.1
      have o6' : Cel.Own 3 1 w6 V0.heap.size (.slice A6 n6 c6) n6 (ints (ofL (uses os nm)).strongs) := by have h := o6; unfold OwnI at h; rw [hl6] at h; exact h
      have hn6 : n6 ≤ 240 := by rw [← hl6, HN.out]; exact HU.out
      clear o6 h6 hl6
      generalize hS : ofL (uses os nm) = s at *
      have bT := b6.alloc b6.size (.cells (row s (.slice A6 n6 c6)) 41)
      have nT := heap_alloc_new w6 (.cells (row s (.slice A6 n6 c6)) 41)
      have oT := o6'.alloc (.cells (row s (.slice A6 n6 c6)) 41)
      have HS := hid hS
      clear hS
      simp only [St.val, row] at *
      go_upto_region 9 with fail
      generalize w6.alloc (.cells #[.int .i64 s.bind, .int .i64 s.size, .int .i64 s.align, .int .i64 s.unit, .bool s.dfd, .bool s.sr, .bool s.wr, .slice A6 n6 c6] 41) = w7 at *
      obtain ⟨u, hu⟩ : ∃ u, w6.heap.size = u := ⟨_, rfl⟩
      rw [hu] at nT
      rw [hu]
      have HW7 := hid (⟨bT, nT, _, oT⟩ : WrK V0 w7 u _ A6 n6 c6)
      clear bT nT oT o6' b6 hu b0
      go_wp2_with fail
      go_loopw [8] (fun i V => ∃ j : Nat, i = .int .i64 (j : Int) ∧ j ≤ n6 ∧ Hid (WrK V0 V u #[.int .i64 s.bind, .int .i64 s.size, .int .i64 s.align, .int .i64 s.unit, .bool s.dfd, .bool s.sr, .bool s.wr, .slice A6 n6 c6] A6 n6 c6)) (fun i _ => n6 - (intOf i).toNat)
      case atStart => exact ⟨0, rfl, by omega, HW7⟩
      case round =>
      obtain ⟨j, rfl, hj, hG⟩ := hrel
      clear HW7
      obtain ⟨hb, hr, cs, ho⟩ := hG.out
      have r7 := cell_of_row _ u 7 _ _ _ hr
      by_cases hlt2 : j < n6
      · have hji : (j : Int) < (n6 : Int) := by omega
        obtain ⟨b, rfl, hbK, ⟨y, hy⟩, hf, hw1, hw2⟩ := cel_put (j := j) ho hlt2 (by omega) (by decide) (.int .i64 (-9))
        have hw1' := hw1 u _ _ _ hr (by decide)
        have HN2 : Hid (WrK V0 (wr.setCell ⟨b, j, none⟩ (.int .i64 (-9))) u _ _ n6 c6) := hid ⟨hb.setCell (p := ⟨b, j, none⟩) hbK _, hw1', hw2⟩
        clear hw1 hw1' hw2 hb ho hG
        go_wp2_with fail
        generalize wr.setCell ⟨b, j, none⟩ (.int .i64 (-9)) = wn at *
        go_roundw
        · exact ⟨j + 1, by go_num, by omega, HN2⟩
        · simp [intOf]; omega
      obtain rfl : j = n6 := by omega
      have hji : ¬ (j : Int) < (j : Int) := by omega
      clear ho hG hr
      generalize wr = V1 at *
      have hrl : (resL os).length ≤ 240 := by unfold resL; rw [List.length_map]; exact HK.out.nmsl
      go_wp2_with fail
      refine (tresolved_any (HT.out V1 hb) HK.out).mono ?_
      rintro e w8 ⟨A8, c8, rfl, o8, b8⟩
      have HW8 := hid (⟨hb.trans (b8.mono hb.size), _, o8.more hb.size⟩ : WrT 54 5 V0 w8 A8 (resL os).length c8)
      generalize (resL os).length = m8 at *
      clear hb b8 o8 r7
      go_wp2_with fail
      go_loopw [10] (fun i V => ∃ j : Nat, i = .int .i64 (j : Int) ∧ j ≤ m8 ∧ Hid (WrT 54 5 V0 V A8 m8 c8)) (fun i _ => m8 - (intOf i).toNat)
      case atStart => exact ⟨0, rfl, by omega, HW8⟩
      case round =>
      obtain ⟨q, rfl, hq, hG⟩ := hrel
      clear HW8
      obtain ⟨hb, cs, ho⟩ := hG.out
      by_cases hlt3 : q < m8
      · have hqi : (q : Int) < (m8 : Int) := by omega
        obtain ⟨b, rfl, hbK, ⟨y, hy⟩, hf, _, hw2⟩ := cel_put (j := q * 5) ho hlt3 rfl (by decide) (.string ⟨#[]⟩)
        have HN2 : Hid (WrT 54 5 V0 (wr.setCell ⟨b, q * 5, none⟩ (.string ⟨#[]⟩)) _ m8 c8) := hid ⟨hb.setCell (p := ⟨b, q * 5, none⟩) hbK _, hw2⟩
        clear hw2 hb ho hG
        go_wp2_with fail
        generalize wr.setCell ⟨b, q * 5, none⟩ (.string ⟨#[]⟩) = wn at *
        go_roundw
        · exact ⟨q + 1, by go_num, by omega, HN2⟩
        · simp [intOf]; omega
      obtain rfl : q = m8 := by omega
      have hqi : ¬ (q : Int) < (q : Int) := by omega
      clear ho hG
      generalize wr = V2 at *
      have hnl : (nms os).length ≤ 240 := HK.out.nmsl
      go_wp2_with fail
      refine (tnames_any (HT.out V2 hb) HK.out).mono ?_
      rintro e w9 ⟨A9, c9, rfl, o9, b9⟩
      have HW9 := hid (⟨hb.trans (b9.mono hb.size), _, (sown_cel o9).more hb.size⟩ : WrT 9 1 V0 w9 A9 (nms os).length c9)
      generalize (nms os).length = m9 at *
      clear hb b9 o9
      go_wp2_with fail
      go_loopw [12] (fun i V => ∃ j : Nat, i = .int .i64 (j : Int) ∧ j ≤ m9 ∧ Hid (WrT 9 1 V0 V A9 m9 c9)) (fun i _ => m9 - (intOf i).toNat)
      case atStart => exact ⟨0, rfl, by omega, HW9⟩
      case round =>
      obtain ⟨r, rfl, hr, hG⟩ := hrel
      clear HW9
      obtain ⟨hb, cs, ho⟩ := hG.out
      by_cases hlt4 : r < m9
      · have hri : (r : Int) < (m9 : Int) := by omega
        obtain ⟨b, rfl, hbK, ⟨y, hy⟩, hf, _, hw2⟩ := cel_put (j := r) ho hlt4 (by omega) (by decide) (.string ⟨#[]⟩)
        have HN2 : Hid (WrT 9 1 V0 (wr.setCell ⟨b, r, none⟩ (.string ⟨#[]⟩)) _ m9 c9) := hid ⟨hb.setCell (p := ⟨b, r, none⟩) hbK _, hw2⟩
        clear hw2 hb ho hG
        go_wp2_with fail
        generalize wr.setCell ⟨b, r, none⟩ (.string ⟨#[]⟩) = wn at *
        go_roundw
        · exact ⟨r + 1, by go_num, by omega, HN2⟩
        · simp [intOf]; omega
      obtain rfl : r = m9 := by omega
      have hri : ¬ (r : Int) < (r : Int) := by omega
      clear ho hG
      generalize wr = V3 at *
      go_wp2_with fail
      refine (tstate_any (HT.out V3 hb) HK.out nm).mono ?_
      rintro e x6 ⟨y6, rfl, p6, d6⟩
      go_wp2_with fail
      refine (lstate_any _ y6 x6.heap.size _ x6 p6.pl).mono ?_
      rintro e x7 ⟨rfl, d7⟩
      have P7 := (p6.below d7).pl
      have b57 := hb.trans ((d6.trans (d7.mono d6.size)).mono hb.size)
      clear d6 d7 p6 hb
      go_wp2_with fail
      refine (rstate_any w.heap.size A k c os nm x7 (h.below (HB.out x7 b57)) (HB.out x7 b57).size hn12 HK.out.few).mono ?_
      rintro e x8 ⟨y8, rfl, o8, b8⟩
      have P8 := (P7.below b8).more b8.size
      have b58 := b57.trans (b8.mono b57.size)
      clear b8 b57 P7
      go_wp2_with fail
      refine (qsame _ y6 y8 x8 P8 o8.pl (by rw [HK.out.all nm]; have := HU.out; omega)).mono ?_
      rintro e x9 ⟨rfl, b9⟩
      have b59 := b58.trans (b9.mono b58.size)
      clear b9 b58 P8 o8
      go_wp2_with fail
      refine (tresolved_any (HT.out x9 b59) HK.out).mono ?_
      rintro e w17 ⟨A17, c17, rfl, o7, b7⟩
      have b07 := b59.trans (b7.mono b59.size)
      clear b59 b7
      go_wp2_with fail
      refine (rresolved_any w.heap.size A k c os w17 (h.below (HB.out w17 b07)) (HB.out w17 b07).size hn12 HK.out.few).mono ?_
      rintro e w18 ⟨A18, c18, rfl, o8, b8⟩
      have R8 := ((rowned o7).below b8).more b8.size
      have hrl2 : (resL os).length ≤ 100000 := by unfold resL; rw [List.length_map]; have := HK.out.nmsl; omega
      have b08 := b07.trans (b8.mono b07.size)
      clear b07 b8 o7
      go_wp2_with fail
      refine (rsamer_any w18.heap.size A17 A18 _ c17 c18 _ w18 R8 (rowned o8) (Nat.le_refl _) hrl2).mono ?_
      rintro e w19 ⟨rfl, b9⟩
      have b09 := b08.trans (b9.mono b08.size)
      clear b08 b9 R8 o8
      go_wp2_with fail
      refine (tnames_any (HT.out w19 b09) HK.out).mono ?_
      rintro e w24 ⟨A24, c24, rfl, o4, b4'⟩
      have b4 := b09.trans (b4'.mono b09.size)
      clear b4' b09
      go_wp2_with fail
      refine (rnames_any w.heap.size A k c os w24 (h.below (HB.out w24 b4)) (HB.out w24 b4).size hn12 HK.out.few).mono ?_
      rintro e w25 ⟨A25, c25, rfl, o5, b5⟩
      have R5 := ((nowned o4).below b5).more b5.size
      have hnl2 : (nms os).length ≤ 100000 := by have := HK.out.nmsl; omega
      have b05 := b4.trans (b5.mono b4.size)
      clear b4 b5 o4
      go_wp2_with fail
      refine (qtexts R5 (nowned o5) hnl2).mono ?_
      rintro e w26 ⟨rfl, b6⟩
      have B9 := HB.out w26 (b05.trans (b6.mono b05.size))
      go_wp2_with fail
      go_ret
      exact ⟨rfl, B9⟩
end Go.Proofs.YtndjnmeblpjlhaaDoor.Tab
