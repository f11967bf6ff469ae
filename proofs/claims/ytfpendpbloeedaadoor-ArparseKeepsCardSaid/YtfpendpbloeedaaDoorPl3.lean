/-
  ArparseKeeps: the argument is not modified, and the result does not share memory with it. No condition.
-/
import Derived.Test.YtfpendpbloeedaaDoorMn
import Derived.Test.YtfpendpbloeedaaDoorMo
import Derived.Test.YtfpendpbloeedaaDoorCards
namespace Go.Proofs.YtfpendpbloeedaaDoor.Keeps4
open Go.ChangeShapes Go.WideShapes Go.ChangeAt Go.RowKit Go.Proofs Go.Proofs.YtfpendpbloeedaaDoor.Byt Go.Proofs.YtfpendpbloeedaaDoor.Dec Go.Proofs.YtfpendpbloeedaaDoor.Lnm Go.Proofs.YtfpendpbloeedaaDoor.Hdr Go.Proofs.YtfpendpbloeedaaDoor.Arp Go.Proofs.YtfpendpbloeedaaDoor.Frame

set_option maxRecDepth 100000 in
set_option maxHeartbeats 2000000 in
theorem big (w : World) (hg : Gnd w) (A : Option Addr) (n c : Nat) (hn : 20000 < n) :
    Calls Tryd.prog 6 #[.slice A n c] w fun e w' => e = .returned (.bool true) ∧ Below w.heap.size w w' := by
  have hni : (20000 : Int) < (n : Int) := by omega
  go_enter Tryd.func6, Tryd.ntmps6
  go_wp2_with fail
  refine (awake_any _ hg).mono ?_
  rintro e w1 ⟨rfl, hb1⟩
  go_wp2_with fail
  refine (awake_any _ (hg.on hb1)).mono ?_
  rintro e w2 ⟨rfl, hb2⟩
  go_wp2_with fail
  go_ret
  exact ⟨rfl, hb1.trans (hb2.mono hb1.size)⟩

/-- Blocks from K on: rows of bytes keep their size and their marks and stay bytes; all else stays. -/
def Same (K : Nat) (V W : World) : Prop := Below K V W ∧ ∀ (g : Nat) (cs : Array Value) (t : TypeId) (m : Nat × Nat), K ≤ g → V.heap[g]? = some (.cells cs t m) →
  (t ≠ 5 → W.heap[g]? = some (.cells cs t m)) ∧
  (t = 5 → ∃ cs' : Array Value, W.heap[g]? = some (.cells cs' t m) ∧ cs'.size = cs.size ∧ ∀ j : Nat, (∃ x : Int, cs[j]? = some (Value.int .u8 x)) → ∃ x : Int, cs'[j]? = some (Value.int .u8 x))
theorem Same.refl (K : Nat) (V : World) : Same K V V := ⟨Below.refl _ _, fun _ cs _ _ _ h => ⟨fun _ => h, fun _ => ⟨cs, h, rfl, fun _ q => q⟩⟩⟩
theorem Same.put {K : Nat} {V W : World} (h : Same K V W) {g i : Nat} {cs : Array Value} {m : Nat × Nat} (hK : K ≤ g) (hg : V.heap[g]? = some (.cells cs 5 m)) (x : Int) : Same K V (W.setCell ⟨g, i, none⟩ (.int .u8 x)) := by
  refine ⟨h.1.setCell (p := ⟨g, i, none⟩) hK _, fun k ds t m' hk hd => ?_⟩
  obtain ⟨h1, h2⟩ := h.2 k ds t m' hk hd
  by_cases e : k = g
  · subst e
    rw [hg] at hd
    injection hd with hd
    injection hd with e1 e2 e3
    subst e1 e2 e3
    refine ⟨fun q => absurd rfl q, fun _ => ?_⟩
    obtain ⟨cs', q1, q2, q3⟩ := h2 rfl
    refine ⟨cs'.setIfInBounds i (.int .u8 x), ?_, by simpa using q2, fun j q => ?_⟩
    · simp [World.setCell, Array.getElem?_modify, q1]
    · obtain ⟨y, hy⟩ := q3 j q
      by_cases hj : i = j
      · subst hj
        have := (Array.getElem?_eq_some_iff.1 hy).1
        exact ⟨x, by simp [this]⟩
      · exact ⟨y, by simp [hj, hy]⟩
  · have hs : (W.setCell ⟨g, i, none⟩ (.int .u8 x)).heap[k]? = W.heap[k]? := Below.heap_setCell W ⟨g, i, none⟩ _ k e
    rw [hs]
    exact ⟨h1, h2⟩
/-- A byte of a slice of the call's own, where rows of bytes may have been written. -/
theorem Same.at_ {K : Nat} {V W : World} (h : Same K V W) {p : Option Addr} {n c : Nat} {l : List UInt8} (ho : Byt.Own V K (.slice p n c) n l) {i : Nat} (hi : i < n) :
    ∃ (g o : Nat) (x : Int), p = some ⟨g, o, none⟩ ∧ n ≤ c ∧ W.cell? ⟨g, o + i, none⟩ = some (.int .u8 x) ∧ W.frozen? ⟨g, o + i, none⟩ = false ∧ ∀ y : Int, Same K V (W.setCell ⟨g, o + i, none⟩ (.int .u8 y)) := by
  have hl := ho.1
  rcases ho.2 with ⟨_, hz⟩ | ⟨g, cap, cur, m, e, hg, hh, hn, hm, hs, ht, hf⟩
  · omega
  · injection e with e1 e2 e3
    subst e1 e3
    obtain ⟨cs', q1, q2, q3⟩ := (h.2 g cur _ m hg hh).2 rfl
    have hc : cur[i]? = some (Value.int .u8 ((l[i]'(by omega)).toNat : Int)) := by
      have h1 : (cur.toList.take n)[i]? = some (Value.int .u8 ((l[i]'(by omega)).toNat : Int)) := by rw [ht]; simp [enc, List.getElem?_eq_getElem (show i < l.length by omega)]
      rw [List.getElem?_take, if_pos (by omega)] at h1
      simpa using h1
    obtain ⟨x, hx⟩ := q3 i ⟨_, hc⟩
    refine ⟨g, 0, x, rfl, hn, by rw [cell_of_row W g (0 + i) cs' 5 m q1, Nat.zero_add]; exact hx, ?_, fun y => h.put hg hh y⟩
    have := hf i (by omega)
    simp [World.frozen?, q1]
    omega
/-- A cell of a row that is no row of bytes. -/
theorem Same.cell {K : Nat} {V W : World} (h : Same K V W) {g j : Nat} {cs : Array Value} {t : TypeId} {m : Nat × Nat} (hV : V.heap[g]? = some (.cells cs t m)) (ht : t ≠ 5) : W.cell? ⟨g, j, none⟩ = cs[j]? := by
  rcases Nat.lt_or_ge g K with hk | hk
  · rw [cell_of_row W g j cs t m ((h.1.block g hk).trans hV)]
  · exact cell_of_row W g j cs t m ((h.2 g cs t m hk hV).1 ht)

theorem Same.mem {K : Nat} {V : World} {p : Option Addr} {n c : Nat} {xs : List Mem} (ho : Cel.Own 32 6 V K (.slice p n c) n (mcells xs)) {k : Nat} (hk : k < n) (hx : k < xs.length) :
    ∃ (g o : Nat), p = some ⟨g, o, none⟩ ∧ n ≤ c ∧ ∀ W, Same K V W → W.cell? ⟨g, o + k * 6 + 5, none⟩ = some (.slice xs[k].ptr xs[k].len xs[k].cap) := by
  rcases ho.2 with ⟨_, hz⟩ | ⟨g, cap, cur, m, e, hg, hh, hn, hm, hs, ht, hf⟩
  · omega
  · injection e with e1 e2 e3
    subst e1 e3
    refine ⟨g, 0, rfl, hn, fun W h => ?_⟩
    rw [h.cell hh (by decide), Nat.zero_add, ← Array.getElem?_toList]
    have h1 := (mcells_at xs k hx).2.2.2.2.2
    rw [← ht, List.getElem?_take] at h1
    split at h1
    · exact h1
    · cases h1

set_option maxRecDepth 100000 in
set_option maxHeartbeats 4000000 in
theorem few (w : World) (hg : Gnd w) (A : Option Addr) (n c : Nat) (l : List UInt8) (hr : Rd w w.heap.size A n l) (_ : n ≤ c) (hn : ¬ 20000 < n) :
    Calls Tryd.prog 6 #[.slice A n c] w fun e w' => e = .returned (.bool true) ∧ Below w.heap.size w w' := by
  have hni : ¬ (20000 : Int) < (n : Int) := by omega
  have Hg := hid hg
  clear hg
  go_enter Tryd.func6, Tryd.ntmps6
  go_wp2_with fail
  refine (awake_any _ Hg.out).mono ?_
  rintro e w1 ⟨rfl, hb1⟩
  go_wp2_with (at_builtin; refine wpList_app _ w1.heap.size _ 0 [] (Own.lit0 w1 w1.heap.size (Nat.le_refl _)) (by simp) A n c w1.heap.size l (((hr.below hb1).more hb1.size).below ((Below.refl w1.heap.size w1).alloc (Nat.le_refl _) _)) (by omega) rfl (.tmp 18) (.tmp 19) rfl rfl rfl ?_; intro v2 w2 ho2 hb2)
  rw [Nat.zero_add, List.nil_append] at ho2
  obtain ⟨A2, c2, rfl, hr2, hc2, _⟩ := ho2.reads
  have hb02 : Below w.heap.size w w2 := hb1.trans ((((Below.refl w1.heap.size w1).alloc (Nat.le_refl _) _).trans hb2).mono hb1.size)
  have hrl2 := (hr.below hb02).more hb02.size
  clear hb1 hb2 hr ho2
  refine (parse_any A2 n c2 l w2 (Hg.out.on hb02) hr2 hc2 (by omega)).mono ?_
  rintro e V0 ⟨X, rfl, _, ho, hbV⟩
  have hr2' := hr2.below hbV
  have hrl' := hrl2.below hbV
  have hb0V := hb02.trans (hbV.mono hb02.size)
  have hKs := hbV.size
  have Hle := hid hb02.size
  obtain ⟨q1, _⟩ := ho.lens
  clear hr2 hrl2 hbV hb02
  obtain ⟨x0, x1, x2, x3, x4, x5, N, x7, x8, x9, x10, x11, x12⟩ := X
  simp only at q1
  obtain ⟨om, oe, od, oo, ⟨sm, _, _, sd⟩⟩ := ho
  simp only at om oe od sm sd
  clear oo
  generalize (ar l).2.1 = kk at *
  generalize (ar l).2.2 = zz at *
  simp only [Arc.val]
  have hrow := heap_alloc_new V0 (.cells #[.bool x0, .slice x1 x2 x3, .slice x5 N x7, .slice x9 x10 x11] 27)
  have hal := (Below.refl V0.heap.size V0).alloc (Nat.le_refl _) (.cells #[.bool x0, .slice x1 x2 x3, .slice x5 N x7, .slice x9 x10 x11] 27)
  have omV := om.below hal
  have oeV := oe.below hal
  have odV := od.keep hal
  have hrV := hr2'.below (hal.mono hKs)
  have hrlV := hrl'.below (hal.mono hKs)
  have hb0 := hb0V.trans (hal.mono hb0V.size)
  go_wp2_with fail
  clear om oe od hal hr2' hrl' hb0V
  generalize hP : V0.heap.size = P at *
  generalize V0.alloc (.cells #[.bool x0, .slice x1 x2 x3, .slice x5 N x7, .slice x9 x10 x11] 27) = V at *
  generalize hK : w2.heap.size = K at *
  go_loopw [7] (fun i W => ∃ k : Nat, i = .int .i64 (k : Int) ∧ k ≤ N ∧ Same K V W) (fun i _ => N - (intOf i).toNat)
  case atStart => exact ⟨0, rfl, Nat.zero_le _, Same.refl _ _⟩
  case round =>
    obtain ⟨k, rfl, hkN, hS⟩ := hrel
    have a2 : wr.cell? ⟨P, 2, none⟩ = some (.slice x5 N x7) := (hS.cell hrow (by decide)).trans rfl
    by_cases hk : k < N
    · have hki : (k : Int) < (N : Int) := by omega
      obtain ⟨g, o, rfl, hNc, hm⟩ := Same.mem oeV hk (by omega)
      have hod := odV x8[k] (List.getElem_mem (by omega))
      have hsd := sd x8[k] (List.getElem_mem (by omega))
      generalize x8[k] = mm at *
      obtain ⟨n0, n1, n2, n3, n4, np, nn, nc, nd⟩ := mm
      simp only at hm hod hsd
      go_wp2_with fail
      go_loopw [8] (fun i W => ∃ j : Nat, i = .int .i64 (j : Int) ∧ j ≤ nn ∧ Same K V W) (fun i _ => nn - (intOf i).toNat)
      case atStart => exact ⟨0, rfl, Nat.zero_le _, hS⟩
      case round =>
        obtain ⟨j, rfl, hjn, hS2⟩ := hrel
        have b2 := (hS2.cell (j := 2) hrow (by decide)).trans rfl
        have hm2 := hm _ hS2
        by_cases hj : j < nn
        · have hji : (j : Int) < (nn : Int) := by omega
          have hjb : (j : Int) + 1 ≤ 140737488355328 := by omega
          obtain ⟨g3, o3, x, rfl, hnc3, hx, hf, hput⟩ := hS2.at_ hod hj
          go_wp2_with fail
          go_roundw
          all_goals first
            | exact ⟨j + 1, rfl, by omega, hput _⟩
            | (simp [intOf]; done)
            | (simp [intOf]; omega)
        · have hji : ¬ (j : Int) < (nn : Int) := by omega
          go_wp2_with fail
          go_roundw
          all_goals first
            | exact ⟨k + 1, rfl, by omega, hS2⟩
            | (simp [intOf]; done)
            | (simp [intOf]; omega)
    · have hki : ¬ (k : Int) < (N : Int) := by omega
      go_wp2_with fail
      go_loopw [9] (fun i W => ∃ j : Nat, i = .int .i64 (j : Int) ∧ j ≤ x2 ∧ Same K V W) (fun i _ => x2 - (intOf i).toNat)
      case atStart => exact ⟨0, rfl, Nat.zero_le _, hS⟩
      case round =>
        obtain ⟨j, rfl, hjn, hS2⟩ := hrel
        have b1 := (hS2.cell (j := 1) hrow (by decide)).trans rfl
        by_cases hj : j < x2
        · have hji : (j : Int) < (x2 : Int) := by omega
          have hjb : (j : Int) + 1 ≤ 140737488355328 := by omega
          obtain ⟨g3, o3, x, rfl, hnc3, hx, hf, hput⟩ := hS2.at_ omV hj
          go_wp2_with fail
          go_roundw
          all_goals first
            | exact ⟨j + 1, rfl, by omega, hput _⟩
            | (simp [intOf]; done)
            | (simp [intOf]; omega)
        · have hji : ¬ (j : Int) < (x2 : Int) := by omega
          go_wp2_with fail
          have hSb := hS2.1
          refine (same_any 11 rfl K K A2 A n c2 n c l l wr (hrV.below hSb) (hrlV.below hSb) (by omega)).mono ?_
          rintro e w9 ⟨rfl, m9, rfl⟩
          rw [show (l == l) = true by simp]
          have Hfin := hid ((hb0.trans (hSb.mono Hle.out)).trans (below_drewN _ m9))
          go_wp2_with fail
          go_ret
          exact ⟨rfl, Hfin.out⟩

theorem walk (w : World) (hg : Gnd w) (A : Option Addr) (n c : Nat) (l : List UInt8) (hr : Rd w w.heap.size A n l) (hnc : n ≤ c) (_ : c ≤ maxLen) :
    Calls Tryd.prog 6 #[.slice A n c] w fun e w' => e = .returned (.bool true) ∧ Below w.heap.size w w' := by
  by_cases h : 20000 < n
  · exact big w hg A n c h
  · exact few w hg A n c l hr hnc h

set_option maxRecDepth 100000 in
theorem held : Rows.ArparseKeepsSaid :=
  OpenClaim.holds_of_wide 6 Tryd.f6 rfl rfl rfl rfl rfl rfl rfl ⟨rfl, rfl, rfl, rfl, rfl⟩ rfl rfl rfl rfl rfl (by kernel_rfl) Tryd.func6 (by kernel_rfl)
    (of_decide_eq_true (by kernel_rfl)) (by unfold Func.isWrapper; first | (rw [if_pos (by decide +kernel)]; kernel_rfl) | (rw [if_neg (by decide +kernel)]; exact ⟨rfl, rfl⟩))
    (fun os started H enc _ => liftedG (started := started) (s := Rows.arparseKeepsSpec) (L := Rows.arparseKeepsRow.laid) rfl
      (fun ds h => by match ds, h with | [_], _ => rfl) (by kernel_rfl)
      (by kernel_rfl) (by kernel_rfl) Tryd.func6
      (ChangeSpec.witness_shaped (enc := enc) (C := Tryd.checked) (os := os) (X := fun w _ => laidMetH Tryd.prog Rows.arparseKeepsRow.laid w) false (World.laidAll Tryd.prog os Rows.arparseKeepsRow.laid) #[.slice none 0 0] 8 (World.laidAll_os _ _ _)
        (World.shaped_of_ZipB (by kernel_rfl) (by kernel_rfl)) (by kernel_rfl) (by kernel_rfl) (by kernel_rfl)
        (by rw [MakeChecks.laidMetH_plain _ _ _ (by kernel_rfl)]; exact laidMet_laidAll _ (by kernel_rfl) (by kernel_rfl)))
      gnd_of (fun W base args ds p hG h => by
        obtain ⟨hval, hA, _⟩ := h
        rw [show Tryd.f6.params = #[22] from by kernel_rfl] at hA hval
        obtain ⟨v0, vs0, d0, ds0, p0, q0, hargs, rfl, rfl, k0, r0⟩ := trodAll_cons hA
        obtain ⟨rfl, rfl, rfl⟩ := trodAll_nil r0
        obtain rfl : args = #[v0] := by cases args; simp_all
        obtain ⟨A0, n0, c0, l0, rfl, h0, m0, g0⟩ := open_bytes (hval 0 _ v0 rfl rfl) k0
        exact walk W hG A0 n0 c0 l0 h0 m0 g0))
theorem proved : Rows.ArparseKeepsCardSaid :=
  Claim7.holds_tied_plain_at .later [] [.data, .pinned] true (true, "48f2ff196254b2af6b45da2ec089731cc37ebc39530793c05c357d595e7f75e7") false held (fun _ h => by cases h) (by kernel_rfl) (fun _ h => by cases h) arparseKeeps_row_tie rfl ⟨rfl, rfl⟩ (by kernel_rfl) rfl
    (fun f fn hf hfn => by
      obtain rfl : f = 6 := Option.some.inj ((show Tryd.prog.funcNamed "arlink/arlinklaw04.ArparseKeeps" = some 6 by kernel_rfl).symm.trans hf) |>.symm
      obtain rfl : fn = Tryd.f6 := (Option.some.inj (Tryd.func6.symm.trans hfn)).symm
      exact ⟨by kernel_rfl, fun j t ht => by
        rw [Tryd.params6] at ht
        have hm : t ∈ [22] := by simpa using Array.mem_of_getElem? ht
        have hall : ([22].all fun u => !Tryd.prog.wantsStandIn u) = true := by kernel_rfl
        exact (show Tryd.prog.wantsStandIn t = false by simpa using List.all_eq_true.1 hall t hm)⟩)
    (by kernel_rfl)
#print axioms proved
end Go.Proofs.YtfpendpbloeedaaDoor.Keeps4
