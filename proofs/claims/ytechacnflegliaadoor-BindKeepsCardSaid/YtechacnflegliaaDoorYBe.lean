/-
  bind: the library's Grow and Concat of numbers.
-/
import Derived.Test.YtechacnflegliaaDoorYBd
import Derived.Lib.AppendZeros
namespace Go.Proofs.YtechacnflegliaaDoor.Bnd
open Go.RowKit Go.Proofs Go.Proofs.YtechacnflegliaaDoor.Byt
open Go.Proofs.YtechacnflegliaaDoor.Arp (RdI)

/-- Room for members. -/
def GrowP (w : World) (e : Ending) (w' : World) : Prop :=
  ∃ A c, e = .returned (.slice A 0 c) ∧ Cel.Own 3 1 w' w.heap.size (.slice A 0 c) 0 [] ∧ Below w.heap.size w w'
set_option linter.unusedSimpArgs false in
set_option maxRecDepth 100000 in
set_option maxHeartbeats 2000000 in
theorem grow_any (n : Nat) (w : World) (hn : n ≤ 400000) :
    Calls Tryd.prog 25 #[.slice none 0 0, .int .i64 (n : Int)] w (GrowP w) := by
  by_cases h0 : n = 0
  · subst h0
    go_enter Tryd.func25, Tryd.ntmps25
    go_wp2_with fail
    go_ret
    exact ⟨none, 0, rfl, Cel.Own.nil _ _ _ _, Below.refl _ _⟩
  · have hpos : (0 : Int) < (n : Int) := by omega
    have hneg : ¬ (n : Int) < 0 := by omega
    obtain ⟨i, hi, hz0, hz1, hz2⟩ := info_parts kI.info
    have hr := Lib.run_append_nil_zeros (P := Tryd.prog) w 25 3 25 3 i _ .i64 .i64 kI.under Tryd.underlying3 hi hz0 n (by omega) (by omega) (by omega) (by rw [hz2]; omega)
    have Hcm := hid (grownCap_le_maxLen w n 0 3 (by unfold maxLen; omega))
    have ho : Cel.Own 3 1 (w.drew.alloc (.cells (Builtin.zeroCells (Value.int .i64 0).cells n ++ Builtin.zeroCells (Value.int .i64 0).cells (grownCap w n 0 3 - n)) 3)) w.heap.size (.slice (some ⟨w.heap.size, 0, none⟩) 0 (grownCap w n 0 3)) 0 [] := by
      have hge : n ≤ grownCap w n 0 3 := by have := grownCap_ge w n 0 3; omega
      refine ⟨rfl, .inr ⟨w.heap.size, _, _, (0, 0), rfl, Nat.le_refl _, heap_alloc_new w.drew _, by omega, Hcm.out, ?_, by simp, fun j _ hj => by simp at hj⟩⟩
      rw [Array.size_append, size_zeroCells, size_zeroCells, kI.cells, ← Nat.add_mul]
      congr 1
      omega
    have hb : Below w.heap.size w (w.drew.alloc (.cells (Builtin.zeroCells (Value.int .i64 0).cells n ++ Builtin.zeroCells (Value.int .i64 0).cells (grownCap w n 0 3 - n)) 3)) := (Below.refl _ w).drew.alloc (Nat.le_refl _) _
    generalize w.drew.alloc (.cells (Builtin.zeroCells (Value.int .i64 0).cells n ++ Builtin.zeroCells (Value.int .i64 0).cells (grownCap w n 0 3 - n)) 3) = w1 at *
    generalize grownCap w n 0 3 = cap at *
    have Hr := hid hr
    clear hr hi hz0 hz1 hz2 h0
    go_enter Tryd.func25, Tryd.ntmps25
    go_wp2_with (at_builtin; refine Lib.wpList_append_run _ rfl _ _ _ _ rfl _ _ rfl rfl _ _ Hr.out ?_)
    go_ret
    exact ⟨_, _, rfl, ho, hb⟩

/-- Lists one after the other. -/
structure Seg where
  A : Option Addr
  n : Nat
  c : Nat
  xs : List Int
def segs (ss : List Seg) : List Int := ss.flatMap (·.xs)
theorem segs_snoc (ss : List Seg) (s : Seg) : segs (ss ++ [s]) = segs ss ++ s.xs := by simp [segs]
theorem segs_take {ss : List Seg} {k : Nat} (hk : k < ss.length) : segs (ss.take (k + 1)) = segs (ss.take k) ++ ss[k].xs := by
  rw [List.take_succ_eq_append_getElem hk, segs_snoc]
theorem segs_len {ss : List Seg} {w : World} {K : Nat} (h : ∀ s ∈ ss, RdI w K s.A s.n s.xs ∧ s.n ≤ 100000) : (segs ss).length ≤ ss.length * 100000 := by
  induction ss with
  | nil => simp [segs]
  | cons s r ih =>
    have h1 := h s (by simp)
    have h2 := ih fun t ht => h t (by simp [ht])
    have h3 := h1.1.1
    rw [show segs (s :: r) = s.xs ++ segs r from rfl, List.length_append, List.length_cons]
    omega
/-- Lists joined, in a list that the call has made. -/
def JoinP (xs : List Int) (w : World) (e : Ending) (w' : World) : Prop :=
  ∃ A c, e = .returned (.slice A xs.length c) ∧ Cel.Own 3 1 w' w.heap.size (.slice A xs.length c) xs.length (ints xs) ∧ Below w.heap.size w w'
set_option linter.unusedSimpArgs false in
set_option maxRecDepth 100000 in
set_option maxHeartbeats 4000000 in
theorem concat_any (K b k : Nat) (ss : List Seg) (w : World) (hk : ss.length = k) (hk3 : k ≤ 3) (hrow : ∀ W, Below w.heap.size w W → ∀ j (h : j < ss.length), W.cell? ⟨b, j, none⟩ = some (.slice ss[j].A ss[j].n ss[j].c))
    (hR : ∀ s ∈ ss, RdI w K s.A s.n s.xs ∧ s.n ≤ 100000) (hK : K ≤ w.heap.size) :
    Calls Tryd.prog 21 #[.slice (some ⟨b, 0, none⟩) k k] w (JoinP (segs ss) w) := by
  have Hk := hid hk
  have Hrow := hid hrow
  have hL := segs_len hR
  have Hlen : ∀ j, (segs (ss.take j)).length ≤ 300000 := fun j => by
    have h1 := segs_len (ss := ss.take j) fun s hs => hR s (List.mem_of_mem_take hs)
    have h2 : (ss.take j).length ≤ 3 := by rw [List.length_take]; omega
    omega
  have HL := hid Hlen
  clear hk hrow hL Hlen
  go_enter Tryd.func21, Tryd.ntmps21
  go_wp2_with fail
  go_loopw [3, 11] (fun v i W => ∃ j : Nat, i = .int .i64 (j : Int) ∧ j ≤ k ∧ v = .int .i64 ((segs (ss.take j)).length : Int) ∧ w = W) (fun _ i _ => k - (intOf i).toNat)
  case atStart => exact ⟨0, rfl, by omega, by simp [segs], rfl⟩
  case round =>
    obtain ⟨j, rfl, hj, rfl, rfl⟩ := hrel
    by_cases hlt : j < k
    · have hjl : j < ss.length := by have := Hk.out; omega
      have hji : (j : Int) < (k : Int) := by omega
      have hc := Hrow.out w (Below.refl _ _) j hjl
      obtain ⟨hM, hn⟩ := hR ss[j] (List.getElem_mem hjl)
      have HT : Hid ((segs (ss.take (j + 1))).length = (segs (ss.take j)).length + ss[j].n) := hid (by rw [segs_take hjl, List.length_append, hM.1])
      have h1 := HL.out j
      generalize ss[j] = s at *
      obtain ⟨sA, sn, sc, sx⟩ := s
      simp only at *
      generalize (segs (ss.take j)).length = q at *
      clear hM
      go_wp2_with fail
      go_roundw
      · exact ⟨j + 1, by go_num, by omega, by rw [HT.out]; go_num, by first | rfl | trivial⟩
      · simp [intOf]; omega
    · obtain rfl : j = k := by omega
      have hji : ¬ (j : Int) < (j : Int) := by omega
      have h1 := HL.out j
      generalize (segs (ss.take j)).length = q at *
      have HG := hid (grow_any q w (by omega))
      go_wp2_with fail
      refine HG.out.mono ?_
      rintro e w1 ⟨A0, c0, rfl, ho0, hb0⟩
      have hs0 := hb0.size
      clear HG
      go_wp2_with fail
      go_loopw [6, 27] (fun v i W => ∃ (m p : Nat) (A1 : Option Addr) (c1 : Nat), i = .int .i64 (m : Int) ∧ m ≤ j ∧ v = .slice A1 p c1 ∧ Hid (p = (segs (ss.take m)).length) ∧ Cel.Own 3 1 W w.heap.size (.slice A1 p c1) p (ints (segs (ss.take m))) ∧ Below w.heap.size w W) (fun _ i _ => j - (intOf i).toNat)
      case atStart => exact ⟨0, 0, A0, c0, rfl, by omega, rfl, hid rfl, ho0, hb0⟩
      case round =>
        obtain ⟨m, p, A1, c1, rfl, hm, rfl, hp, hO, hb1⟩ := hrel
        have hbs := hb1.size
        by_cases hlt2 : m < j
        · have hml : m < ss.length := by have := Hk.out; omega
          have hmi : (m : Int) < (j : Int) := by omega
          have hc := Hrow.out _ hb1 m hml
          obtain ⟨hM, hn⟩ := hR ss[m] (List.getElem_mem hml)
          have hM2 := Arp.RdI.cells.1 (hM.below (hb1.mono hK))
          have HT : Hid (segs (ss.take (m + 1)) = segs (ss.take m) ++ ss[m].xs) := hid (segs_take hml)
          have HN := hid hM.1
          have h2 : p ≤ 300000 := by rw [hp.out]; exact HL.out m
          generalize ss[m] = s at *
          obtain ⟨sA, sn, sc, sx⟩ := s
          simp only at *
          clear hM
          go_wp2_with (at_builtin; go_must (refine Cel.wpList_rd kI _ w.heap.size K (.slice A1 p c1) p _ hO hbs sA sn sc (ints sx) hM2 ints_one (by omega) (by omega) rfl (.tmp 31) (.tmp 32) rfl rfl rfl ?_; intro v4 w4 ho4 hb4; obtain ⟨A4, c4, rfl, _⟩ := ho4.reads))
          have ho4' : Cel.Own 3 1 w4 w.heap.size (.slice A4 (p + sn) c4) (p + sn) (ints (segs (ss.take (m + 1)))) := by rw [HT.out, ints_append]; exact ho4
          have hp4 : Hid (p + sn = (segs (ss.take (m + 1))).length) := hid (by rw [HT.out, List.length_append, ← hp.out, HN.out])
          have hb04 := hb1.trans hb4
          clear ho4 hb4 hO hb1 hc hM2
          go_roundw
          · exact ⟨m + 1, p + sn, A4, c4, by go_num, by omega, rfl, hp4, ho4', hb04⟩
          · simp [intOf]; omega
        · obtain rfl : m = j := by omega
          have hmi : ¬ (m : Int) < (m : Int) := by omega
          have hT : ss.take m = ss := List.take_of_length_le (by have := Hk.out; omega)
          rw [hT] at hp hO
          have HP := hid hp.out
          clear hT hp
          go_wp2_with fail
          go_ret
          have e := HP.out
          subst e
          exact ⟨A1, c1, rfl, hO, hb1⟩
end Go.Proofs.YtechacnflegliaaDoor.Bnd
