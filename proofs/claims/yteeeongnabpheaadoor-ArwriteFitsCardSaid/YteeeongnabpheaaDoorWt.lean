/-
  ArwriteFits: the first member that does not fit is reported; the members before it can be written. For every list of members: no condition.
-/
import Derived.Test.YteeeongnabpheaaDoorWn
import Derived.Test.YteeeongnabpheaaDoorWs
import Derived.Test.YteeeongnabpheaaDoorCards
namespace Go.Proofs.YteeeongnabpheaaDoor.Fits5
open Go.ChangeShapes Go.WideShapes Go.ChangeAt Go.RowKit Go.Proofs Go.Proofs.YteeeongnabpheaaDoor.Byt Go.Proofs.YteeeongnabpheaaDoor.Dec Go.Proofs.YteeeongnabpheaaDoor.Lnm Go.Proofs.YteeeongnabpheaaDoor.Hdr Go.Proofs.YteeeongnabpheaaDoor.Arp Go.Proofs.YteeeongnabpheaaDoor.Arw Go.Proofs.YteeeongnabpheaaDoor.Frame

theorem fitL_ok : ∀ (k : Nat) (xs : List Mem), (∀ x ∈ xs, fitsM x = 0) → fitL k xs = (-1, 0)
  | _, [], _ => rfl
  | k, x :: r, h => by
    unfold fitL
    rw [if_pos (h x List.mem_cons_self)]
    exact fitL_ok (k + 1) r fun y hy => h y (List.mem_cons_of_mem _ hy)
theorem fitL_bad : ∀ (k : Nat) (xs : List Mem), (fitL k xs).2 ≠ 0 → ∃ (i : Nat) (h : i < xs.length), fitL k xs = (((k + i : Nat) : Int), fitsM xs[i]) ∧ fitsM xs[i] ≠ 0 ∧ ∀ x ∈ xs.take i, fitsM x = 0
  | _, [], h => absurd rfl h
  | k, x :: r, h => by
    unfold fitL at h ⊢
    by_cases hx : fitsM x = 0
    · rw [if_pos hx] at h ⊢
      obtain ⟨i, hi, e, h1, h2⟩ := fitL_bad (k + 1) r h
      refine ⟨i + 1, by simpa using hi, ?_, h1, fun y hy => ?_⟩
      · rw [e, show k + 1 + i = k + (i + 1) by omega]; rfl
      · rw [List.take_succ_cons, List.mem_cons] at hy
        rcases hy with rfl | hy
        · exact hx
        · exact h2 y hy
    · rw [if_neg hx]
      exact ⟨0, by simp, rfl, hx, by simp⟩
theorem RdM_take {w : World} {K n : Nat} {A : Option Addr} {xs : List Mem} (h : RdM w K A n xs) {k : Nat} (hk : k ≤ n) : RdM w K A k (xs.take k) := by
  refine ⟨by rw [List.length_take, h.1]; omega, fun j hj => ?_⟩
  rw [List.length_take] at hj
  rw [List.getElem_take]
  exact h.2 j (by omega)
theorem RdM_one {w : World} {K n b o : Nat} {xs : List Mem} (h : RdM w K (some ⟨b, o, none⟩) n xs) {k : Nat} (hk : k < xs.length) : RdM w K (some ⟨b, o + k * 6, none⟩) 1 [xs[k]] := by
  refine ⟨rfl, fun j hj => ?_⟩
  obtain rfl : j = 0 := by simp at hj; omega
  obtain ⟨⟨b', o', e, hb, hc⟩, h2, h3⟩ := h.2 k hk
  cases e
  refine ⟨⟨b, o + k * 6, rfl, hb, ?_⟩, h2, h3⟩
  rw [Nat.zero_mul, Nat.add_zero]
  exact hc
/-- A slice taken of a slice, in a walk. -/
theorem wpList_cut {ops : Array Oper} {rest : List Oper} {o : Oper} {a : Act} {Q : Exit → Act → World → Prop} {w : World} (t : TypeId) (x : Operand) (lo hi : Option Operand) (ho : o.op = .slice t x lo hi none) (hgd : o.guard = none) (v : Value)
    (hrun : (Instr.sliceAt t (a.eval x) (lo.map a.eval) (hi.map a.eval) none).run Tryd.prog w = .ok v w) (h : wpList Tryd.prog ops Q rest (a.put o.dst v) w) : wpList Tryd.prog ops Q (o :: rest) a w := by
  refine wpList_plain hgd fun K' hK' => ?_
  unfold Oper.wp execOp
  simp only [ho, Option.map_none, hrun, Sem.run_bind, Sem.run_pure, Result.andThen_ok]
  exact hK' _ _ h
theorem mslice_to (w : World) (b o n c k : Nat) (hk : k ≤ c) : (Instr.sliceAt 23 (.slice (some ⟨b, o, none⟩) n c) none (some (.int .i64 (k : Int))) none).run Tryd.prog w = .ok (.slice (some ⟨b, o, none⟩) k c) w := by
  have h1 : (k : Int) ≤ (c : Int) := by omega
  have h2 : (0 : Int) ≤ (k : Int) := by omega
  have h3 : (0 : Int) ≤ (c : Int) := by omega
  go_simp
theorem mslice_gen (w : World) (b o n c k t : Nat) (hk : k < t) (ht : t ≤ c) : (Instr.sliceAt 23 (.slice (some ⟨b, o, none⟩) n c) (some (.int .i64 (k : Int))) (some (.int .i64 (t : Int))) none).run Tryd.prog w = .ok (.slice (some ⟨b, o + k * 6, none⟩) (t - k) (c - k)) w := by
  have h1 : (t : Int) ≤ (c : Int) := by omega
  have h2 : (k : Int) ≤ (t : Int) := by omega
  have h3 : (k : Int) ≤ (c : Int) := by omega
  have hc : ¬ c = k := by omega
  go_simp
theorem mslice_one (w : World) (b o n c k : Nat) (hk : k < c) : (Instr.sliceAt 23 (.slice (some ⟨b, o, none⟩) n c) (some (.int .i64 (k : Int))) (some (.int .i64 ((k + 1 : Nat) : Int))) none).run Tryd.prog w = .ok (.slice (some ⟨b, o + k * 6, none⟩) 1 (c - k)) w := by
  have h := mslice_gen w b o n c k (k + 1) (by omega) (by omega)
  rw [Nat.add_sub_cancel_left] at h
  exact h

set_option linter.unusedSimpArgs false in
set_option maxRecDepth 100000 in
set_option maxHeartbeats 8000000 in
theorem walk (w : World) (hG : GndP w) (A : Option Addr) (n c : Nat) (xs : List Mem) (h : RdM0 w w.heap.size A n xs) (hnc : n ≤ c) (_hc : c ≤ maxLen) (hB : ∀ x ∈ xs, MB x) :
    Calls Tryd.prog 4 #[.slice A n c] w fun e w' => e = .returned (.bool true) ∧ Below w.heap.size w w' := by
  go_enter Tryd.func4, Tryd.ntmps4
  go_wp2_with fail
  refine (awake_any w hG).mono ?_
  rintro e w1 ⟨rfl, hb1⟩
  go_wp2_with fail
  refine (few5_any w.heap.size A n c xs w1 (h.below hb1) hb1.size).mono ?_
  rintro e w2 ⟨rfl, hb2⟩
  have hb02 := hb1.trans (hb2.mono hb1.size)
  have hs2 : w.heap.size ≤ w2.heap.size := hb02.size
  clear hb1 hb2
  cases hf : fewM xs
  · go_wp2_with fail
    refine (awake_any _ (hG.on hb02)).mono ?_
    rintro e w9 ⟨rfl, hb9⟩
    go_wp2_with fail
    go_ret
    exact ⟨rfl, hb02.trans (hb9.mono hb02.size)⟩
  · obtain ⟨k1, _, k3⟩ := fewM_iff.1 hf
    have hl := hid h.1
    have hM := h.to (fun x hx => (k3 x hx).2)
    have hok : ∀ x ∈ xs, MOk x := fun x hx => (hB x hx).ok (k3 x hx).1 (k3 x hx).2
    have hn20 : n ≤ 20 := by have := hl.out; omega
    clear hf k1 k3 h hB
    go_wp2_with fail
    refine (fits5_any w.heap.size A n c xs w2 (hM.below hb02) hs2 hok (by omega)).mono ?_
    rintro e w3 ⟨rfl, hb3⟩
    have hb03 := hb02.trans (hb3.mono hs2)
    have hs3 : w.heap.size ≤ w3.heap.size := hb03.size
    clear hb3 hb02
    by_cases hz : (fitL 0 xs).2 = 0
    · have hall := (fitL_zero 0 xs).1 hz
      rw [fitL_ok 0 xs hall]
      go_wp2_with fail
      refine (write_any false none 0 0 [] 0 w.heap.size A n c xs w3 (hG.on hb03) (Byt.Rd.nil _ _ _) (Nat.zero_le _) (by omega) (hM.below hb03) hs3 hok hn20).mono ?_
      rintro e w4 ⟨v4, rfl, o4, hb4⟩
      rw [hz]
      have hb04 := hb03.trans (hb4.mono hs3)
      clear hb4 o4 hz
      go_wp2_with fail
      go_ret
      exact ⟨rfl, hb04⟩
    · obtain ⟨i, hi, e1, hne, hall⟩ := fitL_bad 0 xs hz
      rw [e1, Nat.zero_add]
      have hib : i < n := by have := hl.out; omega
      obtain ⟨⟨b, o, rfl, hbK, _⟩, _, _⟩ := hM.2 i hi
      have HE := hid e1
      obtain ⟨fm, hfm⟩ : ∃ fm, fitsM xs[i] = fm := ⟨_, rfl⟩
      have HF := hid hfm
      rw [hfm] at hne ⊢
      have hok1 : ∀ x ∈ xs.take i, MOk x := fun x hx => hok x (List.mem_of_mem_take hx)
      have hokx : ∀ x ∈ [xs[i]], MOk x := fun x hx => by rw [List.mem_singleton] at hx; subst hx; exact hok _ (List.getElem_mem hi)
      have HA := hid hall
      clear hfm e1 hall hz
      have hi0 : ¬ (i : Int) < 0 := by omega
      have hin : ¬ (n : Int) ≤ (i : Int) := by omega
      have hw : IntKind.i64.wrap ((i : Int) + 1) = ((i + 1 : Nat) : Int) := by rw [IntKind.wrap_i64]; omega
      go_wp2_with (refine wpList_cut 23 (.tmp 46) none (some (.tmp 47)) rfl rfl _ (mslice_to w3 b o n c i (by omega)) ?_)
      refine (write_any false none 0 0 [] 0 w.heap.size (some ⟨b, o, none⟩) i c (xs.take i) w3 (hG.on hb03) (Byt.Rd.nil _ _ _) (Nat.zero_le _) (by omega) ((RdM_take hM (by omega)).below hb03) hs3 hok1 (by omega)).mono ?_
      rintro e w4 ⟨v4, rfl, o4, hb4⟩
      rw [(fitL_zero 0 _).2 HA.out]
      have hb04 := hb03.trans (hb4.mono hs3)
      have hs4 : w.heap.size ≤ w4.heap.size := hb04.size
      clear hb4 hb03 o4
      go_wp2_with (refine wpList_cut 23 (.tmp 53) (some (.tmp 54)) (some (.tmp 56)) rfl rfl _ (mslice_one w4 b o n c i (by omega)) ?_)
      refine (write_any false none 0 0 [] 0 w.heap.size (some ⟨b, o + i * 6, none⟩) 1 (c - i) [xs[i]] w4 (hG.on hb04) (Byt.Rd.nil _ _ _) (Nat.zero_le _) (by omega) ((RdM_one hM hi).below hb04) hs4 hokx (by omega)).mono ?_
      rintro e w5 ⟨v5, rfl, o5, hb5⟩
      have e5 : (fitL 0 [xs[i]]).2 = fm := by
        unfold fitL
        rw [if_neg (by rw [HF.out]; exact hne)]
        exact HF.out
      rw [e5]
      have hb05 := hb04.trans (hb5.mono hs4)
      have hs5 : w.heap.size ≤ w5.heap.size := hb05.size
      have eself : (fm == fm) = true := beq_self_eq_true fm
      clear hb5 hb04 o5 e5
      go_wp2_with fail
      refine (offsets_any false 0 w.heap.size (some ⟨b, o, none⟩) n c xs w5 (hG.on hb05) (hM.below hb05) hs5 hok hn20 (by omega)).mono ?_
      rintro e w6 ⟨A6, n6, c6, rfl, o6, hb6⟩
      rw [if_neg (by rw [HE.out]; show fitsM xs[i] ≠ 0; rw [HF.out]; exact hne)] at o6
      have hn6 : n6 = 0 := by have := o6.1; simp [ints] at this; omega
      subst hn6
      have hb06 := hb05.trans (hb6.mono hs5)
      clear hb6 hb05 o6
      go_wp2_with fail
      go_ret
      exact ⟨rfl, hb06⟩

set_option maxRecDepth 100000 in
theorem held : Rows.ArwriteFitsSaid :=
  OpenClaim.holds_of_wide 4 Tryd.f4 rfl rfl rfl rfl rfl rfl rfl ⟨rfl, rfl, rfl, rfl, rfl⟩ rfl rfl rfl rfl rfl (by kernel_rfl) Tryd.func4 (by kernel_rfl)
    (of_decide_eq_true (by kernel_rfl)) (by unfold Func.isWrapper; first | (rw [if_pos (by decide +kernel)]; kernel_rfl) | (rw [if_neg (by decide +kernel)]; exact ⟨rfl, rfl⟩))
    (fun os started H enc _ => liftedG (started := started) (s := Rows.arwriteFitsSpec) (L := Rows.arwriteFitsRow.laid) rfl
      (fun ds h => by match ds, h with | [_], _ => rfl) (by kernel_rfl)
      (by kernel_rfl) (by kernel_rfl) Tryd.func4
      (ChangeSpec.witness_shaped (enc := enc) (C := Tryd.checked) (os := os) (X := fun w _ => laidMetH Tryd.prog Rows.arwriteFitsRow.laid w) false (World.laidAll Tryd.prog os Rows.arwriteFitsRow.laid) #[.slice none 0 0] 8 (World.laidAll_os _ _ _)
        (World.shaped_of_ZipB (by kernel_rfl) (by kernel_rfl)) (by kernel_rfl) (by kernel_rfl) (by kernel_rfl)
        (by rw [MakeChecks.laidMetH_plain _ _ _ (by kernel_rfl)]; exact laidMet_laidAll _ (by kernel_rfl) (by kernel_rfl)))
      gndp_of (fun W base args ds p hG h => by
        obtain ⟨hval, hA, _⟩ := h
        rw [show Tryd.f4.params = #[23] from by kernel_rfl] at hA hval
        obtain ⟨v0, vs0, d0, ds0, p0, q0, hargs, rfl, rfl, k0, r0⟩ := trodAll_cons hA
        obtain ⟨rfl, rfl, rfl⟩ := trodAll_nil r0
        obtain rfl : args = #[v0] := by cases args; simp_all
        obtain ⟨A0, n0, c0, l0, rfl, h0, m0, g0, s0⟩ := open_mems (hval 0 _ v0 rfl rfl) k0
        exact walk W hG A0 n0 c0 l0 h0 m0 g0 s0))
theorem proved : Rows.ArwriteFitsCardSaid :=
  Claim7.holds_tied_plain_at .later [] [.data, .data, .data] true (true, "e71bdd4a64025239ffe3a50cebeb532569b9d8715588fd984b1edff4121d2f15") false held (fun _ h => by cases h) (by kernel_rfl) (fun _ h => by cases h) arwriteFits_row_tie rfl ⟨rfl, rfl⟩ (by kernel_rfl) rfl
    (fun f fn hf hfn => by
      obtain rfl : f = 4 := Option.some.inj ((show Tryd.prog.funcNamed "arlink/arlinklaw05.ArwriteFits" = some 4 by kernel_rfl).symm.trans hf) |>.symm
      obtain rfl : fn = Tryd.f4 := (Option.some.inj (Tryd.func4.symm.trans hfn)).symm
      exact ⟨by kernel_rfl, fun j t ht => by
        rw [Tryd.params4] at ht
        have hm : t ∈ [23] := by simpa using Array.mem_of_getElem? ht
        have hall : ([23].all fun u => !Tryd.prog.wantsStandIn u) = true := by kernel_rfl
        exact (show Tryd.prog.wantsStandIn t = false by simpa using List.all_eq_true.1 hall t hm)⟩)
    (by kernel_rfl)
#print axioms proved
end Go.Proofs.YteeeongnabpheaaDoor.Fits5
