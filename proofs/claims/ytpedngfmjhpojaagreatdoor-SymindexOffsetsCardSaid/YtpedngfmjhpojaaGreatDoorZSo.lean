/-
  SymindexOffsets: each offset of the index is that of a member that defines the symbol. For every list of members and every number: no condition.
-/
import Derived.Test.YtpedngfmjhpojaaGreatDoorZSe
import Derived.Test.YtpedngfmjhpojaaGreatDoorZSg
import Derived.Test.YtpedngfmjhpojaaGreatDoorZSl
import Derived.Test.YtpedngfmjhpojaaGreatDoorCards
import Derived.BigQuiet
namespace Go.Proofs.YtpedngfmjhpojaaGreatDoor.Offs8
open Go.ChangeShapes Go.WideShapes Go.ChangeAt Go.RowKit Go.Proofs Go.Proofs.YtpedngfmjhpojaaGreatDoor.Byt Go.Proofs.YtpedngfmjhpojaaGreatDoor.Six Go.Proofs.YtpedngfmjhpojaaGreatDoor.Frame
open Go.Proofs.YtpedngfmjhpojaaGreatDoor.Lnm (GndP)
open Go.Proofs.YtpedngfmjhpojaaGreatDoor.Arp (Mem RdM)
open Go.Proofs.YtpedngfmjhpojaaGreatDoor.Arw (RdM0 fewM core fitL)
open Go.Proofs.YtpedngfmjhpojaaGreatDoor.Amp (En RdE)

set_option linter.unusedSimpArgs false in
set_option maxRecDepth 100000 in
set_option maxHeartbeats 2000000 in
theorem walk (w : World) (hG : GndP w) (A : Option Addr) (n c : Nat) (xs : List Mem) (h : RdM0 w w.heap.size A n xs) (_hnc : n ≤ c) (_hc : c ≤ maxLen) (hB : ∀ x ∈ xs, MB x) (a : Nat) (ha : a < 256) :
    Calls Tryz.prog 5 #[.slice A n c, .int .u8 (a : Int)] w fun e w' => e = .returned (.bool true) ∧ Below w.heap.size w w' := by
  have HP := hid pc
  have HB := hid hB
  clear hB
  go_enter Tryz.func5, Tryz.ntmps5
  go_wp2_with fail
  refine (awake8_any HP.out w hG).mono ?_
  rintro e w1 ⟨rfl, B1⟩
  have hK1 := B1.size
  go_wp2_with fail
  refine (Arw.few5_any w.heap.size A n c xs w1 (h.below B1) hK1).mono ?_
  rintro e w2 ⟨rfl, hb2⟩
  have B2 := B1.trans (hb2.mono hK1)
  have g2 := hG.on B2
  clear hb2 B1 hK1
  cases hf : fewM xs
  · go_wp2_with fail
    refine (awake8_any HP.out w2 g2).mono ?_
    rintro e w9 ⟨rfl, hb9⟩
    go_wp2_with fail
    go_ret
    exact ⟨rfl, B2.trans (hb9.mono B2.size)⟩
  · have aL := arg8_of g2 h B2 HB.out hf
    clear hf g2
    go_wp2_with fail
    refine (HP.out.index _ A n c xs w2 aL).mono ?_
    rintro e w3 hI
    obtain ⟨A3, n3, c3, rfl, hn3, r3, _, _, hb3⟩ := hI.reads
    have HB3 := hid (B2.trans (hb3.mono B2.size))
    have HA3 := hid (aL.on hb3)
    have Hl := hid aL.rd.1
    have hn20 := aL.n20
    obtain ⟨z2, hz2⟩ : ∃ z2, (fitL 0 xs).2 = z2 := ⟨_, rfl⟩
    rw [hz2]
    have HZ := hid hz2
    clear hb3 B2 aL hI hz2
    by_cases hz : z2 = 0
    · have hzb : (z2 != 0) = false := by rw [hz]; rfl
      have HOk : Hid ((fitL 0 xs).2 = 0) := hid (HZ.out.trans hz)
      have ei : iOut xs = idx xs := by unfold iOut; rw [if_pos HOk.out]
      rw [ei] at r3
      have Hn3 : Hid ((idx xs).length = n3) := hid r3.1
      have hn3b : n3 ≤ 1000 := by rw [← Hn3.out]; exact HA3.out.few.idx_len
      have HRE := hid r3
      clear hz ei hn3 r3
      by_cases h0 : n3 = 0
      · have h0b : ((n3 : Int) == 0) = true := by simp [h0]
        have h0n : (n3 == 0) = true := by simp [h0]
        have h0d : decide (n3 = 0) = true := by simp [h0]
        subst h0
        go_wp2_with fail
        go_ret
        exact ⟨rfl, HB3.out⟩
      · have h0b : ((n3 : Int) == 0) = false := by simp [h0]
        have h0n : (n3 == 0) = false := by simp [h0]
        have hne : ¬ (n3 : Int) = 0 := by omega
        have g1 : IntKind.i64.wrap (a : Int) = (a : Int) := by rw [IntKind.wrap_i64]; omega
        have hlt : a % n3 < n3 := Nat.mod_lt _ (by omega)
        have g2 : (a : Int).tmod (n3 : Int) = ((a % n3 : Nat) : Int) := rfl
        have g3 : IntKind.i64.wrap ((a % n3 : Nat) : Int) = ((a % n3 : Nat) : Int) := by rw [IntKind.wrap_i64]; omega
        generalize a % n3 = q at *
        have hqi : (q : Int) < (n3 : Int) := by omega
        have hql : q < (idx xs).length := by have := Hn3.out; omega
        obtain ⟨b, o, rfl, _, e0, e1⟩ := HRE.out.2 q hql
        obtain ⟨k, hk, hat, hmem⟩ := idx_home HOk.out (List.getElem_mem hql)
        generalize (idx xs)[q] = x at *
        obtain ⟨s, z⟩ := x
        simp only at *
        have Hmem := hid hmem
        have hai : atI xs z = (k : Int) := by unfold atI; rw [hat]; rfl
        have hab : atB xs z = true := by unfold atB; rw [hat]; rfl
        have hrow := heap_alloc_new w3 (.cells #[.string s, .int .i64 z] 51)
        have hbA := (Below.refl w3.heap.size w3).alloc (Nat.le_refl _) (.cells #[.string s, .int .i64 z] 51)
        have hszA := World.size_alloc w3 (.cells #[.string s, .int .i64 z] 51)
        have HA4 := hid (HA3.out.on hbA)
        clear hql hmem hat
        go_upto_region 7 with fail
        generalize w3.alloc (.cells #[.string s, .int .i64 z] 51) = w4 at *
        generalize hg : w3.heap.size = g at hrow hbA hszA ⊢
        have Hg := hid hg
        clear hg e0 e1 g1 g2 g3
        have d1 := cell_of_row _ g 1 _ _ _ hrow
        go_wp2_with fail
        refine (HP.out.at_ _ A n c xs z w4 HA4.out).mono ?_
        rintro e w5 ⟨rfl, hb5⟩
        rw [hai, hab]
        have hrow5 := (hb5.block g (by omega)).trans hrow
        have hg5 : g < w5.heap.size := by have := hb5.size; omega
        have HA5 := hid (HA4.out.on hb5)
        have HB5 := hid (HB3.out.trans ((by rw [Hg.out]; exact hbA.trans (hb5.mono (by omega)) : Below w3.heap.size w3 w5).mono HB3.out.size))
        have hkn : k < n := by have := Hl.out; omega
        have hki : (k : Int) < (n : Int) := by omega
        have hk0 : ¬ (k : Int) < 0 := by omega
        have hkd : decide ((n : Int) ≤ (k : Int)) = false := decide_eq_false (by omega)
        have hke : decide (n ≤ k) = false := decide_eq_false (by omega)
        obtain ⟨b6, o6, rfl, _, hcell, hrd⟩ := rdm_cell HA5.out.rd hk
        have hx1 := (HA5.out.few.ok _ (List.getElem_mem hk)).len
        have hx9 : xs[k].data.length ≤ 1000 := by rw [HA5.out.few.len _ (List.getElem_mem hk)]; exact hx1
        obtain ⟨hx3, _⟩ := HA5.out.cap _ (List.getElem_mem hk)
        have HC := hid (rdefs_any w.heap.size xs[k].ptr xs[k].len xs[k].cap xs[k].data w5 hrd HA5.out.hK hx3 (by omega))
        generalize xs[k] = x at *
        obtain ⟨x0, x1, x2, x3', x4', x5, x6, x7, x8⟩ := x
        simp only at *
        clear hx1 hx3 hrd hai hab hrow hszA hbA d1 hb5 HA4
        go_wp2_with fail
        refine HC.out.mono ?_
        rintro e w6 hD
        obtain ⟨A6, n6, c6, rfl, hn6, _, r6, _, _, hb6⟩ := hD.reads
        have Hn6 := hid hn6
        have HR6 := hid r6
        have hrow6 := (hb6.block g hg5).trans hrow5
        have hg6 : g < w6.heap.size := by have := hb6.size; omega
        have HB6 := hid (HB5.out.trans (hb6.mono HB5.out.size))
        have hn6b : n6 ≤ 100000 := by
          have h1 := defs_len x8
          have h2 := Hn6.out
          omega
        generalize defs x8 = ds at *
        clear hD hb6 hn6 r6 HC hcell hrow5 hg5
        go_wp2_with fail
        go_loopw [11] (fun jv W => ∃ j : Nat, jv = .int .i64 (j : Int) ∧ j ≤ n6 ∧ Hid (∀ i (hi : i < ds.length), i < j → ds[i] ≠ s) ∧ Below w6.heap.size w6 W) (fun jv _ => n6 - (intOf jv).toNat)
        case atStart => exact ⟨0, rfl, by omega, hid (fun i _ h => by omega), Below.refl _ _⟩
        case round =>
          obtain ⟨j, rfl, hj, HN, hb⟩ := hrel
          by_cases hjt : j < n6
          · have hjl : j < ds.length := by have := Hn6.out; omega
            have hji : (j : Int) < (n6 : Int) := by omega
            obtain ⟨b8, o8, rfl, _, hc8⟩ := (HR6.out.below hb).2 j hjl
            have d0 := cell_of_row _ g 0 _ _ _ ((hb.block g hg6).trans hrow6)
            have HM : Hid (ds[j] ≠ s → ∀ i (hi : i < ds.length), i < j + 1 → ds[i] ≠ s) := hid fun q i hi hij => by
              by_cases e : i = j
              · subst e; exact q
              · exact HN.out i hi (by omega)
            generalize ds[j] = t at *
            cases ht : (t.toList == s.toList)
            · have HR := hid (HM.out fun e => by rw [e, beq_self_eq_true] at ht; cases ht)
              go_wp2_with fail
              try go_quiet (fail)
              go_wp2_with fail
              go_roundw
              · exact ⟨j + 1, by go_num, by omega, HR, hb.trans ⟨rfl, rfl, rfl, Nat.le_refl _, fun _ _ => rfl⟩⟩
              · simp [intOf]; omega
            · have B9 := HB6.out.trans (hb.mono HB6.out.size)
              go_wp2_with fail
              try go_quiet (fail)
              go_wp2_with fail
              go_ret
              exact ⟨rfl, B9.trans ⟨rfl, rfl, rfl, Nat.le_refl _, fun _ _ => rfl⟩⟩
          · exfalso
            obtain ⟨i, hi, e⟩ := List.mem_iff_getElem.1 Hmem.out
            exact HN.out i hi (by have := Hn6.out; omega) e
    · have hzb : (z2 != 0) = true := by simpa using hz
      clear hz
      go_wp2_with fail
      go_ret
      exact ⟨rfl, HB3.out⟩

set_option maxRecDepth 100000 in
theorem held : Rows.SymindexOffsetsSaid :=
  OpenClaim.holds_of_wide 5 Tryz.f5 rfl rfl rfl rfl rfl rfl rfl ⟨rfl, rfl, rfl, rfl, rfl⟩ rfl rfl rfl rfl rfl (by kernel_rfl) Tryz.func5 (by kernel_rfl)
    (of_decide_eq_true (by kernel_rfl)) (by unfold Func.isWrapper; first | (rw [if_pos (by decide +kernel)]; kernel_rfl) | (rw [if_neg (by decide +kernel)]; exact ⟨rfl, rfl⟩))
    (fun os started H enc _ => liftedG (started := started) (s := Rows.symindexOffsetsSpec) (L := Rows.symindexOffsetsRow.laid) rfl
      (fun ds h => by match ds, h with | [_, _], _ => rfl) (by kernel_rfl)
      (by kernel_rfl) (by kernel_rfl) Tryz.func5
      (ChangeSpec.witness_shaped (enc := enc) (C := Tryz.checked) (os := os) (X := fun w _ => laidMetH Tryz.prog Rows.symindexOffsetsRow.laid w) false (World.laidAll Tryz.prog os Rows.symindexOffsetsRow.laid) #[.slice none 0 0, .int .u8 0] 8 (World.laidAll_os _ _ _)
        (World.shaped_of_ZipB (by kernel_rfl) (by kernel_rfl)) (by kernel_rfl) (by kernel_rfl) (by kernel_rfl)
        (by rw [MakeChecks.laidMetH_plain _ _ _ (by kernel_rfl)]; exact laidMet_laidAll _ (by kernel_rfl) (by kernel_rfl)))
      gndp_of (fun W base args ds p hG h => by
        obtain ⟨hval, hA, _⟩ := h
        rw [show Tryz.f5.params = #[22, 5] from by kernel_rfl] at hA hval
        obtain ⟨v0, vs0, d0, ds0, p0, q0, hargs, rfl, rfl, k0, r0⟩ := trodAll_cons hA
        obtain ⟨v1, vs1, d1, ds1, p1, q1, rfl, rfl, rfl, k1, r1⟩ := trodAll_cons r0
        obtain ⟨rfl, rfl, rfl⟩ := trodAll_nil r1
        obtain rfl : args = #[v0, v1] := by cases args; simp_all
        obtain ⟨A0, n0, c0, l0, rfl, h0, m0, g0, s0⟩ := open_mems (hval 0 _ v0 rfl rfl) k0
        obtain ⟨a1, rfl, u1⟩ := open_u8 (hval 1 _ v1 rfl rfl) k1
        exact walk W hG A0 n0 c0 l0 h0 m0 g0 s0 a1 u1))
theorem proved : Rows.SymindexOffsetsCardSaid :=
  Claim7.holds_tied_plain_at .later [] [.data, .data, .data] true (true, "ae1ecf1e86fc5b02924e1b3ccece8f708fc2caf9649942e1bcdfec833af225aa") true held (fun _ h => by cases h) (by kernel_rfl) (fun _ h => by cases h) symindexOffsets_row_tie rfl ⟨rfl, rfl⟩ (by kernel_rfl) rfl
    (fun f fn hf hfn => by
      obtain rfl : f = 5 := Option.some.inj ((show Tryz.prog.funcNamed "arlink/arlinklaw08.SymindexOffsets" = some 5 by kernel_rfl).symm.trans hf) |>.symm
      obtain rfl : fn = Tryz.f5 := (Option.some.inj (Tryz.func5.symm.trans hfn)).symm
      exact ⟨by kernel_rfl, fun j t ht => by
        rw [Tryz.params5] at ht
        have hm : t ∈ [22, 5] := by simpa using Array.mem_of_getElem? ht
        have hall : ([22, 5].all fun u => !Tryz.prog.wantsStandIn u) = true := by kernel_rfl
        exact (show Tryz.prog.wantsStandIn t = false by simpa using List.all_eq_true.1 hall t hm)⟩)
    (by kernel_rfl)
#print axioms proved
end Go.Proofs.YtpedngfmjhpojaaGreatDoor.Offs8
