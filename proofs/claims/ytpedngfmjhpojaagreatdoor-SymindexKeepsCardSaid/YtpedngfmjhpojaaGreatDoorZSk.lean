/-
  SymindexKeeps: arguments are not modified, and modifying a result does not change later results. For every list of members: no condition.
-/
import Derived.Test.YtpedngfmjhpojaaGreatDoorZSe
import Derived.Test.YtpedngfmjhpojaaGreatDoorZSg
import Derived.Test.YtpedngfmjhpojaaGreatDoorCards
namespace Go.Proofs.YtpedngfmjhpojaaGreatDoor.Keeps8
open Go.ChangeShapes Go.WideShapes Go.ChangeAt Go.RowKit Go.Proofs Go.Proofs.YtpedngfmjhpojaaGreatDoor.Byt Go.Proofs.YtpedngfmjhpojaaGreatDoor.Six Go.Proofs.YtpedngfmjhpojaaGreatDoor.Frame
open Go.Proofs.YtpedngfmjhpojaaGreatDoor.Lnm (GndP)
open Go.Proofs.YtpedngfmjhpojaaGreatDoor.Arp (Mem RdM)
open Go.Proofs.YtpedngfmjhpojaaGreatDoor.Arw (RdM0 fewM core)

set_option linter.unusedSimpArgs false in
set_option maxRecDepth 100000 in
set_option maxHeartbeats 8000000 in
theorem walk (w : World) (hG : GndP w) (A : Option Addr) (n c : Nat) (xs : List Mem) (h : RdM0 w w.heap.size A n xs) (_hnc : n ≤ c) (_hc : c ≤ maxLen) (hB : ∀ x ∈ xs, MB x) :
    Calls Tryz.prog 6 #[.slice A n c] w fun e w' => e = .returned (.bool true) ∧ Below w.heap.size w w' := by
  have HP := hid pc
  have HB := hid hB
  clear hB
  go_enter Tryz.func6, Tryz.ntmps6
  go_wp2_with fail
  refine (awake8_any HP.out w hG).mono ?_
  rintro e w1 ⟨rfl, B1⟩
  have hK1 := B1.size
  go_wp2_with fail
  refine (Arw.few5_any w.heap.size A n c xs w1 (h.below B1) hK1).mono ?_
  rintro e w2 ⟨rfl, hb2⟩
  have B2 := B1.trans (hb2.mono hK1)
  have g2 := hG.on B2
  clear hb2 B1 hK1
  cases hf : fewM xs
  · go_wp2_with fail
    refine (awake8_any HP.out w2 g2).mono ?_
    rintro e w9 ⟨rfl, hb9⟩
    go_wp2_with fail
    go_ret
    exact ⟨rfl, B2.trans (hb9.mono B2.size)⟩
  · have aL := arg8_of g2 h B2 HB.out hf
    clear hf g2
    go_wp2_with fail
    refine (Arw.rcopy_any w.heap.size A n c xs w2 aL.rd aL.hK aL.few.ok aL.n20).mono ?_
    rintro e w3 ⟨A3, n3, c3, ys, rfl, rM, hcore, hb3, hcap⟩
    have B3 := B2.trans (hb3.mono B2.size)
    have aL3 := aL.on hb3
    have aY : Arg8 w3 w3.heap.size A3 n3 ys := ⟨aL3.g, rM, Nat.le_refl _, aL3.few.core hcore, hcap⟩
    obtain ⟨oc, oi, _, _⟩ := same_out hcore
    have HS := hid (Arw.same_core hcore)
    have Hoc := hid oc
    have hlen := aY.few.clen
    clear hb3 hcap hcore oc oi rM aL B2
    go_wp2_with fail
    refine (HP.out.complete _ A3 n3 c3 ys w3 aY).mono ?_
    rintro e w4 hC
    obtain ⟨A4, n4, c4, rfl, hn4, o4, _, _, _, hb4⟩ := hC.reads
    have B4 := B3.trans (hb4.mono B3.size)
    have aL4 := aL3.on hb4
    have aY4 := aY.on hb4
    have k34 := hb4.size
    have k3 := B3.size
    have hn4b : n4 ≤ 50000 := by omega
    obtain ⟨L4, hL4⟩ : ∃ L4, cOut ys = L4 := ⟨_, rfl⟩
    rw [hL4] at o4
    obtain ⟨K3, hK3⟩ : ∃ K3, w3.heap.size = K3 := ⟨_, rfl⟩
    rw [hK3] at o4 k34 k3 aY4
    clear hC hn4 hb4 hL4 aL3 aY B3 hlen hK3
    generalize (Arw.fitL 0 ys).2 = ze at *
    go_wp2_with fail
    go_loopw [6] (fun i W => ∃ (k : Nat) (L : List UInt8), i = .int .i64 (k : Int) ∧ k ≤ n4 ∧ Byt.Own W K3 (.slice A4 n4 c4) n4 L ∧ Below K3 w4 W) (fun i _ => n4 - (intOf i).toNat)
    case atStart => exact ⟨0, L4, rfl, by omega, o4, Below.refl _ _⟩
    case round =>
      obtain ⟨k, L, rfl, hk, hO, hb⟩ := hrel
      by_cases hlt : k < n4
      · have hki : (k : Int) < (n4 : Int) := by omega
        obtain ⟨g, cap, e, hg, hc, hf, hset⟩ := hO.at_ (i := k) (by rw [hO.1]; exact hlt)
        injection e with e1 _ e3
        subst e1 e3
        obtain ⟨u, hu⟩ := u8_wrap (((L[k]'(by rw [hO.1]; exact hlt)).toNat : Int) + 1)
        generalize ((L[k]'(by rw [hO.1]; exact hlt)).toNat : Int) = z at *
        have hO2 := hset u
        have hb2 := hb.setCell (p := ⟨g, k, none⟩) hg (.int .u8 (u.toNat : Int))
        clear hset hO hb
        generalize (u.toNat : Int) = uz at *
        go_wp2_with fail
        go_roundw
        all_goals first
          | exact ⟨k + 1, _, by go_num, by omega, hO2, hb2⟩
          | (simp [intOf]; omega)
      · obtain rfl : k = n4 := by omega
        have hki : ¬ (k : Int) < (k : Int) := by omega
        have B6 := B4.trans (hb.mono k3)
        have hg6 : GndP wr := hG.on B6
        have aL6 : Arg8 wr w.heap.size A n xs := ⟨hg6, aL4.rd.below (hb.mono k3), B6.size, aL4.few, aL4.cap⟩
        have aY6 : Arg8 wr K3 A3 n3 ys := ⟨hg6, aY4.rd.below hb, Nat.le_trans k34 hb.size, aY4.few, aY4.cap⟩
        clear hO hb aL4 aY4 B4 o4 hg6
        go_wp2_with fail
        refine (HP.out.index _ A3 n3 c3 ys wr aY6).mono ?_
        rintro e w7 hI
        obtain ⟨A7, n7, c7, rfl, hx1, hx2, hx3, hx4, hb7⟩ := hI.reads
        clear hx1 hx2 hx3 hx4 hI
        have B7 := B6.trans (hb7.mono B6.size)
        have aL7 := aL6.on hb7
        have aY7 := aY6.on hb7
        clear hb7 aL6 aY6 B6
        go_wp2_with fail
        refine (HP.out.complete _ A3 n3 c3 ys w7 aY7).mono ?_
        rintro e w8 hC
        obtain ⟨A8, n8, c8, rfl, hn8, hx1, r8, hx3, hx4, hb8⟩ := hC.reads
        rw [Hoc.out] at r8 hn8
        have B8 := B7.trans (hb8.mono B7.size)
        have aL8 := aL7.on hb8
        have aY8 := aY7.on hb8
        have hn8b : n8 ≤ 50000 := by have := aL8.few.clen; omega
        clear hC hb8 hx1 hx3 hx4 hn8 aL7 aY7 B7
        go_wp2_with fail
        refine (rcomplete_any w.heap.size A n c xs w8 aL8.rd aL8.hK aL8.few (fun x hx => (aL8.cap x hx).1)).mono ?_
        rintro e w9 hR
        obtain ⟨A9, n9, c9, A10, n10, c10, A11, n11, c11, rfl, hn9, r9, hx1, hx2, hb9⟩ := hR.reads
        have B9 := B8.trans (hb9.mono B8.size)
        have aL9 := aL8.on hb9
        have aY9 := aY8.on hb9
        have r8' := r8.below hb9
        have k89 := hb9.size
        have hn20 := aY9.n20
        clear hR hb9 hx1 hx2 hn9 aL8 aY8 B8 r8
        go_wp2_with fail
        refine (Arp.rsamemembers_any w9.heap.size A3 A n3 c3 n c ys xs w9 ⟨aY9.rd.1, fun k hk => ?_⟩ ⟨aL9.rd.1, fun k hk => ?_⟩ (Nat.le_refl _) (by omega)).mono ?_
        · obtain ⟨⟨b, o, e, hb, hc⟩, hr, hl⟩ := aY9.rd.2 k hk
          exact ⟨⟨b, o, e, Nat.lt_of_lt_of_le hb aY9.hK, hc⟩, hr.more aY9.hK, hl⟩
        · obtain ⟨⟨b, o, e, hb, hc⟩, hr, hl⟩ := aL9.rd.2 k hk
          exact ⟨⟨b, o, e, Nat.lt_of_lt_of_le hb aL9.hK, hc⟩, hr.more aL9.hK, hl⟩
        rintro e wa ⟨rfl, hba⟩
        rw [HS.out]
        have Ba := B9.trans (hba.mono B9.size)
        have r8a := r8'.below (hba.mono k89)
        have r9a := r9.below hba
        clear hba r8' r9 aL9 aY9 B9
        go_wp2_with fail
        refine (Dec.same_any 13 rfl w8.heap.size w9.heap.size A8 A9 n8 c8 n9 c9 _ _ wa r8a r9a (by omega)).mono ?_
        rintro e wb ⟨rfl, mb, hwb⟩
        rw [beq_self_eq_true]
        go_wp2_with fail
        go_ret
        exact ⟨rfl, by subst hwb; exact Ba.trans (Dec.below_drewN wa mb)⟩
set_option maxRecDepth 100000 in
theorem held : Rows.SymindexKeepsSaid :=
  OpenClaim.holds_of_wide 6 Tryz.f6 rfl rfl rfl rfl rfl rfl rfl ⟨rfl, rfl, rfl, rfl, rfl⟩ rfl rfl rfl rfl rfl (by kernel_rfl) Tryz.func6 (by kernel_rfl)
    (of_decide_eq_true (by kernel_rfl)) (by unfold Func.isWrapper; first | (rw [if_pos (by decide +kernel)]; kernel_rfl) | (rw [if_neg (by decide +kernel)]; exact ⟨rfl, rfl⟩))
    (fun os started H enc _ => liftedG (started := started) (s := Rows.symindexKeepsSpec) (L := Rows.symindexKeepsRow.laid) rfl
      (fun ds h => by match ds, h with | [_], _ => rfl) (by kernel_rfl)
      (by kernel_rfl) (by kernel_rfl) Tryz.func6
      (ChangeSpec.witness_shaped (enc := enc) (C := Tryz.checked) (os := os) (X := fun w _ => laidMetH Tryz.prog Rows.symindexKeepsRow.laid w) false (World.laidAll Tryz.prog os Rows.symindexKeepsRow.laid) #[.slice none 0 0] 8 (World.laidAll_os _ _ _)
        (World.shaped_of_ZipB (by kernel_rfl) (by kernel_rfl)) (by kernel_rfl) (by kernel_rfl) (by kernel_rfl)
        (by rw [MakeChecks.laidMetH_plain _ _ _ (by kernel_rfl)]; exact laidMet_laidAll _ (by kernel_rfl) (by kernel_rfl)))
      gndp_of (fun W base args ds p hG h => by
        obtain ⟨hval, hA, _⟩ := h
        rw [show Tryz.f6.params = #[22] from by kernel_rfl] at hA hval
        obtain ⟨v0, vs0, d0, ds0, p0, q0, hargs, rfl, rfl, k0, r0⟩ := trodAll_cons hA
        obtain ⟨rfl, rfl, rfl⟩ := trodAll_nil r0
        obtain rfl : args = #[v0] := by cases args; simp_all
        obtain ⟨A0, n0, c0, l0, rfl, h0, m0, g0, s0⟩ := open_mems (hval 0 _ v0 rfl rfl) k0
        exact walk W hG A0 n0 c0 l0 h0 m0 g0 s0))
theorem proved : Rows.SymindexKeepsCardSaid :=
  Claim7.holds_tied_plain_at .later [] [.data, .data, .data] true (true, "ae1ecf1e86fc5b02924e1b3ccece8f708fc2caf9649942e1bcdfec833af225aa") true held (fun _ h => by cases h) (by kernel_rfl) (fun _ h => by cases h) symindexKeeps_row_tie rfl ⟨rfl, rfl⟩ (by kernel_rfl) rfl
    (fun f fn hf hfn => by
      obtain rfl : f = 6 := Option.some.inj ((show Tryz.prog.funcNamed "arlink/arlinklaw08.SymindexKeeps" = some 6 by kernel_rfl).symm.trans hf) |>.symm
      obtain rfl : fn = Tryz.f6 := (Option.some.inj (Tryz.func6.symm.trans hfn)).symm
      exact ⟨by kernel_rfl, fun j t ht => by
        rw [Tryz.params6] at ht
        have hm : t ∈ [22] := by simpa using Array.mem_of_getElem? ht
        have hall : ([22].all fun u => !Tryz.prog.wantsStandIn u) = true := by kernel_rfl
        exact (show Tryz.prog.wantsStandIn t = false by simpa using List.all_eq_true.1 hall t hm)⟩)
    (by kernel_rfl)
#print axioms proved
end Go.Proofs.YtpedngfmjhpojaaGreatDoor.Keeps8
