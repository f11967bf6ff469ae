/-
  SymindexNames: the names of the index are the definitions of all members, one after the other, and its offsets never decrease. For every list of members: no condition.
-/
import Derived.Test.YtpedngfmjhpojaaDoorZSe
import Derived.Test.YtpedngfmjhpojaaDoorZSg
import Derived.Test.YtpedngfmjhpojaaDoorZSl
import Derived.Test.YtpedngfmjhpojaaDoorCards
import Derived.BigQuiet
namespace Go.Proofs.YtpedngfmjhpojaaDoor.Names8
open Go.ChangeShapes Go.WideShapes Go.ChangeAt Go.RowKit Go.Proofs Go.Proofs.YtpedngfmjhpojaaDoor.Byt Go.Proofs.YtpedngfmjhpojaaDoor.Six Go.Proofs.YtpedngfmjhpojaaDoor.Frame
open Go.Proofs.YtpedngfmjhpojaaDoor.Lnm (GndP)
open Go.Proofs.YtpedngfmjhpojaaDoor.Arp (Mem RdM)
open Go.Proofs.YtpedngfmjhpojaaDoor.Arw (RdM0 fewM core fitL)
open Go.Proofs.YtpedngfmjhpojaaDoor.Amp (En RdE)

set_option linter.unusedSimpArgs false in
set_option maxRecDepth 100000 in
set_option maxHeartbeats 2000000 in
theorem walk (w : World) (hG : GndP w) (A : Option Addr) (n c : Nat) (xs : List Mem) (h : RdM0 w w.heap.size A n xs) (_hnc : n ≤ c) (_hc : c ≤ maxLen) (hB : ∀ x ∈ xs, MB x) :
    Calls Tryd.prog 3 #[.slice A n c] w fun e w' => e = .returned (.bool true) ∧ Below w.heap.size w w' := by
  have HP := hid pc
  have HB := hid hB
  clear hB
  go_enter Tryd.func3, Tryd.ntmps3
  go_wp2_with fail
  refine (awake8_any HP.out w hG).mono ?_
  rintro e w1 ⟨rfl, B1⟩
  have hK1 := B1.size
  go_wp2_with fail
  refine (Arw.few5_any w.heap.size A n c xs w1 (h.below B1) hK1).mono ?_
  rintro e w2 ⟨rfl, hb2⟩
  have B2 := B1.trans (hb2.mono hK1)
  have g2 := hG.on B2
  clear hb2 B1 hK1
  cases hf : fewM xs
  · go_wp2_with fail
    refine (awake8_any HP.out w2 g2).mono ?_
    rintro e w9 ⟨rfl, hb9⟩
    go_wp2_with fail
    go_ret
    exact ⟨rfl, B2.trans (hb9.mono B2.size)⟩
  · have aL := arg8_of g2 h B2 HB.out hf
    clear hf g2
    go_wp2_with fail
    refine (HP.out.index _ A n c xs w2 aL).mono ?_
    rintro e w3 hI
    obtain ⟨A3, n3, c3, rfl, hn3, r3, _, _, hb3⟩ := hI.reads
    have HB3 := hid (B2.trans (hb3.mono B2.size))
    have HA3 := hid (aL.on hb3)
    have Hl := hid aL.rd.1
    have hn20 := aL.n20
    obtain ⟨z2, hz2⟩ : ∃ z2, (fitL 0 xs).2 = z2 := ⟨_, rfl⟩
    rw [hz2]
    have HZ := hid hz2
    clear hb3 B2 aL hI hz2
    by_cases hz : z2 = 0
    · have hzb : (z2 != 0) = false := by rw [hz]; rfl
      have HOk : Hid ((fitL 0 xs).2 = 0) := hid (HZ.out.trans hz)
      have ei : iOut xs = idx xs := by unfold iOut; rw [if_pos HOk.out]
      rw [ei] at r3
      have Hn3 : Hid ((idx xs).length = n3) := hid r3.1
      have hn3b : n3 ≤ 1000 := by rw [← Hn3.out]; exact HA3.out.few.idx_len
      have HRE := hid r3
      clear hz ei hn3 r3
      go_wp2_with fail
      go_loopw [5, 6] (fun kv iv W => ∃ k i : Nat, kv = .int .i64 (k : Int) ∧ iv = .int .i64 (i : Int) ∧ i ≤ n ∧ Hid (k = (namesM (xs.take i)).length) ∧ Below w3.heap.size w3 W) (fun _ iv _ => n - (intOf iv).toNat)
      case atStart => exact ⟨0, 0, rfl, rfl, by omega, hid (by simp [namesM]), Below.refl _ _⟩
      case round =>
        obtain ⟨k, i, rfl, rfl, hi, Hk, hb⟩ := hrel
        by_cases hlt : i < n
        · have hil : i < xs.length := by have := Hl.out; omega
          have hii : (i : Int) < (n : Int) := by omega
          obtain ⟨b, o, rfl, hbK, hcell, hrd⟩ := rdm_cell (HA3.out.rd.below (hb.mono HA3.out.hK)) hil
          have hx1 := (HA3.out.few.ok _ (List.getElem_mem hil)).len
          have hx2 := HA3.out.few.len _ (List.getElem_mem hil)
          obtain ⟨hx3, hx4⟩ := HA3.out.cap _ (List.getElem_mem hil)
          have HG := hid fun (j : Nat) (hj : j < (defs xs[i].data).length) => idx_get hil hj
          have HT : Hid ((namesM (xs.take (i + 1))).length = k + (defs xs[i].data).length) := hid (by rw [namesM_take hil, List.length_append, Hk.out])
          have hKw : w.heap.size ≤ wr.heap.size := Nat.le_trans HA3.out.hK hb.size
          have HC := hid (HP.out.defs w.heap.size xs[i].ptr xs[i].len xs[i].cap xs[i].data wr ((HA3.out.on hb).g) hrd hKw hx3 hx4 (by omega))
          generalize xs[i] = x at *
          obtain ⟨x0, x1, x2, x3', x4', x5, x6, x7, x8⟩ := x
          simp only at *
          clear hx1 hx2 hx3 hx4 hrd
          go_wp2_with fail
          refine HC.out.mono ?_
          rintro e w4 hD
          obtain ⟨A6, n6, c6, rfl, hn6, _, r6, _, _, hb6⟩ := hD.reads
          have hb4 := hb.trans (hb6.mono hb.size)
          have Hn6 := hid hn6
          have HR6 := hid r6
          rw [← hn6] at HT
          generalize defs x8 = ds at *
          clear hD hb6 hn6 r6 HC hcell hb hKw
          go_wp2_with fail
          go_loopw [5, 8] (fun kv jv W => ∃ j : Nat, kv = .int .i64 ((k + j : Nat) : Int) ∧ jv = .int .i64 (j : Int) ∧ j ≤ n6 ∧ Below w4.heap.size w4 W) (fun _ jv _ => n6 - (intOf jv).toNat)
          case atStart => exact ⟨0, by simp, rfl, by omega, Below.refl _ _⟩
          case round =>
            obtain ⟨j, rfl, rfl, hj, hb⟩ := hrel
            by_cases hjt : j < n6
            · have hjl : j < ds.length := by have := Hn6.out; omega
              have hji : (j : Int) < (n6 : Int) := by omega
              obtain ⟨q, hq⟩ : ∃ q, k + j = q := ⟨_, rfl⟩
              obtain ⟨h1, h2⟩ := HG.out j hjl
              have h3 : q < (idx xs).length := by rw [← hq, Hk.out]; exact h1
              have h4 : (idx xs)[q].name = ds[j] := by rw [← h2]; congr 1; simp only [← hq, Hk.out]
              have hqn : q < n3 := by have := Hn3.out; omega
              have hqd : decide ((n3 : Int) ≤ (q : Int)) = false := decide_eq_false (by omega)
              have hqe : decide (n3 ≤ q) = false := decide_eq_false (by omega)
              have hqi : (q : Int) < (n3 : Int) := by omega
              have RE := HRE.out.below (hb4.trans (hb.mono hb4.size))
              obtain ⟨b7, o7, rfl, _, e0, e1⟩ := RE.2 q h3
              have HS := hid fun p (hp : p ≤ q) => idx_sorted hp h3
              have HRp := hid RE.2
              obtain ⟨b8, o8, rfl, _, hc8⟩ := (HR6.out.below hb).2 j hjl
              rw [h4] at e0
              clear h1 h2 h4 RE
              rw [hq]
              generalize ds[j] = s at *
              generalize (idx xs)[q].off = z1 at *
              have hse : (s.toList == s.toList) = true := beq_self_eq_true _
              have hjb : j ≤ 1000 := by omega
              have HQ : Hid (((k + (j + 1) : Nat) : Int) = (q : Int) + 1) := hid (by omega)
              clear hq
              by_cases hq0 : q = 0
              · have hk0i : decide ((0 : Int) < (q : Int)) = false := decide_eq_false (by omega)
                have hk0n : decide (0 < q) = false := decide_eq_false (by omega)
                clear hq0 HS HRp
                go_wp2_with fail
                go_quiet (fail)
                go_wp2_with fail
                go_roundw
                · exact ⟨j + 1, by first | (rw [HQ.out]; done) | (rw [HQ.out]; go_num), by go_num, by omega, hb.trans ⟨rfl, rfl, rfl, Nat.le_refl _, fun _ _ => rfl⟩⟩
                · simp [intOf]; omega
              · obtain ⟨p, hp⟩ : ∃ p, q = p + 1 := ⟨q - 1, by omega⟩
                have hk0i : decide ((0 : Int) < (q : Int)) = true := decide_eq_true (by omega)
                have hk0n : decide (0 < q) = true := decide_eq_true (by omega)
                have hpi : (p : Int) < (n3 : Int) := by omega
                have hw : IntKind.i64.wrap ((q : Int) - 1) = (p : Int) := by rw [IntKind.wrap_i64]; omega
                have hpl : p < (idx xs).length := by have := Hn3.out; omega
                obtain ⟨b9, o9, ea, _, _, e2⟩ := HRp.out p hpl
                injection ea with ea
                injection ea with ea1 ea2 _
                subst ea1 ea2
                have hle := HS.out p (by omega)
                generalize (idx xs)[p].off = z2' at *
                have hlt2 : decide (z1 < z2') = false := decide_eq_false (by omega)
                clear hq0 HS HRp hp hle
                go_wp2_with fail
                go_quiet (fail)
                go_wp2_with fail
                go_roundw
                · exact ⟨j + 1, by first | (rw [HQ.out]; done) | (rw [HQ.out]; go_num), by go_num, by omega, hb.trans ⟨rfl, rfl, rfl, Nat.le_refl _, fun _ _ => rfl⟩⟩
                · simp [intOf]; omega
            · obtain rfl : j = n6 := by omega
              have hji : ¬ (j : Int) < (j : Int) := by omega
              have hb5 := hb4.trans (hb.mono hb4.size)
              go_wp2_with fail
              go_roundw
              · exact ⟨k + j, i + 1, rfl, by go_num, by omega, hid HT.out.symm, hb5⟩
              · simp [intOf]; omega
        · obtain rfl : i = n := by omega
          have hii : ¬ (i : Int) < (i : Int) := by omega
          have hkn : k = n3 := by
            have h1 := Hk.out
            have hT : xs.take i = xs := List.take_of_length_le (by have := Hl.out; omega)
            rw [hT] at h1
            rw [h1, ← Hn3.out, idx_length]
          subst hkn
          have B9 := HB3.out.trans (hb.mono HB3.out.size)
          go_wp2_with fail
          go_ret
          exact ⟨rfl, B9⟩
    · have hzb : (z2 != 0) = true := by simpa using hz
      have ei : iOut xs = [] := by unfold iOut; rw [if_neg (by rw [HZ.out]; exact hz)]
      rw [ei] at hn3
      obtain rfl : n3 = 0 := hn3
      clear hz
      go_wp2_with fail
      go_ret
      exact ⟨rfl, HB3.out⟩

set_option maxRecDepth 100000 in
theorem held : Rows.SymindexNamesSaid :=
  OpenClaim.holds_of_wide 3 Tryd.f3 rfl rfl rfl rfl rfl rfl rfl ⟨rfl, rfl, rfl, rfl, rfl⟩ rfl rfl rfl rfl rfl (by kernel_rfl) Tryd.func3 (by kernel_rfl)
    (of_decide_eq_true (by kernel_rfl)) (by unfold Func.isWrapper; first | (rw [if_pos (by decide +kernel)]; kernel_rfl) | (rw [if_neg (by decide +kernel)]; exact ⟨rfl, rfl⟩))
    (fun os started H enc _ => liftedG (started := started) (s := Rows.symindexNamesSpec) (L := Rows.symindexNamesRow.laid) rfl
      (fun ds h => by match ds, h with | [_], _ => rfl) (by kernel_rfl)
      (by kernel_rfl) (by kernel_rfl) Tryd.func3
      (ChangeSpec.witness_shaped (enc := enc) (C := Tryd.checked) (os := os) (X := fun w _ => laidMetH Tryd.prog Rows.symindexNamesRow.laid w) false (World.laidAll Tryd.prog os Rows.symindexNamesRow.laid) #[.slice none 0 0] 8 (World.laidAll_os _ _ _)
        (World.shaped_of_ZipB (by kernel_rfl) (by kernel_rfl)) (by kernel_rfl) (by kernel_rfl) (by kernel_rfl)
        (by rw [MakeChecks.laidMetH_plain _ _ _ (by kernel_rfl)]; exact laidMet_laidAll _ (by kernel_rfl) (by kernel_rfl)))
      gndp_of (fun W base args ds p hG h => by
        obtain ⟨hval, hA, _⟩ := h
        rw [show Tryd.f3.params = #[22] from by kernel_rfl] at hA hval
        obtain ⟨v0, vs0, d0, ds0, p0, q0, hargs, rfl, rfl, k0, r0⟩ := trodAll_cons hA
        obtain ⟨rfl, rfl, rfl⟩ := trodAll_nil r0
        obtain rfl : args = #[v0] := by cases args; simp_all
        obtain ⟨A0, n0, c0, l0, rfl, h0, m0, g0, s0⟩ := open_mems (hval 0 _ v0 rfl rfl) k0
        exact walk W hG A0 n0 c0 l0 h0 m0 g0 s0))
theorem proved : Rows.SymindexNamesCardSaid :=
  Claim7.holds_tied_plain_at .later [] [.data, .data, .data] true (true, "6c1964f203d2c6c7b14fe5198299d7bd4168d736fe1ca5153f15e30a96e91a92") true held (fun _ h => by cases h) (by kernel_rfl) (fun _ h => by cases h) symindexNames_row_tie rfl ⟨rfl, rfl⟩ (by kernel_rfl) rfl
    (fun f fn hf hfn => by
      obtain rfl : f = 3 := Option.some.inj ((show Tryd.prog.funcNamed "arlink/arlinklaw08.SymindexNames" = some 3 by kernel_rfl).symm.trans hf) |>.symm
      obtain rfl : fn = Tryd.f3 := (Option.some.inj (Tryd.func3.symm.trans hfn)).symm
      exact ⟨by kernel_rfl, fun j t ht => by
        rw [Tryd.params3] at ht
        have hm : t ∈ [22] := by simpa using Array.mem_of_getElem? ht
        have hall : ([22].all fun u => !Tryd.prog.wantsStandIn u) = true := by kernel_rfl
        exact (show Tryd.prog.wantsStandIn t = false by simpa using List.all_eq_true.1 hall t hm)⟩)
    (by kernel_rfl)
#print axioms proved
end Go.Proofs.YtpedngfmjhpojaaDoor.Names8
