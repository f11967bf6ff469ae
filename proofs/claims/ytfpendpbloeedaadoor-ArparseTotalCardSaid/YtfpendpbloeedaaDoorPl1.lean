/-
  ArparseTotal: a byte slice that is rejected is rejected at an offset within it; of one that is accepted, each member is at its offset, with the name field, the numbers and the data that are there, and the parts fill the byte slice. No condition.
-/
import Derived.Test.YtfpendpbloeedaaDoorMn
import Derived.Test.YtfpendpbloeedaaDoorMk
import Derived.Test.YtfpendpbloeedaaDoorMe
import Derived.Test.YtfpendpbloeedaaDoorMo
import Derived.Test.YtfpendpbloeedaaDoorCards
import Derived.BigQuiet
namespace Go.Proofs.YtfpendpbloeedaaDoor.Total
open Go.ChangeShapes Go.WideShapes Go.ChangeAt Go.RowKit Go.Proofs Go.Proofs.YtfpendpbloeedaaDoor.Byt Go.Proofs.YtfpendpbloeedaaDoor.Dec Go.Proofs.YtfpendpbloeedaaDoor.Lnm Go.Proofs.YtfpendpbloeedaaDoor.Hdr Go.Proofs.YtfpendpbloeedaaDoor.Arp Go.Proofs.YtfpendpbloeedaaDoor.Frame

set_option maxRecDepth 100000 in
set_option maxHeartbeats 2000000 in
theorem big (w : World) (hg : Gnd w) (A : Option Addr) (n c : Nat) (hn : 20000 < n) :
    Calls Tryd.prog 3 #[.slice A n c] w fun e w' => e = .returned (.bool true) ∧ Below w.heap.size w w' := by
  have hni : (20000 : Int) < (n : Int) := by omega
  go_enter Tryd.func3, Tryd.ntmps3
  go_wp2_with fail
  refine (awake_any _ hg).mono ?_
  rintro e w1 ⟨rfl, hb1⟩
  go_wp2_with fail
  refine (awake_any _ (hg.on hb1)).mono ?_
  rintro e w2 ⟨rfl, hb2⟩
  go_wp2_with fail
  go_ret
  exact ⟨rfl, hb1.trans (hb2.mono hb1.size)⟩

theorem ar_bad {l : List UInt8} {t : St} {k : Nat} {z : Int} (h : ar l = (t, k, z)) (hz : z ≠ 0) : t = St.zero ∧ k ≤ l.length := by
  by_cases h8 : l.length < 8
  · rw [ar_2 h8] at h
    injection h with h1 h
    injection h with h2 h
    exact ⟨h1.symm, by omega⟩
  · cases hi : isAr l
    · rw [ar_1 (by omega) hi] at h
      injection h with h1 h
      injection h with h2 h
      exact ⟨h1.symm, by omega⟩
    · rw [ar_go hi] at h
      have : ∀ (j a : Nat) (s : St), l.length - a ≤ j → a ≤ l.length → go s a (l.drop a) = (t, k, z) → t = St.zero ∧ k ≤ l.length := by
        intro j
        induction j with
        | zero =>
          intro a s hj ha q
          have e : l.drop a = [] := List.drop_eq_nil_of_le (by omega)
          rw [e, go_nil] at q
          injection q with _ q
          injection q with _ q
          exact absurd q.symm hz
        | succ j ih =>
          intro a s hj ha q
          by_cases h0 : l.drop a = []
          · rw [h0, go_nil] at q
            injection q with _ q
            injection q with _ q
            exact absurd q.symm hz
          · by_cases he : stepE s (l.drop a) = 0
            · rw [go_on h0 he, List.drop_drop] at q
              have h1 := plen_pos (l.drop a)
              have h2 := (perr_ok (stepE_ok he)).2.1
              rw [List.length_drop] at h2
              exact ih _ _ (by omega) (by omega) q
            · rw [go_bad h0 he] at q
              injection q with q1 q
              injection q with q2 q
              exact ⟨q1.symm, by omega⟩
      exact this _ 8 St.zero (Nat.le_refl _) (by omega) h

set_option maxRecDepth 100000 in
set_option maxHeartbeats 2000000 in
theorem rejected (w : World) (hg : Gnd w) (A : Option Addr) (n c : Nat) (l : List UInt8) (hr : Rd w w.heap.size A n l) (hnc : n ≤ c) (hn : ¬ 20000 < n) (hz : (ar l).2.2 ≠ 0) :
    Calls Tryd.prog 3 #[.slice A n c] w fun e w' => e = .returned (.bool true) ∧ Below w.heap.size w w' := by
  have hni : ¬ (20000 : Int) < (n : Int) := by omega
  obtain ⟨t, k, z, har⟩ : ∃ t k z, ar l = (t, k, z) := ⟨_, _, _, rfl⟩
  rw [har] at hz
  obtain ⟨rfl, hk⟩ := ar_bad har hz
  have hzb : (z != 0) = true := by simpa using hz
  have hkn : (k : Int) ≤ (n : Int) := by have := hr.1; omega
  have Hg := hid hg
  clear hz hg hk
  go_enter Tryd.func3, Tryd.ntmps3
  go_wp2_with fail
  refine (awake_any _ Hg.out).mono ?_
  rintro e w1 ⟨rfl, hb1⟩
  go_wp2_with fail
  refine (parse_at A n c l w1 (Hg.out.on hb1) ((hr.below hb1).more hb1.size) hnc (by omega) _ k z har).mono ?_
  rintro e w2 ⟨X, rfl, hx, ho, hb2⟩
  obtain ⟨e1, e2⟩ := none_at hx ho
  have e3 : X.hasMap = false := hx.1
  have e4 : X.mn = 0 := by have := ho.map.1; have h := hx.2.1; rw [h] at this; exact this.symm
  obtain ⟨x0, x1, x2, x3, x4, x5, x6, x7, x8, x9, x10, x11, x12⟩ := X
  simp only at e1 e2 e3 e4
  subst e1 e2 e3 e4
  clear hx ho
  simp only [Arc.val]
  have hb02 := hb1.trans (hb2.mono hb1.size)
  clear hb1 hb2
  go_wp2_with fail
  go_ret
  exact ⟨rfl, hb02.alloc hb02.size _⟩

/-- A slice that begins at the capacity. -/
theorem sl0 (w : World) (b o q : Nat) : (Instr.slice 22 (.slice (some ⟨b, o, none⟩) q q) (some (.int .i64 (q : Int))) (some (.int .i64 (q : Int))) none).run Tryd.prog w = .ok (.slice (some ⟨b, o, none⟩) 0 0) w := by
  go_simp
@[local go_sem] theorem sl2 (w : World) (b o p : Nat) : (Instr.slice 22 (.slice (some ⟨b, o, none⟩) (p + 60) (p + 60)) (some (.int .i64 ((p : Int) + 60))) (some (.int .i64 ((p : Int) + 60))) none).run Tryd.prog w = .ok (.slice (some ⟨b, o, none⟩) 0 0) w := by
  rw [show (p : Int) + 60 = ((p + 60 : Nat) : Int) by omega]
  exact sl0 w b o (p + 60)

/-- The end of the members from number k on. -/
def endAt (offs : List Int) (n k : Nat) : Int := (offs[k]?).getD (n : Int)

set_option maxRecDepth 100000 in
set_option maxHeartbeats 8000000 in
theorem accepted (w : World) (hg : Gnd w) (A : Option Addr) (n c : Nat) (l : List UInt8) (hr : Rd w w.heap.size A n l) (hnc : n ≤ c) (hn : ¬ 20000 < n) (t : St) (k0 : Nat) (har : ar l = (t, k0, 0)) :
    Calls Tryd.prog 3 #[.slice A n c] w fun e w' => e = .returned (.bool true) ∧ Below w.heap.size w w' := by
  have hni : ¬ (20000 : Int) < (n : Int) := by omega
  obtain ⟨rfl, h8, hfit, hok⟩ := ar_fit har
  have hl := hr.1
  obtain ⟨b, o, rfl, _⟩ := Rd_where hr (by omega)
  have Hg := hid hg
  have Hfit := hid hfit
  clear hg hfit
  go_enter Tryd.func3, Tryd.ntmps3
  go_wp2_with fail
  refine (awake_any _ Hg.out).mono ?_
  rintro e w1 ⟨rfl, hb1⟩
  go_wp2_with fail
  refine (parse_at _ n c l w1 (Hg.out.on hb1) ((hr.below hb1).more hb1.size) hnc (by omega) _ 0 0 har).mono ?_
  rintro e w2 ⟨X, rfl, hx, ho, hb2⟩
  obtain ⟨q1, q2⟩ := ho.lens
  obtain ⟨_, hM, hI, _, hNb, _⟩ := ho.reads
  obtain ⟨x0, x1, x2, x3, x4, x5, N, x7, x8, x9, x10, x11, x12⟩ := X
  obtain ⟨i1, i2, i3, i4⟩ := hx
  clear i1 i2
  simp only at q1 q2 hM hI i3 i4 hNb
  have hN : t.mems.length = N := by rw [← i3, List.length_map, q1]
  obtain rfl : N = x10 := by rw [← q2, i4, hok.len, hN]
  subst i4
  clear ho
  simp only [Arc.val]
  have hb02 := hb1.trans (hb2.mono hb1.size)
  have hr2 := (hr.below hb02).more hb02.size
  clear hb1 hb2 hr
  go_wp2_with fail
  have hrow := heap_alloc_new w2 (.cells #[.bool x0, .slice x1 x2 x3, .slice x5 N x7, .slice x9 N x11] 27)
  have hba := (Below.refl w2.heap.size w2).alloc (Nat.le_refl _) (.cells #[.bool x0, .slice x1 x2 x3, .slice x5 N x7, .slice x9 N x11] 27)
  have hMV := hM.below hba
  have hIV := hI.below hba
  have hrV := hr2.below hba
  have hsV : (w2.alloc (.cells #[.bool x0, .slice x1 x2 x3, .slice x5 N x7, .slice x9 N x11] 27)).heap.size = w2.heap.size + 1 := by simp
  have hbV := hb02.trans (hba.mono hb02.size)
  clear hba hM hI hr2 hb02
  generalize hP : w2.heap.size = P at *
  generalize w2.alloc (.cells #[.bool x0, .slice x1 x2 x3, .slice x5 N x7, .slice x9 N x11] 27) = V at *
  go_loopw [6, 7] (fun e i W => ∃ (k : Nat) (i0 : Int), i = .int .i64 i0 ∧ i0 + 1 = (k : Int) ∧ k ≤ N ∧ e = .int .i64 (endAt t.offs n k) ∧ Below V.heap.size V W) (fun _ i _ => (intOf i + 1).toNat)
  case atStart =>
    refine ⟨N, _, rfl, by omega, Nat.le_refl _, ?_, Below.refl _ _⟩
    unfold endAt
    rw [List.getElem?_eq_none (by rw [hok.len, hN]; omega)]
    rfl
  case round =>
    obtain ⟨k, i0, rfl, hik, hkN, rfl, hb⟩ := hrel
    have hrow' := (hb.block P (by omega)).trans hrow
    have a2 := cell_of_row wr P 2 _ _ _ hrow'
    have a3 := cell_of_row wr P 3 _ _ _ hrow'
    cases k with
    | zero =>
      obtain rfl : i0 = -1 := by omega
      have hend : (8 : Int) ≤ endAt t.offs n 0 := by
        unfold endAt
        rcases hq : t.mems with _ | ⟨m, r⟩
        · have : t.offs = [] := List.eq_nil_of_length_eq_zero (by rw [hok.len, hq]; rfl)
          rw [this]
          simp
          omega
        · obtain ⟨p, h1, h2, _⟩ := Hfit.out 0 m (by rw [hq]; rfl)
          rw [h1]
          simp
          omega
      generalize endAt t.offs n 0 = E at *
      go_wp2_with fail
      go_ret
      exact ⟨ret_bool (by first | (simp; done) | (simp; omega)), hbV.trans (hb.mono (by rw [hsV]; have := hbV.size; omega))⟩
    | succ j =>
      obtain rfl : i0 = (j : Int) := by omega
      have hjN : j < N := by omega
      have hjl : j < x8.length := by omega
      obtain ⟨⟨b2, o2, rfl, hb2K, hmc⟩, hmr, hml⟩ := hMV.2 j hjl
      obtain ⟨b3, o3, rfl, hb3K, hoc⟩ := hIV.2 j (by omega)
      have hmem : t.mems[j]? = some (x8[j].pure) := by rw [← i3, List.getElem?_map, List.getElem?_eq_getElem hjl]; rfl
      obtain ⟨p, f1, f2, f3, f4, f5, f6, f7, f8, f9, f10⟩ := Hfit.out j _ hmem
      rw [List.getElem?_eq_getElem (by omega)] at f1
      injection f1 with f1
      rw [f1] at hoc
      have hpd := pdata_length f3
      obtain ⟨d1, d2, _⟩ := perr_ok f3
      rw [List.length_drop] at d2
      have hpp := plen_pos (l.drop p)
      have hmc' := hmc.below hb (by omega)
      have hmr' := hmr.below (hb.mono (by omega))
      have hoc' : wr.cell? ⟨b3, o3 + j, none⟩ = some (.int .i64 (p : Int)) := (hb.cell (p := ⟨b3, o3 + j, none⟩) (by show b3 < V.heap.size; omega)).trans hoc
      clear hmc hmr hoc hmem
      generalize hmm : x8[j] = m at *
      obtain ⟨n0, n1, n2, n3, n4, np, nn, nc, nd⟩ := m
      simp only [Mem.pure] at f5 f6 f7 f8 f9 f10 hmr' hml
      have hnn : nn = psz (l.drop p) := by have := hmr'.1; rw [f9] at this; omega
      have hend : endAt t.offs n (j + 1) = (p : Int) + 60 + (nn : Int) + (nn : Int) % 2 := by
        have : endAt t.offs n (j + 1) = nextAt t.offs j l.length := by unfold endAt nextAt; rw [hl]
        rw [this, ← f4, hnn]
        unfold plen pad
        omega
      have hpn : p + 60 + nn ≤ n := by unfold plen pad at d2; omega
      have hnx : (p : Int) = endAt t.offs n j := by
        unfold endAt
        rw [List.getElem?_eq_getElem (by omega), f1]
        rfl
      obtain ⟨p0, p1, p2, p3, p4, p5⟩ := hmc'
      simp only at p0 p1 p2 p3 p4 p5
      have hrW := (hrV.below (hb.mono (by omega)))
      have Hdec := hid (fun V2 (hbv : Below wr.heap.size wr V2) => rdecode_any wr.heap.size (some ⟨b, o + p, none⟩) (n - p) (c - p) (l.drop p) V2 (((hrW.cut p).more (by have := hb.size; omega)).below hbv) hbv.size (by omega))
      rw [hend]
      have hp60 : ((p : Int) < 8) = False := by simp; omega
      have hcp : c ≠ p := by omega
      have Hnx := hid hnx
      subst hnn
      have hsz := psz_lt (l.drop p)
      have Hrb := hid hrW
      have Hmr := hid hmr'
      have Hml := hid hml
      have Hvl := hid f10
      have Hda := hid f9
      clear hnx f9 f10 hmr' hml hrW hend f1 f4 hpd d2 hpp
      go_wp2_with fail
      have hbm := (Below.refl wr.heap.size wr).alloc (Nat.le_refl _) (.cells #[.string n0, .int .i64 n1, .int .i64 n2, .int .i64 n3, .int .i64 n4, .slice np (psz (l.drop p)) nc] 32)
      subst f5 f6 f7 f8
      refine (Hdec.out _ hbm).mono ?_
      rintro e w3 ⟨rfl, hb3⟩
      rw [d1, psz_int]
      have k2 := stays (B := wr.heap.size) hb3 (by simp)
      have hK3 : wr.heap.size < w3.heap.size := by have := hb3.size; simp at this; omega
      have hb13 := hbm.trans (hb3.mono (by simp))
      clear hb3 hbm Hdec
      have hba3 := (Below.refl w3.heap.size w3).alloc (Nat.le_refl _) (.cells #[.string (dname (l.drop p)), .int .i64 (dnum (l.drop p) 0), .int .i64 (dnum (l.drop p) 1), .int .i64 (dnum (l.drop p) 2), .int .i64 (dnum (l.drop p) 3), .int .i64 (psz (l.drop p))] 34)
      have Hbq : Hid (∀ q, Below wr.heap.size wr ((w3.alloc (.cells #[.string (dname (l.drop p)), .int .i64 (dnum (l.drop p) 0), .int .i64 (dnum (l.drop p) 1), .int .i64 (dnum (l.drop p) 2), .int .i64 (dnum (l.drop p) 3), .int .i64 (psz (l.drop p))] 34)).drewN q)) := hid fun q => (hb13.trans (hba3.mono (by omega))).trans (below_drewN _ q)
      have HV : Hid (∀ V2, Calls Tryd.prog 12 #[.string n0] V2 fun e w' => e = .returned (.bool true) ∧ ∃ m, w' = V2.drewN m) := hid fun V2 => by
        have := rvalid_any n0 V2 (by have := (vld_size Hvl.out).2; omega)
        rw [Hvl.out] at this
        exact this
      have HS : Hid (∀ V2 D k, Below wr.heap.size wr V2 → Byt.Rd wr wr.heap.size D (psz (l.drop p)) (pdata (l.drop p)) → Calls Tryd.prog 11 #[.slice D (psz (l.drop p)) k, .slice np (psz (l.drop p)) nc] V2 fun e w' => e = .returned (.bool true) ∧ ∃ m, w' = V2.drewN m) := hid fun V2 D k hbv hrd => by
        have := same_any 11 rfl wr.heap.size wr.heap.size D np (psz (l.drop p)) k (psz (l.drop p)) nc (pdata (l.drop p)) nd V2 (hrd.below hbv) ((Hmr.out.more (by have := hb.size; omega)).below hbv) (by omega)
        rw [show (pdata (l.drop p) == nd) = true by rw [Hda.out]; simp] at this
        exact this
      have hRdata : p + 60 ≤ n → Byt.Rd wr wr.heap.size (some ⟨b, o + (p + 60), none⟩) (psz (l.drop p)) (pdata (l.drop p)) := fun _ => by
        have := ((Hrb.out.more (K' := wr.heap.size) (by have := hb.size; omega)).cut (p + 60)).pre (m := psz (l.drop p)) (by omega)
        rw [← List.drop_drop] at this
        exact this
      have HR := hid hRdata
      clear hRdata hb13 hba3
      go_wp2_with fail
      have Hfin := hid (fun q => hb.trans ((Hbq.out q).mono hb.size))
      by_cases hck : c = p + 60
      · have hz0 : psz (l.drop p) = 0 := by omega
        have hpd0 : pdata (l.drop p) = [] := by unfold pdata; rw [hz0]; rfl
        have HS0 : Hid (∀ V2 D k, Below wr.heap.size wr V2 → Calls Tryd.prog 11 #[.slice D 0 k, .slice np 0 nc] V2 fun e w' => e = .returned (.bool true) ∧ ∃ m, w' = V2.drewN m) := hid fun V2 D k hbv => by
          have := HS.out V2 D k hbv (by rw [hz0, hpd0]; exact Byt.Rd.nil _ _ _)
          rw [hz0] at this
          exact this
        have hbq0 := Hbq.out
        have hfin0 := Hfin.out
        simp only [hz0, Int.natCast_zero] at hbq0 hfin0
        have Hbq0 := hid hbq0
        have Hfin0 := hid hfin0
        clear HS HR hbq0 hfin0 Hbq Hfin
        simp only [hz0, Int.natCast_zero]
        obtain rfl : n = p + 60 := by omega
        subst hck
        go_quiet (first
          | (go_at_call 11; refine Calls.quiet_of (HS0.out _ _ _ (Hbq0.out _)))
          | (go_at_call 12; refine Calls.quiet_of (HV.out _))
          | fail)
        go_wp2_with fail
        go_roundw
        all_goals first
          | exact ⟨j, _, rfl, by omega, by omega, by rw [← Hnx.out], Hfin0.out _⟩
          | (simp [intOf]; done)
          | (simp [intOf]; omega)
      · go_quiet (first
          | (go_at_call 11; refine Calls.quiet_of (HS.out _ _ _ (Hbq.out _) (HR.out (by omega))))
          | (go_at_call 12; refine Calls.quiet_of (HV.out _))
          | fail)
        go_wp2_with fail
        go_roundw
        all_goals first
          | exact ⟨j, _, rfl, by omega, by omega, by rw [← Hnx.out], Hfin.out _⟩
          | (simp [intOf]; done)
          | (simp [intOf]; omega)
theorem walk (w : World) (hg : Gnd w) (A : Option Addr) (n c : Nat) (l : List UInt8) (hr : Rd w w.heap.size A n l) (hnc : n ≤ c) (_ : c ≤ maxLen) :
    Calls Tryd.prog 3 #[.slice A n c] w fun e w' => e = .returned (.bool true) ∧ Below w.heap.size w w' := by
  by_cases h : 20000 < n
  · exact big w hg A n c h
  · obtain ⟨t, k, z, har⟩ : ∃ t k z, ar l = (t, k, z) := ⟨_, _, _, rfl⟩
    by_cases hz : z = 0
    · subst hz
      exact accepted w hg A n c l hr hnc h t k har
    · exact rejected w hg A n c l hr hnc h (by rw [har]; exact hz)

set_option maxRecDepth 100000 in
theorem held : Rows.ArparseTotalSaid :=
  OpenClaim.holds_of_wide 3 Tryd.f3 rfl rfl rfl rfl rfl rfl rfl ⟨rfl, rfl, rfl, rfl, rfl⟩ rfl rfl rfl rfl rfl (by kernel_rfl) Tryd.func3 (by kernel_rfl)
    (of_decide_eq_true (by kernel_rfl)) (by unfold Func.isWrapper; first | (rw [if_pos (by decide +kernel)]; kernel_rfl) | (rw [if_neg (by decide +kernel)]; exact ⟨rfl, rfl⟩))
    (fun os started H enc _ => liftedG (started := started) (s := Rows.arparseTotalSpec) (L := Rows.arparseTotalRow.laid) rfl
      (fun ds h => by match ds, h with | [_], _ => rfl) (by kernel_rfl)
      (by kernel_rfl) (by kernel_rfl) Tryd.func3
      (ChangeSpec.witness_shaped (enc := enc) (C := Tryd.checked) (os := os) (X := fun w _ => laidMetH Tryd.prog Rows.arparseTotalRow.laid w) false (World.laidAll Tryd.prog os Rows.arparseTotalRow.laid) #[.slice none 0 0] 8 (World.laidAll_os _ _ _)
        (World.shaped_of_ZipB (by kernel_rfl) (by kernel_rfl)) (by kernel_rfl) (by kernel_rfl) (by kernel_rfl)
        (by rw [MakeChecks.laidMetH_plain _ _ _ (by kernel_rfl)]; exact laidMet_laidAll _ (by kernel_rfl) (by kernel_rfl)))
      gnd_of (fun W base args ds p hG h => by
        obtain ⟨hval, hA, _⟩ := h
        rw [show Tryd.f3.params = #[22] from by kernel_rfl] at hA hval
        obtain ⟨v0, vs0, d0, ds0, p0, q0, hargs, rfl, rfl, k0, r0⟩ := trodAll_cons hA
        obtain ⟨rfl, rfl, rfl⟩ := trodAll_nil r0
        obtain rfl : args = #[v0] := by cases args; simp_all
        obtain ⟨A0, n0, c0, l0, rfl, h0, m0, g0⟩ := open_bytes (hval 0 _ v0 rfl rfl) k0
        exact walk W hG A0 n0 c0 l0 h0 m0 g0))
theorem proved : Rows.ArparseTotalCardSaid :=
  Claim7.holds_tied_plain_at .later [] [.data, .pinned] true (true, "48f2ff196254b2af6b45da2ec089731cc37ebc39530793c05c357d595e7f75e7") false held (fun _ h => by cases h) (by kernel_rfl) (fun _ h => by cases h) arparseTotal_row_tie rfl ⟨rfl, rfl⟩ (by kernel_rfl) rfl
    (fun f fn hf hfn => by
      obtain rfl : f = 3 := Option.some.inj ((show Tryd.prog.funcNamed "arlink/arlinklaw04.ArparseTotal" = some 3 by kernel_rfl).symm.trans hf) |>.symm
      obtain rfl : fn = Tryd.f3 := (Option.some.inj (Tryd.func3.symm.trans hfn)).symm
      exact ⟨by kernel_rfl, fun j t ht => by
        rw [Tryd.params3] at ht
        have hm : t ∈ [22] := by simpa using Array.mem_of_getElem? ht
        have hall : ([22].all fun u => !Tryd.prog.wantsStandIn u) = true := by kernel_rfl
        exact (show Tryd.prog.wantsStandIn t = false by simpa using List.all_eq_true.1 hall t hm)⟩)
    (by kernel_rfl)
#print axioms proved
end Go.Proofs.YtfpendpbloeedaaDoor.Total
