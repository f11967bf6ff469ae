/-
  LongnameOffsets: only the offsets of names are resolved, and different offsets are those of different entries. For every slice of strings and every number: no condition.
-/
import Derived.Test.YtnkdcecpbjhdmaaDoorLnl
import Derived.Test.YtnkdcecpbjhdmaaDoorLwg
import Derived.Test.YtnkdcecpbjhdmaaDoorCards
namespace Go.Proofs.YtnkdcecpbjhdmaaDoor.Offsets
open Go.ChangeShapes Go.WideShapes Go.ChangeAt Go.RowKit Go.Proofs Go.Proofs.YtnkdcecpbjhdmaaDoor.Byt Go.Proofs.YtnkdcecpbjhdmaaDoor.Str3 Go.Proofs.YtnkdcecpbjhdmaaDoor.Dec Go.Proofs.YtnkdcecpbjhdmaaDoor.Lnm Go.Proofs.YtnkdcecpbjhdmaaDoor.Frame

set_option maxRecDepth 100000 in
set_option maxHeartbeats 1000000 in
theorem many (w : World) (hg : Gnd w) (A : Option Addr) (n c : Nat) (ns : List ByteArray) (hr : Sls.Rd w w.heap.size A n ns) (x : Int) (hf : few ns = false) :
    Calls Tryd.prog 6 #[.slice A n c, .int .u16 x] w fun e w' => e = .returned (.bool true) ∧ Below w.heap.size w w' := by
  have Hg := hid hg
  have Hf := hid hf
  clear hf
  go_enter Tryd.func6, Tryd.ntmps6
  go_wp2_with fail
  refine (awake_any _ Hg.out).mono ?_
  rintro e w1 ⟨rfl, hb1⟩
  go_wp2_with fail
  refine (few_any _ A n c ns w1 (hr.below hb1)).mono ?_
  rintro e w2 ⟨rfl, rfl⟩
  rw [Hf.out]
  go_wp2_with fail
  refine (awake_any _ (Hg.out.on hb1)).mono ?_
  rintro e w2 ⟨rfl, hb2⟩
  go_wp2_with fail
  go_ret
  exact ⟨rfl, hb1.trans (hb2.mono hb1.size)⟩

theorem tx_inj {a b : Nat} (h : tx 10 a = tx 10 b) : a = b := by
  have h1 := val_tx (B := 10) (by omega) (by omega) a
  have h2 := val_tx (B := 10) (by omega) (by omega) b
  rw [h, h2] at h1
  exact h1.symm

set_option maxRecDepth 100000 in
set_option maxHeartbeats 4000000 in
theorem few_ (w : World) (hg : Gnd w) (A : Option Addr) (n c : Nat) (ns : List ByteArray) (hr : Sls.Rd w w.heap.size A n ns) (hnc : n ≤ c) (x : Nat) (hx : x < 65536) (hf : few ns = true) :
    Calls Tryd.prog 6 #[.slice A n c, .int .u16 (x : Int)] w fun e w' => e = .returned (.bool true) ∧ Below w.heap.size w w' := by
  obtain ⟨f1, f2, f3⟩ := few_small hf
  have hl := hr.1
  have Hf := hid hf
  have h40 : n ≤ 40 := by omega
  have F2 := hid f2
  have F3 := hid f3
  have Hl := hid hl
  clear hf f1 f2 f3 hl
  go_enter Tryd.func6, Tryd.ntmps6
  go_wp2_with fail
  refine (awake_any _ hg).mono ?_
  rintro e w1 ⟨rfl, hb1⟩
  go_wp2_with fail
  refine (few_any _ A n c ns w1 (hr.below hb1)).mono ?_
  rintro e w2 ⟨rfl, rfl⟩
  rw [Hf.out]
  have Hr1 := hid ((hr.below hb1).more hb1.size)
  have Hg1 := hid (hg.on hb1)
  have Hb1 := hid hb1
  have hK1 := hb1.size
  clear hb1
  go_wp2_with fail
  go_loopw [5] (fun i W => ∃ k : Nat, i = .int .i64 (k : Int) ∧ k ≤ n ∧ allV (ns.take k) = true ∧ Below w1.heap.size w1 W) (fun i _ => n - (intOf i).toNat)
  case atStart => exact ⟨0, rfl, by omega, by simp [allV], Below.refl _ _⟩
  case round =>
    obtain ⟨k, rfl, hk, hv, hb⟩ := hrel
    by_cases hlt : k < n
    · have hkl : k < ns.length := by have := Hl.out; omega
      obtain ⟨b, o, rfl, hbK, hcell⟩ := Hr1.out.2 k hkl
      obtain ⟨s, hss⟩ : ∃ s, ns[k] = s := ⟨_, rfl⟩
      have Hat : Hid (ns[k]? = some s) := hid (by rw [List.getElem?_eq_getElem hkl, hss])
      have hsz : s.size ≤ 300 := by rw [← hss]; exact F2.out _ (List.getElem_mem hkl)
      rw [hss] at hcell
      have hcell' : wr.cell? ⟨b, o + k, none⟩ = some (.string s) := by rw [hb.cell (p := ⟨b, o + k, none⟩) (by show b < _; omega), hcell]
      have Hv := hid hv
      have Hb := hid hb
      clear hss hcell hv hb
      cases hvs : vld (bts s)
      · go_wp2_with fail
        refine (rvalid_any s _ (by omega)).mono ?_
        rintro e w3 ⟨rfl, m3, rfl⟩
        rw [hvs]
        go_wp2_with fail
        go_ret
        exact ⟨rfl, Hb1.out.trans ((Hb.out.trans (below_drewN (K := w1.heap.size) wr m3)).mono hK1)⟩
      · have Hn : Hid (allV (ns.take (k + 1)) = true) := hid (by rw [take_next Hat.out]; exact allV_next Hv.out hvs)
        go_wp2_with fail
        refine (rvalid_any s _ (by omega)).mono ?_
        rintro e w3 ⟨rfl, m3, rfl⟩
        rw [hvs]
        go_wp2_with fail
        go_roundw
        case rel => exact ⟨k + 1, by go_num, by omega, Hn.out, Hb.out.trans (below_drewN (K := w1.heap.size) wr m3)⟩
        case measure => simp [intOf]; omega
    · obtain rfl : k = n := by omega
      have hfull : ns.take k = ns := take_all Hl.out
      rw [hfull] at hv
      have hll : (tab ns).length ≤ ns.length * 257 := tab_len hv
      rw [Hl.out] at hll
      have HV := hid hv
      have hb01 := Hb1.out.trans (hb.mono hK1)
      have Hr2 := hid (Hr1.out.below hb)
      have Hg2 := hid (Hg1.out.on hb)
      have hK2 := hb.size
      have Hb2 := hid hb01
      clear hfull hv hb hb01
      go_wp2_with fail
      refine (rtable_any w1.heap.size A _ c ns wr Hr2.out hK2 (by omega) F3.out).mono ?_
      rintro e w3 ⟨v3, rfl, ho3, hb3⟩
      obtain ⟨A3, c3, rfl, hr3, hc3, _⟩ := ho3.reads
      have hb03 := Hb2.out.trans (hb3.mono Hb2.out.size)
      have Hr3 := hid hr3
      have Hg3 := hid (Hg2.out.on hb3)
      have HN3 := hid ((Hr2.out.more hK2).below hb3)
      have Hb3 := hid hb03
      have hK3 := hb3.size
      clear ho3 hr3 hb3 hb03
      have hmod : (x : Int) % (((tab ns).length : Int) + 2) = ((x % ((tab ns).length + 2) : Nat) : Int) := by simp
      have hq : x % ((tab ns).length + 2) < (tab ns).length + 2 := Nat.mod_lt _ (by omega)
      obtain ⟨q, hqe⟩ : ∃ q, x % ((tab ns).length + 2) = q := ⟨_, rfl⟩
      rw [hqe] at hmod hq
      clear hqe
      have Hit : Hid (∀ w', Calls Tryd.prog 24 #[.int .i64 (q : Int), .int .i64 10] w' fun e w'' => e = .returned (.string (str (tx 10 q))) ∧ ∃ m, w'' = w'.drewN m) := hid fun w' => text_any 10 rfl q (by omega) w'
      have h7 := tx_len_15 (n := q) (by omega)
      have hD : (str (tx 10 q)).size ≤ 64 := by rw [str_size]; omega
      have HbD : Hid (bts ((⟨#[47]⟩ : ByteArray) ++ str (tx 10 q)) = 47 :: tx 10 q) := hid (by
        have e : (⟨#[47]⟩ : ByteArray) ++ str (tx 10 q) = str (47 :: tx 10 q) := str_append [47] _
        rw [e, bts_str])
      have hszD : ((⟨#[47]⟩ : ByteArray) ++ str (tx 10 q)).size ≤ 140737488355328 := by rw [ByteArray.size_append]; show 1 + _ ≤ _; omega
      have HszD := hid hszD
      have HR : Hid (resv (47 :: tx 10 q) (tab ns) = longAt (47 :: tx 10 q) (tab ns)) := hid (by unfold resv; rw [short_dig])
      have Hhit : Hid (∀ i (hi : i < ns.length), (tab (ns.take i)).length = q → resv (47 :: tx 10 q) (tab ns) = some ns[i]) := hid fun i hi e => by
        rw [HR.out]
        exact long_hit HV.out hi (by rw [e]) (by rw [e]; omega)
      have Hnone : Hid ((∀ i, i < ns.length → (tab (ns.take i)).length ≠ q) → resv (47 :: tx 10 q) (tab ns) = none) := hid fun h => by
        rw [HR.out]
        refine long_none HV.out fun i hi hh => h i hi ?_
        obtain ⟨e, _⟩ := hh
        injection e with _ e
        exact (tx_inj e).symm
      clear hszD HR h7
      generalize str (tx 10 q) = D at *
      generalize 47 :: tx 10 q = Fl at *
      go_wp2_with fail
      refine (Hit.out _).mono ?_
      rintro e w4 ⟨rfl, m4, rfl⟩
      have Hr4 := hid (Hr3.out.drewN m4)
      have Hg4 := hid (Hg3.out.drewN m4)
      have HN4 := hid (HN3.out.drewN m4)
      have Hb4 := hid (Hb3.out.trans (below_drewN (K := w.heap.size) w3 m4))
      have hK4 : w3.heap.size ≤ (w3.drewN m4).heap.size := Nat.le_refl _
      generalize w3.drewN m4 = w4 at *
      have Hres := hid (resolve_any w3.heap.size A3 _ c3 (tab ns) _ w4 Hg4.out Hr4.out hK4 hc3 (by omega) HszD.out)
      rw [HbD.out] at Hres
      go_wp2_with fail
      refine Hres.out.mono ?_
      rintro e w5 ⟨rfl, hb5⟩
      have HN5 := hid ((HN4.out.more (Nat.le_trans hK3 hK4)).below hb5)
      have Hb5 := hid (Hb4.out.trans (hb5.mono Hb4.out.size))
      have hK5 := hb5.size
      clear hb5
      generalize resv Fl (tab ns) = R at *
      go_wp2_with fail
      go_loopw [10] (fun i W => ∃ j : Nat, i = .int .i64 (j : Int) ∧ j ≤ k ∧ (∀ p, p < j → (tab (ns.take p)).length ≠ q) ∧ Below w5.heap.size w5 W) (fun i _ => k - (intOf i).toNat)
      case atStart => exact ⟨0, rfl, by omega, fun p hp => by omega, Below.refl _ _⟩
      case round =>
        obtain ⟨j, rfl, hj, hno, hb⟩ := hrel
        have Hno := hid hno
        clear hno
        by_cases hlt2 : j < k
        · have hjl : j < ns.length := by have := Hl.out; omega
          obtain ⟨b, o, rfl, hbK, hcell⟩ := HN5.out.2 j hjl
          obtain ⟨s, hss⟩ : ∃ s, ns[j] = s := ⟨_, rfl⟩
          have Hh := hid (Hhit.out j hjl)
          rw [hss] at hcell Hh
          have hcx : ∀ W, Below w5.heap.size w5 W → W.cell? ⟨b, o + j, none⟩ = some (.string s) := fun W hW => by
            rw [hW.cell (p := ⟨b, o + j, none⟩) (by show b < _; omega), hcell]
          have Hcx := hid hcx
          have hrdj := ((HN5.out.more hK5).below hb).pre (m := j) (by omega)
          have hT : ∀ x ∈ ns.take j, x.size ≤ 1000 := fun x hx => F3.out x (List.mem_of_mem_take hx)
          have hlj := tab_le (m := j) hT (by rw [List.length_take]; omega)
          have Htab := hid (rtable_any w5.heap.size (some ⟨b, o, none⟩) j c (ns.take j) wr hrdj hb.size (by omega) hT)
          have Hb := hid hb
          have hbs := hb.size
          have Hn : Hid ((tab (ns.take j)).length ≠ q → ∀ p, p < j + 1 → (tab (ns.take p)).length ≠ q) := hid fun h p hp => by
            by_cases e : p = j
            · subst e; exact h
            · exact Hno.out p (by omega)
          clear hss hcell hcx hrdj hT hb
          generalize (tab (ns.take j)).length = L at *
          by_cases hLq : L = q
          · have e0 := Hh.out hLq
            have e1 : rs R = s := by rw [e0]; rfl
            have e2 : re R = 0 := by rw [e0]; rfl
            have heq : ((L : Int) == (q : Int)) = true := by rw [hLq]; simp
            rw [e1, e2]
            clear e0 e1 e2 hLq
            go_wp2_with fail
            refine Htab.out.mono ?_
            rintro e w6 ⟨v6, rfl, ho6, hb6⟩
            obtain ⟨A6, c6, rfl, _⟩ := ho6.reads
            have hb56 := Hb.out.trans (hb6.mono hbs)
            have hc6 := Hcx.out _ hb56
            clear ho6 hb6
            go_wp2_with fail
            go_ret
            exact ⟨rfl, Hb5.out.trans (hb56.mono Hb5.out.size)⟩
          · have heq : ((L : Int) == (q : Int)) = false := by rw [beq_eq_false_iff_ne]; omega
            have Hn2 := hid (Hn.out hLq)
            clear hLq
            go_wp2_with fail
            refine Htab.out.mono ?_
            rintro e w6 ⟨v6, rfl, ho6, hb6⟩
            obtain ⟨A6, c6, rfl, _⟩ := ho6.reads
            have hb56 := Hb.out.trans (hb6.mono hbs)
            clear ho6 hb6
            go_wp2_with fail
            go_roundw
            case rel => exact ⟨j + 1, by go_num, by omega, Hn2.out, hb56⟩
            case measure => simp [intOf]; omega
        · have e0 := Hnone.out fun i hi => Hno.out i (by have := Hl.out; omega)
          have e1 : rs R = ⟨#[]⟩ := by rw [e0]; rfl
          have e2 : re R = 6 := by rw [e0]; rfl
          rw [e1, e2]
          clear e0 e1 e2
          have hbb := Hb5.out.trans (hb.mono Hb5.out.size)
          clear hb
          go_wp2_with fail
          go_ret
          exact ⟨rfl, hbb⟩

theorem walk (w : World) (hg : Gnd w) (A : Option Addr) (n c : Nat) (ns : List ByteArray) (hr : Sls.Rd w w.heap.size A n ns) (hnc : n ≤ c) (_ : c ≤ maxLen) (_ : ∀ s ∈ ns, s.size ≤ maxLen) (x : Nat) (hx : x < 65536) :
    Calls Tryd.prog 6 #[.slice A n c, .int .u16 (x : Int)] w fun e w' => e = .returned (.bool true) ∧ Below w.heap.size w w' := by
  cases hf : few ns
  · exact many w hg A n c ns hr x hf
  · exact few_ w hg A n c ns hr hnc x hx hf

set_option maxRecDepth 100000 in
theorem held : Rows.LongnameOffsetsSaid :=
  OpenClaim.holds_of_wide 6 Tryd.f6 rfl rfl rfl rfl rfl rfl rfl ⟨rfl, rfl, rfl, rfl, rfl⟩ rfl rfl rfl rfl rfl (by kernel_rfl) Tryd.func6 (by kernel_rfl)
    (of_decide_eq_true (by kernel_rfl)) (by unfold Func.isWrapper; first | (rw [if_pos (by decide +kernel)]; kernel_rfl) | (rw [if_neg (by decide +kernel)]; exact ⟨rfl, rfl⟩))
    (fun os started H enc _ => liftedG (started := started) (s := Rows.longnameOffsetsSpec) (L := Rows.longnameOffsetsRow.laid) rfl
      (fun ds h => by match ds, h with | [_, _], _ => rfl) (by kernel_rfl)
      (by kernel_rfl) (by kernel_rfl) Tryd.func6
      (ChangeSpec.witness_shaped (enc := enc) (C := Tryd.checked) (os := os) (X := fun w _ => laidMetH Tryd.prog Rows.longnameOffsetsRow.laid w) false (World.laidAll Tryd.prog os Rows.longnameOffsetsRow.laid) #[.slice none 0 0, .int .u16 0] 8 (World.laidAll_os _ _ _)
        (World.shaped_of_ZipB (by kernel_rfl) (by kernel_rfl)) (by kernel_rfl) (by kernel_rfl) (by kernel_rfl)
        (by rw [MakeChecks.laidMetH_plain _ _ _ (by kernel_rfl)]; exact laidMet_laidAll _ (by kernel_rfl) (by kernel_rfl)))
      gnd_of (fun W base args ds p hG h => by
        obtain ⟨hval, hA, _⟩ := h
        rw [show Tryd.f6.params = #[22, 45] from by kernel_rfl] at hA hval
        obtain ⟨v0, vs0, d0, ds0, p0, q0, hargs, rfl, rfl, k0, r0⟩ := trodAll_cons hA
        obtain ⟨v1, vs1, d1, ds1, p1, q1, rfl, rfl, rfl, k1, r1⟩ := trodAll_cons r0
        obtain ⟨rfl, rfl, rfl⟩ := trodAll_nil r1
        obtain rfl : args = #[v0, v1] := by cases args; simp_all
        obtain ⟨A0, n0, c0, l0, rfl, h0, m0, g0, s0⟩ := open_strs (hval 0 _ v0 rfl rfl) k0
        obtain ⟨a1, rfl, u1⟩ := open_u16 (hval 1 _ v1 rfl rfl) k1
        exact walk W hG A0 n0 c0 l0 h0 m0 g0 s0 a1 u1))
theorem proved : Rows.LongnameOffsetsCardSaid :=
  Claim7.holds_tied_plain_at .later [] [.data, .data, .data] true (true, "633020f8cc6583ae8bfd4f07bdf20992a0d614bdae9f021f4599b06dde0a5ae5") false held (fun _ h => by cases h) (by kernel_rfl) (fun _ h => by cases h) longnameOffsets_row_tie rfl ⟨rfl, rfl⟩ (by kernel_rfl) rfl
    (fun f fn hf hfn => by
      obtain rfl : f = 6 := Option.some.inj ((show Tryd.prog.funcNamed "arlink/arlinklaw03.LongnameOffsets" = some 6 by kernel_rfl).symm.trans hf) |>.symm
      obtain rfl : fn = Tryd.f6 := (Option.some.inj (Tryd.func6.symm.trans hfn)).symm
      exact ⟨by kernel_rfl, fun j t ht => by
        rw [Tryd.params6] at ht
        have hm : t ∈ [22, 45] := by simpa using Array.mem_of_getElem? ht
        have hall : ([22, 45].all fun u => !Tryd.prog.wantsStandIn u) = true := by kernel_rfl
        exact (show Tryd.prog.wantsStandIn t = false by simpa using List.all_eq_true.1 hall t hm)⟩)
    (by kernel_rfl)
#print axioms proved
end Go.Proofs.YtnkdcecpbjhdmaaDoor.Offsets
