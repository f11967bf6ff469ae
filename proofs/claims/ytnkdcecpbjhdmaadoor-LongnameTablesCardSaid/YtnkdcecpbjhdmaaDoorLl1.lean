/-
  LongnameTables: a table that is accepted is the table of its names; a table without its last byte is not accepted. For every byte slice: no condition.
-/
import Derived.Test.YtnkdcecpbjhdmaaDoorLnk
import Derived.Test.YtnkdcecpbjhdmaaDoorLwg
import Derived.Test.YtnkdcecpbjhdmaaDoorCards
namespace Go.Proofs.YtnkdcecpbjhdmaaDoor.Tables
open Go.ChangeShapes Go.WideShapes Go.ChangeAt Go.RowKit Go.Proofs Go.Proofs.YtnkdcecpbjhdmaaDoor.Byt Go.Proofs.YtnkdcecpbjhdmaaDoor.Str3 Go.Proofs.YtnkdcecpbjhdmaaDoor.Dec Go.Proofs.YtnkdcecpbjhdmaaDoor.Lnm Go.Proofs.YtnkdcecpbjhdmaaDoor.Frame

theorem cut_bad {t : List UInt8} (hg : good t = true) (h0 : t ≠ []) : good (t.take (t.length - 1)) = false := by
  obtain ⟨ht, _⟩ := tab_of_good hg
  have hne : seq t ≠ [] := fun e => by rw [e] at ht; exact h0 ht
  obtain ⟨init, x, hx⟩ : ∃ init x, seq t = init ++ [x] := ⟨_, _, (List.dropLast_concat_getLast hne).symm⟩
  rw [hx, tab_snoc] at ht
  have e : t.take (t.length - 1) = (tab init ++ bts x) ++ [47] := by
    have h4 : t = ((tab init ++ bts x) ++ [47]) ++ [10] := by rw [ht]; simp
    have hlen : t.length - 1 = ((tab init ++ bts x) ++ [47]).length := by rw [h4, List.length_append]; simp
    rw [hlen]
    conv => lhs; rw [h4, List.take_left]
  cases hq : good (t.take (t.length - 1))
  · rfl
  · exfalso
    obtain ⟨h2, _⟩ := tab_of_good hq
    have hn2 : seq (t.take (t.length - 1)) ≠ [] := fun e2 => by
      rw [e2, e] at h2
      have := congrArg List.length h2
      simp [tab] at this
    have h3 := tab_last hn2
    rw [← h2, e] at h3
    simp at h3

theorem seq_small {t : List UInt8} (hg : good t = true) : ∀ s ∈ seq t, s.size ≤ 1000 := fun s hs => by
  have := (vld_size (allV_iff.1 (tab_of_good hg).2 s hs)).2; omega

set_option maxRecDepth 100000 in
theorem long (w : World) (hg : Gnd w) (A : Option Addr) (n c : Nat) (h : 1000 < n) :
    Calls Tryd.prog 5 #[.slice A n c] w fun e w' => e = .returned (.bool true) ∧ Below w.heap.size w w' := by
  have Hg := hid hg
  go_enter Tryd.func5, Tryd.ntmps5
  go_wp2_with fail
  refine (awake_any _ Hg.out).mono ?_
  rintro e w1 ⟨rfl, hb1⟩
  go_wp2_with fail
  refine (awake_any _ (Hg.out.on hb1)).mono ?_
  rintro e w2 ⟨rfl, hb2⟩
  go_wp2_with fail
  go_ret
  exact ⟨rfl, hb1.trans (hb2.mono hb1.size)⟩

set_option maxRecDepth 100000 in
set_option maxHeartbeats 2000000 in
theorem bad_ (w : World) (hg : Gnd w) (A : Option Addr) (n c : Nat) (l : List UInt8) (hr : Rd w w.heap.size A n l) (hc : n ≤ c) (hn : n ≤ 1000) (h0 : good l = false) :
    Calls Tryd.prog 5 #[.slice A n c] w fun e w' => e = .returned (.bool true) ∧ Below w.heap.size w w' := by
  have HE : Hid (entsO l = [] ∧ entsE l = 7) := hid ⟨if_neg (by rw [h0]; simp), if_neg (by rw [h0]; simp)⟩
  clear h0
  go_enter Tryd.func5, Tryd.ntmps5
  go_wp2_with fail
  refine (awake_any _ hg).mono ?_
  rintro e w1 ⟨rfl, hb1⟩
  go_wp2_with fail
  refine (entries_any _ A n c l w1 (hg.on hb1) (hr.below hb1) hb1.size hc (by omega)).mono ?_
  rintro e w2 ⟨v2, rfl, ho2, hb2⟩
  rw [HE.out.1] at ho2
  rw [HE.out.2]
  obtain ⟨A2, c2, rfl, _⟩ := ho2.reads
  have Hb2 := hid (hb1.trans (hb2.mono hb1.size))
  clear hb1 hb2 ho2
  have hl0 : ([] : List ByteArray).length = 0 := rfl
  rw [hl0]
  clear hl0
  go_wp2_with fail
  go_ret
  exact ⟨rfl, Hb2.out⟩

set_option maxRecDepth 100000 in
set_option maxHeartbeats 2000000 in
theorem good_ (w : World) (hg : Gnd w) (A : Option Addr) (n c : Nat) (l : List UInt8) (hr : Rd w w.heap.size A n l) (hc : n ≤ c) (hn : n ≤ 1000) (h0 : good l = true) :
    Calls Tryd.prog 5 #[.slice A n c] w fun e w' => e = .returned (.bool true) ∧ Below w.heap.size w w' := by
  have HE : Hid (entsO l = seq l ∧ entsE l = 0) := hid ⟨if_pos h0, if_pos h0⟩
  have Hs := hid (seq_small h0)
  have hsl := seq_length l
  have hl := hr.1
  have Htab := hid (tab_of_good h0).1
  have Hcut := hid (cut_bad h0)
  have Hnil : Hid (n = 0 → seq l = []) := hid fun e => by
    have : l = [] := List.eq_nil_of_length_eq_zero (by omega)
    rw [this, seq_nil]
  have Hl := hid hl
  have hsn : (seq l).length ≤ 1001 := by omega
  clear h0 hsl hl
  go_enter Tryd.func5, Tryd.ntmps5
  go_wp2_with fail
  refine (awake_any _ hg).mono ?_
  rintro e w1 ⟨rfl, hb1⟩
  go_wp2_with fail
  refine (entries_any _ A n c l w1 (hg.on hb1) (hr.below hb1) hb1.size hc (by omega)).mono ?_
  rintro e w2 ⟨v2, rfl, ho2, hb2⟩
  rw [HE.out.1] at ho2
  rw [HE.out.2]
  obtain ⟨A2, c2, rfl, hr2, hc2, _⟩ := ho2.reads
  have hb02 := hb1.trans (hb2.mono hb1.size)
  clear hb1 hb2 ho2
  go_wp2_with fail
  refine (rtable_any w2.heap.size A2 _ c2 (seq l) w2 hr2 (Nat.le_refl _) (by omega) Hs.out).mono ?_
  rintro e w3 ⟨v3, rfl, ho3, hb3⟩
  rw [← Htab.out] at ho3
  obtain ⟨A3, c3, rfl, hr3, hc3, _⟩ := ho3.reads
  have hb03 := hb02.trans (hb3.mono hb02.size)
  have Hsame := hid (same_any _ rfl _ _ A3 A l.length c3 n c l l w3 hr3 (hr.below hb03) (by have := Hl.out; omega))
  have Hg3 := hid (hg.on hb03)
  have Hb3 := hid hb03
  have hself : (l == l) = true := by simp
  clear hb02 hb3 ho3 hr2 hr3 hb03
  by_cases hz : n = 0
  · have hns := Hnil.out hz
    have Hr2 : Hid ((seq l).length = 0) := hid (by rw [hns]; rfl)
    obtain rfl := hz
    rw [Hr2.out]
    clear hns
    go_wp2_with fail
    refine Hsame.out.mono ?_
    rintro e w4 ⟨rfl, m4, rfl⟩
    rw [hself]
    go_wp2_with fail
    go_ret
    exact ⟨rfl, Hb3.out.trans (below_drewN _ _)⟩
  · have hne : ((n : Int) == 0) = false := by rw [beq_eq_false_iff_ne]; omega
    obtain ⟨k, rfl⟩ : ∃ k, n = k + 1 := ⟨n - 1, by omega⟩
    have hsub : ((k + 1 : Nat) : Int) - 1 = (k : Int) := by omega
    have Hbad : Hid (good (l.take k) = false) := hid (by
      have := Hcut.out (fun e => by have := Hl.out; rw [e] at this; simp at this)
      rw [Hl.out] at this
      exact this)
    go_wp2_with fail
    refine Hsame.out.mono ?_
    rintro e w4 ⟨rfl, m4, rfl⟩
    rw [hself]
    have hb4 := Hb3.out.trans (below_drewN (K := w.heap.size) w3 m4)
    have hr4 := (hr.below hb4).pre (m := k) (by omega)
    have hg4 := Hg3.out.drewN m4
    generalize w3.drewN m4 = w4 at *
    go_wp2_with fail
    refine (entries_any _ A k c (l.take k) w4 hg4 hr4 hb4.size (by omega) (by omega)).mono ?_
    rintro e w5 ⟨v5, rfl, ho5, hb5⟩
    have e5 : entsE (l.take k) = 7 := if_neg (by rw [Hbad.out]; simp)
    rw [e5]
    have Hb5 := hid (hb4.trans (hb5.mono hb4.size))
    clear e5 ho5 hb4 hb5 hr4
    go_wp2_with fail
    go_ret
    exact ⟨rfl, Hb5.out⟩

theorem walk (w : World) (hg : Gnd w) (A : Option Addr) (n c : Nat) (l : List UInt8) (hr : Rd w w.heap.size A n l) (hc : n ≤ c) (_ : c ≤ maxLen) :
    Calls Tryd.prog 5 #[.slice A n c] w fun e w' => e = .returned (.bool true) ∧ Below w.heap.size w w' := by
  by_cases h : 1000 < n
  · exact long w hg A n c h
  · cases h0 : good l
    · exact bad_ w hg A n c l hr hc (by omega) h0
    · exact good_ w hg A n c l hr hc (by omega) h0

set_option maxRecDepth 100000 in
theorem held : Rows.LongnameTablesSaid :=
  OpenClaim.holds_of_wide 5 Tryd.f5 rfl rfl rfl rfl rfl rfl rfl ⟨rfl, rfl, rfl, rfl, rfl⟩ rfl rfl rfl rfl rfl (by kernel_rfl) Tryd.func5 (by kernel_rfl)
    (of_decide_eq_true (by kernel_rfl)) (by unfold Func.isWrapper; first | (rw [if_pos (by decide +kernel)]; kernel_rfl) | (rw [if_neg (by decide +kernel)]; exact ⟨rfl, rfl⟩))
    (fun os started H enc _ => liftedG (started := started) (s := Rows.longnameTablesSpec) (L := Rows.longnameTablesRow.laid) rfl
      (fun ds h => by match ds, h with | [_], _ => rfl) (by kernel_rfl)
      (by kernel_rfl) (by kernel_rfl) Tryd.func5
      (ChangeSpec.witness_shaped (enc := enc) (C := Tryd.checked) (os := os) (X := fun w _ => laidMetH Tryd.prog Rows.longnameTablesRow.laid w) false (World.laidAll Tryd.prog os Rows.longnameTablesRow.laid) #[.slice none 0 0] 8 (World.laidAll_os _ _ _)
        (World.shaped_of_ZipB (by kernel_rfl) (by kernel_rfl)) (by kernel_rfl) (by kernel_rfl) (by kernel_rfl)
        (by rw [MakeChecks.laidMetH_plain _ _ _ (by kernel_rfl)]; exact laidMet_laidAll _ (by kernel_rfl) (by kernel_rfl)))
      gnd_of (fun W base args ds p hG h => by
        obtain ⟨hval, hA, _⟩ := h
        rw [show Tryd.f5.params = #[23] from by kernel_rfl] at hA hval
        obtain ⟨v0, vs0, d0, ds0, p0, q0, hargs, rfl, rfl, k0, r0⟩ := trodAll_cons hA
        obtain ⟨rfl, rfl, rfl⟩ := trodAll_nil r0
        obtain rfl : args = #[v0] := by cases args; simp_all
        obtain ⟨A0, n0, c0, l0, rfl, h0, m0, g0⟩ := open_bytes (hval 0 _ v0 rfl rfl) k0
        exact walk W hG A0 n0 c0 l0 h0 m0 g0))
theorem proved : Rows.LongnameTablesCardSaid :=
  Claim7.holds_tied_plain_at .later [] [.data, .data, .data] true (true, "633020f8cc6583ae8bfd4f07bdf20992a0d614bdae9f021f4599b06dde0a5ae5") false held (fun _ h => by cases h) (by kernel_rfl) (fun _ h => by cases h) longnameTables_row_tie rfl ⟨rfl, rfl⟩ (by kernel_rfl) rfl
    (fun f fn hf hfn => by
      obtain rfl : f = 5 := Option.some.inj ((show Tryd.prog.funcNamed "arlink/arlinklaw03.LongnameTables" = some 5 by kernel_rfl).symm.trans hf) |>.symm
      obtain rfl : fn = Tryd.f5 := (Option.some.inj (Tryd.func5.symm.trans hfn)).symm
      exact ⟨by kernel_rfl, fun j t ht => by
        rw [Tryd.params5] at ht
        have hm : t ∈ [23] := by simpa using Array.mem_of_getElem? ht
        have hall : ([23].all fun u => !Tryd.prog.wantsStandIn u) = true := by kernel_rfl
        exact (show Tryd.prog.wantsStandIn t = false by simpa using List.all_eq_true.1 hall t hm)⟩)
    (by kernel_rfl)
#print axioms proved
end Go.Proofs.YtnkdcecpbjhdmaaDoor.Tables
