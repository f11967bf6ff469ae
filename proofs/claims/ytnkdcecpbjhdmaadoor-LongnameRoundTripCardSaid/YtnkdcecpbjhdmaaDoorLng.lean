/-
  The reference of longname: Table, Build, Texts, Few.
-/
import Derived.Test.YtnkdcecpbjhdmaaDoorLne
namespace Go.Proofs.YtnkdcecpbjhdmaaDoor.Lnm
open Go.RowKit Go.Proofs Go.Proofs.YtnkdcecpbjhdmaaDoor.Byt Go.Proofs.YtnkdcecpbjhdmaaDoor.Str3 Go.Proofs.YtnkdcecpbjhdmaaDoor.Dec

theorem tab_le {ns : List ByteArray} {m : Nat} (h : ∀ s ∈ ns, s.size ≤ 1000) (hm : ns.length ≤ m) : (tab ns).length ≤ m * 1002 :=
  Nat.le_trans (tab_len_le ns 1000 h) (Nat.mul_le_mul_right 1002 hm)

set_option maxRecDepth 100000 in
set_option maxHeartbeats 1000000 in
theorem rtable_any (K : Nat) (A : Option Addr) (n c : Nat) (ns : List ByteArray) (w : World) (hr : Sls.Rd w K A n ns) (hK : K ≤ w.heap.size) (hn : n ≤ 2000) (hs : ∀ s ∈ ns, s.size ≤ 1000) :
    Calls Tryd.prog 23 #[.slice A n c] w fun e w' => ∃ v, e = .returned v ∧ Own w' w.heap.size v (tab ns).length (tab ns) ∧ Below w.heap.size w w' := by
  have hl := hr.1
  have Hl := hid hl
  clear hl
  go_enter Tryd.func23, Tryd.ntmps23
  go_wp2_with fail
  go_loopw [3, 4] (fun v i W => ∃ k : Nat, i = .int .i64 (k : Int) ∧ k ≤ n ∧ Own W w.heap.size v (tab (ns.take k)).length (tab (ns.take k)) ∧ Below w.heap.size w W) (fun _ i _ => n - (intOf i).toNat)
  case atStart => exact ⟨0, rfl, by omega, Own.nil _ _, Below.refl _ _⟩
  case round =>
    obtain ⟨k, rfl, hk, ho, hb⟩ := hrel
    by_cases hlt : k < n
    · have hkl : k < ns.length := by have := Hl.out; omega
      obtain ⟨b, o, rfl, hbK, hcell⟩ := hr.2 k hkl
      obtain ⟨s, hss⟩ : ∃ s, ns[k] = s := ⟨_, rfl⟩
      have hsz := hs _ (List.getElem_mem hkl)
      have Hat : Hid (ns[k]? = some s) := hid (by rw [List.getElem?_eq_getElem hkl, hss])
      rw [hss] at hsz
      have hcell' : wr.cell? ⟨b, o + k, none⟩ = some (.string s) := by rw [hb.cell (p := ⟨b, o + k, none⟩) (by show b < _; omega), hcell, hss]
      clear hss hcell
      have hll := tab_le (ns := ns.take k) (m := k) (fun s hs' => hs s (List.mem_of_mem_take hs')) (by rw [List.length_take]; omega)
      have Htk : Hid (tab (ns.take (k + 1)) = tab (ns.take k) ++ s.data.toList ++ [47, 10]) := hid (by rw [take_next Hat.out, tab_snoc, List.append_assoc]; rfl)
      generalize ns.take k = T at *
      have Hb := hid hb
      have Ho := hid ho
      clear hb ho
      go_wp2_with (first
        | (at_builtin; refine wpList_apps2 _ w.heap.size _ _ _ Ho.out Hb.out.size s (by omega) rfl (.tmp 11) (.tmp 15) rfl rfl rfl ?_; intro v4 w4 ho4 hb4 _; have hb04 := Hb.out.trans hb4)
        | (at_builtin; refine wpList_app _ w.heap.size _ _ _ (ho4.alloc _) (by simp; have := hb04.size; omega) (some ⟨w4.heap.size, 0, none⟩) 2 2 (w4.heap.size + 1) [47, 10] (Rd.lit w4 [47, 10] _ rfl 2 rfl) (by omega) rfl (.tmp 16) (.tmp 17) rfl rfl rfl ?_; intro v5 w5 ho5 hb5))
      go_roundw
      case rel =>
        refine ⟨k + 1, by go_num, by omega, ?_, hb04.trans (((Below.refl _ w4).alloc hb04.size _).trans hb5)⟩
        rw [Htk.out]
        have e : (tab T ++ s.data.toList ++ [47, 10]).length = (tab T).length + s.size + 2 := by
          rw [List.length_append, List.length_append]
          have := bts_length s
          unfold bts at this
          rw [this]
          rfl
        rw [e]
        exact ho5
      case measure => simp [intOf]; omega
    · obtain rfl : k = n := by omega
      have hfull : ns.take k = ns := take_all Hl.out
      rw [hfull] at ho
      clear hfull
      go_wp2_with fail
      go_ret
      exact ⟨_, rfl, ho, hb⟩

theorem longs_mem {ns : List ByteArray} {s : ByteArray} (h : s ∈ longs ns) : s ∈ ns := (List.mem_filter.1 h).1

set_option maxRecDepth 100000 in
set_option maxHeartbeats 4000000 in
theorem rbuild_any (K : Nat) (A : Option Addr) (n c : Nat) (ns : List ByteArray) (w : World) (hr : Sls.Rd w K A n ns) (hK : K ≤ w.heap.size) (hn : n ≤ 100) (hs : ∀ s ∈ ns, s.size ≤ 1000) :
    Calls Tryd.prog 12 #[.slice A n c] w (Builds ns w) := by
  have hl := hr.1
  have Hbad : Hid (allV ns = false → ∀ w', Below w.heap.size w w' → Builds ns w (.returned (.tuple #[.slice none 0 0, .slice none 0 0, .int .i64 6])) w') := hid fun h w' hb => by
    have h1 : bo ns = [] := if_neg (by rw [h]; simp)
    have h2 : fo ns = [] := if_neg (by rw [h]; simp)
    have h3 : be ns = 6 := if_neg (by rw [h]; simp)
    refine ⟨_, _, by rw [h3], ?_, ?_, hb⟩
    · rw [h1]; exact Own.nil _ _
    · rw [h2]; exact Sls.Own.nil _ _
  have Hgood : Hid (allV ns = true → ∀ v f w', Own w' w.heap.size v (tab (longs ns)).length (tab (longs ns)) → Sls.Own w' w.heap.size f n (flds [] ns) → Below w.heap.size w w' → Builds ns w (.returned (.tuple #[v, f, .int .i64 0])) w') := hid fun h v f w' o1 o2 hb => by
    have h1 : bo ns = tab (longs ns) := if_pos h
    have h2 : fo ns = flds [] ns := if_pos h
    have h3 : be ns = 0 := if_pos h
    refine ⟨v, f, by rw [h3], by rw [h1]; exact o1, ?_, hb⟩
    rw [h2, flds_length, hl]; exact o2
  have Hl := hid hl
  clear hl
  go_enter Tryd.func12, Tryd.ntmps12
  go_wp2_with fail
  go_loopw [5, 6, 7] (fun v f i W => ∃ k : Nat, i = .int .i64 (k : Int) ∧ k ≤ n ∧ allV (ns.take k) = true ∧ Sls.Own W w.heap.size v (longs (ns.take k)).length (longs (ns.take k)) ∧ Sls.Own W w.heap.size f k (flds [] (ns.take k)) ∧ Sls.Apart v f ∧ Below w.heap.size w W) (fun _ _ i _ => n - (intOf i).toNat)
  case atStart => exact ⟨0, rfl, by omega, by simp [allV], Sls.Own.nil _ _, Sls.Own.nil _ _, Sls.Apart.nil _ _ _, Below.refl _ _⟩
  case round =>
    obtain ⟨k, rfl, hk, hv, ho, hf, hap, hb⟩ := hrel
    by_cases hlt : k < n
    · have hkl : k < ns.length := by have := Hl.out; omega
      obtain ⟨b, o, rfl, hbK, hcell⟩ := hr.2 k hkl
      obtain ⟨s, hss⟩ : ∃ s, ns[k] = s := ⟨_, rfl⟩
      have hsz := hs _ (List.getElem_mem hkl)
      have Hat : Hid (ns[k]? = some s) := hid (by rw [List.getElem?_eq_getElem hkl, hss])
      rw [hss] at hsz
      have hcellx : ∀ w', Below w.heap.size w w' → w'.cell? ⟨b, o + k, none⟩ = some (.string s) := fun w' hb' => by rw [hb'.cell (p := ⟨b, o + k, none⟩) (by show b < _; omega), hcell, hss]
      have Hcell := hid hcellx
      clear hss hcell hcellx
      have hcell1 := Hcell.out _ hb
      have hll := tabl_len (k := k) hv (by rw [List.length_take]; omega)
      have hlen := longs_len (ns.take k)
      have htl : (ns.take k).length ≤ k := by rw [List.length_take]; omega
      have hsT : ∀ s ∈ longs (ns.take k), s.size ≤ 1000 := fun s hs' => hs s (List.mem_of_mem_take (longs_mem hs'))
      have HsT := hid hsT
      clear hsT
      generalize hT : ns.take k = T at *
      have HT := hid hT
      clear hT
      have Hv := hid hv
      have Hb := hid hb
      have Ho := hid ho
      have Hf := hid hf
      have Hap := hid hap
      clear hv hb ho hf hap
      have hbl := Hb.out.size
      cases hvs : vld (bts s)
      · have Hno := hid (not_all Hat.out hvs)
        go_wp2_with fail
        refine (rvalid_any s _ (by omega)).mono ?_
        rintro e w1 ⟨rfl, m1, rfl⟩
        rw [hvs]
        have Hb1 := hid (Hb.out.trans (below_drewN _ m1))
        go_wp2_with fail
        go_ret3
        exact Hbad.out Hno.out _ Hb1.out
      · have Hvn : Hid (allV (ns.take (k + 1)) = true) := hid (by rw [take_next Hat.out, HT.out]; exact allV_next Hv.out hvs)
        have Hfk : Hid (flds [] (ns.take (k + 1)) = flds [] T ++ [fld T s]) := hid (by rw [take_next Hat.out, HT.out, flds_snoc])
        cases hsh : sht (bts s)
        · have Hfl := hid (fld_long (a := T) hsh)
          have Hlk : Hid (longs (ns.take (k + 1)) = longs T ++ [s]) := hid (by rw [take_next Hat.out, HT.out, longs_long hsh])
          obtain ⟨A1, c1, hv1, hrd1, hc1, _⟩ := Ho.out.reads
          subst hv1
          go_wp2_with fail
          refine (rvalid_any s _ (by omega)).mono ?_
          rintro e w1 ⟨rfl, m1, rfl⟩
          rw [hvs]
          have hcell2 := Hcell.out _ (Hb.out.trans (below_drewN _ m1))
          go_wp2_with fail
          refine (rshort_any s _ (by omega)).mono ?_
          rintro e w2 ⟨rfl, m2, rfl⟩
          rw [hsh]
          have hb2 := (Hb.out.trans (below_drewN _ m1)).trans (below_drewN (wr.drewN m1) m2)
          have ho2 := (Ho.out.drewN m1).drewN m2
          have hf2 := (Hf.out.drewN m1).drewN m2
          have hrd2 := (hrd1.drewN m1).drewN m2
          have hK2 : wr.heap.size ≤ ((wr.drewN m1).drewN m2).heap.size := Nat.le_refl _
          generalize (wr.drewN m1).drewN m2 = w2 at *
          have Hit : Hid (∀ w', Calls Tryd.prog 24 #[.int .i64 ((tab (longs T)).length : Int), .int .i64 10] w' fun e w'' => e = .returned (.string (str (tx 10 (tab (longs T)).length))) ∧ ∃ m, w'' = w'.drewN m) := hid fun w' => text_any 10 rfl (tab (longs T)).length (by omega) w'
          have hD : (str (tx 10 (tab (longs T)).length)).size ≤ 64 := by
            rw [str_size, tx_length (by omega)]
            exact Nat.le_trans (nd_lt_64 (by omega) (by omega)) (by omega)
          generalize str (tx 10 (tab (longs T)).length) = D at *
          go_wp2_with fail
          refine (rtable_any wr.heap.size A1 _ c1 (longs T) w2 hrd2 hK2 (by omega) HsT.out).mono ?_
          rintro e w3 ⟨v3, rfl, ho3, hb3⟩
          obtain ⟨A3, c3, rfl, _, _⟩ := ho3.reads
          have hb03 := hb2.trans (hb3.mono hb2.size)
          have hl3 := ho2.below hb3
          have hf3 := hf2.below hb3
          clear ho3 hb3 hb2 ho2 hf2 hrd2 hrd1
          go_wp2_with fail
          refine (Hit.out _).mono ?_
          rintro e w4 ⟨rfl, m4, rfl⟩
          have hb04 := hb03.trans (below_drewN w3 m4)
          have hl4 := hl3.drewN m4
          have hf4 := hf3.drewN m4
          clear hb03 hl3 hf3
          generalize w3.drewN m4 = w4 at *
          go_wp2_with (first
            | (at_builtin; refine Sls.wpList_push _ w.heap.size _ _ _ _ hf4 hb04.size (by omega) rfl (.tmp 33) (.tmp 39) rfl rfl rfl ?_; intro f5 w5 hf5 hb45 _ hr45; have hb05 := hb04.trans hb45; have hcell5 := Hcell.out _ hb05; have hl5 := hl4.fr hr45 Hap.out; have hap5 := (Hap.out.fr hl4 hr45).symm)
            | (at_builtin; refine Sls.wpList_push _ w.heap.size _ _ _ _ hl5 hb05.size (by omega) rfl (.tmp 41) (.tmp 46) rfl rfl rfl ?_; intro v6 w6 hl6 hb56 _ hr56))
          go_roundw
          case rel =>
            refine ⟨k + 1, by go_num, by omega, Hvn.out, ?_, ?_, (hap5.fr hf5 hr56).symm, hb05.trans hb56⟩
            · rw [Hlk.out, List.length_append]
              exact hl6
            · rw [Hfk.out, ← Hfl.out]
              exact hf5.fr hr56 hap5
          case measure => simp [intOf]; omega
        · have Hfl := hid (fld_short (a := T) hsh)
          have Hlk : Hid (longs (ns.take (k + 1)) = longs T) := hid (by rw [take_next Hat.out, HT.out, longs_short hsh])
          go_wp2_with fail
          refine (rvalid_any s _ (by omega)).mono ?_
          rintro e w1 ⟨rfl, m1, rfl⟩
          rw [hvs]
          have hcell2 := Hcell.out _ (Hb.out.trans (below_drewN _ m1))
          go_wp2_with fail
          refine (rshort_any s _ (by omega)).mono ?_
          rintro e w2 ⟨rfl, m2, rfl⟩
          rw [hsh]
          have hb2 := (Hb.out.trans (below_drewN _ m1)).trans (below_drewN (wr.drewN m1) m2)
          have ho2 := (Ho.out.drewN m1).drewN m2
          have hf2 := (Hf.out.drewN m1).drewN m2
          have hcell3 := Hcell.out _ hb2
          generalize (wr.drewN m1).drewN m2 = w2 at *
          go_wp2_with (at_builtin; refine Sls.wpList_push _ w.heap.size _ _ _ _ hf2 hb2.size (by omega) rfl (.tmp 25) (.tmp 31) rfl rfl rfl ?_; intro f4 w4 hf4 hb24 _ hr24)
          go_roundw
          case rel =>
            refine ⟨k + 1, by go_num, by omega, Hvn.out, ?_, ?_, Hap.out.fr ho2 hr24, hb2.trans hb24⟩
            · rw [Hlk.out]; exact ho2.fr hr24 Hap.out
            · rw [Hfk.out, ← Hfl.out]
              exact hf4
          case measure => simp [intOf]; omega
    · obtain rfl : k = n := by omega
      have hfull : ns.take k = ns := take_all Hl.out
      rw [hfull] at hv ho hf
      have Hfin := hid (Hgood.out hv)
      have hll := longs_len ns
      have hl := Hl.out
      obtain ⟨A1, c1, rfl, hrd1, hc1, _⟩ := ho.reads
      have HsT : Hid (∀ s ∈ longs ns, s.size ≤ 1000) := hid fun s hs' => hs s (longs_mem hs')
      have Hf := hid hf
      have Hrd := hid hrd1
      have h100 : (longs ns).length ≤ 2000 := by omega
      clear hv hfull hl ho hf hap hrd1
      go_wp2_with fail
      refine (rtable_any wr.heap.size A1 _ c1 (longs ns) wr Hrd.out (Nat.le_refl _) h100 HsT.out).mono ?_
      rintro e w3 ⟨v3, rfl, ho3, hb3⟩
      have hf3 := Hf.out.below hb3
      have hbb := hb.trans (hb3.mono hb.size)
      have hbs := hb.size
      go_wp2_with fail
      go_ret3
      exact Hfin.out _ _ _ (ho3.more hbs) hf3 hbb
end Go.Proofs.YtnkdcecpbjhdmaaDoor.Lnm
