/-
  longname: Build.
-/
import Derived.Test.YtpedngfmjhpojaaGreatDoorZMh
import Derived.Test.YtpedngfmjhpojaaGreatDoorZMg
namespace Go.Proofs.YtpedngfmjhpojaaGreatDoor.Lnm
open Go.RowKit Go.Proofs Go.Proofs.YtpedngfmjhpojaaGreatDoor.Byt Go.Proofs.YtpedngfmjhpojaaGreatDoor.Str3 Go.Proofs.YtpedngfmjhpojaaGreatDoor.Dec

/-- What Build gives. -/
def bo (ns : List ByteArray) : List UInt8 := if allV ns = true then tab (longs ns) else []
def fo (ns : List ByteArray) : List ByteArray := if allV ns = true then flds [] ns else []
def be (ns : List ByteArray) : Int := if allV ns = true then 0 else 6
def Builds (ns : List ByteArray) (w : World) (e : Ending) (w' : World) : Prop :=
  ∃ v f, e = .returned (.tuple #[v, f, .int .i64 (be ns)]) ∧ Own w' w.heap.size v (bo ns).length (bo ns) ∧ Sls.Own w' w.heap.size f (fo ns).length (fo ns) ∧ Below w.heap.size w w'

theorem tab_len {ns : List ByteArray} (h : allV ns = true) : (tab ns).length ≤ ns.length * 257 := tab_len_le ns 255 fun n hn => (vld_size (allV_iff.1 h n hn)).2
theorem longs_len (ns : List ByteArray) : (longs ns).length ≤ ns.length := List.length_filter_le _ _
theorem tabl_len {ns : List ByteArray} {k : Nat} (h : allV ns = true) (hk : ns.length ≤ k) : (tab (longs ns)).length ≤ k * 257 :=
  Nat.le_trans (tab_len (longs_allV h)) (Nat.mul_le_mul_right 257 (Nat.le_trans (longs_len ns) hk))

theorem take_next {α : Type} {l : List α} {k : Nat} {x : α} (h : l[k]? = some x) : l.take (k + 1) = l.take k ++ [x] := by
  obtain ⟨h1, rfl⟩ := List.getElem?_eq_some_iff.1 h
  exact List.take_succ_eq_append_getElem h1
theorem not_all {ns : List ByteArray} {k : Nat} {x : ByteArray} (h : ns[k]? = some x) (hv : vld (bts x) = false) : allV ns = false := by
  cases h2 : allV ns
  · rfl
  · have := allV_iff.1 h2 x (List.mem_of_getElem? h)
    rw [hv] at this; cases this
theorem allV_next {a : List ByteArray} {x : ByteArray} (h : allV a = true) (hv : vld (bts x) = true) : allV (a ++ [x]) = true := allV_append.2 ⟨h, by simp [allV, hv]⟩
theorem longs_short {a : List ByteArray} {x : ByteArray} (h : sht (bts x) = true) : longs (a ++ [x]) = longs a := by rw [longs_append]; simp [longs, h]
theorem longs_long {a : List ByteArray} {x : ByteArray} (h : sht (bts x) = false) : longs (a ++ [x]) = longs a ++ [x] := by rw [longs_append]; simp [longs, h]
theorem fld_short {a : List ByteArray} {x : ByteArray} (h : sht (bts x) = true) : x ++ ⟨#[47]⟩ = fld a x := by
  unfold fld
  rw [if_pos h]
  have := str_append (bts x) [47]
  show x ++ ⟨#[47]⟩ = ⟨(bts x ++ [47]).toArray⟩
  rw [← this]
  show x ++ _ = str (bts x) ++ _
  rw [str_bts]
theorem fld_long {a : List ByteArray} {x : ByteArray} (h : sht (bts x) = false) : (⟨#[47]⟩ : ByteArray) ++ str (tx 10 (tab (longs a)).length) = fld a x := by
  unfold fld
  rw [if_neg (by rw [h]; simp)]
  exact str_append [47] _

set_option maxRecDepth 100000 in
set_option maxHeartbeats 4000000 in
theorem build_any (K : Nat) (A : Option Addr) (n c : Nat) (ns : List ByteArray) (w : World) (hg : GndP w) (hr : Sls.Rd w K A n ns) (hK : K ≤ w.heap.size) (hn : n ≤ 100) (hs : ∀ s ∈ ns, s.size ≤ 1000) :
    Calls Tryz.prog 104 #[.slice A n c] w (Builds ns w) := by
  have hl := hr.1
  have Hbad : Hid (allV ns = false → ∀ w', Below w.heap.size w w' → Builds ns w (.returned (.tuple #[.slice none 0 0, .slice none 0 0, .int .i64 6])) w') := hid fun h w' hb => by
    have h1 : bo ns = [] := if_neg (by rw [h]; simp)
    have h2 : fo ns = [] := if_neg (by rw [h]; simp)
    have h3 : be ns = 6 := if_neg (by rw [h]; simp)
    refine ⟨_, _, by rw [h3], ?_, ?_, hb⟩
    · rw [h1]; exact Own.nil _ _
    · rw [h2]; exact Sls.Own.nil _ _
  have Hgood : Hid (allV ns = true → ∀ v f w', Own w' w.heap.size v (tab (longs ns)).length (tab (longs ns)) → Sls.Own w' w.heap.size f n (flds [] ns) → Below w.heap.size w w' → Builds ns w (.returned (.tuple #[v, f, .int .i64 0])) w') := hid fun h v f w' o1 o2 hb => by
    have h1 : bo ns = tab (longs ns) := if_pos h
    have h2 : fo ns = flds [] ns := if_pos h
    have h3 : be ns = 0 := if_pos h
    refine ⟨v, f, by rw [h3], by rw [h1]; exact o1, ?_, hb⟩
    rw [h2, flds_length, hl]; exact o2
  have Hl := hid hl
  clear hl
  go_enter Tryz.func104, Tryz.ntmps104
  go_wp2_with fail
  go_loopw [2, 3, 9] (fun v f i W => ∃ k : Nat, i = .int .i64 (k : Int) ∧ k ≤ n ∧ allV (ns.take k) = true ∧ Own W w.heap.size v (tab (longs (ns.take k))).length (tab (longs (ns.take k))) ∧ Sls.Own W w.heap.size f k (flds [] (ns.take k)) ∧ Below w.heap.size w W) (fun _ _ i _ => n - (intOf i).toNat)
  case atStart => exact ⟨0, rfl, by omega, by simp [allV], Own.nil _ _, Sls.Own.nil _ _, Below.refl _ _⟩
  case round =>
    obtain ⟨k, rfl, hk, hv, ho, hf, hb⟩ := hrel
    by_cases hlt : k < n
    · have hkl : k < ns.length := by have := Hl.out; omega
      obtain ⟨b, o, rfl, hbK, hcell⟩ := hr.2 k hkl
      obtain ⟨s, hss⟩ : ∃ s, ns[k] = s := ⟨_, rfl⟩
      have hsz := hs _ (List.getElem_mem hkl)
      have Hat : Hid (ns[k]? = some s) := hid (by rw [List.getElem?_eq_getElem hkl, hss])
      rw [hss] at hsz
      have hcell' : wr.cell? ⟨b, o + k, none⟩ = some (.string s) := by rw [hb.cell (p := ⟨b, o + k, none⟩) (by show b < _; omega), hcell, hss]
      clear hss hcell
      have hll := tabl_len (k := k) hv (by rw [List.length_take]; omega)
      generalize hT : ns.take k = T at *
      have HT := hid hT
      clear hT
      have Hv := hid hv
      have Hb := hid hb
      have Ho := hid ho
      have Hf := hid hf
      clear hv hb ho hf
      have hbl := Hb.out.size
      cases hvs : vld (bts s)
      · have Hno := hid (not_all Hat.out hvs)
        go_wp2_with fail
        refine (valid_any s _ (by omega)).mono ?_
        rintro e w1 ⟨rfl, hb1⟩
        rw [hvs]
        have Hb1 := hid (Hb.out.trans (hb1.mono hbl))
        clear hb1
        go_wp2_with fail
        go_ret3
        exact Hbad.out Hno.out _ Hb1.out
      · have Hvn : Hid (allV (ns.take (k + 1)) = true) := hid (by rw [take_next Hat.out, HT.out]; exact allV_next Hv.out hvs)
        cases hsh : sht (bts s)
        · have hTl : (T.length : Nat) = T.length := rfl
          have Hfl := hid (fld_long (a := T) hsh)
          have Htk : Hid (tab (longs (ns.take (k + 1))) = tab (longs T) ++ (s.data.toList ++ [47, 10])) := hid (by rw [take_next Hat.out, HT.out, longs_long hsh, tab_snoc]; rfl)
          have Hfk : Hid (flds [] (ns.take (k + 1)) = flds [] T ++ [fld T s]) := hid (by rw [take_next Hat.out, HT.out, flds_snoc])
          have hgr := (hg.on Hb.out)
          obtain ⟨A1, c1, hv1, hrd1, hc1, _⟩ := Ho.out.reads
          subst hv1
          go_wp2_with fail
          refine (valid_any s _ (by omega)).mono ?_
          rintro e w1 ⟨rfl, hb1⟩
          rw [hvs]
          have hb01 := Hb.out.trans (hb1.mono hbl)
          have hg1 := hgr.on hb1
          have ho1 := Ho.out.below hb1
          have hf1 := Hf.out.below hb1
          clear hb1
          go_wp2_with fail
          refine (short_any s _ (by omega)).mono ?_
          rintro e w2 ⟨rfl, hb2⟩
          rw [hsh]
          have hb02 := hb01.trans (hb2.mono hb01.size)
          have hg2 := hg1.on hb2
          have ho2 := ho1.below hb2
          have hf2 := hf1.below hb2
          clear hb2 hb01 hg1 ho1 hf1
          have Hit := hid (itoa_any (tab (longs T)).length _ hg2 (by omega))
          have hD : (str (tx 10 (tab (longs T)).length)).size ≤ 64 := by
            rw [str_size, tx_length (by omega)]
            exact Nat.le_trans (nd_lt_64 (by omega) (by omega)) (by omega)
          generalize str (tx 10 (tab (longs T)).length) = D at *
          go_wp2_with fail
          refine Hit.out.mono ?_
          rintro e w3 ⟨rfl, hb3⟩
          have hb03 := hb02.trans (hb3.mono hb02.size)
          have ho3 := ho2.below hb3
          have hf3 := hf2.below hb3
          clear hb3 hb02 hg2 ho2 hf2
          go_wp2_with (first
            | (at_builtin; refine Sls.wpList_push _ w.heap.size _ _ _ _ hf3 hb03.size (by omega) rfl (.tmp 13) (.tmp 18) rfl rfl rfl ?_; intro f4 w4 hf4 hb34 hq34 _; have hb04 := hb03.trans hb34; have ho4 := ho3.oth hq34)
            | (at_builtin; refine wpList_apps2 _ w.heap.size _ _ _ ho4 hb04.size s (by omega) rfl (.tmp 20) (.tmp 21) rfl rfl rfl ?_; intro v5 w5 ho5 hb45 hq45; have hb05 := hb04.trans hb45; have hf5 := hf4.oth hq45)
            | (at_builtin; refine wpList_apps2 _ w.heap.size _ _ _ ho5 hb05.size ⟨#[47, 10]⟩ (by show _ + 2 ≤ _; omega) rfl (.tmp 23) (.const (.string ⟨#[47, 10]⟩)) rfl rfl rfl ?_; intro v6 w6 ho6 hb56 hq56))
          have hb06 := hb05.trans hb56
          have hf6 := hf5.oth hq56
          go_roundw
          case rel =>
            refine ⟨k + 1, by go_num, by omega, Hvn.out, ?_, ?_, hb06⟩
            · rw [Htk.out]
              have e : (tab (longs T) ++ (s.data.toList ++ [47, 10])).length = (tab (longs T)).length + s.size + (ByteArray.mk #[47, 10]).size := by
                rw [List.length_append, List.length_append]
                have := bts_length s
                unfold bts at this
                rw [this, ← Nat.add_assoc]
                rfl
              rw [e, ← List.append_assoc]
              exact ho6
            · rw [Hfk.out, ← Hfl.out]
              exact hf6
          case measure => simp [intOf]; omega
        · have Hfl := hid (fld_short (a := T) hsh)
          have Htk : Hid (tab (longs (ns.take (k + 1))) = tab (longs T)) := hid (by rw [take_next Hat.out, HT.out, longs_short hsh])
          have Hfk : Hid (flds [] (ns.take (k + 1)) = flds [] T ++ [fld T s]) := hid (by rw [take_next Hat.out, HT.out, flds_snoc])
          go_wp2_with fail
          refine (valid_any s _ (by omega)).mono ?_
          rintro e w1 ⟨rfl, hb1⟩
          rw [hvs]
          have hb01 := Hb.out.trans (hb1.mono hbl)
          have ho1 := Ho.out.below hb1
          have hf1 := Hf.out.below hb1
          clear hb1
          go_wp2_with fail
          refine (short_any s _ (by omega)).mono ?_
          rintro e w2 ⟨rfl, hb2⟩
          rw [hsh]
          have hb02 := hb01.trans (hb2.mono hb01.size)
          have ho2 := ho1.below hb2
          have hf2 := hf1.below hb2
          clear hb2 hb01 ho1 hf1
          go_wp2_with (at_builtin; refine Sls.wpList_push _ w.heap.size _ _ _ _ hf2 hb02.size (by omega) rfl (.tmp 32) (.tmp 35) rfl rfl rfl ?_; intro f4 w4 hf4 hb24 hq24 _; have hb04 := hb02.trans hb24; have ho4 := ho2.oth hq24)
          go_roundw
          case rel =>
            refine ⟨k + 1, by go_num, by omega, Hvn.out, ?_, ?_, hb04⟩
            · rw [Htk.out]; exact ho4
            · rw [Hfk.out, ← Hfl.out]
              exact hf4
          case measure => simp [intOf]; omega
    · obtain rfl : k = n := by omega
      have hfull : ns.take k = ns := take_all Hl.out
      rw [hfull] at hv ho hf
      have Hfin := hid (Hgood.out hv)
      clear hv hfull
      go_wp2_with fail
      go_ret3
      exact Hfin.out _ _ _ ho hf hb
end Go.Proofs.YtpedngfmjhpojaaGreatDoor.Lnm
