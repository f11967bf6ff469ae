/-
  The reference of longname: Resolve, at a table that is one.
-/
import Derived.Test.YtnkdcecpbjhdmaaDoorLni
namespace Go.Proofs.YtnkdcecpbjhdmaaDoor.Lnm
open Go.RowKit Go.Proofs Go.Proofs.YtnkdcecpbjhdmaaDoor.Byt Go.Proofs.YtnkdcecpbjhdmaaDoor.Str3 Go.Proofs.YtnkdcecpbjhdmaaDoor.Dec

theorem long_hit {ns : List ByteArray} {f : List UInt8} {i : Nat} (hv : allV ns = true) (hi : i < ns.length) (hf : f = 47 :: tx 10 (tab (ns.take i)).length) (h15 : (tx 10 (tab (ns.take i)).length).length ≤ 15) : longAt f (tab ns) = some ns[i] := by
  have h1 := offset_at hi
  have h2 := first_at hv hi
  have hn := vld_size (allV_iff.1 hv _ (List.getElem_mem hi))
  have h3 : bts ns[i] ≠ [] := fun e => by have := congrArg List.length e; rw [bts_length, List.length_nil] at this; omega
  have hb : beg (tab ns) (tab (ns.take i)).length = true := by
    unfold beg
    rw [Bool.and_eq_true, decide_eq_true_iff]
    refine ⟨h1.1, ?_⟩
    rcases h1.2 with h | h
    · rw [h]; simp
    · rw [h]; simp
  unfold longAt
  rw [hf, poff_tx h15]
  simp only
  rw [h2, if_pos ⟨hb, h3⟩, str_bts]
theorem long_none {ns : List ByteArray} {f : List UInt8} (hv : allV ns = true) (h : ∀ i, i < ns.length → ¬(f = 47 :: tx 10 (tab (ns.take i)).length ∧ (tx 10 (tab (ns.take i)).length).length ≤ 15)) : longAt f (tab ns) = none := by
  unfold longAt
  rcases hp : poff f with _ | k
  · rfl
  · obtain ⟨e1, e2⟩ := poff_some hp
    simp only
    rw [if_neg]
    rintro ⟨hb, _⟩
    unfold beg at hb
    rw [Bool.and_eq_true, decide_eq_true_iff] at hb
    obtain ⟨i, hi, rfl⟩ := offset_of ns k hv hb.1 (by
      have := hb.2
      simp at this
      exact this)
    exact h i hi ⟨e1, e2⟩

/-- The field of a short name is a name and a slash. -/
theorem short_iff {f : List UInt8} {k : Nat} (hk : f.length = k + 1) : shortOf f = if f[k]? = some 47 ∧ sht (f.take k) = true then some (str (f.take k)) else none := by
  have e : f = f.take k ++ [f[k]'(by omega)] := by
    rw [← List.take_succ_eq_append_getElem (by omega), List.take_of_length_le (by omega)]
  have hs : Lib.hasSuffix f [47] = true ↔ f[k]? = some 47 := by
    rw [List.getElem?_eq_getElem (by omega)]
    unfold Lib.hasSuffix
    rw [List.isSuffixOf_iff_suffix]
    constructor
    · rintro ⟨t, ht⟩
      have hl : t.length = k := by have := congrArg List.length ht; simp at this; omega
      have h2 : f[k]? = some 47 := by rw [← ht, List.getElem?_append_right (by omega), hl]; simp
      rw [List.getElem?_eq_getElem (by omega)] at h2
      exact h2
    · intro h
      injection h with h
      refine ⟨f.take k, ?_⟩
      rw [h] at e
      exact e.symm
  unfold shortOf Lib.trimSuffix
  by_cases h : f[k]? = some 47
  · have hs' := hs.2 h
    rw [hs']
    simp only [if_true, true_and, h, List.length_cons, List.length_nil]
    rw [hk, show k + 1 - (0 + 1) = k by omega]
  · have hs' : Lib.hasSuffix f [47] = false := by
      cases h2 : Lib.hasSuffix f [47]
      · rfl
      · exact absurd (hs.1 h2) h
    rw [hs', if_neg (by simp), if_neg (fun h2 => h h2.1)]

theorem ext_str (s : ByteArray) (k : Nat) : s.extract 0 k = str ((bts s).take k) := by
  apply bts_inj
  rw [bts_str]
  have h := Lib.extract_toList s 0 k
  rw [Lib.toList_data] at h
  unfold bts
  rw [h]
  simp
theorem short_nil {f : List UInt8} (h : f = []) : shortOf f = none := by subst h; rfl
theorem long_nil {f l : List UInt8} (h : f = []) : longAt f l = none := by subst h; rfl

set_option maxRecDepth 100000 in
set_option maxHeartbeats 1000000 in
theorem rresolve_0 (v : Value) (t : List UInt8) (s : ByteArray) (w : World) (h0 : s.size = 0) :
    Calls Tryd.prog 22 #[.string s, v] w fun e w' => e = .returned (.tuple #[.string (rs (resv (bts s) t)), .int .i64 (re (resv (bts s) t))]) ∧ Below w.heap.size w w' := by
  have hb : bts s = [] := List.eq_nil_of_length_eq_zero (by rw [bts_length]; exact h0)
  have Hr : Hid (resv (bts s) t = none) := hid (by unfold resv; rw [short_nil hb]; exact long_nil hb)
  have h0' : ((s.size : Int) == 0) = true := by rw [h0]; rfl
  clear h0 hb
  go_enter Tryd.func22, Tryd.ntmps22
  go_wp2_with fail
  go_ret2
  exact ⟨by rw [Hr.out]; rfl, Below.refl _ _⟩

set_option maxRecDepth 100000 in
set_option maxHeartbeats 1000000 in
theorem rresolve_1 (v : Value) (t : List UInt8) (s : ByteArray) (k : Nat) (w : World) (hs : s.size ≤ 140737488355328) (hk : s.size = k + 1) (h47 : (bts s)[k]? = some 47) (hsh : sht ((bts s).take k) = true) :
    Calls Tryd.prog 22 #[.string s, v] w fun e w' => e = .returned (.tuple #[.string (rs (resv (bts s) t)), .int .i64 (re (resv (bts s) t))]) ∧ Below w.heap.size w w' := by
  have Hr : Hid (resv (bts s) t = some (str ((bts s).take k))) := hid (by unfold resv; rw [short_iff (by rw [bts_length]; exact hk), if_pos ⟨h47, hsh⟩])
  have h0' : ((s.size : Int) == 0) = false := by rw [beq_eq_false_iff_ne]; omega
  have hz : (s.size : Int) - 1 = (k : Int) := by omega
  have hkl : k < s.size := by omega
  have hq : ((s[k].toNat : Int) == 47) = true := by
    have := at_bts s k hkl
    rw [h47] at this
    injection this with this
    exact u8_eq this.symm
  have Hk := hid hk
  have Hsh := hid hsh
  clear hk h47 hsh
  go_enter Tryd.func22, Tryd.ntmps22
  have hsz : (str ((bts s).take k)).size ≤ 140737488355328 := by rw [str_size, List.length_take, bts_length]; omega
  have he := ext_str s k
  have Hc := hid (rshort_any (str ((bts s).take k)) w hsz)
  rw [← he] at Hc Hr
  have Hb : Hid (sht (bts (s.extract 0 k)) = true) := hid (by rw [he, bts_str]; exact Hsh.out)
  clear he Hsh hsz
  go_wp2_with fail
  refine Hc.out.mono ?_
  rintro e w1 ⟨rfl, m1, rfl⟩
  rw [Hb.out]
  go_wp2_with fail
  go_ret2
  exact ⟨by rw [Hr.out]; rfl, below_drewN _ _⟩

set_option maxRecDepth 100000 in
set_option maxHeartbeats 2000000 in
theorem rresolve_2 (K : Nat) (A : Option Addr) (m c : Nat) (t : List UInt8) (s : ByteArray) (k : Nat) (w : World) (hr : Rd w K A m t) (hK : K ≤ w.heap.size) (hc : m ≤ c) (hm : m ≤ 1000) (hs : s.size ≤ 140737488355328) (hg : good t = true) (hk : s.size = k + 1)
    (hno : ¬ ((bts s)[k]? = some 47 ∧ sht ((bts s).take k) = true)) :
    Calls Tryd.prog 22 #[.string s, .slice A m c] w fun e w' => e = .returned (.tuple #[.string (rs (resv (bts s) t)), .int .i64 (re (resv (bts s) t))]) ∧ Below w.heap.size w w' := by
  have h0' : ((s.size : Int) == 0) = false := by rw [beq_eq_false_iff_ne]; omega
  have hz : (s.size : Int) - 1 = (k : Int) := by omega
  have hkl : k < s.size := by omega
  obtain ⟨ht, hv⟩ := tab_of_good hg
  have hlen := seq_length t
  have htl := hr.1
  have hR : resv (bts s) t = longAt (bts s) (tab (seq t)) := by
    unfold resv
    rw [short_iff (by rw [bts_length]; exact hk), if_neg hno, ← ht]
  have HR := hid hR
  have Hhit := hid fun i (hi : i < (seq t).length) => long_hit (f := bts s) hv hi
  have Hnone := hid (long_none (f := bts s) hv)
  have HV := hid hv
  have Hent := hid fun w' (hr' : Rd w' K A m t) (hK' : K ≤ w'.heap.size) => rentries_any K A m c t w' hr' hK' hc (by omega)
  have HO : Hid (entsO t = seq t ∧ entsE t = 0) := hid ⟨if_pos hg, if_pos hg⟩
  have hnl : (seq t).length ≤ 1001 := by omega
  have HsN : Hid (∀ n ∈ seq t, n.size ≤ 1000) := hid fun n hn => by have := (vld_size (allV_iff.1 hv n hn)).2; omega
  clear ht hv hR hg hlen htl hk
  generalize seq t = ns at *
  by_cases h47 : (bts s)[k]? = some 47
  · have hsh : sht ((bts s).take k) = false := by
      cases h : sht ((bts s).take k)
      · rfl
      · exact absurd ⟨h47, h⟩ hno
    have hq : ((s[k].toNat : Int) == 47) = true := by
      have := at_bts s k hkl
      rw [h47] at this
      injection this with this
      exact u8_eq this.symm
    have hsz : (str ((bts s).take k)).size ≤ 140737488355328 := by rw [str_size, List.length_take, bts_length]; omega
    have he := ext_str s k
    have Hc := hid (rshort_any (str ((bts s).take k)) w hsz)
    rw [← he] at Hc
    have Hb : Hid (sht (bts (s.extract 0 k)) = false) := hid (by rw [he, bts_str]; exact hsh)
    clear he hsz hsh hno h47
    go_enter Tryd.func22, Tryd.ntmps22
    go_wp2_with fail
    refine Hc.out.mono ?_
    rintro e w1 ⟨rfl, m1, rfl⟩
    rw [Hb.out]
    have hb0 := below_drewN (K := w.heap.size) w m1
    go_wp2_with fail
    refine (Hent.out _ (hr.below (hb0.mono hK)) (Nat.le_trans hK hb0.size)).mono ?_
    rintro e w2 ⟨v2, rfl, hown2, hb2⟩
    rw [HO.out.1] at hown2
    rw [HO.out.2]
    obtain ⟨A2, c2, rfl, hrd2, hc2, _⟩ := hown2.reads
    have hb02 := hb0.trans (hb2.mono hb0.size)
    have Hrd2 := hid hrd2
    clear hb2 hown2 hrd2
    go_wp2_with fail
    go_loopw [8] (fun i W => ∃ q : Nat, i = .int .i64 (q : Int) ∧ q ≤ ns.length ∧ (∀ j, j < q → ¬ (bts s = 47 :: tx 10 (tab (ns.take j)).length ∧ (tx 10 (tab (ns.take j)).length).length ≤ 15)) ∧ Below w2.heap.size w2 W) (fun i _ => ns.length - (intOf i).toNat)
    case atStart => exact ⟨0, rfl, by omega, fun j hj => by omega, Below.refl _ _⟩
    case round =>
      obtain ⟨q, rfl, hq, hnoq, hb⟩ := hrel
      have Hnoq := hid hnoq
      clear hnoq
      by_cases hlt : q < ns.length
      · obtain ⟨b, o, rfl, hbK, hcell⟩ := Hrd2.out.2 q hlt
        have hcell' : wr.cell? ⟨b, o + q, none⟩ = some (.string ns[q]) := by rw [hb.cell (p := ⟨b, o + q, none⟩) (by show b < _; omega), hcell]
        have hcellx : ∀ w', Below wr.heap.size wr w' → w'.cell? ⟨b, o + q, none⟩ = some (.string ns[q]) := fun w' hb' => by
          rw [hb'.cell (p := ⟨b, o + q, none⟩) (by have := hb.size; show b < _; omega)]; exact hcell'
        have Hcell := hid hcellx
        clear hcell hcell' hcellx
        have hrdq := (Hrd2.out.below hb).pre (m := q) (by omega)
        have hT : ∀ x ∈ ns.take q, x.size ≤ 1000 := fun x hx => HsN.out x (List.mem_of_mem_take hx)
        have hll := tab_le (m := q) hT (by rw [List.length_take]; omega)
        have Htab := hid (rtable_any w2.heap.size (some ⟨b, o, none⟩) q c2 (ns.take q) wr hrdq hb.size (by omega) hT)
        have Hh := hid (Hhit.out q hlt)
        have Hnx : Hid (¬ (bts s = 47 :: tx 10 (tab (ns.take q)).length ∧ (tx 10 (tab (ns.take q)).length).length ≤ 15) → ∀ j, j < q + 1 → ¬ (bts s = 47 :: tx 10 (tab (ns.take j)).length ∧ (tx 10 (tab (ns.take j)).length).length ≤ 15)) := hid fun h j hj => by
          by_cases e : j = q
          · subst e; exact h
          · exact Hnoq.out j (by omega)
        generalize ns[q] = N at *
        clear hT hrdq
        generalize hL : (tab (ns.take q)).length = L at *
        have HL := hid hL
        clear hL
        have Hit : Hid (∀ w', Calls Tryd.prog 24 #[.int .i64 (L : Int), .int .i64 10] w' fun e w'' => e = .returned (.string (str (tx 10 L))) ∧ ∃ m, w'' = w'.drewN m) := hid fun w' => text_any 10 rfl L (by omega) w'
        have hD : (str (tx 10 L)).size ≤ 64 := by
          rw [str_size, tx_length (by omega)]
          exact Nat.le_trans (nd_lt_64 (by omega) (by omega)) (by omega)
        have Hc1 : Hid (bts s = 47 :: tx 10 L ↔ s.toList = ((⟨#[47]⟩ : ByteArray) ++ str (tx 10 L)).toList) := hid (by
          rw [str_eq]
          have e : (⟨#[47]⟩ : ByteArray) ++ str (tx 10 L) = str (47 :: tx 10 L) := str_append [47] _
          rw [e]
          constructor
          · intro h; rw [← h, str_bts]
          · intro h; rw [h, bts_str])
        have Hc2 : Hid ((tx 10 L).length = (str (tx 10 L)).size) := hid (str_size _).symm
        generalize str (tx 10 L) = D at *
        by_cases hc1 : bts s = 47 :: tx 10 L
        · have hq1 : (s.toList == ((⟨#[47]⟩ : ByteArray) ++ D).toList) = true := by rw [beq_iff_eq]; exact Hc1.out.1 hc1
          have Hs1 := hid hc1
          clear hc1
          by_cases hc2 : D.size ≤ 15
          · have Hr : Hid (resv (bts s) t = some N) := hid (by rw [HR.out]; exact Hh.out Hs1.out (by rw [Hc2.out]; exact hc2))
            go_wp2_with fail
            refine Htab.out.mono ?_
            rintro e w3 ⟨v3, rfl, ho3, hb3⟩
            obtain ⟨A3, c3, rfl, _, _⟩ := ho3.reads
            clear ho3
            go_wp2_with fail
            refine (Hit.out _).mono ?_
            rintro e w4 ⟨rfl, m4, rfl⟩
            have hb4 := hb3.trans (below_drewN _ m4)
            have hcl := Hcell.out _ hb4
            clear hb3
            go_wp2_with fail
            go_ret2
            exact ⟨by rw [Hr.out]; rfl, hb02.trans ((hb.trans (hb4.mono hb.size)).mono hb02.size)⟩
          · have Hn := hid (Hnx.out (fun h => hc2 (by rw [← Hc2.out]; exact h.2)))
            go_wp2_with fail
            refine Htab.out.mono ?_
            rintro e w3 ⟨v3, rfl, ho3, hb3⟩
            obtain ⟨A3, c3, rfl, _, _⟩ := ho3.reads
            clear ho3
            go_wp2_with fail
            refine (Hit.out _).mono ?_
            rintro e w4 ⟨rfl, m4, rfl⟩
            have hb4 := hb3.trans (below_drewN _ m4)
            clear hb3
            go_wp2_with fail
            go_roundw
            case rel => exact ⟨q + 1, by go_num, by omega, Hn.out, hb.trans (hb4.mono hb.size)⟩
            case measure => simp [intOf]; omega
        · have hq1 : (s.toList == ((⟨#[47]⟩ : ByteArray) ++ D).toList) = false := by rw [beq_eq_false_iff_ne]; exact fun h => hc1 (Hc1.out.2 h)
          have Hn := hid (Hnx.out (fun h => hc1 h.1))
          clear hc1
          go_wp2_with fail
          refine Htab.out.mono ?_
          rintro e w3 ⟨v3, rfl, ho3, hb3⟩
          obtain ⟨A3, c3, rfl, _, _⟩ := ho3.reads
          clear ho3
          go_wp2_with fail
          refine (Hit.out _).mono ?_
          rintro e w4 ⟨rfl, m4, rfl⟩
          have hb4 := hb3.trans (below_drewN _ m4)
          clear hb3
          go_wp2_with fail
          go_roundw
          case rel => exact ⟨q + 1, by go_num, by omega, Hn.out, hb.trans (hb4.mono hb.size)⟩
          case measure => simp [intOf]; omega
      · obtain rfl : q = ns.length := by omega
        have Hr : Hid (resv (bts s) t = none) := hid (by rw [HR.out]; exact Hnone.out Hnoq.out)
        go_wp2_with fail
        go_ret2
        exact ⟨by rw [Hr.out]; rfl, hb02.trans (hb.mono hb02.size)⟩
  · have hq : ((s[k].toNat : Int) == 47) = false := by
      have hne : s[k] ≠ 47 := fun h => h47 (by rw [at_bts s k hkl, h])
      exact u8_ne hne
    have hb0 := Below.refl w.heap.size w
    clear hno h47
    go_enter Tryd.func22, Tryd.ntmps22
    go_wp2_with fail
    refine (Hent.out _ (hr.below (hb0.mono hK)) (Nat.le_trans hK hb0.size)).mono ?_
    rintro e w2 ⟨v2, rfl, hown2, hb2⟩
    rw [HO.out.1] at hown2
    rw [HO.out.2]
    obtain ⟨A2, c2, rfl, hrd2, hc2, _⟩ := hown2.reads
    have hb02 := hb0.trans (hb2.mono hb0.size)
    have Hrd2 := hid hrd2
    clear hb2 hown2 hrd2
    go_wp2_with fail
    go_loopw [8] (fun i W => ∃ q : Nat, i = .int .i64 (q : Int) ∧ q ≤ ns.length ∧ (∀ j, j < q → ¬ (bts s = 47 :: tx 10 (tab (ns.take j)).length ∧ (tx 10 (tab (ns.take j)).length).length ≤ 15)) ∧ Below w2.heap.size w2 W) (fun i _ => ns.length - (intOf i).toNat)
    case atStart => exact ⟨0, rfl, by omega, fun j hj => by omega, Below.refl _ _⟩
    case round =>
      obtain ⟨q, rfl, hq, hnoq, hb⟩ := hrel
      have Hnoq := hid hnoq
      clear hnoq
      by_cases hlt : q < ns.length
      · obtain ⟨b, o, rfl, hbK, hcell⟩ := Hrd2.out.2 q hlt
        have hcell' : wr.cell? ⟨b, o + q, none⟩ = some (.string ns[q]) := by rw [hb.cell (p := ⟨b, o + q, none⟩) (by show b < _; omega), hcell]
        have hcellx : ∀ w', Below wr.heap.size wr w' → w'.cell? ⟨b, o + q, none⟩ = some (.string ns[q]) := fun w' hb' => by
          rw [hb'.cell (p := ⟨b, o + q, none⟩) (by have := hb.size; show b < _; omega)]; exact hcell'
        have Hcell := hid hcellx
        clear hcell hcell' hcellx
        have hrdq := (Hrd2.out.below hb).pre (m := q) (by omega)
        have hT : ∀ x ∈ ns.take q, x.size ≤ 1000 := fun x hx => HsN.out x (List.mem_of_mem_take hx)
        have hll := tab_le (m := q) hT (by rw [List.length_take]; omega)
        have Htab := hid (rtable_any w2.heap.size (some ⟨b, o, none⟩) q c2 (ns.take q) wr hrdq hb.size (by omega) hT)
        have Hh := hid (Hhit.out q hlt)
        have Hnx : Hid (¬ (bts s = 47 :: tx 10 (tab (ns.take q)).length ∧ (tx 10 (tab (ns.take q)).length).length ≤ 15) → ∀ j, j < q + 1 → ¬ (bts s = 47 :: tx 10 (tab (ns.take j)).length ∧ (tx 10 (tab (ns.take j)).length).length ≤ 15)) := hid fun h j hj => by
          by_cases e : j = q
          · subst e; exact h
          · exact Hnoq.out j (by omega)
        generalize ns[q] = N at *
        clear hT hrdq
        generalize hL : (tab (ns.take q)).length = L at *
        have HL := hid hL
        clear hL
        have Hit : Hid (∀ w', Calls Tryd.prog 24 #[.int .i64 (L : Int), .int .i64 10] w' fun e w'' => e = .returned (.string (str (tx 10 L))) ∧ ∃ m, w'' = w'.drewN m) := hid fun w' => text_any 10 rfl L (by omega) w'
        have hD : (str (tx 10 L)).size ≤ 64 := by
          rw [str_size, tx_length (by omega)]
          exact Nat.le_trans (nd_lt_64 (by omega) (by omega)) (by omega)
        have Hc1 : Hid (bts s = 47 :: tx 10 L ↔ s.toList = ((⟨#[47]⟩ : ByteArray) ++ str (tx 10 L)).toList) := hid (by
          rw [str_eq]
          have e : (⟨#[47]⟩ : ByteArray) ++ str (tx 10 L) = str (47 :: tx 10 L) := str_append [47] _
          rw [e]
          constructor
          · intro h; rw [← h, str_bts]
          · intro h; rw [h, bts_str])
        have Hc2 : Hid ((tx 10 L).length = (str (tx 10 L)).size) := hid (str_size _).symm
        generalize str (tx 10 L) = D at *
        by_cases hc1 : bts s = 47 :: tx 10 L
        · have hq1 : (s.toList == ((⟨#[47]⟩ : ByteArray) ++ D).toList) = true := by rw [beq_iff_eq]; exact Hc1.out.1 hc1
          have Hs1 := hid hc1
          clear hc1
          by_cases hc2 : D.size ≤ 15
          · have Hr : Hid (resv (bts s) t = some N) := hid (by rw [HR.out]; exact Hh.out Hs1.out (by rw [Hc2.out]; exact hc2))
            go_wp2_with fail
            refine Htab.out.mono ?_
            rintro e w3 ⟨v3, rfl, ho3, hb3⟩
            obtain ⟨A3, c3, rfl, _, _⟩ := ho3.reads
            clear ho3
            go_wp2_with fail
            refine (Hit.out _).mono ?_
            rintro e w4 ⟨rfl, m4, rfl⟩
            have hb4 := hb3.trans (below_drewN _ m4)
            have hcl := Hcell.out _ hb4
            clear hb3
            go_wp2_with fail
            go_ret2
            exact ⟨by rw [Hr.out]; rfl, hb02.trans ((hb.trans (hb4.mono hb.size)).mono hb02.size)⟩
          · have Hn := hid (Hnx.out (fun h => hc2 (by rw [← Hc2.out]; exact h.2)))
            go_wp2_with fail
            refine Htab.out.mono ?_
            rintro e w3 ⟨v3, rfl, ho3, hb3⟩
            obtain ⟨A3, c3, rfl, _, _⟩ := ho3.reads
            clear ho3
            go_wp2_with fail
            refine (Hit.out _).mono ?_
            rintro e w4 ⟨rfl, m4, rfl⟩
            have hb4 := hb3.trans (below_drewN _ m4)
            clear hb3
            go_wp2_with fail
            go_roundw
            case rel => exact ⟨q + 1, by go_num, by omega, Hn.out, hb.trans (hb4.mono hb.size)⟩
            case measure => simp [intOf]; omega
        · have hq1 : (s.toList == ((⟨#[47]⟩ : ByteArray) ++ D).toList) = false := by rw [beq_eq_false_iff_ne]; exact fun h => hc1 (Hc1.out.2 h)
          have Hn := hid (Hnx.out (fun h => hc1 h.1))
          clear hc1
          go_wp2_with fail
          refine Htab.out.mono ?_
          rintro e w3 ⟨v3, rfl, ho3, hb3⟩
          obtain ⟨A3, c3, rfl, _, _⟩ := ho3.reads
          clear ho3
          go_wp2_with fail
          refine (Hit.out _).mono ?_
          rintro e w4 ⟨rfl, m4, rfl⟩
          have hb4 := hb3.trans (below_drewN _ m4)
          clear hb3
          go_wp2_with fail
          go_roundw
          case rel => exact ⟨q + 1, by go_num, by omega, Hn.out, hb.trans (hb4.mono hb.size)⟩
          case measure => simp [intOf]; omega
      · obtain rfl : q = ns.length := by omega
        have Hr : Hid (resv (bts s) t = none) := hid (by rw [HR.out]; exact Hnone.out Hnoq.out)
        go_wp2_with fail
        go_ret2
        exact ⟨by rw [Hr.out]; rfl, hb02.trans (hb.mono hb02.size)⟩

theorem rresolve_any (K : Nat) (A : Option Addr) (m c : Nat) (t : List UInt8) (s : ByteArray) (w : World) (hr : Rd w K A m t) (hK : K ≤ w.heap.size) (hc : m ≤ c) (hm : m ≤ 1000) (hs : s.size ≤ 140737488355328) (hg : good t = true) :
    Calls Tryd.prog 22 #[.string s, .slice A m c] w fun e w' => e = .returned (.tuple #[.string (rs (resv (bts s) t)), .int .i64 (re (resv (bts s) t))]) ∧ Below w.heap.size w w' := by
  rcases Nat.eq_zero_or_pos s.size with h0 | h0
  · exact rresolve_0 _ t s w h0
  · obtain ⟨k, hk⟩ : ∃ k, s.size = k + 1 := ⟨s.size - 1, by omega⟩
    by_cases h : (bts s)[k]? = some 47 ∧ sht ((bts s).take k) = true
    · exact rresolve_1 _ t s k w hs hk h.1 h.2
    · exact rresolve_2 K A m c t s k w hr hK hc hm hs hg hk h
end Go.Proofs.YtnkdcecpbjhdmaaDoor.Lnm
