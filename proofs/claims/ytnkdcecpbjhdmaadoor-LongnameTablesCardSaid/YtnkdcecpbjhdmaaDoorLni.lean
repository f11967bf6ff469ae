/-
  The reference of longname: Entries.
-/
import Derived.Test.YtnkdcecpbjhdmaaDoorLnh
import Derived.Test.YtnkdcecpbjhdmaaDoorLnf
namespace Go.Proofs.YtnkdcecpbjhdmaaDoor.Lnm
open Go.RowKit Go.Proofs Go.Proofs.YtnkdcecpbjhdmaaDoor.Byt Go.Proofs.YtnkdcecpbjhdmaaDoor.Str3 Go.Proofs.YtnkdcecpbjhdmaaDoor.Dec

/-- No line feed from f up to i. -/
def NoLf (l : List UInt8) (f i : Nat) : Prop := ∀ j, f ≤ j → j < i → l[j]? ≠ some 10

theorem name_front {r : List UInt8} (h0 : r ≠ []) (hg : good r = true) : ∃ n rest, r = bts n ++ ([47, 10] ++ rest) ∧ vld (bts n) = true := by
  obtain ⟨h1, h2⟩ := tab_of_good hg
  cases hs : seq r with
  | nil => rw [hs] at h1; exact absurd h1 h0
  | cons n t =>
    rw [hs] at h1 h2
    obtain ⟨v1, _⟩ := allV_append.1 (show allV ([n] ++ t) = true from h2)
    exact ⟨n, tab t, h1, allV_iff.1 v1 n (by simp)⟩
theorem good_rest {l : List UInt8} {out : List ByteArray} {f : Nat} (ho : allV out = true) (hf : l.take f = tab out) : good l = good (l.drop f) := by
  conv => lhs; rw [← List.take_append_drop f l, hf]
  exact good_tab ho _
theorem next_name {l : List UInt8} {out : List ByteArray} {f i : Nat} (ho : allV out = true) (hf : l.take f = tab out) (hfi : f ≤ i) (hi : l[i]? = some 10) (hno : NoLf l f i) (hg : good l = true) :
    f < i ∧ l[i - 1]? = some 47 ∧ vld ((l.drop f).take (i - 1 - f)) = true := by
  rw [good_rest ho hf] at hg
  have hil := (List.getElem?_eq_some_iff.1 hi).1
  have h0 : l.drop f ≠ [] := fun e => by have := congrArg List.length e; rw [List.length_drop] at this; simp at this; omega
  obtain ⟨n, rest, hr, hv⟩ := name_front h0 hg
  have hat : ∀ j, f ≤ j → l[j]? = (bts n ++ ([47, 10] ++ rest))[j - f]? := fun j hj => by rw [← hr, List.getElem?_drop]; congr 1; omega
  have h10 : l[f + (bts n).length + 1]? = some 10 := by
    rw [hat _ (by omega), show f + (bts n).length + 1 - f = (bts n).length + 1 by omega, List.getElem?_append_right (by omega)]
    simp
  have h47 : l[f + (bts n).length]? = some 47 := by
    rw [hat _ (by omega), show f + (bts n).length - f = (bts n).length by omega, List.getElem?_append_right (by omega)]
    simp
  have hi2 : i = f + (bts n).length + 1 := by
    rcases Nat.lt_trichotomy i (f + (bts n).length + 1) with h | h | h
    · rw [hat i hfi] at hi
      by_cases hq : i - f < (bts n).length
      · rw [List.getElem?_append_left hq, List.getElem?_eq_getElem hq] at hi
        injection hi with hi
        exact absurd hi (vld_ok hv (List.getElem_mem hq)).2.1
      · rw [show i - f = (bts n).length by omega, List.getElem?_append_right (by omega)] at hi
        simp at hi
    · exact h
    · exact absurd h10 (hno _ (by omega) h)
  subst hi2
  refine ⟨by omega, by rw [show f + (bts n).length + 1 - 1 = f + (bts n).length by omega]; exact h47, ?_⟩
  rw [show f + (bts n).length + 1 - 1 - f = (bts n).length by omega, hr, List.take_left]
  exact hv
theorem accept {l : List UInt8} {out : List ByteArray} {f i : Nat} (hf : l.take f = tab out) (hfi : f < i) (hi : l[i]? = some 10) (h47 : l[i - 1]? = some 47) :
    l.take (i + 1) = tab (out ++ [str ((l.drop f).take (i - 1 - f))]) := by
  rw [tab_snoc, bts_str, ← hf]
  obtain ⟨h1, h2⟩ := List.getElem?_eq_some_iff.1 hi
  obtain ⟨h3, h4⟩ := List.getElem?_eq_some_iff.1 h47
  have e1 : l.take (i + 1) = l.take (i - 1) ++ [47, 10] := by
    rw [List.take_succ_eq_append_getElem h1, h2]
    have : i = i - 1 + 1 := by omega
    conv => lhs; rw [this, List.take_succ_eq_append_getElem h3, h4]
    simp
  rw [e1, ← List.append_assoc]
  congr 1
  have : i - 1 = f + (i - 1 - f) := by omega
  conv => lhs; rw [this, List.take_add]
theorem end_lf {l : List UInt8} {out : List ByteArray} {f : Nat} (ho : allV out = true) (hf : l.take f = tab out) (hfl : f < l.length) (hno : NoLf l f l.length) : good l = false := by
  cases hg : good l
  · rfl
  · rw [good_rest ho hf] at hg
    have h0 : l.drop f ≠ [] := fun e => by have := congrArg List.length e; rw [List.length_drop] at this; simp at this; omega
    obtain ⟨n, rest, hr, _⟩ := name_front h0 hg
    exfalso
    have h10 : l[f + (bts n).length + 1]? = some 10 := by
      have : l[f + (bts n).length + 1]? = (l.drop f)[(bts n).length + 1]? := by rw [List.getElem?_drop]; congr 1
      rw [this, hr, List.getElem?_append_right (by omega)]
      simp
    exact hno _ (by omega) (List.getElem?_eq_some_iff.1 h10).1 h10
theorem ends_good {l : List UInt8} {out : List ByteArray} (ho : allV out = true) (hf : l = tab out) : good l = true ∧ seq l = out := by rw [hf]; exact good_of_tab ho

theorem u8_bne {x k : UInt8} (h : x = k) : ((x.toNat : Int) != (k.toNat : Int)) = false := by rw [h]; simp
theorem u8_bne' {x k : UInt8} (h : x ≠ k) : ((x.toNat : Int) != (k.toNat : Int)) = true := by
  have := u8_ne h
  simp only [bne, Bool.not_eq_true']
  exact this

set_option maxRecDepth 100000 in
set_option maxHeartbeats 2000000 in
theorem rentries_any (K : Nat) (A : Option Addr) (m c : Nat) (l : List UInt8) (w : World) (hr : Rd w K A m l) (hK : K ≤ w.heap.size) (hc : m ≤ c) (hm : m < 100000) :
    Calls Tryd.prog 14 #[.slice A m c] w (Ents l w) := by
  have Hl := hid hr.1
  have Hbad : Hid (good l = false → ∀ w', Below w.heap.size w w' → Ents l w (.returned (.tuple #[.slice none 0 0, .int .i64 7])) w') := hid fun h w' hb => by
    have h1 : entsO l = [] := if_neg (by rw [h]; simp)
    have h2 : entsE l = 7 := if_neg (by rw [h]; simp)
    refine ⟨_, by rw [h2], ?_, hb⟩
    rw [h1]; exact Sls.Own.nil _ _
  have Hgood : Hid (∀ out v w', good l = true → seq l = out → Sls.Own w' w.heap.size v out.length out → Below w.heap.size w w' → Ents l w (.returned (.tuple #[v, .int .i64 0])) w') := hid fun out v w' h h' ho hb => by
    have h1 : entsO l = seq l := if_pos h
    have h2 : entsE l = 0 := if_pos h
    refine ⟨v, by rw [h2], ?_, hb⟩
    rw [h1, h']; exact ho
  go_enter Tryd.func14, Tryd.ntmps14
  go_wp2_with fail
  go_loopw [4, 5, 6] (fun v f i W => ∃ (p q : Nat) (out : List ByteArray), i = .int .i64 (q : Int) ∧ f = .int .i64 (p : Int) ∧ p ≤ q ∧ q ≤ m ∧ out.length ≤ q ∧ allV out = true ∧ l.take p = tab out ∧ NoLf l p q ∧ Sls.Own W w.heap.size v out.length out ∧ Below w.heap.size w W) (fun _ _ i _ => m - (intOf i).toNat)
  case atStart => exact ⟨0, 0, [], rfl, rfl, by omega, by omega, by simp, rfl, rfl, fun j h1 h2 => by omega, Sls.Own.nil _ _, Below.refl _ _⟩
  case round =>
    obtain ⟨p, q, out, rfl, rfl, hpq, hqm, hol, hv, htk, hno, ho, hb⟩ := hrel
    by_cases hlt : q < m
    · have hql : q < l.length := by have := Hl.out; omega
      obtain ⟨b, o, rfl⟩ : ∃ b o : Nat, A = some ⟨b, o, none⟩ := by
        obtain ⟨b, o, e, _, _⟩ := hr.2 q hql
        exact ⟨b, o, e⟩
      have hcells : ∀ j (hj : j < l.length) w', Below w.heap.size w w' → w'.cell? ⟨b, o + j, none⟩ = some (.int .u8 (l[j].toNat : Int)) := fun j hj w' hb' => by
        obtain ⟨b', o', e, hbK, hcell⟩ := hr.2 j hj
        injection e with e; injection e with e1 e2; subst e1; subst e2
        rw [hb'.cell (p := ⟨b, o + j, none⟩) (by show b < _; omega)]; exact hcell
      have hcq := hcells q hql wr hb
      obtain ⟨x, hx⟩ : ∃ x : UInt8, l[q] = x := ⟨_, rfl⟩
      have Hatq : Hid (l[q]? = some x) := hid (by rw [List.getElem?_eq_getElem hql, hx])
      rw [hx] at hcq
      clear hx
      have Hno := hid hno
      have Htk := hid htk
      have Hv := hid hv
      have Ho := hid ho
      have Hcells := hid hcells
      clear hno htk hv ho hcells
      by_cases hx10 : x = 10
      · have hxb : ((x.toNat : Int) != 10) = false := u8_bne hx10
        have Hat10 : Hid (l[q]? = some 10) := hid (by rw [Hatq.out, hx10])
        clear hx10
        by_cases hpe : p = q
        · subst hpe
          have Hb : Hid (good l = false) := hid (by
            cases hg : good l
            · rfl
            · have := (next_name Hv.out Htk.out (Nat.le_refl _) Hat10.out Hno.out hg).1; omega)
          have heq : ((p : Int) == (p : Int)) = true := by simp
          go_wp2_with fail
          go_ret2
          exact Hbad.out Hb.out _ hb
        · have heq : ((q : Int) == (p : Int)) = false := by rw [beq_eq_false_iff_ne]; omega
          obtain ⟨j, rfl⟩ : ∃ j, q = j + 1 := ⟨q - 1, by omega⟩
          have hjl : j < l.length := by omega
          have hsub : ((j + 1 : Nat) : Int) - 1 = (j : Int) := by omega
          have hcj := Hcells.out j hjl wr hb
          obtain ⟨y, hy⟩ : ∃ y : UInt8, l[j] = y := ⟨_, rfl⟩
          have Haty : Hid (l[j]? = some y) := hid (by rw [List.getElem?_eq_getElem hjl, hy])
          rw [hy] at hcj
          clear hy
          by_cases hy47 : y = 47
          · have hyb : ((y.toNat : Int) != 47) = false := u8_bne hy47
            have Hat47 : Hid (l[j]? = some 47) := hid (by rw [Haty.out, hy47])
            clear hy47
            have hrd := ((hr.more hK).below hb).cut p |>.pre (show j - p ≤ m - p by omega)
            have Hrd := hid hrd
            have hs1 := run_str wr _ (some ⟨b, o + p, none⟩) (j - p) (c - p) _ hrd
            have hsz : (str ((l.drop p).take (j - p))).size ≤ 140737488355328 := by rw [str_size, List.length_take, List.length_drop]; have := Hl.out; omega
            have hcp : ¬ c = p := by omega
            have Hval := hid fun w' => rvalid_any (str ((l.drop p).take (j - p))) w' hsz
            rw [bts_str] at Hval
            cases hvx : vld ((l.drop p).take (j - p))
            · have Hb : Hid (good l = false) := hid (by
                cases hg : good l
                · rfl
                · have := (next_name Hv.out Htk.out hpq Hat10.out Hno.out hg).2.2
                  rw [show j + 1 - 1 - p = j - p by omega, hvx] at this; cases this)
              rw [hvx] at Hval
              clear hrd hvx
              go_wp2_with fail
              refine (Hval.out _).mono ?_
              rintro e w1 ⟨rfl, m1, rfl⟩
              have Hb1 := hid (hb.trans (below_drewN _ m1))
              go_wp2_with fail
              go_ret2
              exact Hbad.out Hb.out _ Hb1.out
            · rw [hvx] at Hval
              have Hacc := hid (accept Htk.out (show p < j + 1 by omega) Hat10.out Hat47.out)
              have Hvn : Hid (allV (out ++ [str ((l.drop p).take (j - p))]) = true) := hid (allV_next Hv.out (by rw [bts_str]; exact hvx))
              rw [show j + 1 - 1 - p = j - p by omega] at Hacc
              have Hs1 : Hid (∀ m1, (convert 23 9 (.slice (some ⟨b, o + p, none⟩) (j - p) (c - p))).run Tryd.prog (wr.drewN m1) = .ok (.string (str ((l.drop p).take (j - p)))) (wr.drewN m1)) := hid fun m1 => run_str (wr.drewN m1) _ (some ⟨b, o + p, none⟩) (j - p) (c - p) _ (hrd.drewN m1)
              have hs1' : (convert 23 9 (.slice (some ⟨b, o + p, none⟩) (j - p) (c - p))).run Tryd.prog wr = .ok (.string (str ((l.drop p).take (j - p)))) wr := hs1
              clear hrd hvx hs1 hsz
              generalize str ((l.drop p).take (j - p)) = S at *
              go_wp2_with fail
              refine (Hval.out _).mono ?_
              rintro e w1 ⟨rfl, m1, rfl⟩
              have hs2 := Hs1.out m1
              have ho1 := Ho.out.drewN m1
              have hb1 := hb.trans (below_drewN _ m1)
              clear hs1'
              go_wp2_with (at_builtin; refine Sls.wpList_push _ w.heap.size _ _ _ _ ho1 hb1.size (by omega) rfl (.tmp 39) (.tmp 46) rfl rfl rfl ?_; intro v5 w5 ho5 hb5 _ _)
              go_roundw
              case rel =>
                refine ⟨j + 1 + 1, j + 1 + 1, out ++ [S], by go_num, by go_num, by omega, by omega, ?_, Hvn.out, Hacc.out, fun i h1 h2 => by omega, ?_, hb1.trans hb5⟩
                · rw [List.length_append]; simp only [List.length_cons, List.length_nil]; omega
                · rw [List.length_append]; exact ho5
              case measure => simp [intOf]; omega
          · have hyb : ((y.toNat : Int) != 47) = true := u8_bne' hy47
            have Hb : Hid (good l = false) := hid (by
              cases hg : good l
              · rfl
              · have := (next_name Hv.out Htk.out hpq Hat10.out Hno.out hg).2.1
                rw [show j + 1 - 1 = j from rfl, Haty.out] at this
                injection this with this
                exact absurd this hy47)
            clear hy47
            go_wp2_with fail
            go_ret2
            exact Hbad.out Hb.out _ hb
      · have hxb : ((x.toNat : Int) != 10) = true := u8_bne' hx10
        have Hn : Hid (NoLf l p (q + 1)) := hid fun j h1 h2 => by
          by_cases h : j = q
          · subst h; rw [Hatq.out]; intro e; injection e with e; exact hx10 e
          · exact Hno.out j h1 (by omega)
        clear hx10
        go_wp2_with fail
        go_roundw
        case rel => exact ⟨p, q + 1, out, by go_num, rfl, by omega, by omega, by omega, Hv.out, Htk.out, Hn.out, Ho.out, hb⟩
        case measure => simp [intOf]; omega
    · obtain rfl : q = m := by omega
      by_cases hpm : p = q
      · subst hpm
        have hfull : l.take p = l := take_all Hl.out
        rw [hfull] at htk
        have hgd := ends_good hv htk
        have Hg := hid hgd
        clear hgd htk hfull hv hno
        have heq : ((p : Int) != (p : Int)) = false := by simp
        go_wp2_with fail
        go_ret2
        exact Hgood.out _ _ _ Hg.out.1 Hg.out.2 ho hb
      · have Hb : Hid (good l = false) := hid (end_lf hv htk (by have := Hl.out; omega) (by rw [Hl.out]; exact hno))
        have heq : ((p : Int) != (q : Int)) = true := by rw [bne_iff_ne]; omega
        clear htk hv hno
        go_wp2_with fail
        go_ret2
        exact Hbad.out Hb.out _ hb
end Go.Proofs.YtnkdcecpbjhdmaaDoor.Lnm
