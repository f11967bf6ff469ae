/-
  longname: Resolve.
-/
import Derived.Test.YtnkdcecpbjhdmaaDoorLnc
namespace Go.Proofs.YtnkdcecpbjhdmaaDoor.Lnm
open Go.RowKit Go.Proofs Go.Proofs.YtnkdcecpbjhdmaaDoor.Byt Go.Proofs.YtnkdcecpbjhdmaaDoor.Str3 Go.Proofs.YtnkdcecpbjhdmaaDoor.Dec

/-- The short name in a field. -/
def shortOf (f : List UInt8) : Option ByteArray := if Lib.hasSuffix f [47] = true ∧ sht (Lib.trimSuffix f [47]) = true then some (str (Lib.trimSuffix f [47])) else none
/-- The name at an offset. -/
def longAt (f l : List UInt8) : Option ByteArray := match poff f with | some k => if beg l k = true ∧ first (l.drop k) ≠ [] then some (str (first (l.drop k))) else none | none => none
/-- What Resolve gives. -/
def resv (f l : List UInt8) : Option ByteArray := match shortOf f with | some n => some n | none => longAt f l
def rs (o : Option ByteArray) : ByteArray := match o with | some s => s | none => ⟨#[]⟩
def re (o : Option ByteArray) : Int := match o with | some _ => 0 | none => 6

theorem cuts_any (s : ByteArray) (w : World) (hs : s.size ≤ 140737488355328) :
    Calls Tryd.prog 30 #[.string s, .string ⟨#[47]⟩] w fun e w' => e = .returned (.tuple #[.string (str (Lib.trimSuffix (bts s) [47])), .bool (Lib.hasSuffix (bts s) [47])]) ∧ w = w' :=
  (Tryd.strings_CutSuffix _ _ w (by omega)).mono fun e w' ⟨he, hw⟩ => ⟨he, hw.symm⟩

theorem trim_size (s : ByteArray) : (str (Lib.trimSuffix (bts s) [47])).size ≤ s.size := by
  rw [str_size]
  unfold Lib.trimSuffix
  split
  · rw [List.length_take, bts_length]; omega
  · rw [bts_length]; omega

theorem clone_any (s : ByteArray) (w : World) (hs : s.size ≤ 140737488355328) :
    Calls Tryd.prog 31 #[.string s] w fun e w' => e = .returned (.string s) ∧ Below w.heap.size w w' := by
  go_enter Tryd.func31, Tryd.ntmps31
  go_wp2_with (go_at_call 40; refine (Tryd.stringslite_Clone _ _ (by omega)).mono ?_; rintro e w' ⟨rfl, hw⟩)
  go_ret
  exact ⟨rfl, hw⟩

set_option maxHeartbeats 1000000 in
theorem resolve_short (s : ByteArray) (v : Value) (w : World) (hs : s.size ≤ 140737488355328) (h1 : Lib.hasSuffix (bts s) [47] = true) (h2 : sht (Lib.trimSuffix (bts s) [47]) = true) :
    Calls Tryd.prog 21 #[.string s, v] w fun e w' => e = .returned (.tuple #[.string (str (Lib.trimSuffix (bts s) [47])), .int .i64 0]) ∧ Below w.heap.size w w' := by
  have ht := trim_size s
  go_enter Tryd.func21, Tryd.ntmps21
  go_wp2_with fail
  refine (cuts_any s _ hs).mono ?_
  rintro e w1 ⟨rfl, rfl⟩
  rw [h1]
  go_wp2_with fail
  refine (short_any _ _ (by omega)).mono ?_
  rintro e w1 ⟨rfl, hb1⟩
  rw [bts_str, h2]
  go_wp2_with fail
  refine (clone_any _ _ (by omega)).mono ?_
  rintro e w2 ⟨rfl, hb2⟩
  go_wp2_with fail
  go_ret2
  exact ⟨rfl, hb1.trans (hb2.mono hb1.size)⟩

set_option maxRecDepth 100000 in
set_option maxHeartbeats 4000000 in
theorem resolve_long (K : Nat) (A : Option Addr) (n c : Nat) (l : List UInt8) (s : ByteArray) (w : World) (hg : Gnd w) (hr : Rd w K A n l) (hK : K ≤ w.heap.size) (hc : n ≤ c) (hn : n < 4294967281) (hs : s.size ≤ 140737488355328)
    (h1 : Lib.hasSuffix (bts s) [47] = false ∨ (Lib.hasSuffix (bts s) [47] = true ∧ sht (Lib.trimSuffix (bts s) [47]) = false)) :
    Calls Tryd.prog 21 #[.string s, .slice A n c] w fun e w' => e = .returned (.tuple #[.string (rs (longAt (bts s) l)), .int .i64 (re (longAt (bts s) l))]) ∧ Below w.heap.size w w' := by
  have ht := trim_size s
  have hl := hr.1
  have Hp := hid fun w' => poff_any s w' hs
  rcases hp : poff (bts s) with _ | k
  · have Hr : Hid (longAt (bts s) l = none) := hid (by unfold longAt; rw [hp])
    rw [hp] at Hp
    clear hp
    rcases h1 with h1 | ⟨h1, h2⟩
    · go_enter Tryd.func21, Tryd.ntmps21
      go_wp2_with fail
      refine (cuts_any s _ hs).mono ?_
      rintro e w1 ⟨rfl, rfl⟩
      rw [h1]
      go_wp2_with fail
      refine (Hp.out _).mono ?_
      rintro e w2 ⟨rfl, hb2⟩
      go_wp2_with fail
      go_ret2
      exact ⟨by rw [Hr.out]; rfl, hb2⟩
    · go_enter Tryd.func21, Tryd.ntmps21
      go_wp2_with fail
      refine (cuts_any s _ hs).mono ?_
      rintro e w1 ⟨rfl, rfl⟩
      rw [h1]
      go_wp2_with fail
      refine (short_any _ _ (by omega)).mono ?_
      rintro e w1 ⟨rfl, hb1⟩
      rw [bts_str, h2]
      go_wp2_with fail
      refine (Hp.out _).mono ?_
      rintro e w2 ⟨rfl, hb2⟩
      go_wp2_with fail
      go_ret2
      exact ⟨by rw [Hr.out]; rfl, hb1.trans (hb2.mono hb1.size)⟩
  · have hk := (poff_some hp).2
    have hk2 : k < 1000000000000000 := by
      have h3 := lt_pow (B := 10) (by omega) k
      rw [tx_length (by omega)] at hk
      have h4 : 10 ^ nd 10 k ≤ 10 ^ 15 := Nat.pow_le_pow_right (by omega) hk
      omega
    rw [hp, show pk (some k) = (k : Int) from rfl, show (some k).isSome = true from rfl] at Hp
    have Hbg := hid fun w' (hr' : Rd w' K A n l) => begins_any K A n c l k w' hr' hc (by omega)
    cases hbg : beg l k
    · have Hr : Hid (longAt (bts s) l = none) := hid (by unfold longAt; rw [hp]; simp only; rw [if_neg (by rw [hbg]; simp)])
      rw [hbg] at Hbg
      clear hp hbg hk hl
      rcases h1 with h1 | ⟨h1, h2⟩
      · go_enter Tryd.func21, Tryd.ntmps21
        go_wp2_with fail
        refine (cuts_any s _ hs).mono ?_
        rintro e w1 ⟨rfl, rfl⟩
        rw [h1]
        go_wp2_with fail
        refine (Hp.out _).mono ?_
        rintro e w2 ⟨rfl, hb2⟩
        go_wp2_with fail
        refine (Hbg.out _ (hr.below (hb2.mono hK))).mono ?_
        rintro e w3 ⟨rfl, rfl⟩
        go_wp2_with fail
        go_ret2
        exact ⟨by rw [Hr.out]; rfl, hb2⟩
      · go_enter Tryd.func21, Tryd.ntmps21
        go_wp2_with fail
        refine (cuts_any s _ hs).mono ?_
        rintro e w1 ⟨rfl, rfl⟩
        rw [h1]
        go_wp2_with fail
        refine (short_any _ _ (by omega)).mono ?_
        rintro e w1 ⟨rfl, hb1⟩
        rw [bts_str, h2]
        go_wp2_with fail
        refine (Hp.out _).mono ?_
        rintro e w2 ⟨rfl, hb2⟩
        have hb12 := hb1.trans (hb2.mono hb1.size)
        clear hb1 hb2
        go_wp2_with fail
        refine (Hbg.out _ (hr.below (hb12.mono hK))).mono ?_
        rintro e w3 ⟨rfl, rfl⟩
        go_wp2_with fail
        go_ret2
        exact ⟨by rw [Hr.out]; rfl, hb12⟩
    · have hkn : k < n := by
        unfold beg at hbg
        simp at hbg
        omega
      obtain ⟨b, o, rfl⟩ : ∃ b o : Nat, A = some ⟨b, o, none⟩ := by
        obtain ⟨b, o, e, _, _⟩ := hr.2 0 (by omega)
        exact ⟨b, o, e⟩
      have Hfirst := hid fun w' (hg' : Gnd w') (hr' : Rd w' K (some ⟨b, o, none⟩) n l) (hK' : K ≤ w'.heap.size) => first_any K (some ⟨b, o + k, none⟩) (n - k) (c - k) (l.drop k) w' hg' (hr'.cut k) hK' (by omega) (by omega) (by omega)
      have hck : ¬ c = k := by omega
      have had : (⟨b, o, none⟩ : Addr).add k = ⟨b, o + k, none⟩ := by unfold Addr.add; split <;> simp_all
      rw [hbg] at Hbg
      have Had := hid had
      by_cases hf : first (l.drop k) = []
      · have Hr : Hid (longAt (bts s) l = none) := hid (by unfold longAt; rw [hp]; simp only; rw [if_neg (fun h => h.2 hf)])
        rw [hf, show str [] = ⟨#[]⟩ from rfl] at Hfirst
        clear hp hbg hk hl hf had
        rcases h1 with h1 | ⟨h1, h2⟩
        · go_enter Tryd.func21, Tryd.ntmps21
          go_wp2_with fail
          refine (cuts_any s _ hs).mono ?_
          rintro e w1 ⟨rfl, rfl⟩
          rw [h1]
          go_wp2_with fail
          refine (Hp.out _).mono ?_
          rintro e w2 ⟨rfl, hb2⟩
          go_wp2_with fail
          refine (Hbg.out _ (hr.below (hb2.mono hK))).mono ?_
          rintro e w3 ⟨rfl, rfl⟩
          go_wp2_with fail
          refine (Hfirst.out _ (hg.on hb2) (hr.below (hb2.mono hK)) (Nat.le_trans hK hb2.size)).mono ?_
          rintro e w3 ⟨rfl, hb3⟩
          have Hb := hid (hb2.trans (hb3.mono hb2.size))
          clear hb2 hb3
          go_wp2_with fail
          go_ret2
          exact ⟨by rw [Hr.out]; rfl, Hb.out⟩
        · go_enter Tryd.func21, Tryd.ntmps21
          go_wp2_with fail
          refine (cuts_any s _ hs).mono ?_
          rintro e w1 ⟨rfl, rfl⟩
          rw [h1]
          go_wp2_with fail
          refine (short_any _ _ (by omega)).mono ?_
          rintro e w1 ⟨rfl, hb1⟩
          rw [bts_str, h2]
          go_wp2_with fail
          refine (Hp.out _).mono ?_
          rintro e w2 ⟨rfl, hb2'⟩
          have hb2 := hb1.trans (hb2'.mono hb1.size)
          clear hb1 hb2'
          go_wp2_with fail
          refine (Hbg.out _ (hr.below (hb2.mono hK))).mono ?_
          rintro e w3 ⟨rfl, rfl⟩
          go_wp2_with fail
          refine (Hfirst.out _ (hg.on hb2) (hr.below (hb2.mono hK)) (Nat.le_trans hK hb2.size)).mono ?_
          rintro e w3 ⟨rfl, hb3⟩
          have Hb := hid (hb2.trans (hb3.mono hb2.size))
          clear hb2 hb3
          go_wp2_with fail
          go_ret2
          exact ⟨by rw [Hr.out]; rfl, Hb.out⟩
      · have Hr : Hid (longAt (bts s) l = some (str (first (l.drop k)))) := hid (by unfold longAt; rw [hp]; simp only; rw [if_pos ⟨hbg, hf⟩])
        have hne : (str (first (l.drop k))).toList = [] → False := by
          intro h
          apply hf
          rw [← bts_str (first (l.drop k))]
          have h2 : (str (first (l.drop k))).size = 0 := by rw [Lib.size_eq, ← Lib.toList_data, h]; rfl
          exact List.eq_nil_of_length_eq_zero (by rw [bts_length]; exact h2)
        have hne1 : ((str (first (l.drop k))).toList == []) = false := by rw [beq_eq_false_iff_ne]; exact hne
        have hne2 : (str (first (l.drop k))).toList.isEmpty = false := by
          cases h : (str (first (l.drop k))).toList
          · exact absurd h hne
          · rfl
        clear hp hbg hk hl hf had hne
        generalize str (first (l.drop k)) = F at *
        rcases h1 with h1 | ⟨h1, h2⟩
        · go_enter Tryd.func21, Tryd.ntmps21
          go_wp2_with fail
          refine (cuts_any s _ hs).mono ?_
          rintro e w1 ⟨rfl, rfl⟩
          rw [h1]
          go_wp2_with fail
          refine (Hp.out _).mono ?_
          rintro e w2 ⟨rfl, hb2⟩
          go_wp2_with fail
          refine (Hbg.out _ (hr.below (hb2.mono hK))).mono ?_
          rintro e w3 ⟨rfl, rfl⟩
          go_wp2_with fail
          refine (Hfirst.out _ (hg.on hb2) (hr.below (hb2.mono hK)) (Nat.le_trans hK hb2.size)).mono ?_
          rintro e w3 ⟨rfl, hb3⟩
          have Hb := hid (hb2.trans (hb3.mono hb2.size))
          clear hb2 hb3
          go_wp2_with fail
          go_ret2
          exact ⟨by rw [Hr.out]; rfl, Hb.out⟩
        · go_enter Tryd.func21, Tryd.ntmps21
          go_wp2_with fail
          refine (cuts_any s _ hs).mono ?_
          rintro e w1 ⟨rfl, rfl⟩
          rw [h1]
          go_wp2_with fail
          refine (short_any _ _ (by omega)).mono ?_
          rintro e w1 ⟨rfl, hb1⟩
          rw [bts_str, h2]
          go_wp2_with fail
          refine (Hp.out _).mono ?_
          rintro e w2 ⟨rfl, hb2'⟩
          have hb2 := hb1.trans (hb2'.mono hb1.size)
          clear hb1 hb2'
          go_wp2_with fail
          refine (Hbg.out _ (hr.below (hb2.mono hK))).mono ?_
          rintro e w3 ⟨rfl, rfl⟩
          go_wp2_with fail
          refine (Hfirst.out _ (hg.on hb2) (hr.below (hb2.mono hK)) (Nat.le_trans hK hb2.size)).mono ?_
          rintro e w3 ⟨rfl, hb3⟩
          have Hb := hid (hb2.trans (hb3.mono hb2.size))
          clear hb2 hb3
          go_wp2_with fail
          go_ret2
          exact ⟨by rw [Hr.out]; rfl, Hb.out⟩

theorem resolve_any (K : Nat) (A : Option Addr) (n c : Nat) (l : List UInt8) (s : ByteArray) (w : World) (hg : Gnd w) (hr : Rd w K A n l) (hK : K ≤ w.heap.size) (hc : n ≤ c) (hn : n < 4294967281) (hs : s.size ≤ 140737488355328) :
    Calls Tryd.prog 21 #[.string s, .slice A n c] w fun e w' => e = .returned (.tuple #[.string (rs (resv (bts s) l)), .int .i64 (re (resv (bts s) l))]) ∧ Below w.heap.size w w' := by
  by_cases h : Lib.hasSuffix (bts s) [47] = true ∧ sht (Lib.trimSuffix (bts s) [47]) = true
  · have e : resv (bts s) l = some (str (Lib.trimSuffix (bts s) [47])) := by unfold resv shortOf; rw [if_pos h]
    rw [e]
    exact resolve_short s _ w hs h.1 h.2
  · have e : resv (bts s) l = longAt (bts s) l := by unfold resv shortOf; rw [if_neg h]
    rw [e]
    refine resolve_long K A n c l s w hg hr hK hc hn hs ?_
    cases h1 : Lib.hasSuffix (bts s) [47]
    · exact .inl rfl
    · right
      refine ⟨rfl, ?_⟩
      cases h2 : sht (Lib.trimSuffix (bts s) [47])
      · rfl
      · exact absurd ⟨h1, h2⟩ h
end Go.Proofs.YtnkdcecpbjhdmaaDoor.Lnm
