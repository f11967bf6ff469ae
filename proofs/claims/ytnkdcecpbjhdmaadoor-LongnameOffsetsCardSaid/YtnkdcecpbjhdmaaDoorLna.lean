/-
  longname: Valid and Short, and the reference's.
-/
import Derived.Test.YtnkdcecpbjhdmaaDoorStr3b
import Derived.Test.YtnkdcecpbjhdmaaDoorLnm
import Derived.Test.YtnkdcecpbjhdmaaDoorDeci
namespace Go.Proofs.YtnkdcecpbjhdmaaDoor.Lnm
open Go.RowKit Go.Proofs Go.Proofs.YtnkdcecpbjhdmaaDoor.Byt Go.Proofs.YtnkdcecpbjhdmaaDoor.Str3 Go.Proofs.YtnkdcecpbjhdmaaDoor.Dec

theorem okB_contains (c : UInt8) : ([47, 10, 0] : List UInt8).contains c = !okB c := by
  unfold okB
  by_cases h1 : c = 47
  · subst h1; rfl
  · by_cases h2 : c = 10
    · subst h2; rfl
    · by_cases h3 : c = 0
      · subst h3; rfl
      · simp [h1, h2, h3]
theorem bad_all : ∀ l : List UInt8, (!bad l) = l.all okB
  | [] => rfl
  | b :: l => by
    have ih := bad_all l
    unfold bad Lib.containsAny at ih ⊢
    unfold Lib.indexAny
    rw [okB_contains, List.all_cons]
    cases h : okB b
    · simp
    · rw [Bool.not_true, Bool.true_and, ← ih]
      have hge := Lib.indexAny_ge [47, 10, 0] l
      simp only [Bool.false_eq_true, if_false]
      by_cases h2 : Lib.indexAny l [47, 10, 0] = -1
      · rw [h2]; rfl
      · have h3 : (Lib.indexAny l [47, 10, 0] == -1) = false := by simpa using h2
        rw [h3]
        simp only [Bool.false_eq_true, if_false]
        congr 1
        rw [decide_eq_decide]
        omega

theorem valid_any (s : ByteArray) (w : World) (hs : s.size ≤ 140737488355328) :
    Calls Tryd.prog 17 #[.string s] w fun e w' => e = .returned (.bool (vld (bts s))) ∧ Below w.heap.size w w' := by
  by_cases h1 : 1 ≤ s.size
  · by_cases h2 : s.size ≤ 255
    · have Hr : Hid (vld (bts s) = !bad (bts s)) := hid (by rw [bad_all]; unfold vld; rw [bts_length]; simp [h1, h2])
      have Hc := hid (containsAny_any s w (by omega))
      go_enter Tryd.func17, Tryd.ntmps17
      go_wp2_with (go_at_call 28; refine Hc.out.mono ?_; rintro e w' ⟨rfl, hw⟩)
      go_ret
      exact ⟨ret_bool (by rw [Hr.out]; rfl), hw⟩
    · have Hr' : Hid (vld (bts s) = false) := hid (by unfold vld; rw [bts_length]; simp [h2])
      go_enter Tryd.func17, Tryd.ntmps17
      go_wp2_with fail
      go_ret
      exact ⟨ret_bool Hr'.out.symm, Below.refl _ _⟩
  · have Hr' : Hid (vld (bts s) = false) := hid (by unfold vld; rw [bts_length]; simp [h1])
    go_enter Tryd.func17, Tryd.ntmps17
    go_wp2_with fail
    go_ret
    exact ⟨ret_bool Hr'.out.symm, Below.refl _ _⟩

theorem short_any (s : ByteArray) (w : World) (hs : s.size ≤ 140737488355328) :
    Calls Tryd.prog 19 #[.string s] w fun e w' => e = .returned (.bool (sht (bts s))) ∧ Below w.heap.size w w' := by
  have Hc := hid (valid_any s w hs)
  cases hv : vld (bts s)
  · have Hr : Hid (sht (bts s) = false) := hid (by unfold sht; rw [hv]; rfl)
    go_enter Tryd.func19, Tryd.ntmps19
    go_wp2_with (go_at_call 17; refine Hc.out.mono ?_; rintro e w' ⟨rfl, hw⟩; rw [hv])
    go_ret
    exact ⟨ret_bool Hr.out.symm, hw⟩
  · by_cases h15 : s.size ≤ 15
    · have Hr : Hid (sht (bts s) = !Lib.hasSuffix s.data.toList [32]) := hid (by unfold sht; rw [hv, bts_length]; simp [h15]; rfl)
      go_enter Tryd.func19, Tryd.ntmps19
      go_wp2_with (first | (go_at_call 17; refine Hc.out.mono ?_; rintro e w' ⟨rfl, hw⟩; rw [hv]) | (go_at_call 29; refine (Tryd.strings_HasSuffix _ _ _ (by omega)).mono ?_; rintro e w'' ⟨rfl, hw2⟩; rw [hw2]))
      go_ret
      exact ⟨ret_bool (by rw [Hr.out]), hw⟩
    · have Hr : Hid (sht (bts s) = false) := hid (by unfold sht; rw [bts_length]; simp [h15])
      go_enter Tryd.func19, Tryd.ntmps19
      go_wp2_with (go_at_call 17; refine Hc.out.mono ?_; rintro e w' ⟨rfl, hw⟩; rw [hv])
      go_ret
      exact ⟨ret_bool Hr.out.symm, hw⟩

theorem at_bts (s : ByteArray) (i : Nat) (h : i < s.size) : (bts s)[i]? = some (s[i]'h) := Lib.data_getElem? s i h
theorem vld_of {s : ByteArray} {i : Nat} {c : UInt8} (h2 : (bts s)[i]? = some c) (h3 : okB c = false) : vld (bts s) = false := by
  cases h : vld (bts s)
  · rfl
  · have := (vld_iff.1 h).2.2 c (List.mem_of_getElem? h2)
    rw [h3] at this; cases this

/-- The first i bytes may be in a name. -/
def OkTo (l : List UInt8) (i : Nat) : Prop := ∀ c ∈ l.take i, okB c = true
theorem OkTo.succ {l : List UInt8} {i : Nat} {c : UInt8} (h : OkTo l i) (h2 : l[i]? = some c) (h3 : okB c = true) : OkTo l (i + 1) := by
  obtain ⟨hi, rfl⟩ := List.getElem?_eq_some_iff.1 h2
  unfold OkTo at h ⊢
  rw [List.take_succ_eq_append_getElem hi]
  intro c hc
  rcases List.mem_append.1 hc with hc | hc
  · exact h c hc
  · rw [List.mem_singleton] at hc; rw [hc]; exact h3

theorem u8_eq {x : UInt8} {k : UInt8} (h : x = k) : ((x.toNat : Int) == (k.toNat : Int)) = true := by rw [h]; simp
theorem u8_ne {x : UInt8} {k : UInt8} (h : x ≠ k) : ((x.toNat : Int) == (k.toNat : Int)) = false := by
  rw [beq_eq_false_iff_ne]; intro e; apply h; rw [← UInt8.toNat_inj]; omega

set_option maxHeartbeats 2000000 in
theorem rvalid_any (s : ByteArray) (w : World) (hs : s.size ≤ 140737488355328) :
    Calls Tryd.prog 18 #[.string s] w fun e w' => e = .returned (.bool (vld (bts s))) ∧ ∃ m, w' = w.drewN m := by
  by_cases h1 : s.size = 0
  · have Hr : Hid (vld (bts s) = false) := hid (by unfold vld; rw [bts_length, h1]; rfl)
    have h1' : ((s.size : Int) == 0) = true := by rw [h1]; rfl
    clear h1
    go_enter Tryd.func18, Tryd.ntmps18
    go_wp2_with fail
    go_ret
    exact ⟨ret_bool Hr.out.symm, 0, rfl⟩
  · have h1' : ((s.size : Int) == 0) = false := by rw [beq_eq_false_iff_ne]; omega
    by_cases h2 : 255 < s.size
    · have Hr : Hid (vld (bts s) = false) := hid (by unfold vld; rw [bts_length]; simp; omega)
      go_enter Tryd.func18, Tryd.ntmps18
      go_wp2_with fail
      go_ret
      exact ⟨ret_bool Hr.out.symm, 0, rfl⟩
    · have Hfull : Hid (OkTo (bts s) s.size → vld (bts s) = true) := hid fun h => by
        rw [vld_iff, bts_length]
        refine ⟨by omega, by omega, fun c hc => h c ?_⟩
        rw [List.take_of_length_le (by rw [bts_length]; omega)]
        exact hc
      go_enter Tryd.func18, Tryd.ntmps18
      go_wp2_with fail
      go_loop [3] (fun i => ∃ j : Nat, i = .int .i64 (j : Int) ∧ j ≤ s.size ∧ OkTo (bts s) j) (fun i => s.size - (intOf i).toNat)
      case atStart => exact ⟨0, rfl, by omega, fun c hc => by simp at hc⟩
      case round =>
        obtain ⟨j, rfl, hj, hno⟩ := hrel
        have Hno := hid hno
        clear hno
        by_cases hlt : j < s.size
        · have Hj := hid (at_bts s j hlt)
          obtain ⟨x, hx⟩ : ∃ x : UInt8, s[j]'hlt = x := ⟨_, rfl⟩
          rw [hx] at Hj
          have Hx := hid hx
          by_cases hx1 : x = 47
          · have Hb := hid (vld_of Hj.out (by rw [hx1]; rfl))
            have hx2 : ((s[j].toNat : Int) == 47) = true := by rw [hx]; exact u8_eq hx1
            clear hx hx1
            go_wp2_with fail
            go_ret
            exact ⟨ret_bool Hb.out.symm, 0, rfl⟩
          · have hx2 : ((s[j].toNat : Int) == 47) = false := by rw [hx]; exact u8_ne hx1
            by_cases hx3 : x = 10
            · have Hb := hid (vld_of Hj.out (by rw [hx3]; rfl))
              have hx4 : ((s[j].toNat : Int) == 10) = true := by rw [hx]; exact u8_eq hx3
              clear hx hx1 hx3
              go_wp2_with fail
              go_ret
              exact ⟨ret_bool Hb.out.symm, 0, rfl⟩
            · have hx4 : ((s[j].toNat : Int) == 10) = false := by rw [hx]; exact u8_ne hx3
              by_cases hx5 : x = 0
              · have Hb := hid (vld_of Hj.out (by rw [hx5]; rfl))
                have hx6 : ((s[j].toNat : Int) == 0) = true := by rw [hx]; exact u8_eq hx5
                clear hx hx1 hx3 hx5
                go_wp2_with fail
                go_ret
                exact ⟨ret_bool Hb.out.symm, 0, rfl⟩
              · have hx6 : ((s[j].toNat : Int) == 0) = false := by rw [hx]; exact u8_ne hx5
                have Hn := hid (Hno.out.succ Hj.out (okB_iff.2 ⟨hx1, hx3, hx5⟩))
                clear hx hx1 hx3 hx5
                go_wp2_with fail
                go_round
                case rel => exact ⟨j + 1, by go_num, by omega, Hn.out⟩
                case measure => simp [intOf]; omega
        · obtain rfl : j = s.size := by omega
          have Hb := hid (Hfull.out Hno.out)
          clear Hfull
          go_wp2_with fail
          go_ret
          exact ⟨ret_bool Hb.out.symm, 0, rfl⟩

theorem sht_last {s : ByteArray} {k : Nat} {c : UInt8} (hv : vld (bts s) = true) (hk : s.size = k + 1) (hk2 : k < 15) (hc : (bts s)[k]? = some c) : sht (bts s) = !(32 == c) := by
  have hl : (bts s).length = k + 1 := by rw [bts_length]; exact hk
  have e : bts s = (bts s).take k ++ [c] := by
    obtain ⟨h1, h2⟩ := List.getElem?_eq_some_iff.1 hc
    rw [← h2, ← List.take_succ_eq_append_getElem h1, List.take_of_length_le (by omega)]
  have hs : Lib.hasSuffix (bts s) [32] = (32 == c) := by
    rw [e]
    unfold Lib.hasSuffix
    rw [Bool.eq_iff_iff, List.isSuffixOf_iff_suffix]
    constructor
    · rintro ⟨t, ht⟩
      have := congrArg List.getLast? ht
      simp at this
      simp [this]
    · intro h
      have : (32 : UInt8) = c := by simpa using h
      rw [← this]
      exact ⟨_, rfl⟩
  unfold sht
  rw [hs, hv]
  have h2 : s.size ≤ 15 := by omega
  rw [bts_length]
  simp [h2]

set_option maxHeartbeats 2000000 in
theorem rshort_any (s : ByteArray) (w : World) (hs : s.size ≤ 140737488355328) :
    Calls Tryd.prog 20 #[.string s] w fun e w' => e = .returned (.bool (sht (bts s))) ∧ ∃ m, w' = w.drewN m := by
  have Hc := hid (rvalid_any s w hs)
  cases hv : vld (bts s)
  · have Hr : Hid (sht (bts s) = false) := hid (by unfold sht; rw [hv]; rfl)
    go_enter Tryd.func20, Tryd.ntmps20
    go_wp2_with (go_at_call 18; refine Hc.out.mono ?_; rintro e w' ⟨rfl, m, rfl⟩; rw [hv])
    go_ret
    exact ⟨ret_bool Hr.out.symm, m, rfl⟩
  · by_cases h15 : s.size < 16
    · have h1 := (vld_size hv).1
      obtain ⟨k, hk⟩ : ∃ k, s.size = k + 1 := ⟨s.size - 1, by omega⟩
      have hkl : k < s.size := by omega
      have hz : (s.size : Int) - 1 = (k : Int) := by omega
      have Hr : Hid (sht (bts s) = !(32 == s[k])) := hid (sht_last hv hk (by omega) (at_bts s k hkl))
      have Hv := hid hv
      clear hk
      by_cases h32 : s[k] = 32
      · have Hr' : Hid (sht (bts s) = false) := hid (by rw [Hr.out, h32]; rfl)
        have hq : ((s[k].toNat : Int) != 32) = false := by rw [h32]; rfl
        clear h32 Hr hv
        go_enter Tryd.func20, Tryd.ntmps20
        go_wp2_with (go_at_call 18; refine Hc.out.mono ?_; rintro e w' ⟨rfl, m, rfl⟩; rw [Hv.out])
        go_ret
        exact ⟨ret_bool Hr'.out.symm, m, rfl⟩
      · have Hr' : Hid (sht (bts s) = true) := hid (by
          rw [Hr.out]
          have : ((32 : UInt8) == s[k]) = false := by rw [beq_eq_false_iff_ne]; exact fun e => h32 e.symm
          rw [this]; rfl)
        have hq : ((s[k].toNat : Int) != 32) = true := by
          have := u8_ne h32
          simp only [bne, Bool.not_eq_true']
          exact this
        clear h32 Hr hv
        go_enter Tryd.func20, Tryd.ntmps20
        go_wp2_with (go_at_call 18; refine Hc.out.mono ?_; rintro e w' ⟨rfl, m, rfl⟩; rw [Hv.out])
        go_ret
        exact ⟨ret_bool Hr'.out.symm, m, rfl⟩
    · have Hr : Hid (sht (bts s) = false) := hid (by unfold sht; rw [bts_length]; simp; omega)
      go_enter Tryd.func20, Tryd.ntmps20
      go_wp2_with (go_at_call 18; refine Hc.out.mono ?_; rintro e w' ⟨rfl, m, rfl⟩; rw [hv])
      go_ret
      exact ⟨ret_bool Hr.out.symm, m, rfl⟩
end Go.Proofs.YtnkdcecpbjhdmaaDoor.Lnm
