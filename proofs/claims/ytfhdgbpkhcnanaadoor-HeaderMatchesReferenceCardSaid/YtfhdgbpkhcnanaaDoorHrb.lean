/-
  The reference of header: which names fit, and a number read from a field.
-/
import Derived.Test.YtfhdgbpkhcnanaaDoorHra
import Derived.Test.YtfhdgbpkhcnanaaDoorHmb
namespace Go.Proofs.YtfhdgbpkhcnanaaDoor.Hdr
open Go.RowKit Go.Proofs Go.Proofs.YtfhdgbpkhcnanaaDoor.Byt Go.Proofs.YtfhdgbpkhcnanaaDoor.Str Go.Proofs.YtfhdgbpkhcnanaaDoor.Dec

theorem nameOk_last {s : ByteArray} {k : Nat} {c : UInt8} (hk : s.size = k + 1) (hk2 : k < 16) (hc : (by_ s)[k]? = some c) : nameOk s = (!bad (by_ s) && !(32 == c)) := by
  have hl : (by_ s).length = k + 1 := by rw [by_length]; exact hk
  have e : by_ s = (by_ s).take k ++ [c] := by
    obtain ⟨h1, h2⟩ := List.getElem?_eq_some_iff.1 hc
    rw [← h2, ← List.take_succ_eq_append_getElem h1, List.take_of_length_le (by omega)]
  have hs : Lib.hasSuffix (by_ s) [32] = (32 == c) := by
    rw [e]; exact suffix_32 _ _
  unfold nameOk
  rw [hs]
  have h1 : 1 ≤ s.size := by omega
  have h2 : s.size ≤ 16 := by omega
  simp [h1, h2]

theorem at_by (s : ByteArray) (i : Nat) (h : i < s.size) : (by_ s)[i]? = some (s[i]'h) := Lib.data_getElem? s i h
theorem bad_of {s : ByteArray} {i : Nat} {c : UInt8} (h1 : Lib.NoAny (by_ s) [10, 0] i) (h2 : (by_ s)[i]? = some c) (h3 : ([10, 0] : List UInt8).contains c = true) : bad (by_ s) = true := by
  unfold bad Lib.containsAny
  rw [Lib.indexAny_hit h1 h2 h3]
  simp
theorem bad_none {s : ByteArray} {i : Nat} (h1 : Lib.NoAny (by_ s) [10, 0] i) (h2 : s.size ≤ i) : bad (by_ s) = false := by
  unfold bad Lib.containsAny
  rw [Lib.indexAny_none (fun j b hj hb => h1 j b (by rw [by_length] at hj; omega) hb)]
  simp

set_option maxHeartbeats 2000000 in
theorem rfits_any (s : ByteArray) (w : World) (hs : s.size ≤ 140737488355328) :
    Calls Tryd.prog 22 #[.string s] w fun e w' => e = .returned (.bool (nameOk s)) ∧ ∃ m, w' = w.drewN m := by
  by_cases h1 : s.size < 1
  · have Hr : Hid (nameOk s = false) := hid (by unfold nameOk; simp; omega)
    go_enter Tryd.func22, Tryd.ntmps22
    go_wp2_with fail
    go_ret
    exact ⟨ret_bool Hr.out.symm, 0, rfl⟩
  · by_cases h2 : 16 < s.size
    · have Hr : Hid (nameOk s = false) := hid (by unfold nameOk; simp; omega)
      go_enter Tryd.func22, Tryd.ntmps22
      go_wp2_with fail
      go_ret
      exact ⟨ret_bool Hr.out.symm, 0, rfl⟩
    · obtain ⟨k, hk⟩ : ∃ k, s.size = k + 1 := ⟨s.size - 1, by omega⟩
      have hkl : k < s.size := by omega
      have hz : (s.size : Int) - 1 = (k : Int) := by omega
      have Hk := hid hk
      have Hlast := hid fun c hc => nameOk_last (c := c) hk (by omega) hc
      have Hc := hid (at_by s k hkl)
      clear hk
      by_cases h32 : s[k] = 32
      · have Hr : Hid (nameOk s = false) := hid (by rw [Hlast.out _ Hc.out, h32]; simp)
        have hq : ((s[k].toNat : Int) == 32) = true := by rw [h32]; rfl
        clear h32
        go_enter Tryd.func22, Tryd.ntmps22
        go_wp2_with fail
        go_ret
        exact ⟨ret_bool Hr.out.symm, 0, rfl⟩
      · have Hr : Hid (nameOk s = !bad (by_ s)) := hid (by
          rw [Hlast.out _ Hc.out]
          have : ((32 : UInt8) == s[k]) = false := by rw [beq_eq_false_iff_ne]; exact fun e => h32 e.symm
          rw [this]; simp)
        have hq : ((s[k].toNat : Int) == 32) = false := by
          rw [beq_eq_false_iff_ne]
          intro e
          apply h32
          rw [← UInt8.toNat_inj]
          show s[k].toNat = 32
          omega
        clear h32
        go_enter Tryd.func22, Tryd.ntmps22
        go_wp2_with fail
        go_loop [3] (fun i => ∃ j : Nat, i = .int .i64 (j : Int) ∧ j ≤ s.size ∧ Lib.NoAny (by_ s) [10, 0] j) (fun i => s.size - numOf i)
        case atStart => exact ⟨0, rfl, by omega, Lib.NoAny.zero _ _⟩
        case round =>
          obtain ⟨j, rfl, hj, hno⟩ := hrel
          have Hno := hid hno
          clear hno hq
          by_cases hlt : j < s.size
          · have Hj := hid (at_by s j hlt)
            obtain ⟨x, hx⟩ : ∃ x : UInt8, s[j]'hlt = x := ⟨_, rfl⟩
            rw [hx] at Hj
            by_cases hx1 : x = 10
            · subst hx1
              have Hb := hid (bad_of Hno.out Hj.out (by decide))
              have hx2 : ((s[j].toNat : Int) == 10) = true := by rw [hx]; rfl
              clear hx
              go_wp2_with fail
              go_ret
              exact ⟨ret_bool (by rw [Hr.out, Hb.out]; rfl), 0, rfl⟩
            · by_cases hx0 : x = 0
              · subst hx0
                have Hb := hid (bad_of Hno.out Hj.out (by decide))
                have hx2 : ((s[j].toNat : Int) == 10) = false := by rw [hx]; rfl
                have hx3 : ((s[j].toNat : Int) == 0) = true := by rw [hx]; rfl
                clear hx
                go_wp2_with fail
                go_ret
                exact ⟨ret_bool (by rw [Hr.out, Hb.out]; rfl), 0, rfl⟩
              · have hc : ([10, 0] : List UInt8).contains x = false := by simp [hx1, hx0]
                have Hn := hid (Hno.out.succ Hj.out hc)
                have hx2 : ((s[j].toNat : Int) == 10) = false := by
                  rw [hx, beq_eq_false_iff_ne]; intro e; apply hx1; rw [← UInt8.toNat_inj]; show x.toNat = 10; omega
                have hx3 : ((s[j].toNat : Int) == 0) = false := by
                  rw [hx, beq_eq_false_iff_ne]; intro e; apply hx0; rw [← UInt8.toNat_inj]; show x.toNat = 0; omega
                clear hx hx1 hx0 hc
                go_wp2_with fail
                go_round
                case rel => exact ⟨j + 1, by go_num, by omega, Hn.out⟩
                case measure => simp [numOf]; omega
          · have Hb := hid (bad_none Hno.out (by omega))
            go_wp2_with fail
            go_ret
            exact ⟨ret_bool (by rw [Hr.out, Hb.out]; rfl), 0, rfl⟩
end Go.Proofs.YtfhdgbpkhcnanaaDoor.Hdr
