/-
  The reference's Text, Format and Parse.
-/
import Derived.Test.YtnkdcecpbjhdmaaDoorDecd
namespace Go.Proofs.YtnkdcecpbjhdmaaDoor.Dec
open Go.RowKit Go.Proofs Go.Proofs.YtnkdcecpbjhdmaaDoor.Byt

theorem digit_str : ∀ n : Nat, n < 10 → (ByteArray.mk #[48, 49, 50, 51, 52, 53, 54, 55, 56, 57]).extract n (n + 1) = ByteArray.mk #[UInt8.ofNat (48 + n)] := by decide +kernel

theorem str_append (a b : List UInt8) : ByteArray.mk a.toArray ++ ByteArray.mk b.toArray = ByteArray.mk (a ++ b).toArray := by
  apply ByteArray.ext
  simp

set_option maxHeartbeats 400000 in
theorem text_any (b : Nat) (hb : vb (b : Int) = true) : ∀ n : Nat, n < 9223372036854775808 → ∀ w : World,
    Calls Tryd.prog 24 #[.int .i64 (n : Int), .int .i64 (b : Int)] w fun e w' => e = .returned (.string ⟨(tx b n).toArray⟩) ∧ ∃ m, w' = w.drewN m := by
  have hb2 : 8 ≤ b := by have := vb_iff.1 hb; omega
  have hb3 : b ≤ 10 := by have := vb_iff.1 hb; omega
  refine by_digits (B := b) (by omega) (fun n hlt hn w => ?_) (fun n hge ih hn w => ?_)
  · have hm : (n : Int) % (b : Int) = (n : Int) := Int.emod_eq_of_lt (by omega) (by omega)
    go_enter Tryd.func24, Tryd.ntmps24
    go_wp2_with fail
    go_quiet (fail)
    go_wp2
    go_ret
    exact ⟨ret_str (by rw [tx_small hlt]; exact digit_str n (by omega)), _, rfl⟩
  · have hm : (n : Int) % (b : Int) = ((n % b : Nat) : Int) := by simp
    have hq : (n : Int) / (b : Int) = ((n / b : Nat) : Int) := by simp
    have hr : n % b < 10 := by have := Nat.mod_lt n (show 0 < b by omega); omega
    have hql : n / b ≤ n := Nat.div_le_self _ _
    have Hd := hid (digit_str _ hr)
    have Ht := hid (tx_big (B := b) (by omega) hge)
    have Ih := hid (ih (by omega))
    have hlen : (tx b (n / b)).length ≤ 63 := by rw [tx_length (by omega)]; exact nd_lt_64 (by omega) (by omega)
    clear ih
    generalize n % b = r at *
    generalize n / b = q at *
    go_enter Tryd.func24, Tryd.ntmps24
    go_wp2_with fail
    go_quiet (fail)
    go_wp2_with fail
    refine (Ih.out _).mono ?_
    rintro e w' ⟨rfl, m, rfl⟩
    go_wp2
    go_ret
    exact ⟨ret_str (by rw [Hd.out, Ht.out]; exact str_append _ [_]), _, rfl⟩
end Go.Proofs.YtnkdcecpbjhdmaaDoor.Dec
