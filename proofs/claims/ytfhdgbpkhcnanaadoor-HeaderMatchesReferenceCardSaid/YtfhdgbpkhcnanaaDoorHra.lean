/-
  The reference of header: which names fit, a field, a number; the joining of byte slices.
-/
import Derived.Test.YtfhdgbpkhcnanaaDoorHdd
namespace Go.Proofs.YtfhdgbpkhcnanaaDoor.Hdr
open Go.RowKit Go.Proofs Go.Proofs.YtfhdgbpkhcnanaaDoor.Byt Go.Proofs.YtfhdgbpkhcnanaaDoor.Str Go.Proofs.YtfhdgbpkhcnanaaDoor.Dec

/-- A field by the reference, or spaces. -/
def rfOk (n : Int) (b w : Nat) (blank : Bool) : Bool := if blank = true then n == 0 else decide (0 ≤ n) && decide (nd b n.toNat ≤ w)
def rfOut (n : Int) (b w : Nat) (blank : Bool) : List UInt8 := if blank = true then List.replicate w 32 else fout n b w
/-- What field gives. -/
def Fields (n : Int) (b wd : Nat) (blank : Bool) (w : World) (e : Ending) (w' : World) : Prop :=
  ∃ v, e = .returned (.tuple #[v, .bool (rfOk n b wd blank)]) ∧ Own w' w.heap.size v (rfOut n b wd blank).length (rfOut n b wd blank) ∧ Below w.heap.size w w'

theorem ferr_zero (n : Int) (b w : Nat) (hb : vb (b : Int) = true) (hw : vw (w : Int) = true) : (ferr n b w == 0) = (decide (0 ≤ n) && decide (nd b n.toNat ≤ w)) := by
  by_cases h : 0 ≤ n ∧ (nd b n.toNat : Int) ≤ w
  · have h0 := (ferr_0 (n := n) (b := b) (w := w) ⟨hb, hw⟩ (by rw [Int.toNat_natCast]; exact h)).1
    have h2 : nd b n.toNat ≤ w := by omega
    rw [h0]; simp [h.1, h2]
  · have h0 := (ferr_9 (n := n) (b := b) (w := w) ⟨hb, hw⟩ (by rw [Int.toNat_natCast]; exact h)).1
    have h2 : ¬ (0 ≤ n ∧ nd b n.toNat ≤ w) := by omega
    rw [h0]
    by_cases h3 : 0 ≤ n
    · have h4 : ¬ nd b n.toNat ≤ w := fun h5 => h2 ⟨h3, h5⟩
      simp [h4]
    · simp [h3]

theorem rfield_blank (n : Int) (b wd : Nat) (w : World) (hw : wd ≤ 1000) :
    Calls Tryd.prog 23 #[.int .i64 n, .int .i64 (b : Int), .int .i64 (wd : Int), .bool true] w (Fields n b wd true w) := by
  have Hs := hid (rspaces_any wd w hw)
  have Hf : Hid (∀ v w', Own w' w.heap.size v wd (List.replicate wd 32) → Below w.heap.size w w' → Fields n b wd true w (.returned (.tuple #[v, .bool (n == 0)])) w') := hid fun v w' h1 h2 =>
    ⟨v, rfl, by
      have : rfOut n b wd true = List.replicate wd 32 := rfl
      rw [this, List.length_replicate]; exact h1, h2⟩
  go_enter Tryd.func23, Tryd.ntmps23
  go_wp2_with fail
  refine Hs.out.mono ?_
  rintro e w1 ⟨v1, rfl, hown1, hb1⟩
  go_wp2_with fail
  go_ret2
  exact Hf.out _ _ hown1 hb1

theorem rfield_num (n : Int) (b wd : Nat) (w : World) (hn : n < 9223372036854775808) (hb : vb (b : Int) = true) (hw : vw (wd : Int) = true) :
    Calls Tryd.prog 23 #[.int .i64 n, .int .i64 (b : Int), .int .i64 (wd : Int), .bool false] w (Fields n b wd false w) := by
  have Hs := hid fun w' => rformat_any n b wd w' hn
  have Hf : Hid (∀ v w', Own w' w.heap.size v (fout n b wd).length (fout n b wd) → Below w.heap.size w w' → Fields n b wd false w (.returned (.tuple #[v, .bool (ferr n b wd == 0)])) w') := hid fun v w' h1 h2 =>
    ⟨v, by rw [ferr_zero n b wd hb hw]; rfl, h1, h2⟩
  clear hb hw
  go_enter Tryd.func23, Tryd.ntmps23
  go_wp2_with fail
  refine (Hs.out _).mono ?_
  rintro e w1 ⟨v1, rfl, hown1, hb1⟩
  go_wp2_with fail
  go_ret2
  exact Hf.out _ _ hown1 hb1

theorem rfield_any (n : Int) (b wd : Nat) (blank : Bool) (w : World) (hn : n < 9223372036854775808) (hb : vb (b : Int) = true) (hw : vw (wd : Int) = true) :
    Calls Tryd.prog 23 #[.int .i64 n, .int .i64 (b : Int), .int .i64 (wd : Int), .bool blank] w (Fields n b wd blank w) := by
  cases blank
  · exact rfield_num n b wd w hn hb hw
  · exact rfield_blank n b wd w (by have := vw_iff.1 hw; omega)

set_option maxHeartbeats 1000000 in
/-- Two byte slices joined. -/
theorem add_any (K K' : Nat) (A A' : Option Addr) (n c n' c' : Nat) (xs ys : List UInt8) (w : World) (h : Rd w K A n xs) (h' : Rd w K' A' n' ys) (hK : K ≤ w.heap.size) (hK' : K' ≤ w.heap.size) (hn : n ≤ 10000) (hn' : n' ≤ 10000) :
    Calls Tryd.prog 16 #[.slice A n c, .slice A' n' c'] w fun e w' => ∃ v, e = .returned v ∧ Own w' w.heap.size v (n + n') (xs ++ ys) ∧ Below w.heap.size w w' := by
  have hbl := hid ((Below.refl w.heap.size w).alloc (Nat.le_refl _) (.cells #[] 5))
  have H1 := hid ((h.more hK).below hbl.out)
  have H2 := hid ((h'.more hK').below hbl.out)
  clear h h'
  go_enter Tryd.func16, Tryd.ntmps16
  go_wp2_with (first
    | (at_builtin; refine wpList_app _ w.heap.size _ 0 [] (Own.lit0 w w.heap.size (Nat.le_refl _)) (by simp) A n c _ xs H1.out (by omega) rfl (.tmp 5) (.tmp 6) rfl rfl rfl ?_; intro v1 w1 hown1 hb1; have hb01 := hbl.out.trans hb1)
    | (at_builtin; refine wpList_app _ w.heap.size _ _ _ hown1 hb01.size A' n' c' _ ys (H2.out.below hb1) (by omega) rfl (.tmp 7) (.tmp 8) rfl rfl rfl ?_; intro v2 w2 hown2 hb2))
  go_ret
  refine ⟨_, rfl, ?_, hb01.trans hb2⟩
  rw [Nat.zero_add, List.nil_append] at hown2
  exact hown2
end Go.Proofs.YtfhdgbpkhcnanaaDoor.Hdr
