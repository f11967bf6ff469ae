/-
  The reference's Parse, at every argument.
-/
import Derived.Test.YtfhdgbpkhcnanaaDoorDecg
namespace Go.Proofs.YtfhdgbpkhcnanaaDoor.Dec
open Go.RowKit Go.Proofs Go.Proofs.YtfhdgbpkhcnanaaDoor.Byt

/-- What the reference's Parse gives. -/
def Parses (l : List UInt8) (b : Int) (w : World) (e : Ending) (w' : World) : Prop :=
  e = .returned (.tuple #[.int .i64 (pval l b), .int .i64 (perr l b)]) ∧ Below w.heap.size w w'

theorem rparse_13 (K : Nat) (A : Option Addr) (n c : Nat) (l : List UInt8) (b : Int) (w : World) (hr : Rd w K A n l) (h : ¬(vb b = true ∧ vw (n : Int) = true)) :
    Calls Tryd.prog 46 #[.slice A n c, .int .i64 b] w (Parses l b w) := by
  have hf := hid (perr_13 (l := l) (b := b) (by rw [hr.1]; exact h))
  cases hb : vb b
  · clear h
    go_enter Tryd.func46, Tryd.ntmps46
    go_wp2_with (go_at_call 49; refine (based_any _ _).mono ?_; rintro e w' ⟨rfl, rfl⟩)
    go_ret2
    exact ⟨ret_ints hf.out.2.symm hf.out.1.symm, Below.refl _ _⟩
  · have hw : ¬(1 ≤ (n : Int) ∧ (n : Int) ≤ 18) := fun hh => h ⟨hb, vw_iff.2 hh⟩
    clear h
    by_cases h1 : (n : Int) < 1
    · clear hw
      go_enter Tryd.func46, Tryd.ntmps46
      go_wp2_with (go_at_call 49; refine (based_any _ _).mono ?_; rintro e w' ⟨rfl, rfl⟩)
      go_ret2
      exact ⟨ret_ints hf.out.2.symm hf.out.1.symm, Below.refl _ _⟩
    · have h2 : 18 < (n : Int) := by omega
      clear hw
      go_enter Tryd.func46, Tryd.ntmps46
      go_wp2_with (go_at_call 49; refine (based_any _ _).mono ?_; rintro e w' ⟨rfl, rfl⟩)
      go_ret2
      exact ⟨ret_ints hf.out.2.symm hf.out.1.symm, Below.refl _ _⟩

def QRel (b n : Nat) (l : List UInt8) (v i : Value) : Prop :=
  ∃ k x : Nat, v = .int .i64 (x : Int) ∧ i = .int .i64 (k : Int) ∧ k ≤ n ∧ x < 1000000000000000000 ∧ Hid (x = val b (l.take k) ∧ ∀ u ∈ l.take k, isD b u = true)

/-- The reference's test at the end of the digits. -/
theorem rparse_end {b n k x : Nat} {l : List UInt8} (hb2 : 2 ≤ b) (hb3 : b ≤ 10) (hl : l.length = n) (hk : k ≤ n) (hx : x = val b (l.take k)) (h1 : ∀ u ∈ l.take k, isD b u = true) (h2 : ∀ c, l[k]? = some c → isD b c = false) :
    (k = 0 → parse b l = none) ∧ (n < nd b x → parse b l = none) ∧ (nd b x ≤ n → (field b x n == l) = true → parse b l = some x) ∧ (nd b x ≤ n → (field b x n == l) = false → parse b l = none) := by
  have hp := parse_at h1 h2 (by omega)
  rw [← hx] at hp
  refine ⟨fun h => ?_, fun h => ?_, fun h h3 => ?_, fun h h3 => ?_⟩
  · rw [hp, if_neg]; rintro ⟨_, h4⟩; have := nd_pos b x; omega
  · rw [hp, if_neg]; rintro ⟨_, h4⟩; omega
  · rw [beq_iff_eq] at h3
    rw [← h3]; exact parse_field hb2 hb3 _ _
  · rw [hp, if_neg]
    intro h4
    rw [if_pos h4] at hp
    have := (parse_some hb2 hb3 hp).2
    rw [hl] at this
    rw [beq_eq_false_iff_ne] at h3
    exact h3 this.symm

set_option maxHeartbeats 1000000 in
theorem rparse_ok (K : Nat) (A : Option Addr) (n c : Nat) (l : List UInt8) (b : Nat) (w : World) (hr : Rd w K A n l) (hK : K ≤ w.heap.size) (hb : vb (b : Int) = true) (hw : vw (n : Int) = true) :
    Calls Tryd.prog 46 #[.slice A n c, .int .i64 (b : Int)] w (Parses l b w) := by
  have hf0 := hid fun m => perr_0 (l := l) (b := b) ⟨hb, by rw [hr.1]; exact hw⟩ (n := m)
  have hf3 := hid (perr_3 (l := l) (b := b) ⟨hb, by rw [hr.1]; exact hw⟩)
  obtain ⟨hw1, hw2⟩ := vw_iff.1 hw
  have hb8 : b = 8 ∨ b = 10 := by have := vb_iff.1 hb; omega
  have hb2 : 8 ≤ b := by omega
  have hb3 : b ≤ 10 := by omega
  clear hb8
  go_enter Tryd.func46, Tryd.ntmps46
  go_wp2_with (go_at_call 49; refine (based_any _ _).mono ?_; rintro e w' ⟨rfl, rfl⟩)
  go_loop [6, 7] (fun v i => QRel b n l v i) (fun _ i => n - (intOf i).toNat)
  case atStart => exact ⟨0, 0, rfl, rfl, by omega, by omega, hid ⟨rfl, by simp⟩⟩
  case round =>
    obtain ⟨k, x, rfl, rfl, hk, hx, hv⟩ := hrel
    by_cases hlt : k < n
    · have hkl : k < l.length := by have := hr.1; omega
      obtain ⟨b0, o, rfl, hbK, hcell⟩ := hr.2 k hkl
      have hst := hid (PRel.step (x := x) hb3 hr.1 (by omega) hlt hv.out)
      have hend := hid fun h2 => rparse_end (b := b) (n := n) (k := k) (x := x) (l := l) (by omega) hb3 hr.1 hk hv.out.1 hv.out.2 h2
      have hnext : Hid (isD b l[k] = false → ∀ c, l[k]? = some c → isD b c = false) := hid (fun h c hc => by
        rw [List.getElem?_eq_getElem hkl] at hc
        injection hc with hc
        rwa [← hc])
      generalize l[k] = u at *
      have hu := u.toNat_lt
      cases hd : isD b u
      · have hE := hid (hend.out (hnext.out hd))
        have hnd : ¬(48 ≤ u.toNat ∧ u.toNat < 48 + b) := fun h => by rw [isD_iff.2 h] at hd; cases hd
        clear hst hend hnext hd
        by_cases hu48 : u.toNat < 48
        · clear hnd
          by_cases h0 : k = 0
          · have hk0 : ((k : Int) == 0) = true := by simp; omega
            have Hr := hid (hf3.out (by rw [Int.toNat_natCast]; exact hE.out.1 h0))
            have Hfm := hid fun w' => rformat_any x b n w' (by omega)
            clear hE hf0 hf3 h0
            go_wp2_with (go_at_call 40; refine (Hfm.out _).mono ?_; rintro e w1 ⟨v1, rfl, hown1, hbel1⟩)
            go_ret2
            exact ⟨ret_ints Hr.out.2.symm Hr.out.1.symm, hbel1⟩
          · have hk0 : ((k : Int) == 0) = false := by simp; omega
            by_cases h9 : n < nd b x
            · have Hr := hid (hf3.out (by rw [Int.toNat_natCast]; exact hE.out.2.1 h9))
              have hfe : ferr (x : Int) (b : Int) (n : Int) = 9 := (ferr_9 ⟨hb, hw⟩ (by simp; omega)).1
              have Hfm := hid fun w' => rformat_any x b n w' (by omega)
              clear hE hf0 hf3 h9
              go_wp2_with (go_at_call 40; refine (Hfm.out _).mono ?_; rintro e w1 ⟨v1, rfl, hown1, hbel1⟩)
              go_ret2
              exact ⟨ret_ints Hr.out.2.symm Hr.out.1.symm, hbel1⟩
            · have Hfm := hid fun w' => rformat_0 x b n w' (by omega) hb hw (by omega)
              cases hs : (field b x n == l)
              · have Hr := hid (hf3.out (by rw [Int.toNat_natCast]; exact hE.out.2.2.2 (by omega) hs))
                clear hE hf0 hf3 h9
                go_wp2_with (first | (go_at_call 40; refine (Hfm.out _).mono ?_; rintro e w1 ⟨v1, rfl, hown1, hbel1⟩; obtain ⟨A1, c1, rfl, hrd1, _, _⟩ := hown1.reads) | (go_at_call 14; refine (same_any _ rfl w1.heap.size w.heap.size A1 _ n c1 n c (field b x n) l w1 hrd1 ((hr.more hK).below hbel1) (by omega)).mono ?_; rintro e w2 ⟨rfl, m, rfl⟩))
                go_ret2
                exact ⟨ret_ints Hr.out.2.symm Hr.out.1.symm, hbel1.trans (below_drewN _ _)⟩
              · have Hr := hid (hf0.out x (by rw [Int.toNat_natCast]; exact hE.out.2.2.1 (by omega) hs))
                clear hE hf0 hf3 h9
                go_wp2_with (first | (go_at_call 40; refine (Hfm.out _).mono ?_; rintro e w1 ⟨v1, rfl, hown1, hbel1⟩; obtain ⟨A1, c1, rfl, hrd1, _, _⟩ := hown1.reads) | (go_at_call 14; refine (same_any _ rfl w1.heap.size w.heap.size A1 _ n c1 n c (field b x n) l w1 hrd1 ((hr.more hK).below hbel1) (by omega)).mono ?_; rintro e w2 ⟨rfl, m, rfl⟩))
                go_ret2
                exact ⟨ret_ints Hr.out.2.symm Hr.out.1.symm, hbel1.trans (below_drewN _ _)⟩
        · have hu58 : 48 + b ≤ u.toNat := by omega
          clear hnd
          by_cases h0 : k = 0
          · have hk0 : ((k : Int) == 0) = true := by simp; omega
            have Hr := hid (hf3.out (by rw [Int.toNat_natCast]; exact hE.out.1 h0))
            have Hfm := hid fun w' => rformat_any x b n w' (by omega)
            clear hE hf0 hf3 h0
            go_wp2_with (go_at_call 40; refine (Hfm.out _).mono ?_; rintro e w1 ⟨v1, rfl, hown1, hbel1⟩)
            go_ret2
            exact ⟨ret_ints Hr.out.2.symm Hr.out.1.symm, hbel1⟩
          · have hk0 : ((k : Int) == 0) = false := by simp; omega
            by_cases h9 : n < nd b x
            · have Hr := hid (hf3.out (by rw [Int.toNat_natCast]; exact hE.out.2.1 h9))
              have hfe : ferr (x : Int) (b : Int) (n : Int) = 9 := (ferr_9 ⟨hb, hw⟩ (by simp; omega)).1
              have Hfm := hid fun w' => rformat_any x b n w' (by omega)
              clear hE hf0 hf3 h9
              go_wp2_with (go_at_call 40; refine (Hfm.out _).mono ?_; rintro e w1 ⟨v1, rfl, hown1, hbel1⟩)
              go_ret2
              exact ⟨ret_ints Hr.out.2.symm Hr.out.1.symm, hbel1⟩
            · have Hfm := hid fun w' => rformat_0 x b n w' (by omega) hb hw (by omega)
              cases hs : (field b x n == l)
              · have Hr := hid (hf3.out (by rw [Int.toNat_natCast]; exact hE.out.2.2.2 (by omega) hs))
                clear hE hf0 hf3 h9
                go_wp2_with (first | (go_at_call 40; refine (Hfm.out _).mono ?_; rintro e w1 ⟨v1, rfl, hown1, hbel1⟩; obtain ⟨A1, c1, rfl, hrd1, _, _⟩ := hown1.reads) | (go_at_call 14; refine (same_any _ rfl w1.heap.size w.heap.size A1 _ n c1 n c (field b x n) l w1 hrd1 ((hr.more hK).below hbel1) (by omega)).mono ?_; rintro e w2 ⟨rfl, m, rfl⟩))
                go_ret2
                exact ⟨ret_ints Hr.out.2.symm Hr.out.1.symm, hbel1.trans (below_drewN _ _)⟩
              · have Hr := hid (hf0.out x (by rw [Int.toNat_natCast]; exact hE.out.2.2.1 (by omega) hs))
                clear hE hf0 hf3 h9
                go_wp2_with (first | (go_at_call 40; refine (Hfm.out _).mono ?_; rintro e w1 ⟨v1, rfl, hown1, hbel1⟩; obtain ⟨A1, c1, rfl, hrd1, _, _⟩ := hown1.reads) | (go_at_call 14; refine (same_any _ rfl w1.heap.size w.heap.size A1 _ n c1 n c (field b x n) l w1 hrd1 ((hr.more hK).below hbel1) (by omega)).mono ?_; rintro e w2 ⟨rfl, m, rfl⟩))
                go_ret2
                exact ⟨ret_ints Hr.out.2.symm Hr.out.1.symm, hbel1.trans (below_drewN _ _)⟩
      · obtain ⟨h48, h58⟩ := isD_iff.1 hd
        obtain ⟨hs1, hs2⟩ := hst.out hd
        have hp : (x : Int) * (b : Int) = ((x * b : Nat) : Int) := by simp
        have Hs2 := hid hs2
        clear hst hs2 hend hnext
        generalize x * b = p at *
        go_wp2
        go_round
        case rel => exact ⟨k + 1, _, by go_num, by go_num, by omega, hs1, Hs2⟩
        case measure => simp [intOf]; omega
    · obtain rfl : k = n := by omega
      have hE := hid (rparse_end (b := b) (n := k) (k := k) (x := x) (l := l) (by omega) hb3 hr.1 hk hv.out.1 hv.out.2 (fun c hc => by
        rw [List.getElem?_eq_none (by have := hr.1; omega)] at hc; cases hc))
      have hk0 : ((k : Int) == 0) = false := by simp; omega
      by_cases h9 : k < nd b x
      · have Hr := hid (hf3.out (by rw [Int.toNat_natCast]; exact hE.out.2.1 h9))
        have hfe : ferr (x : Int) (b : Int) (k : Int) = 9 := (ferr_9 ⟨hb, hw⟩ (by simp; omega)).1
        have Hfm := hid fun w' => rformat_any x b k w' (by omega)
        clear hE hf0 hf3 h9
        go_wp2_with (go_at_call 40; refine (Hfm.out _).mono ?_; rintro e w1 ⟨v1, rfl, hown1, hbel1⟩)
        go_ret2
        exact ⟨ret_ints Hr.out.2.symm Hr.out.1.symm, hbel1⟩
      · have Hfm := hid fun w' => rformat_0 x b k w' (by omega) hb hw (by omega)
        cases hs : (field b x k == l)
        · have Hr := hid (hf3.out (by rw [Int.toNat_natCast]; exact hE.out.2.2.2 (by omega) hs))
          clear hE hf0 hf3 h9
          go_wp2_with (first | (go_at_call 40; refine (Hfm.out _).mono ?_; rintro e w1 ⟨v1, rfl, hown1, hbel1⟩; obtain ⟨A1, c1, rfl, hrd1, _, _⟩ := hown1.reads) | (go_at_call 14; refine (same_any _ rfl w1.heap.size w.heap.size A1 _ k c1 k c (field b x k) l w1 hrd1 ((hr.more hK).below hbel1) (by omega)).mono ?_; rintro e w2 ⟨rfl, m, rfl⟩))
          go_ret2
          exact ⟨ret_ints Hr.out.2.symm Hr.out.1.symm, hbel1.trans (below_drewN _ _)⟩
        · have Hr := hid (hf0.out x (by rw [Int.toNat_natCast]; exact hE.out.2.2.1 (by omega) hs))
          clear hE hf0 hf3 h9
          go_wp2_with (first | (go_at_call 40; refine (Hfm.out _).mono ?_; rintro e w1 ⟨v1, rfl, hown1, hbel1⟩; obtain ⟨A1, c1, rfl, hrd1, _, _⟩ := hown1.reads) | (go_at_call 14; refine (same_any _ rfl w1.heap.size w.heap.size A1 _ k c1 k c (field b x k) l w1 hrd1 ((hr.more hK).below hbel1) (by omega)).mono ?_; rintro e w2 ⟨rfl, m, rfl⟩))
          go_ret2
          exact ⟨ret_ints Hr.out.2.symm Hr.out.1.symm, hbel1.trans (below_drewN _ _)⟩

theorem rparse_any (K : Nat) (A : Option Addr) (n c : Nat) (l : List UInt8) (b : Int) (w : World) (hr : Rd w K A n l) (hK : K ≤ w.heap.size) :
    Calls Tryd.prog 46 #[.slice A n c, .int .i64 b] w (Parses l b w) := by
  by_cases h : vb b = true ∧ vw (n : Int) = true
  · obtain ⟨b', rfl⟩ := Int.eq_ofNat_of_zero_le (a := b) (by have := vb_iff.1 h.1; omega)
    exact rparse_ok K A n c l b' w hr hK h.1 h.2
  · exact rparse_13 K A n c l b w hr h
end Go.Proofs.YtfhdgbpkhcnanaaDoor.Dec
