/-
  DecfieldKeeps: the bytes are not modified, and modifying a result does not change later results. For every byte slice and every number: no condition.
-/
import Derived.Test.YtnkaclaeogdndaaDecl3
namespace Go.Proofs.Ytnkaclaeogdndaa.Keeps
open Go.ChangeShapes Go.WideShapes Go.ChangeAt Go.RowKit Go.Proofs Go.Proofs.Ytnkaclaeogdndaa.Byt Go.Proofs.Ytnkaclaeogdndaa.Dec Go.Proofs.Ytnkaclaeogdndaa.Frame

theorem long (w : World) (A : Option Addr) (n c : Nat) (h : 100 < n) (a : Int) :
    Calls Try.prog 7 #[.slice A n c, .int .i64 a] w fun e w' => e = .returned (.bool true) ∧ Below w.heap.size w w' := by
  go_enter Try.func7, Try.ntmps7
  go_wp2_with fail
  refine (awake_any _).mono ?_
  rintro e w1 ⟨rfl, hb1⟩
  go_wp2_with fail
  refine (awake_any _).mono ?_
  rintro e w2 ⟨rfl, hb2⟩
  go_wp2_with fail
  go_ret
  exact ⟨rfl, hb1.trans (hb2.mono hb1.size)⟩

set_option maxHeartbeats 1000000 in
theorem walk (w : World) (A : Option Addr) (n c : Nat) (l : List UInt8) (hr : Rd w w.heap.size A n l) (hc : n ≤ c) (_ : c ≤ maxLen) (a : Int) (_l : -9223372036854775808 ≤ a) (ha : a < 9223372036854775808) :
    Calls Try.prog 7 #[.slice A n c, .int .i64 a] w fun e w' => e = .returned (.bool true) ∧ Below w.heap.size w w' := by
  by_cases h100 : 100 < n
  · exact long w A n c h100 a
  have Hf := hid fun w' => format_any a 10 18 w' ha
  have Hg := hid fun w' => rformat_any a 10 18 w' ha
  go_enter Try.func7, Try.ntmps7
  go_wp2_with fail
  refine (awake_any _).mono ?_
  rintro e w1 ⟨rfl, hb1⟩
  have hr1 := hr.below hb1
  go_wp2_with (at_builtin; refine wpList_app _ w1.heap.size _ 0 [] (Own.lit0 w1 w1.heap.size (Nat.le_refl _)) (by simp) A n c w.heap.size l (hr1.below ((Below.refl _ _).alloc hb1.size _)) (by omega) rfl (.tmp 21) (.tmp 22) rfl rfl rfl ?_; intro v2 w2 hown2 hb2)
  have hb02 : Below w1.heap.size w1 w2 := ((Below.refl _ _).alloc (Nat.le_refl _) _).trans hb2
  have hb12 : Below w.heap.size w w2 := hb1.trans (hb02.mono hb1.size)
  have hr2 := hr.below hb12
  refine (parse_any _ A n c l 10 _ hr2 hc).mono ?_
  rintro e w3 ⟨rfl, rfl⟩
  go_wp2_with fail
  refine (blank_any _ A n c l _ hr2 (by omega)).mono ?_
  rintro e w3 ⟨rfl, rfl⟩
  go_wp2_with fail
  refine (Hf.out _).mono ?_
  rintro e w3 ⟨v3, rfl, hown3, hb3⟩
  go_wp2_with fail
  have hN := Matches.fout_small a 10 18
  generalize (fout a 10 18).length = N at hown3 hN
  generalize fout a 10 18 = X at hown3
  obtain ⟨A3, c3, rfl, _, _, _⟩ := hown3.reads
  go_loopw [8] (fun i W => ∃ (k : Nat) (Y : List UInt8), k ≤ N ∧ i = .int .i64 (k : Int) ∧ Own W w2.heap.size (.slice A3 N c3) N Y ∧ Below w2.heap.size w2 W) (fun i _ => N - (intOf i).toNat)
  case atStart => exact ⟨0, X, by omega, rfl, hown3, hb3⟩
  case round =>
    clear hown3 hb3
    obtain ⟨k, Y, hk, rfl, hown, hbel⟩ := hrel
    by_cases hlt : k < N
    · obtain ⟨g, cap, e, hg, hcell, hfz, hset⟩ := hown.at_ (i := k) (by have := hown.1; omega)
      injection e with e1 e2 e3
      subst e1
      subst e3
      have hkl : k < Y.length := by have := hown.1; omega
      obtain ⟨u, hu⟩ := u8_wrap ((Y[k].toNat : Int) + 1)
      have Hset := hid (hset u)
      clear hset
      generalize Y[k] = y at *
      go_wp2
      go_roundw
      case rel => exact ⟨k + 1, _, by omega, by go_num, Hset.out, hbel.setCell hg _⟩
      case measure => simp [intOf]; omega
    · have hge : N ≤ k := by omega
      clear hlt hk
      have hbW : Below w.heap.size w wr := hb12.trans (hbel.mono hb12.size)
      have hrW := hr.below hbW
      have hownW := hown2.below hbel
      have hsm : Hid ((fout a 10 18).length ≤ 140737488355328) := hid (Matches.fout_small a 10 18)
      rw [Nat.zero_add, List.nil_append] at hownW
      clear hown2 hr1 hr2 hr hown
      go_wp2_with fail
      refine (Hf.out _).mono ?_
      rintro e w4 ⟨v4, rfl, hown4, hb4⟩
      have hbW4 := hbW.trans (hb4.mono hbW.size)
      go_wp2_with fail
      refine (Hg.out _).mono ?_
      rintro e w5 ⟨v5, rfl, hown5, hb5⟩
      have hbW5 := hbW4.trans (hb5.mono hbW4.size)
      have hr5 := (hrW.below (hb4.mono hbW.size)).below (hb5.mono hbW4.size)
      obtain ⟨A2, c2, rfl, hrd2, _, _⟩ := (hownW.below hb4).below hb5 |>.reads
      obtain ⟨A4, c4, rfl, hrd4, _, _⟩ := (hown4.below hb5).reads
      obtain ⟨A5, c5, rfl, hrd5, _, _⟩ := hown5.reads
      clear hownW hown4 hown5
      go_wp2_with fail
      refine (same_any _ rfl w.heap.size w5.heap.size A A2 n c n c2 l l w5 hr5 hrd2 (by omega)).mono ?_
      rintro e w6 ⟨rfl, m, rfl⟩
      have hll : (l == l) = true := by simp
      go_wp2_with fail
      refine (same_any _ rfl w5.heap.size w5.heap.size A4 A5 _ c4 _ c5 _ _ (w5.drewN m) (hrd4.drewN m) (hrd5.drewN m) hsm.out).mono ?_
      rintro e w6 ⟨rfl, m2, rfl⟩
      go_wp2_with fail
      go_ret
      exact ⟨ret_bool (by simp), hbW5.trans (below_drewN _ _)⟩
set_option maxRecDepth 100000 in
theorem proved : Rows.DecfieldKeepsSaid :=
  OpenClaim.holds_of_wide 7 Try.f7 rfl rfl rfl rfl rfl rfl rfl ⟨rfl, rfl, rfl, rfl, rfl⟩ rfl rfl rfl rfl rfl (by kernel_rfl) Try.func7 (by kernel_rfl)
    (of_decide_eq_true (by kernel_rfl)) (by unfold Func.isWrapper; rw [if_neg (of_decide_eq_false (by kernel_rfl))]; exact ⟨rfl, rfl⟩)
    (fun os started H enc _ => lifted (started := started) (s := Rows.decfieldKeepsSpec) rfl
      (fun ds h => by match ds, h with | [_, _], _ => rfl) (by kernel_rfl)
      (by kernel_rfl) (by kernel_rfl) Try.func7
      (ChangeSpec.witness6 (enc := enc) (C := Try.checked) false ⟨#[], #[.slice none 0 0, .int .i64 0], []⟩ 8 (by kernel_rfl) (by kernel_rfl) (by kernel_rfl) (by kernel_rfl))
      (fun W base args ds p h => by
        obtain ⟨hval, hA, _⟩ := h
        rw [show Try.f7.params = #[22, 3] from by kernel_rfl] at hA hval
        obtain ⟨v0, vs0, d0, ds0, p0, q0, hargs, rfl, rfl, k0, r0⟩ := trodAll_cons hA
        obtain ⟨v1, vs1, d1, ds1, p1, q1, rfl, rfl, rfl, k1, r1⟩ := trodAll_cons r0
        obtain ⟨rfl, rfl, rfl⟩ := trodAll_nil r1
        obtain rfl : args = #[v0, v1] := by cases args; simp_all
        obtain ⟨A0, n0, c0, l0, rfl, h0, m0, g0⟩ := open_bytes (hval 0 _ v0 rfl rfl) k0
        obtain ⟨a1, rfl, l1, u1⟩ := open_i64 (hval 1 _ v1 rfl rfl) k1
        exact walk W A0 n0 c0 l0 h0 m0 g0 a1 l1 u1))
#print axioms proved
end Go.Proofs.Ytnkaclaeogdndaa.Keeps
