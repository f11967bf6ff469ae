/-
  CommonKeeps, walked.
-/
import Derived.Test.YtcaepgggffkjpaaRe
namespace Go.Proofs.Ytcaepgggffkjpaa.Cmn
open Go.RowKit Go.Proofs Go.Proofs.Ytcaepgggffkjpaa.Byt
open Go.Proofs.Ytcaepgggffkjpaa.Tab (bl bl_iff bl_irrefl bl_trans bl_total tl_inj)
open Go.Proofs.Ytcaepgggffkjpaa.Bnd (Us)
open Go.Proofs.Ytcaepgggffkjpaa.Obj (pow2 pows)

theorem rsv_under : Try.prog.underlying 40 = some (.struct (Try.prog.fieldsOf 40)) := by kernel_rfl
theorem rsv_held : Try.prog.stoodInHeld 40 = false := by kernel_rfl
theorem rsv_guard : Try.prog.eqGuardType Try.prog.depth 40 = false := by kernel_rfl
theorem guard_rsv (op : BinOp) (X Y : Operand) (xs ys : Array Value) (w : World) : (eqGuard op 40 X Y (.agg xs) (.agg ys)).run Try.prog w = .ok () w := run_eqGuard_agg w op _ X Y xs ys rsv_guard
theorem equal_rsv (x0 : ByteArray) (x1 x2 x3 x4 : Int) (w : World) :
    (Op.equalIn 10000 40 (.agg #[.string x0, .int .i64 x1, .int .i64 x2, .int .i64 x3, .int .i64 x4]) (.agg #[.string x0, .int .i64 x1, .int .i64 x2, .int .i64 x3, .int .i64 x4])).run Try.prog w = .ok true w := by
  have u3 := Try.underlying3
  have u9 := Try.underlying9
  rw [show (10000 : Nat) = 9999 + 1 from rfl, run_equalIn_agg w 9999 40 _ _ rsv_under rsv_held]
  simp only [Program.fieldsOf, Try.underlying40]
  go_simp
theorem neq_rsv (x0 : ByteArray) (x1 x2 x3 x4 : Int) (w : World) :
    (binOp .neq 40 (.agg #[.string x0, .int .i64 x1, .int .i64 x2, .int .i64 x3, .int .i64 x4]) (.agg #[.string x0, .int .i64 x1, .int .i64 x2, .int .i64 x3, .int .i64 x4])).run Try.prog w = .ok (.bool false) w := by
  rw [run_neq_struct, equal_rsv]
  rfl
/-- A cell of what the call has made is written. -/
theorem own_put {t : TypeId} {sz : Nat} {V : World} {K n c k j : Nat} {A : Option Addr} {cs : List Value} (h : Cel.Own t sz V K (.slice A n c) n cs) (hk : k < n) (hj : j = k * sz) (hsz : 0 < sz) (y : Value) :
    ∃ b : Nat, A = some ⟨b, 0, none⟩ ∧ K ≤ b ∧ (∃ v, V.cell? ⟨b, j, none⟩ = some v) ∧ V.frozen? ⟨b, j, none⟩ = false ∧ ∃ cs', Cel.Own t sz (V.setCell ⟨b, j, none⟩ y) K (.slice A n c) n cs' := by
  subst hj
  rcases h.2 with ⟨_, rfl⟩ | ⟨b, cap, cur, m, hv, hg, hh, hn, hm, hs, ht, hf⟩
  · omega
  · injection hv with e1 _ e3
    subst e1 e3
    have hkc : k * sz < c * sz := (Nat.mul_lt_mul_right hsz).2 (by omega)
    have hkn : k * sz < n * sz := (Nat.mul_lt_mul_right hsz).2 hk
    have hnc : n * sz ≤ c * sz := Nat.mul_le_mul_right sz hn
    have hf' := hf (k * sz) hkc
    refine ⟨b, rfl, hg, ⟨cur[k * sz]'(by omega), ?_⟩, ?_, ((cur.setIfInBounds (k * sz) y).toList.take (n * sz)), ?_, .inr ⟨b, c, cur.setIfInBounds (k * sz) y, m, rfl, hg, ?_, hn, hm, by simpa using hs, rfl, hf⟩⟩
    · rw [cell_of_row V b (k * sz) cur _ m hh]
      exact Array.getElem?_eq_getElem (by omega)
    · simp only [World.frozen?, hh]
      simp
      omega
    · rw [List.length_take, Array.length_toList, Array.size_setIfInBounds]
      omega
    · simp [World.setCell, Array.getElem?_modify, hh]

set_option linter.unusedSimpArgs false in
set_option maxRecDepth 100000 in
set_option maxHeartbeats 8000000 in
theorem keeps_any (P : PC) (w : World) (A : Option Addr) (n c : Nat) (xs : List Us) (h : RdR w w.heap.size A n xs) :
    Calls Try.prog 6 #[.slice A n c] w fun e w' => e = .returned (.bool true) ∧ Below w.heap.size w w' := by
  have HX := hid h
  have Hl : xs.length = n := h.1
  have HA := hid fun V => awake16_any P V
  clear h
  go_enter Try.func6, Try.ntmps6
  go_wp2_with fail
  refine (HA.out _).mono ?_
  rintro e w1 ⟨rfl, hb1⟩
  have HG := hid (rright_any w.heap.size A n c xs w1 (HX.out.below hb1) hb1.size)
  have HB1 := hid hb1
  clear hb1
  go_wp2_with fail
  refine HG.out.mono ?_
  rintro e w2 ⟨hb2, ⟨rfl, hr⟩ | rfl⟩
  · have HB2 := hid (HB1.out.trans (hb2.mono HB1.out.size))
    have hs2 := HB2.out.size
    have hn : n ≤ 100 := Hl ▸ hr.len
    have hlen := hr.lens.1
    have HR := hid hr
    have h17 := hid (Cel.Own.lit0 40 5 w2 w2.heap.size (Nat.le_refl _))
    have hal := (Below.refl w2.heap.size w2).alloc (Nat.le_refl _) (.cells #[] 40)
    have HX2 := hid (HX.out.below (HB2.out.trans (hal.mono hs2)))
    have HB3 := hid hal
    clear hb2 hr hal HB1 HG
    go_upto_region 4 with (at_builtin; go_must (refine Cel.wpList_rd kR _ w2.heap.size w.heap.size _ 0 [] h17.out HB3.out.size A n c (rcells xs) HX2.out.2 rcells_one (by omega) (by omega) rfl (.tmp 17) (.tmp 18) rfl rfl rfl ?_); intro v3 w3 ho3 hb3; rw [Nat.zero_add, List.nil_append] at ho3; have ho3 := hid ho3; have hb3 := hid (HB3.out.trans hb3))
    have hs3 := hb3.out.size
    have HB4 := hid (HB2.out.trans (hb3.out.mono hs2))
    obtain ⟨A3, c3, rfl, hr3, _, _⟩ := Cel.Own.reads ho3.out
    have HR3 : Hid (RdR w3 w3.heap.size A3 n xs) := hid ⟨Hl, hr3⟩
    have HL := hid (P.layout w3.heap.size A3 n c3 xs w3 HR3.out (Nat.le_refl _) HR.out)
    clear hr3 ho3 hb3 HB2 HB3 HX2 h17 HR P
    go_upto_region 5 with (go_at_call 10; refine HL.out.mono ?_; rintro e w4 ⟨A4, c4, rfl, ho4, hb4⟩)
    generalize (layL xs).out = L at *
    have hO4 : ∃ cs, Cel.Own 32 3 w4 w3.heap.size (.slice A4 L.length c4) L.length cs := ⟨_, ho4⟩
    generalize L.length = m at *
    have HW := hid (And.intro hb4 hO4)
    clear HL ho4 hb4 hO4
    go_wp2_with fail
    go_loopw [7] (fun iv W => ∃ i : Nat, iv = .int .i64 (i : Int) ∧ i ≤ m ∧ Hid (Below w3.heap.size w3 W ∧ ∃ cs, Cel.Own 32 3 W w3.heap.size (.slice A4 m c4) m cs)) (fun iv _ => m - (intOf iv).toNat)
    case atStart => exact ⟨0, rfl, Nat.zero_le _, HW⟩
    case round =>
      obtain ⟨i, rfl, hi, hG⟩ := hrel
      clear HW
      obtain ⟨hb, cs, ho⟩ := hG.out
      by_cases hlt : i < m
      · have hii : (i : Int) < (m : Int) := by omega
        obtain ⟨b, rfl, hbK, ⟨y, hy⟩, hf, hw2⟩ := own_put (j := i * 3) ho hlt rfl (by decide) (.string ⟨#[]⟩)
        have HN2 := hid (And.intro (hb.setCell (p := ⟨b, i * 3, none⟩) hbK (.string ⟨#[]⟩)) hw2)
        clear hw2 hb ho hG
        go_wp2_with fail
        generalize wr.setCell ⟨b, i * 3, none⟩ (.string ⟨#[]⟩) = wn at *
        go_roundw
        · exact ⟨i + 1, by go_num, by omega, HN2⟩
        · simp [intOf]; omega
      obtain rfl : i = m := by omega
      have hii : ¬ (i : Int) < (i : Int) := by omega
      clear ho hG
      have hs4 := hb.size
      have HX5 := hid (HX.out.below (HB4.out.trans (hb.mono (by omega))))
      have HR5 := hid (HR3.out.below hb)
      have HB5 := hid (HB4.out.trans (hb.mono (by omega)))
      have hsw := HB5.out.size
      clear hb HB4 HR3 HX
      generalize wr = w5 at *
      go_wp2_with fail
      go_loopw [8] (fun jv W => ∃ j : Nat, jv = .int .i64 (j : Int) ∧ j ≤ n ∧ Below w5.heap.size w5 W) (fun jv _ => n - (intOf jv).toNat)
      case atStart => exact ⟨0, rfl, Nat.zero_le _, Below.refl _ _⟩
      case round =>
        obtain ⟨j, rfl, hj, hb⟩ := hrel
        by_cases hjn : j < n
        · have hjl : j < xs.length := by omega
          have hji : (j : Int) < (n : Int) := by omega
          obtain ⟨b, o, rfl, _, p0, p1, p2, p3, p4⟩ := (HX5.out.below (hb.mono hsw)).at_ hjl
          obtain ⟨b', o', rfl, _, s0, s1, s2, s3, s4⟩ := (HR5.out.below (hb.mono hs4)).at_ hjl
          generalize xs[j] = x at *
          obtain ⟨⟨x0, x1, x2, x3⟩, x4⟩ := x
          simp only at p0 p1 p2 p3 p4 s0 s1 s2 s3 s4
          have hgd := guard_rsv
          have hne := neq_rsv
          go_wp2_with fail
          go_quiet (fail)
          go_wp2_with fail
          go_roundw
          · exact ⟨j + 1, by go_num, by omega, bdw hb _⟩
          · simp [intOf]; omega
        · obtain rfl : j = n := by omega
          have hji : ¬ (j : Int) < (j : Int) := by omega
          go_wp2_with fail
          go_ret
          exact ⟨rfl, HB5.out.trans (hb.mono hsw)⟩
  · have HB2 := hid (HB1.out.trans (hb2.mono HB1.out.size))
    clear hb2
    go_wp2_with fail
    refine (HA.out _).mono ?_
    rintro e w3 ⟨rfl, hb3⟩
    have HB3 := hid (HB2.out.trans (hb3.mono HB2.out.size))
    clear hb3
    go_wp2_with fail
    go_ret
    exact ⟨rfl, HB3.out⟩
end Go.Proofs.Ytcaepgggffkjpaa.Cmn
