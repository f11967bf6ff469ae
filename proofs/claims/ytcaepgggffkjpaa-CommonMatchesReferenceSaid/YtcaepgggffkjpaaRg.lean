/-
  CommonMatchesReference, walked.
-/
import Derived.Test.YtcaepgggffkjpaaRe
namespace Go.Proofs.Ytcaepgggffkjpaa.Cmn
open Go.RowKit Go.Proofs Go.Proofs.Ytcaepgggffkjpaa.Byt
open Go.Proofs.Ytcaepgggffkjpaa.Tab (bl bl_iff bl_irrefl bl_trans bl_total tl_inj)
open Go.Proofs.Ytcaepgggffkjpaa.Bnd (Us)
open Go.Proofs.Ytcaepgggffkjpaa.Obj (pow2 pows)

theorem cls_under : Try.prog.underlying 32 = some (.struct (Try.prog.fieldsOf 32)) := by kernel_rfl
theorem cls_held : Try.prog.stoodInHeld 32 = false := by kernel_rfl
theorem cls_guard : Try.prog.eqGuardType Try.prog.depth 32 = false := by kernel_rfl
theorem guard_cls (op : BinOp) (X Y : Operand) (xs ys : Array Value) (w : World) : (eqGuard op 32 X Y (.agg xs) (.agg ys)).run Try.prog w = .ok () w := run_eqGuard_agg w op _ X Y xs ys cls_guard
theorem equal_cls (x0 : ByteArray) (x1 x2 : Int) (w : World) :
    (Op.equalIn 10000 32 (.agg #[.string x0, .int .i64 x1, .int .i64 x2]) (.agg #[.string x0, .int .i64 x1, .int .i64 x2])).run Try.prog w = .ok true w := by
  have u3 := Try.underlying3
  have u9 := Try.underlying9
  rw [show (10000 : Nat) = 9999 + 1 from rfl, run_equalIn_agg w 9999 32 _ _ cls_under cls_held]
  simp only [Program.fieldsOf, Try.underlying32]
  go_simp
theorem neq_cls (x0 : ByteArray) (x1 x2 : Int) (w : World) :
    (binOp .neq 32 (.agg #[.string x0, .int .i64 x1, .int .i64 x2]) (.agg #[.string x0, .int .i64 x1, .int .i64 x2])).run Try.prog w = .ok (.bool false) w := by
  rw [run_neq_struct, equal_cls]
  rfl
theorem eql_cls (x0 : ByteArray) (x1 x2 : Int) (w : World) :
    (binOp .eql 32 (.agg #[.string x0, .int .i64 x1, .int .i64 x2]) (.agg #[.string x0, .int .i64 x1, .int .i64 x2])).run Try.prog w = .ok (.bool true) w := by
  rw [run_eql_struct, equal_cls]
  rfl
theorem fnd_none {l : List Slt} {x : ByteArray} (h : ∀ k (hk : k < l.length), l[k].name ≠ x) : fnd l x = none := by
  unfold fnd
  rw [List.find?_eq_none]
  intro s hs
  obtain ⟨k, hk, rfl⟩ := List.getElem_of_mem hs
  simpa using h k hk
theorem fnd_some {l : List Slt} {x : ByteArray} {i : Nat} (hi : i < l.length) (h : ∀ k (hk : k < l.length), k < i → l[k].name ≠ x) (e : l[i].name = x) : fnd l x = some l[i] := by
  unfold fnd
  rw [List.find?_eq_some_iff_getElem]
  exact ⟨by simpa using e, i, hi, rfl, fun j hj => by simpa using h j (by omega) hj⟩

set_option linter.unusedSimpArgs false in
set_option maxRecDepth 100000 in
set_option maxHeartbeats 8000000 in
theorem matches_any (P : PC) (w : World) (A : Option Addr) (n c : Nat) (xs : List Us) (x : ByteArray) (h : RdR w w.heap.size A n xs) :
    Calls Try.prog 3 #[.slice A n c, .string x] w fun e w' => e = .returned (.bool true) ∧ Below w.heap.size w w' := by
  have HX := hid h
  have Hl : xs.length = n := h.1
  have HA := hid fun V => awake16_any P V
  clear h
  go_enter Try.func3, Try.ntmps3
  go_wp2_with fail
  refine (HA.out _).mono ?_
  rintro e w1 ⟨rfl, hb1⟩
  have HG := hid (rright_any w.heap.size A n c xs w1 (HX.out.below hb1) hb1.size)
  have HB1 := hid hb1
  clear hb1
  go_wp2_with fail
  refine HG.out.mono ?_
  rintro e w2 ⟨hb2, ⟨rfl, hr⟩ | rfl⟩
  · have HB2 := hid (HB1.out.trans (hb2.mono HB1.out.size))
    have hs2 := HB2.out.size
    have HL := hid (P.layout w.heap.size A n c xs w2 (HX.out.below HB2.out) HB2.out.size hr)
    have hlen := hr.lens.1
    clear hb2 HB1 HG
    go_upto_region 4 with (go_at_call 10; refine HL.out.mono ?_; rintro e w3 ⟨A3, c3, rfl, ho3, hb3⟩)
    have hs3 := hb3.size
    have HB3 := hid (HB2.out.trans (hb3.mono HB2.out.size))
    have HR3 := hid (ho1_reads ho3)
    have HM := hid (rlayout_any w.heap.size A n c xs w3 (HX.out.below HB3.out) HB3.out.size hr)
    clear HL ho3 hb3 HB2 hr
    go_upto_region 5 with (go_at_call 11; refine HM.out.mono ?_; rintro e w4 ⟨A4, c4, rfl, ho4, hb4⟩)
    have hs4 := hb4.size
    have HB4 := hid (HB3.out.trans (hb4.mono HB3.out.size))
    have HT4 : Hid (RdT w4 w4.heap.size A4 (layL xs).out.length (layL xs).out) := hid ⟨rfl, ho1_reads ho4⟩
    have HS4 : Hid (RdT w4 w3.heap.size A3 (layL xs).out.length (layL xs).out) := hid (RdT.below ⟨rfl, HR3.out⟩ hb4)
    clear HM ho4 hb4 HB3 HR3
    generalize (layL xs).out = L at *
    generalize (layL xs).fin = F at *
    generalize (layL xs).al = Z at *
    obtain ⟨m, hm⟩ : ∃ m, L.length = m := ⟨_, rfl⟩
    rw [hm] at HT4 HS4 hlen ⊢
    have HF := hid (P.find w3.heap.size A3 m c3 L x w4 HS4.out hs4 (by omega))
    clear P
    go_upto_region 6 with (go_at_call 12; refine HF.out.mono ?_; rintro e w5 ⟨rfl, hb5⟩; unfold sval)
    obtain ⟨T, hT⟩ : ∃ T, w5.heap.size = T := ⟨_, rfl⟩
    have hs5 := hb5.size
    obtain ⟨y, hy⟩ : ∃ y, (fnd L x).getD slt0 = y := ⟨_, rfl⟩
    obtain ⟨okb, hk⟩ : ∃ k, (fnd L x).isSome = k := ⟨_, rfl⟩
    rw [hy, hk]
    have HY := hid hy
    have HK := hid hk
    clear hy hk
    obtain ⟨y0, y1, y2⟩ := y
    simp only
    have HQ6 := hid (heap_alloc_new w5 (.cells #[.string y0, .int .i64 y1, .int .i64 y2] 32))
    have hal := (Below.refl w5.heap.size w5).alloc (Nat.le_refl _) (.cells #[.string y0, .int .i64 y1, .int .i64 y2] 32)
    have HS6 := hid ((HS4.out.below (hb5.mono hs4)).below (hal.mono (by omega)))
    have HT6 := hid ((HT4.out.below hb5).below (hal.mono (by omega)))
    have HB6 := hid ((HB4.out.trans (hb5.mono HB4.out.size)).trans (hal.mono (by have := HB4.out.size; omega)))
    have hsw := HB6.out.size
    have hs6 : (w5.alloc (.cells #[.string y0, .int .i64 y1, .int .i64 y2] 32)).heap.size = T + 1 := by rw [← hT]; simp
    rw [hT] at HQ6 ⊢
    clear hb5 hal HF HS4 HT4 HB4
    generalize w5.alloc (.cells #[.string y0, .int .i64 y1, .int .i64 y2] 32) = w6 at *
    have hFF : (F == F) = true := by simp
    have hZZ : (Z == Z) = true := by simp
    go_wp2_with fail
    go_loopw [13, 14] (fun fv iv W => ∃ (i : Nat) (fb : Bool), fv = .bool fb ∧ iv = .int .i64 (i : Int) ∧ i ≤ m ∧ Hid ((fb = false ∧ ∀ k (hk : k < L.length), k < i → L[k].name ≠ x) ∨ (fb = true ∧ okb = true)) ∧ Below w6.heap.size w6 W) (fun _ iv _ => m - (intOf iv).toNat)
    case atStart => exact ⟨0, false, rfl, rfl, Nat.zero_le _, hid (.inl ⟨rfl, fun k _ hk => absurd hk (Nat.not_lt_zero _)⟩), Below.refl _ _⟩
    case round =>
      obtain ⟨i, fb, rfl, rfl, hi, hF, hb⟩ := hrel
      have hbs := hb.size
      by_cases hlt : i < m
      · have hii : (i : Int) < (m : Int) := by omega
        rcases hF.out with ⟨rfl, hF1⟩ | ⟨rfl, rfl⟩
        · have hil : i < L.length := by omega
          obtain ⟨b, o, rfl, _, p0, p1, p2⟩ := (HT6.out.below (hb.mono (by omega))).at_ hil
          have q := (hb.block T (by omega)).trans HQ6.out
          by_cases he : L[i].name = x
          · have HE := hid (fnd_some hil hF1 he)
            have e1 := HY.out
            have e2 := HK.out
            rw [HE.out] at e1 e2
            simp only [Option.getD_some, Option.isSome_some] at e1 e2
            subst e2
            rw [e1] at p0 p1 p2 he
            simp only at p0 p1 p2 he
            subst he
            have hgd := guard_cls
            have hne := neq_cls
            have hbe : (y0.toList == y0.toList) = true := by simp
            clear hF hF1 HE e1
            have c0 := cell_of_row _ T 0 _ _ _ q
            have c1' := cell_of_row _ T 1 _ _ _ q
            have c2' := cell_of_row _ T 2 _ _ _ q
            go_wp2_with fail
            go_quiet (fail)
            go_wp2_with fail
            go_roundw
            · exact ⟨i + 1, true, rfl, by go_num, by omega, hid (.inr ⟨rfl, by trivial⟩), bdw hb _⟩
            · simp [intOf]; omega
          · have HN := hid (show ∀ k (hk : k < L.length), k < i + 1 → L[k].name ≠ x from fun k hk h2 => (by
              by_cases e : k = i
              · subst e; exact he
              · exact hF1 k hk (by omega)))
            generalize L[i] = z at *
            obtain ⟨z0, z1, z2⟩ := z
            simp only at p0 p1 p2 he
            have hbe : (z0.toList == x.toList) = false := by
              simp only [beq_eq_false_iff_ne]
              intro e
              exact he (tl_inj e)
            clear hF hF1 he
            go_wp2_with fail
            go_roundw
            · exact ⟨i + 1, false, rfl, by go_num, by omega, hid (.inl ⟨rfl, HN.out⟩), hb⟩
            · simp [intOf]; omega
        · clear hF
          have HS7 := hid (slots_any w3.heap.size A3 m c3 L wr (HS6.out.below (hb.mono (by omega))) (by omega) (by omega))
          go_wp2_with fail
          refine HS7.out.mono ?_
          rintro e w7 ⟨A7, c7, rfl, ho7, hb7⟩
          have hs7 := hb7.size
          have HR7 : Hid (RdT w7 w7.heap.size A7 m L) := hid ⟨hm, hm ▸ ho1_reads ho7⟩
          have HT7 : Hid (RdT w7 w4.heap.size A4 m L) := hid ((HT6.out.below (hb.mono (by omega))).below (hb7.mono (by omega)))
          have HB7 := hid (HB6.out.trans ((hb.mono (by omega)).trans (hb7.mono (by omega))))
          have q7 := (hb7.block T (by omega)).trans ((hb.block T (by omega)).trans HQ6.out)
          have HQ7 := hid q7
          clear HS7 hb7 ho7 q7
          go_wp2_with fail
          refine (rsame_any w7.heap.size _ _ _ _ _ L w7 HR7.out (HT7.out.more (by omega)) (Nat.le_refl _) (by omega)).mono ?_
          rintro e w8 ⟨rfl, hb8⟩
          have q8 := (hb8.block T (by omega)).trans HQ7.out
          have HB8 := hid (HB7.out.trans (hb8.mono (by omega)))
          clear hb8
          go_wp2_with fail
          go_ret
          exact ⟨rfl, HB8.out⟩
      · obtain rfl : i = m := by omega
        have hii : ¬ (i : Int) < (i : Int) := by omega
        rcases hF.out with ⟨rfl, hF1⟩ | ⟨rfl, rfl⟩
        · have HN := hid (fnd_none fun k hk => hF1 k hk (by omega))
          have e1 := HY.out
          have e2 := HK.out
          rw [HN.out] at e1 e2
          simp only [Option.getD_none, Option.isSome_none] at e1 e2
          subst e2
          injection e1 with e10 e11 e12
          subst e10 e11 e12
          clear hF hF1 HN HY HK
          have HS7 := hid (slots_any w3.heap.size A3 i c3 L wr (HS6.out.below (hb.mono (by omega))) (by omega) (by omega))
          go_wp2_with fail
          refine HS7.out.mono ?_
          rintro e w7 ⟨A7, c7, rfl, ho7, hb7⟩
          have hs7 := hb7.size
          have HR7 : Hid (RdT w7 w7.heap.size A7 i L) := hid ⟨hm, hm ▸ ho1_reads ho7⟩
          have HT7 : Hid (RdT w7 w4.heap.size A4 i L) := hid ((HT6.out.below (hb.mono (by omega))).below (hb7.mono (by omega)))
          have HB7 := hid (HB6.out.trans ((hb.mono (by omega)).trans (hb7.mono (by omega))))
          have q7 := (hb7.block T (by omega)).trans ((hb.block T (by omega)).trans HQ6.out)
          have HQ7 := hid q7
          clear HS7 hb7 ho7 q7
          go_wp2_with fail
          refine (rsame_any w7.heap.size _ _ _ _ _ L w7 HR7.out (HT7.out.more (by omega)) (Nat.le_refl _) (by omega)).mono ?_
          rintro e w8 ⟨rfl, hb8⟩
          have q8 := (hb8.block T (by omega)).trans HQ7.out
          have HB8 := hid (HB7.out.trans (hb8.mono (by omega)))
          clear hb8
          have c0 := cell_of_row _ T 0 _ _ _ q8
          have c1' := cell_of_row _ T 1 _ _ _ q8
          have c2' := cell_of_row _ T 2 _ _ _ q8
          have hgd := guard_cls
          have hne := eql_cls
          go_wp2_with fail
          go_ret
          exact ⟨rfl, HB8.out⟩
        · clear hF
          have HS7 := hid (slots_any w3.heap.size A3 i c3 L wr (HS6.out.below (hb.mono (by omega))) (by omega) (by omega))
          go_wp2_with fail
          refine HS7.out.mono ?_
          rintro e w7 ⟨A7, c7, rfl, ho7, hb7⟩
          have hs7 := hb7.size
          have HR7 : Hid (RdT w7 w7.heap.size A7 i L) := hid ⟨hm, hm ▸ ho1_reads ho7⟩
          have HT7 : Hid (RdT w7 w4.heap.size A4 i L) := hid ((HT6.out.below (hb.mono (by omega))).below (hb7.mono (by omega)))
          have HB7 := hid (HB6.out.trans ((hb.mono (by omega)).trans (hb7.mono (by omega))))
          have q7 := (hb7.block T (by omega)).trans ((hb.block T (by omega)).trans HQ6.out)
          have HQ7 := hid q7
          clear HS7 hb7 ho7 q7
          go_wp2_with fail
          refine (rsame_any w7.heap.size _ _ _ _ _ L w7 HR7.out (HT7.out.more (by omega)) (Nat.le_refl _) (by omega)).mono ?_
          rintro e w8 ⟨rfl, hb8⟩
          have q8 := (hb8.block T (by omega)).trans HQ7.out
          have HB8 := hid (HB7.out.trans (hb8.mono (by omega)))
          clear hb8
          go_wp2_with fail
          go_ret
          exact ⟨rfl, HB8.out⟩
  · have HB2 := hid (HB1.out.trans (hb2.mono HB1.out.size))
    clear hb2
    go_wp2_with fail
    refine (HA.out _).mono ?_
    rintro e w3 ⟨rfl, hb3⟩
    have HB3 := hid (HB2.out.trans (hb3.mono HB2.out.size))
    clear hb3
    go_wp2_with fail
    go_ret
    exact ⟨rfl, HB3.out⟩
end Go.Proofs.Ytcaepgggffkjpaa.Cmn
