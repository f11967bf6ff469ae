/-
  common: Layout.
-/
import Derived.Test.YtcaepgggffkjpaaRr
namespace Go.Proofs.Ytcaepgggffkjpaa.Cmn
open Go.RowKit Go.Proofs Go.Proofs.Ytcaepgggffkjpaa.Byt
open Go.Proofs.Ytcaepgggffkjpaa.Bnd (Us)

theorem kC : Cel.Kind 25 32 3 32 (.agg #[.string ⟨#[]⟩, .int .i64 0, .int .i64 0]) := ⟨by kernel_rfl, by kernel_rfl, by kernel_rfl, by decide⟩
/-- What stays where the list changes. -/
theorem fq_at {w w' : World} {T K m g : Nat} {v v' : Value} {r : List Us} {cs : Array Value} {t : TypeId} {mm : Nat × Nat} (hg : w.heap[g]? = some (.cells cs t mm)) (hq : Qr w T v) (hr : OwH w K v m r) (hF : Fq T v w v' w') (h1 : t ≠ 43) (h2 : t ≠ 40) :
    w'.heap[g]? = some (.cells cs t mm) := by
  refine (hF.1 g (Array.getElem?_eq_some_iff.1 hg).1 ?_ ?_).trans hg
  · rintro rfl
    unfold Qr at hq
    rw [hq] at hg
    injection hg with hg
    injection hg with _ e
    exact h1 e.symm
  · intro e
    rcases hr.2.2 with ⟨rfl, _⟩ | ⟨g', cap, cur, mm', rfl, _, hh, _⟩
    · cases e
    · injection e with e
      subst e
      rw [hh] at hg
      injection hg with hg
      injection hg with _ e
      exact h2 e.symm
theorem own_fq {w w' : World} {T K K' m k sz : Nat} {u v v' : Value} {r : List Us} {cs : List Value} {t : TypeId} (ho : Cel.Own t sz w K u k cs) (hq : Qr w T v) (hr : OwH w K' v m r) (hF : Fq T v w v' w') (h1 : t ≠ 43) (h2 : t ≠ 40) : Cel.Own t sz w' K u k cs := by
  refine ⟨ho.1, ?_⟩
  rcases ho.2 with h | ⟨g, cap, cur, mm, hv, hg, hh, rest⟩
  · exact .inl h
  · exact .inr ⟨g, cap, cur, mm, hv, hg, fq_at hh hq hr hF h1 h2, rest⟩
/-- What stays where the end changes. -/
theorem but_at {w w' : World} {R g : Nat} {z : Int} {cs : Array Value} {t : TypeId} {mm : Nat × Nat} (hg : w.heap[g]? = some (.cells cs t mm)) (hR : En w R z) (hB : But R w w') (h1 : t ≠ 3) : w'.heap[g]? = some (.cells cs t mm) := by
  refine (hB.1 g (Array.getElem?_eq_some_iff.1 hg).1 ?_).trans hg
  rintro rfl
  unfold En at hR
  rw [hR] at hg
  injection hg with hg
  injection hg with _ e
  exact h1 e.symm
theorem own_but {w w' : World} {R K k sz : Nat} {z : Int} {u : Value} {cs : List Value} {t : TypeId} (ho : Cel.Own t sz w K u k cs) (hR : En w R z) (hB : But R w w') (h1 : t ≠ 3) : Cel.Own t sz w' K u k cs := by
  refine ⟨ho.1, ?_⟩
  rcases ho.2 with h | ⟨g, cap, cur, mm, hv, hg, hh, rest⟩
  · exact .inl h
  · exact .inr ⟨g, cap, cur, mm, hv, hg, but_at hh hR hB h1, rest⟩
theorem oth_at {w w' : World} {g : Nat} {cs : Array Value} {t t' : TypeId} {mm : Nat × Nat} (hg : w.heap[g]? = some (.cells cs t mm)) (ho : Sls.Oth t' w w') (h1 : t ≠ t') : w'.heap[g]? = some (.cells cs t mm) :=
  ho g _ hg fun cs' m' e => by injection e with _ e; exact h1 e

def sliceLen : Value → Nat
  | .slice _ n _ => n
  | _ => 0
/-- What a round of the layout keeps. -/
structure Rnd (xs : List Us) (K T R : Nat) (d r : List Us) (m n1 : Nat) (sv v : Value) (L : Lay) (w W : World) : Prop where
  lv : Lv xs d r
  rl : r.length = m
  lay : layS d = L
  len : L.out.length = n1
  own : Cel.Own 32 3 W K sv n1 (scells L.out)
  q : Qr W T v
  o : OwH W K v m r
  en : En W R L.fin
  bel : Below K w W
/-- Its numbers. -/
theorem Rnd.nums {xs : List Us} {K T R m n1 : Nat} {d r : List Us} {sv v : Value} {L : Lay} {w W : World} (h : Rnd xs K T R d r m n1 sv v L w W) (hr : RightR xs) : m + n1 ≤ 100 ∧ 0 ≤ L.fin ∧ L.fin ≤ 429503283100 ∧ 1 ≤ L.al ∧ L.al ≤ 65536 := by
  have h1 := layS_fin d fun x hx => by
    have := h.lv.mem (List.mem_append_left _ hx)
    exact hr.ok x this.1 this.2
  rw [h.lay] at h1
  have h2 := h.lv.len
  have h3 := hr.len
  have h4 := h.rl
  have h5 := h.len
  omega
theorem Rnd.first {xs : List Us} {K T R m n1 : Nat} {d r : List Us} {sv v : Value} {L : Lay} {w W : World} (h : Rnd xs K T R d r m n1 sv v L w W) (hr : RightR xs) (hm : 0 < m) : ComOk (nth r 0) := by
  have hl : 0 < r.length := by have := h.rl; omega
  have := h.lv.mem (x := nth r 0) (List.mem_append_right _ (by rw [nth_eq hl]; exact List.getElem_mem hl))
  exact hr.ok _ this.1 this.2

theorem pplace_q (R : Nat) (E z : Int) (x0 : ByteArray) (x1 x2 x3 x4 : Int) (w : World) (hz : upTo E x3 = z) (hR : En w R E) (h0 : 0 ≤ E) (h1 : E ≤ 1000000000000) (hx : ComOk ⟨⟨x0, x1, x2, x3⟩, x4⟩) :
    Calls Try.prog 22 #[.agg #[.string x0, .int .i64 x1, .int .i64 x2, .int .i64 x3, .int .i64 x4], .pointer (some ⟨R, 0, none⟩)] w fun e w' => e = .returned (.agg #[.string x0, .int .i64 z, .int .i64 x2]) ∧ En w' R (z + x2) ∧ But R w w' ∧ Below R w w' := by
  subst hz
  exact pplace_any R E ⟨⟨x0, x1, x2, x3⟩, x4⟩ w hR h0 h1 hx
theorem assert_q (x0 : ByteArray) (x1 x2 x3 x4 : Int) (w : World) : (Instr.typeAssert (.iface 40 (.agg #[.string x0, .int .i64 x1, .int .i64 x2, .int .i64 x3, .int .i64 x4])) 20 40 false).run Try.prog w = .ok (.agg #[.string x0, .int .i64 x1, .int .i64 x2, .int .i64 x3, .int .i64 x4]) w := assert_res ⟨⟨x0, x1, x2, x3⟩, x4⟩ w
theorem max_if (a b : Int) : (if a < b then b else a) = max a b := by rw [Int.max_def]; split <;> split <;> omega

set_option linter.unusedSimpArgs false in
set_option maxRecDepth 100000 in
set_option maxHeartbeats 4000000 in
theorem playout_any (K : Nat) (A : Option Addr) (n c : Nat) (xs : List Us) (w : World) (h : RdR w K A n xs) (hK : K ≤ w.heap.size) (hr : RightR xs) :
    Calls Try.prog 10 #[.slice A n c] w (LayP 32 xs w) := by
  have hlen := hr.len
  have HC := hid (pcommon_any K A n c xs w h hK (by have := h.1; omega))
  have HRr := hid hr
  go_enter Try.func10, Try.ntmps10
  go_upto_region 2 with (go_at_call 16; refine HC.out.mono ?_; rintro e w1 ⟨A1, m1, c1, l1, rfl, hp1, hh1, ho1, hb1⟩)
  have hs1 := hb1.size
  have hbA := (Below.refl w1.heap.size w1).alloc (Nat.le_refl _) (.cells #[.slice A1 m1 c1] 43)
  have HQ2 : Hid (Qr (w1.alloc (.cells #[.slice A1 m1 c1] 43)) w1.heap.size (.slice A1 m1 c1)) := hid (heap_alloc_new w1 _)
  have HO2 := hid (ho1.below hbA)
  have HB2 := hid (hb1.trans (hbA.mono hs1))
  have HP2 := hid hp1
  have HH2 := hid hh1
  have hz2 : (w1.alloc (.cells #[.slice A1 m1 c1] 43)).heap.size = w1.heap.size + 1 := by simp
  have hm1 : l1.length = m1 := ho1.1
  have HPl := hid (pplacer_any (w1.alloc (.cells #[.slice A1 m1 c1] 43)))
  rw [hz2] at HPl
  clear HC hp1 hh1 ho1 hb1 hbA
  generalize w1.alloc (.cells #[.slice A1 m1 c1] 43) = w2 at *
  have hbB := (Below.refl w2.heap.size w2).alloc (Nat.le_refl _) (.cells #[.int .i64 0] 3)
  have HE3 : Hid (En (w2.alloc (.cells #[.int .i64 0] 3)) (w1.heap.size + 1) 0) := hid (by rw [← hz2]; exact heap_alloc_new w2 _)
  have HR0 : Hid (Rnd xs w.heap.size w1.heap.size (w1.heap.size + 1) [] l1 m1 0 (.slice none 0 0) (.slice A1 m1 c1) lay0 w (w2.alloc (.cells #[.int .i64 0] 3))) := hid ⟨Lv.start HP2.out (by rw [hm1]; exact HH2.out), hm1, rfl, rfl, Cel.Own.nil _ _ _ _, HQ2.out.below hbB, HO2.out.below hbB, HE3.out, HB2.out.trans (hbB.mono HB2.out.size)⟩
  clear HQ2 HO2 HB2 HP2 HH2 HE3 hbB
  go_upto_region 3 with (go_at_call 17; refine HPl.out.mono ?_; rintro e w3 ⟨rfl, hw3⟩; rw [hw3]; clear hw3)
  clear HPl
  generalize w2.alloc (.cells #[.int .i64 0] 3) = w3 at *
  go_wp2_with fail
  go_loopw [2, 3, 4] (fun sv zv av W => ∃ (d r : List Us) (m n1 : Nat) (v : Value) (A4 : Option Addr) (c4 : Nat) (L : Lay), sv = .slice A4 n1 c4 ∧ zv = .int .i64 L.fin ∧ av = .int .i64 L.al ∧ Hid (r.length = m) ∧ Hid (Rnd xs w.heap.size w1.heap.size (w1.heap.size + 1) d r m n1 (.slice A4 n1 c4) v L w W)) (fun sv _ _ _ => 101 - sliceLen sv)
  case atStart => exact ⟨[], l1, m1, 0, _, none, 0, lay0, rfl, rfl, rfl, hid hm1, HR0⟩
  case round =>
    obtain ⟨d, r, m, n1, v, A4, c4, L, rfl, rfl, rfl, Hm, HR⟩ := hrel
    clear HR0
    obtain ⟨g1, g2, g3, g4, g5⟩ := HR.out.nums HRr.out
    obtain ⟨A2, c2, rfl, _⟩ := HR.out.o.reads
    have hc := HR.out.q.c1
    have hL := plen_any wr A2 m c2
    obtain ⟨out, fin, al⟩ := L
    simp only at g1 g2 g3 g4 g5
    by_cases h0 : m = 0
    · subst h0
      have HD : Hid (layL xs = ⟨out, fin, al⟩) := hid (by
        have hrn : r = [] := List.eq_nil_of_length_eq_zero Hm.out
        have h1 := HR.out.lv
        rw [hrn] at h1
        have h2 := HR.out.lay
        rw [h1.done HRr.out.dif] at h2
        exact h2)
      go_wp2_with (go_at_call 18; refine hL.mono ?_; rintro e w9 ⟨rfl, hw9⟩; rw [hw9]; clear hw9)
      go_ret3
      unfold LayP
      rw [HD.out]
      have hn1 := HR.out.len
      simp only at hn1
      subst hn1
      exact ⟨A4, c4, rfl, HR.out.own, HR.out.bel⟩
    · have hm0 : (0 : Int) < (m : Int) := by omega
      have HX := hid (HR.out.first HRr.out (by omega))
      have HPop := hid (hpop_any w.heap.size w1.heap.size (.slice A2 m c2) m r wr HR.out.q HR.out.o hs1 (by have := HR.out.lv.2.2.2; rwa [Hm.out] at this) (by omega) (by omega))
      have HSt := hid fun (r' : List Us) (hp : (nth r 0 :: r').Perm r) (hh : Hp r' (m - 1)) (hl : r'.length = m - 1) => HR.out.lv.step HRr.out.dif hp (by rw [hl]; exact hh)
      obtain ⟨x, hx⟩ : ∃ x, nth r 0 = x := ⟨_, rfl⟩
      rw [hx] at HPop HX
      have HXx := hid hx
      clear hx
      obtain ⟨⟨x0, x1, x2, x3⟩, x4⟩ := x
      unfold px rval at HPop
      have ha := assert_q x0 x1 x2 x3 x4
      go_upto_region 6 with (first | (go_at_call 18; refine hL.mono ?_; rintro e w9 ⟨rfl, hw9⟩; rw [hw9]; clear hw9) | (go_at_call 19; refine HPop.out.mono ?_; rintro e w5 ⟨rfl, v5, r5, hq5, hp5, hh5, ho5, hb5, hf5⟩))
      have hs5 := hb5.size
      have HOw5 := hid (own_fq HR.out.own HR.out.q HR.out.o hf5 (by decide) (by decide))
      have hE5 : En w5 (w1.heap.size + 1) fin := fq_at HR.out.en HR.out.q HR.out.o hf5 (by decide) (by decide)
      have HB5 := hid (HR.out.bel.trans hb5)
      have hbs5 := HB5.out.size
      have hbA := (Below.refl w5.heap.size w5).alloc (Nat.le_refl _) (.cells #[.string x0, .int .i64 x1, .int .i64 x2, .int .i64 x3, .int .i64 x4] 40)
      have HQ6 := hid (hq5.below hbA)
      have HO6 := hid (ho5.below hbA)
      have HW6 := hid (HOw5.out.below hbA)
      have HE6 := hid (hE5.below hbA)
      have HN6 : Hid ((w5.alloc (.cells #[.string x0, .int .i64 x1, .int .i64 x2, .int .i64 x3, .int .i64 x4] 40)).heap[w5.heap.size]? = some (.cells #[.string x0, .int .i64 x1, .int .i64 x2, .int .i64 x3, .int .i64 x4] 40 (0, 0))) := hid (heap_alloc_new w5 _)
      have HB6 := hid (HB5.out.trans (hbA.mono hbs5))
      have hR5 := hE5.lt
      have hr5 : r5.length = m - 1 := ho5.1
      have HLv := hid (HSt.out r5 hp5 hh5 hr5)
      rw [HXx.out] at HLv
      have HLay := hid (HR.out.lay)
      have HLen := hid (HR.out.len)
      clear hb5 hf5 hbA hq5 ho5 hp5 hh5 HPop HSt HOw5 HB5 hE5 HR hL hc HXx
      generalize w5.alloc (.cells #[.string x0, .int .i64 x1, .int .i64 x2, .int .i64 x3, .int .i64 x4] 40) = w6 at *
      obtain ⟨z, hz⟩ : ∃ z, upTo fin x3 = z := ⟨_, rfl⟩
      have HPc := hid (pplace_q (w1.heap.size + 1) fin z x0 x1 x2 x3 x4 w6 hz HE6.out g2 (by omega) HX.out)
      have n0 := cell_of_row _ w5.heap.size 0 _ _ _ HN6.out
      have n1' := cell_of_row _ w5.heap.size 1 _ _ _ HN6.out
      have n2 := cell_of_row _ w5.heap.size 2 _ _ _ HN6.out
      have n3 := cell_of_row _ w5.heap.size 3 _ _ _ HN6.out
      have n4 := cell_of_row _ w5.heap.size 4 _ _ _ HN6.out
      have hzu := upTo_le (e := fin) HX.out.2.2.1
      rw [hz] at hzu
      have HZ := hid hz
      clear hz
      go_upto_region 7 with (go_at_call 22; refine HPc.out.mono ?_; rintro e w7 ⟨rfl, hE7, hB7, hb7⟩)
      clear n0 n1' n2 n3 n4
      have hs7 := hB7.2
      have hbC := (Below.refl w7.heap.size w7).alloc (Nat.le_refl _) (.cells #[.string x0, .int .i64 z, .int .i64 x2] 32)
      have hq7 : Qr w7 w1.heap.size v5 := but_at HQ6.out HE6.out hB7 (by decide)
      have ho7 : OwH w7 w.heap.size v5 (m - 1) r5 := ⟨HO6.out.1, own_but HO6.out.2 HE6.out hB7 (by decide)⟩
      have hw7 := own_but HW6.out HE6.out hB7 (by decide)
      have hn7 := but_at HN6.out HE6.out hB7 (by decide)
      have HQ8 := hid (hq7.below hbC)
      have HO8 := hid (ho7.below hbC)
      have HW8 := hid (hw7.below hbC)
      have HE8 := hid (hE7.below hbC)
      have HN8 := hid ((hbC.block _ (Array.getElem?_eq_some_iff.1 hn7).1).trans hn7)
      have HM8 : Hid ((w7.alloc (.cells #[.string x0, .int .i64 z, .int .i64 x2] 32)).heap[w7.heap.size]? = some (.cells #[.string x0, .int .i64 z, .int .i64 x2] 32 (0, 0))) := hid (heap_alloc_new w7 _)
      have hbw7 : Below w.heap.size w w7 := HB6.out.trans (hb7.mono (by omega))
      have HB8 := hid (hbw7.trans (hbC.mono hbw7.size))
      have HV8 := hid fun k (hk : Sls.blk (.slice A4 n1 c4) = some k) => hw7.blk_lt hk
      clear hbC hq7 ho7 hw7 hn7 hB7 hb7 hE7 HPc HQ6 HO6 HW6 HE6 HN6 HB6 hbw7
      have hz8 : w7.heap.size < (w7.alloc (.cells #[.string x0, .int .i64 z, .int .i64 x2] 32)).heap.size := by simp
      generalize w7.alloc (.cells #[.string x0, .int .i64 z, .int .i64 x2] 32) = w8 at *
      have m0 := cell_of_row _ w7.heap.size 0 _ _ _ HM8.out
      have m1 := cell_of_row _ w7.heap.size 1 _ _ _ HM8.out
      have m2 := cell_of_row _ w7.heap.size 2 _ _ _ HM8.out
      go_upto_region 8 with (at_builtin; refine Cel.wpList_push kC w8 w.heap.size (.slice A4 n1 c4) n1 (scells out) HW8.out HB8.out.size 1 1 #[.string x0, .int .i64 z, .int .i64 x2] (0, 0) rfl (scells_one (l := [⟨x0, z, x2⟩])) (by omega) (by omega) rfl (.tmp 21) (.tmp 23) rfl rfl rfl ?_; intro v9 w9 ho9 hb9 hot9 hf9; obtain ⟨A9, c9, rfl, _⟩ := Cel.Own.reads ho9)
      clear m0 m1 m2
      have hq9 : Qr w9 w1.heap.size v5 := oth_at HQ8.out hot9 (by decide)
      have ho9' : OwH w9 w.heap.size v5 (m - 1) r5 := ⟨HO8.out.1, HO8.out.2.oth hot9 (by decide)⟩
      have he9 : En w9 (w1.heap.size + 1) (z + x2) := oth_at HE8.out hot9 (by decide)
      have hn9 := oth_at HN8.out hot9 (by decide)
      have hm9 : w9.heap[w7.heap.size]? = some (.cells #[.string x0, .int .i64 z, .int .i64 x2] 32 (0, 0)) := (hf9.1 _ hz8 (fun e => by have := HV8.out _ e; omega)).trans HM8.out
      have hw9 : Cel.Own 32 3 w9 w.heap.size (.slice A9 (n1 + 1) c9) (n1 + 1) (scells (out ++ [⟨x0, z, x2⟩])) := by
        rw [scells_app]
        exact ho9
      have HRn := hid fun k => (⟨HLv.out, hr5, by rw [layS_snoc, HLay.out]; unfold Lay.step; simp only; rw [HZ.out, max_if], by have := HLen.out; simp only at this ⊢; rw [List.length_append, this]; rfl, hw9, hq9, ho9', he9, bdw (HB8.out.trans hb9) k⟩ : Rnd xs w.heap.size w1.heap.size (w1.heap.size + 1) (d ++ [⟨⟨x0, x1, x2, x3⟩, x4⟩]) r5 (m - 1) (n1 + 1) (.slice A9 (n1 + 1) c9) v5 ⟨out ++ [⟨x0, z, x2⟩], z + x2, if al < x3 then x3 else al⟩ w (w9.drewN k))
      have q1 := cell_of_row _ w7.heap.size 1 _ _ _ hm9
      have q2 := cell_of_row _ w7.heap.size 2 _ _ _ hm9
      have q3 := cell_of_row _ w5.heap.size 3 _ _ _ hn9
      obtain ⟨X1, X2, X3, X4, _⟩ := HX.out
      have HMm : Hid (r5.length = m - 1) := hid hr5
      clear hq9 ho9' he9 hn9 hm9 hw9 ho9 hb9 hot9 hf9 hz8 HLv HLay HLen HQ8 HO8 HW8 HE8 HN8 HM8 HB8 HV8 hr5 Hm
      simp only at X1 X2 X3 X4
      go_quiet (fail)
      go_wp2_with fail
      go_roundw
      · exact ⟨_, r5, m - 1, n1 + 1, v5, A9, c9, _, rfl, rfl, rfl, HMm, hid (HRn.out _)⟩
      · simp [sliceLen]; omega
end Go.Proofs.Ytcaepgggffkjpaa.Cmn
