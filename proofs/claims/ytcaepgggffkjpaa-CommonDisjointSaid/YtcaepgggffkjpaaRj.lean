/-
  CommonDisjoint, walked.
-/
import Derived.Test.YtcaepgggffkjpaaRe
namespace Go.Proofs.Ytcaepgggffkjpaa.Cmn
open Go.RowKit Go.Proofs Go.Proofs.Ytcaepgggffkjpaa.Byt
open Go.Proofs.Ytcaepgggffkjpaa.Tab (bl bl_iff bl_irrefl bl_trans bl_total tl_inj)
open Go.Proofs.Ytcaepgggffkjpaa.Bnd (Us)
open Go.Proofs.Ytcaepgggffkjpaa.Obj (pow2 pows)

/-- Each slot: where it lies. -/
theorem layS_at : ∀ (l : List Us) (i : Nat) (h : i < l.length), (layS l).out[i]? = some ⟨l[i].s.name, upTo (layS (l.take i)).fin l[i].s.align, l[i].s.size⟩ ∧ l[i].s.align ≤ (layS l).al := by
  intro l
  refine Dec.by_snoc (P := fun l => ∀ (i : Nat) (h : i < l.length), (layS l).out[i]? = some ⟨l[i].s.name, upTo (layS (l.take i)).fin l[i].s.align, l[i].s.size⟩ ∧ l[i].s.align ≤ (layS l).al) (fun i h => absurd h (by simp)) (fun l x ih i h => ?_) l
  have hlen : ∀ l : List Us, (layS l).out.length = l.length := fun l => by
    refine Dec.by_snoc (P := fun l => (layS l).out.length = l.length) rfl (fun l x ih => ?_) l
    rw [layS_snoc]
    simp [Lay.step, ih]
  rw [layS_snoc]
  unfold Lay.step
  by_cases hi : i < l.length
  · obtain ⟨h1, h2⟩ := ih i hi
    rw [List.take_append_of_le_length (Nat.le_of_lt hi)]
    simp only [List.getElem_append_left hi]
    rw [List.getElem?_append_left (by rw [hlen]; exact hi)]
    exact ⟨h1, by omega⟩
  · obtain rfl : i = l.length := by simp at h; omega
    have e : (l ++ [x])[l.length] = x := by simp
    rw [e, List.take_append_of_le_length (Nat.le_refl _), List.take_length, List.getElem?_append_right (by rw [hlen]; exact Nat.le_refl _), hlen]
    exact ⟨by simp, by simp only; omega⟩
theorem layS_next {l : List Us} {i : Nat} (h : i < l.length) : (layS (l.take (i + 1))).fin = upTo (layS (l.take i)).fin l[i].s.align + l[i].s.size := by
  rw [List.take_succ_eq_append_getElem h, layS_snoc]
  rfl
/-- The end before the i-th slot. -/
def ends (xs : List Us) (i : Nat) : Int := (layS ((srt xs).take i)).fin
theorem RightR.srtOk {xs : List Us} (h : RightR xs) : ∀ x ∈ srt xs, x ∈ xs ∧ com x = true ∧ ComOk x := fun x hx => by
  have hf := (srt_perm xs).mem_iff.1 hx
  rw [List.mem_filter] at hf
  exact ⟨hf.1, hf.2, h.ok x hf.1 hf.2⟩
/-- What the law asks of the i-th slot. -/
structure SltAt (xs : List Us) (i : Nat) (s : Slt) (y : Us) : Prop where
  nm : s.name = y.s.name
  sz : s.size = y.s.size
  off : s.off = upTo (ends xs i) y.s.align
  al : y.s.align ≤ (layL xs).al
  ok : ComOk y
  next : ends xs (i + 1) = s.off + s.size
  inx : ∃ p, ∃ h : p < xs.length, com xs[p] = true ∧ xs[p] = y
  one : ∀ p (h : p < xs.length), com xs[p] = true → xs[p].s.name = y.s.name → xs[p] = y
  e0 : 0 ≤ ends xs i ∧ ends xs i ≤ i * 4295032831
theorem ends_le {xs : List Us} (h : RightR xs) {i : Nat} (hi : i ≤ (srt xs).length) : 0 ≤ ends xs i ∧ ends xs i ≤ i * 4295032831 := by
  have h1 := layS_fin ((srt xs).take i) fun x hx => (h.srtOk x (List.mem_of_mem_take hx)).2.2
  rw [List.length_take, Nat.min_eq_left hi] at h1
  exact ⟨h1.1, h1.2.1⟩
theorem RightR.slot {xs : List Us} (h : RightR xs) {i : Nat} (hi : i < (layL xs).out.length) : ∃ y, SltAt xs i (layL xs).out[i] y := by
  have hl := h.lens.2.2
  have his : i < (srt xs).length := by omega
  obtain ⟨h1, h2⟩ := layS_at (srt xs) i his
  have he : (layL xs).out[i] = ⟨(srt xs)[i].s.name, upTo (ends xs i) (srt xs)[i].s.align, (srt xs)[i].s.size⟩ := by
    have := List.getElem?_eq_getElem hi
    exact Option.some.inj (this.symm.trans h1)
  obtain ⟨m1, m2, m3⟩ := h.srtOk _ (List.getElem_mem his)
  refine ⟨(srt xs)[i], by rw [he], by rw [he], by rw [he], h2, m3, ?_, ?_, ?_, ends_le h (Nat.le_of_lt his)⟩
  · rw [he]; exact layS_next his
  · obtain ⟨p, hp, e⟩ := List.getElem_of_mem m1
    exact ⟨p, hp, by rw [e]; exact m2, e⟩
  · intro p hp hc hn
    have hd := h.dif
    unfold Dif at hd
    have f1 : xs[p] ∈ xs.filter com := List.mem_filter.2 ⟨List.getElem_mem hp, hc⟩
    have f2 : (srt xs)[i] ∈ xs.filter com := List.mem_filter.2 ⟨m1, m2⟩
    obtain ⟨a, ha, ea⟩ := List.getElem_of_mem f1
    obtain ⟨b, hb, eb⟩ := List.getElem_of_mem f2
    rw [List.pairwise_iff_getElem] at hd
    rw [← ea, ← eb] at hn ⊢
    rcases Nat.lt_trichotomy a b with g | g | g
    · exact absurd hn (hd a b ha hb g)
    · subst g; rfl
    · exact absurd hn.symm (hd b a hb ha g)
/-- How many are common among the first i. -/
def cnt (xs : List Us) (i : Nat) : Nat := ((xs.take i).filter com).length
theorem cnt_step {xs : List Us} {i : Nat} (h : i < xs.length) : cnt xs (i + 1) = if com xs[i] = true then cnt xs i + 1 else cnt xs i := by
  unfold cnt
  rw [List.take_succ_eq_append_getElem h, List.filter_append, List.length_append]
  split
  · rename_i hc; simp [hc]
  · rename_i hc; simp [hc]
theorem cnt_le (xs : List Us) (i : Nat) : cnt xs i ≤ i := by
  unfold cnt
  have h1 := List.length_filter_le com (xs.take i)
  rw [List.length_take] at h1
  omega
theorem RightR.fin_ {xs : List Us} (h : RightR xs) : cnt xs xs.length = (layL xs).out.length ∧ ends xs (layL xs).out.length = (layL xs).fin ∧ ((layL xs).out.length = 0 → (layL xs).al = 1) := by
  obtain ⟨_, h2, h3⟩ := h.lens
  unfold cnt ends
  refine ⟨by rw [List.take_length]; exact h2.symm, by rw [h3, List.take_length]; rfl, fun h0 => ?_⟩
  have : srt xs = [] := List.eq_nil_of_length_eq_zero (by omega)
  unfold layL
  rw [this]
  rfl
set_option linter.unusedSimpArgs false in
set_option maxRecDepth 100000 in
set_option maxHeartbeats 8000000 in
theorem disjoint_any (P : PC) (w : World) (A : Option Addr) (n c : Nat) (xs : List Us) (h : RdR w w.heap.size A n xs) :
    Calls Try.prog 4 #[.slice A n c] w fun e w' => e = .returned (.bool true) ∧ Below w.heap.size w w' := by
  have HX := hid h
  have Hl : xs.length = n := h.1
  have HA := hid fun V => awake16_any P V
  clear h
  go_enter Try.func4, Try.ntmps4
  go_wp2_with fail
  refine (HA.out _).mono ?_
  rintro e w1 ⟨rfl, hb1⟩
  have HG := hid (rright_any w.heap.size A n c xs w1 (HX.out.below hb1) hb1.size)
  have HB1 := hid hb1
  clear hb1
  go_wp2_with fail
  refine HG.out.mono ?_
  rintro e w2 ⟨hb2, ⟨rfl, hr⟩ | rfl⟩
  · have HB2 := hid (HB1.out.trans (hb2.mono HB1.out.size))
    have hs2 := HB2.out.size
    have hn : n ≤ 100 := Hl ▸ hr.len
    have hlen := hr.lens.1
    have HL := hid (P.layout w.heap.size A n c xs w2 (HX.out.below HB2.out) hs2 hr)
    have HS := hid fun i (hi : i < (layL xs).out.length) => hr.slot hi
    have HF := hid hr.fin_
    clear hb2 hr HB1 HG P
    go_upto_region 4 with (go_at_call 10; refine HL.out.mono ?_; rintro e w3 ⟨A3, c3, rfl, ho3, hb3⟩)
    have hs3 := hb3.size
    have HX3 := hid (HX.out.below (HB2.out.trans (hb3.mono hs2)))
    have HR3 : Hid (RdT w3 w3.heap.size A3 (layL xs).out.length (layL xs).out) := hid ⟨rfl, ho1_reads ho3⟩
    have HB3 := hid (HB2.out.trans (hb3.mono hs2))
    clear HL ho3 hb3 HB2 HX
    have HAl : Hid (∀ i s y, SltAt xs i s y → y.s.align ≤ (layL xs).al) := hid fun _ _ _ h => h.al
    generalize (layL xs).out = L at *
    generalize (layL xs).fin = F at *
    generalize (layL xs).al = Z at *
    obtain ⟨m, hm⟩ : ∃ m, L.length = m := ⟨_, rfl⟩
    rw [hm] at HR3 hlen HF ⊢
    go_wp2_with fail
    go_loopw [6, 7] (fun ev iv W => ∃ i : Nat, ev = .int .i64 (ends xs i) ∧ iv = .int .i64 (i : Int) ∧ i ≤ m ∧ Below w3.heap.size w3 W) (fun _ iv _ => m - (intOf iv).toNat)
    case atStart => exact ⟨0, rfl, rfl, Nat.zero_le _, Below.refl _ _⟩
    case round =>
      obtain ⟨i, rfl, rfl, hi, hb⟩ := hrel
      have hbs := hb.size
      by_cases hlt : i < m
      · have hil : i < L.length := by omega
        have hii : (i : Int) < (m : Int) := by omega
        obtain ⟨sb, so, rfl, _⟩ := HR3.out.at_ hil
        have HSc := hid fun (V : World) (hV : Below w3.heap.size w3 V) => (by obtain ⟨b', o', e, _, q⟩ := (HR3.out.below hV).at_ hil; injection e with e; injection e with e1 e2; subst e1 e2; exact q : V.cell? ⟨sb, so + i * 3, none⟩ = some (.string L[i].name) ∧ V.cell? ⟨sb, so + i * 3 + 1, none⟩ = some (.int .i64 L[i].off) ∧ V.cell? ⟨sb, so + i * 3 + 2, none⟩ = some (.int .i64 L[i].size))
        obtain ⟨y, hy⟩ := HS.out i hil
        generalize L[i] = s at *
        obtain ⟨s0, s1, s2⟩ := s
        have hya := HAl.out _ _ _ hy
        obtain ⟨k1, k2, k3, k4⟩ := hy.ok
        have e1 := hy.nm
        have e2 := hy.sz
        have e3 := hy.off
        have e4 := hid hy.next
        obtain ⟨he0, he1⟩ := hy.e0
        have hup := upTo_le (e := ends xs i) k3
        rw [← e3] at hup
        obtain ⟨u1, u2, u3⟩ := hup
        have HIn := hid hy.inx
        have HOne := hid hy.one
        simp only at e1 e2 e4 u1 u2 u3 HSc
        clear hy e3
        generalize ends xs i = E at *
        have hup2 : s1 ≤ 429503283100 + 65536 := by omega
        go_wp2_with fail
        go_loopw [8, 9] (fun fv kv W => ∃ (k : Nat) (fb : Bool), fv = .bool fb ∧ kv = .int .i64 (k : Int) ∧ k ≤ n ∧ Hid (fb = false → ∀ j (h : j < xs.length), j < k → com xs[j] = true → xs[j] ≠ y) ∧ Below w3.heap.size w3 W) (fun _ kv _ => n - (intOf kv).toNat)
        case atStart => exact ⟨0, false, rfl, rfl, Nat.zero_le _, hid (fun _ j _ h => absurd h (Nat.not_lt_zero _)), hb⟩
        case round =>
          obtain ⟨k, fb, rfl, rfl, hk, hF, hb'⟩ := hrel
          clear hb hbs
          have hbs := hb'.size
          obtain ⟨z0, z1, z2⟩ := HSc.out _ hb'
          by_cases hkn : k < n
          · have hkl : k < xs.length := by omega
            have hki : (k : Int) < (n : Int) := by omega
            obtain ⟨b, o, rfl, _, p0, p1, p2, p3, p4⟩ := (HX3.out.below (hb'.mono (by omega))).at_ hkl
            by_cases hc : xs[k].s.bind = 3
            · have hcc : com xs[k] = true := by simpa [com] using hc
              by_cases hnm : xs[k].s.name = y.s.name
              · have hxy := HOne.out k hkl hcc hnm
                rw [hxy] at p0 p1 p2 p3 p4 hc
                rw [hc] at p1
                rw [← e1] at p0
                rw [← e2] at p2
                have hnn : (s0.toList == s0.toList) = true := by simp
                have hz2 : ((s2 : Int) != s2) = false := by simp
                generalize y.s.align = y3 at *
                have hs10 : 0 ≤ s1 := by omega
                have hn3 : (y3 == 0) = false := by simp; omega
                have hm0 : (s1 % y3 != 0) = false := by simp; exact u3
                have hm1 : (Int.tmod s1 y3 != 0) = false := by rw [Int.tmod_eq_emod_of_nonneg hs10]; exact hm0
                have hg1 : decide (y3 ≤ s1 - E) = false := decide_eq_false (by omega)
                have hg2 : decide (Z < y3) = false := decide_eq_false (by omega)
                clear hnm hcc hxy hF HSc HIn hc
                go_wp2_with fail
                go_quiet (fail)
                go_wp2_with fail
                go_quiet (fail)
                go_wp2_with fail
                go_roundw
                · exact ⟨k + 1, true, rfl, by go_num, by omega, hid (fun h => by cases h), by first | exact hb' | exact bdw hb' _ | exact bdw (bdw hb' _) _⟩
                · simp [intOf]; omega
              · have HN := hid (fun (h : fb = false) j (hj : j < xs.length) (hjk : j < k + 1) (hcj : com xs[j] = true) => (show xs[j] ≠ y from (by
                  by_cases e : j = k
                  · subst e; intro e2; exact hnm (by rw [e2])
                  · exact hF.out h j hj (by omega) hcj)))
                have HE := hid e1
                generalize xs[k] = x at *
                obtain ⟨⟨x0, x1, x2, x3⟩, x4⟩ := x
                simp only at p0 p1 p2 p3 p4 hc hnm
                subst hc
                have hnn : (x0.toList == s0.toList) = false := by
                  simp only [beq_eq_false_iff_ne]
                  intro e
                  exact hnm ((tl_inj e).trans e1)
                clear hnm hcc hF HSc HIn e1 e2
                go_wp2_with fail
                go_quiet (fail)
                go_wp2_with fail
                go_roundw
                · exact ⟨k + 1, fb, rfl, by go_num, by omega, HN, by first | exact hb' | exact bdw hb' _⟩
                · simp [intOf]; omega
            · have HN := hid (fun (h : fb = false) j (hj : j < xs.length) (hjk : j < k + 1) (hcj : com xs[j] = true) => (show xs[j] ≠ y from (by
                by_cases e : j = k
                · subst e; exact absurd (by simpa [com] using hcj) hc
                · exact hF.out h j hj (by omega) hcj)))
              generalize xs[k] = x at *
              obtain ⟨⟨x0, x1, x2, x3⟩, x4⟩ := x
              simp only at p0 p1 p2 p3 p4 hc
              have hcb : (x1 == 3) = false := by simpa using hc
              clear hc hF HSc HIn e1 e2
              go_wp2_with fail
              go_quiet (fail)
              go_wp2_with fail
              go_roundw
              · exact ⟨k + 1, fb, rfl, by go_num, by omega, HN, by first | exact hb' | exact bdw hb' _⟩
              · simp [intOf]; omega
          · obtain rfl : k = n := by omega
            have hki : ¬ (k : Int) < (k : Int) := by omega
            cases fb
            · obtain ⟨p, hp, hcp, epy⟩ := HIn.out
              exact absurd epy (hF.out rfl p hp (by omega) hcp)
            · have hge : ¬ s1 < E := by omega
              have hs20 : 0 ≤ s2 := by omega
              have hs21 : s2 ≤ 4294967295 := by omega
              clear hF HSc HIn HOne e1 e2
              go_wp2_with fail
              first | go_quiet (fail) | skip
              go_wp2_with fail
              go_roundw
              · exact ⟨i + 1, by rw [e4.out], by go_num, by omega, by first | exact hb' | exact bdw hb' _⟩
              · simp [intOf]; omega
      · obtain rfl : i = m := by omega
        have hii : ¬ (i : Int) < (i : Int) := by omega
        clear HS HAl
        go_wp2_with fail
        go_loopw [10, 11] (fun cv jv W => ∃ j : Nat, cv = .int .i64 (cnt xs j : Int) ∧ jv = .int .i64 (j : Int) ∧ j ≤ n ∧ Below w3.heap.size w3 W) (fun _ jv _ => n - (intOf jv).toNat)
        case atStart => exact ⟨0, rfl, rfl, Nat.zero_le _, hb⟩
        case round =>
          obtain ⟨j, rfl, rfl, hj, hb'⟩ := hrel
          by_cases hjn : j < n
          · have hjl : j < xs.length := by omega
            have hji : (j : Int) < (n : Int) := by omega
            obtain ⟨b, o, rfl, _, p0, p1, p2, p3, p4⟩ := (HX3.out.below (hb'.mono (by omega))).at_ hjl
            have HC1 := hid (cnt_step hjl)
            have hcl := cnt_le xs j
            generalize cnt xs j = q at *
            generalize xs[j] = x at *
            obtain ⟨⟨x0, x1, x2, x3⟩, x4⟩ := x
            simp only at p0 p1 p2 p3 p4
            by_cases hc : x1 = 3
            · subst hc
              have HC2 := HC1.out
              rw [if_pos (show com _ = true from rfl)] at HC2
              have HC2 := hid HC2
              clear HC1
              go_wp2_with fail
              go_roundw
              · exact ⟨j + 1, by rw [HC2.out]; go_num, by go_num, by omega, hb'⟩
              · simp [intOf]; omega
            · have hcb : (x1 == 3) = false := by simpa using hc
              have HC2 := HC1.out
              rw [if_neg (by simpa [com] using hc)] at HC2
              have HC2 := hid HC2
              clear HC1 hc
              go_wp2_with fail
              go_roundw
              · exact ⟨j + 1, by rw [HC2.out], by go_num, by omega, hb'⟩
              · simp [intOf]; omega
          · obtain rfl : j = n := by omega
            have hji : ¬ (j : Int) < (j : Int) := by omega
            obtain ⟨f1, f2, f3⟩ := HF.out
            rw [Hl] at f1
            rw [f1, f2]
            have hmm : ((i : Int) == (i : Int)) = true := by simp
            have hFF : (F == F) = true := by simp
            by_cases h0 : i = 0
            · have hz := f3 h0
              subst h0 hz
              clear HF f1 f2 f3
              go_wp2_with fail
              go_ret
              exact ⟨rfl, HB3.out.trans (hb'.mono (by omega))⟩
            · have h0i : (0 : Int) < (i : Int) := by omega
              clear HF f1 f2 f3
              go_wp2_with fail
              go_ret
              exact ⟨rfl, HB3.out.trans (hb'.mono (by omega))⟩
  · have HB2 := hid (HB1.out.trans (hb2.mono HB1.out.size))
    clear hb2
    go_wp2_with fail
    refine (HA.out _).mono ?_
    rintro e w3 ⟨rfl, hb3⟩
    have HB3 := hid (HB2.out.trans (hb3.mono HB2.out.size))
    clear hb3
    go_wp2_with fail
    go_ret
    exact ⟨rfl, HB3.out⟩
end Go.Proofs.Ytcaepgggffkjpaa.Cmn
