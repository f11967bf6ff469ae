/-
  WantedMatchesReference, walked.
-/
import Derived.Test.YtbcjbembhajgcaaQn
import Derived.Deep.CutRange
namespace Go.Proofs.Ytbcjbembhajgcaa.Wnt
open Go.RowKit Go.Proofs Go.Proofs.Ytbcjbembhajgcaa.Byt
open Go.Proofs.Ytbcjbembhajgcaa.Tab (bl bl_iff bl_irrefl bl_trans bl_total putN mem_put Asc asc_put asc_eq tl_inj)

/-- The blocks that are written: the worklist's, and the variable of the reference's. -/
def Gm (F : Nat → Prop) (T : Nat) (b : Nat) : Prop := F b ∨ b = T + 1
/-- The worklist (p) and the reference's (q), in memory. -/
def MS (w W : World) (T : Nat) (F : Nat → Prop) (p q : List ByteArray × List ByteArray) (A1 : Option Addr) (n1 c1 : Nat) (A2 : Option Addr) (n2 c2 : Nat) : Prop :=
  Lst W T F T p.1 p.2 ∧ ¬ F (T + 1) ∧ W.heap[T + 1]? = some (.cells #[.slice A1 n1 c1, .slice A2 n2 c2] 31 (0, 0)) ∧ RdC W (Gm F T) A1 n1 c1 q.1 ∧ RdC W (Gm F T) A2 n2 c2 q.2 ∧ Below w.heap.size w W ∧ w.heap.size ≤ T
theorem MS.lt {w W : World} {T : Nat} {F : Nat → Prop} {p q : List ByteArray × List ByteArray} {A1 A2 : Option Addr} {n1 c1 n2 c2 : Nat} (h : MS w W T F p q A1 n1 c1 A2 n2 c2) : T + 1 < W.heap.size := (Array.getElem?_eq_some_iff.1 h.2.2.1).1
theorem MS.gm {w W : World} {T : Nat} {F : Nat → Prop} {p q : List ByteArray × List ByteArray} {A1 A2 : Option Addr} {n1 c1 n2 c2 : Nat} (h : MS w W T F p q A1 n1 c1 A2 n2 c2) : ∀ b, Gm F T b → b < W.heap.size := fun b hb => by
  rcases hb with hb | hb
  · exact (h.1.fr.1 b hb).2
  · have := h.lt; omega
theorem MS.below {w W V : World} {T : Nat} {F : Nat → Prop} {p q : List ByteArray × List ByteArray} {A1 A2 : Option Addr} {n1 c1 n2 c2 : Nat} (h : MS w W T F p q A1 n1 c1 A2 n2 c2) (hb : Below W.heap.size W V) : MS w V T F p q A1 n1 c1 A2 n2 c2 :=
  ⟨h.1.below hb, h.2.1, (hb.block _ h.lt).trans h.2.2.1, h.2.2.2.1.below hb, h.2.2.2.2.1.below hb, h.2.2.2.2.2.1.trans (hb.mono h.2.2.2.2.2.1.size), h.2.2.2.2.2.2⟩
theorem rdc_sty {W V : World} {K n c : Nat} {F G : Nat → Prop} {A : Option Addr} {xs : List ByteArray} (h : RdC W G A n c xs) (hG : ∀ b, F b → G b) (s : Sty K F W V) : RdC V G A n c xs :=
  ⟨(rd_sty h.1 (Nat.le_refl _) (fun b o e h0 hF => h.2.1 b o e h0 (hG b hF)) s).more s.1.size, h.2⟩
theorem MS.left {w W V : World} {T : Nat} {F : Nat → Prop} {p p' q : List ByteArray × List ByteArray} {A1 A2 : Option Addr} {n1 c1 n2 c2 : Nat} (h : MS w W T F p q A1 n1 c1 A2 n2 c2) (k : LstP T F T p'.1 p'.2 W V) : MS w V T (Nx F W V) p' q A1 n1 c1 A2 n2 c2 := by
  have hl := h.lt
  obtain ⟨h1, h2, h3, h4, h5, h6, h7⟩ := h
  have hg : ∀ b, b < W.heap.size → Gm (Nx F W V) T b → Gm F T b := fun b hb hb' => by
    rcases hb' with (e | e) | e
    · exact .inl e
    · omega
    · exact .inr e
  have hn : ¬ Nx F W V (T + 1) := fun e => by
    rcases e with e | e
    · exact h2 e
    · omega
  exact ⟨k.1, hn, (k.2.2 _ hl h2).trans h3, rdc_sty (h4.sub hg) (fun b hb => .inl (.inl hb)) k.2, rdc_sty (h5.sub hg) (fun b hb => .inl (.inl hb)) k.2, h6.trans (k.2.1.mono h7), h7⟩
theorem MS.put {w W : World} {T : Nat} {F : Nat → Prop} {p q q' : List ByteArray × List ByteArray} {A1 A2 A3 A4 : Option Addr} {n1 c1 n2 c2 n3 c3 n4 c4 : Nat} (h : MS w W T F p q A1 n1 c1 A2 n2 c2) (k1 : RdC W (Gm F T) A3 n3 c3 q'.1) (k2 : RdC W (Gm F T) A4 n4 c4 q'.2) :
    MS w ((W.setCell ⟨T + 1, 0, none⟩ (.slice A3 n3 c3)).setCell ⟨T + 1, 1, none⟩ (.slice A4 n4 c4)) T F p q' A3 n3 c3 A4 n4 c4 := by
  have hl := h.lt
  obtain ⟨h1, h2, h3, h4, h5, h6, h7⟩ := h
  have hg : Gm F T (T + 1) := .inr rfl
  refine ⟨h1.stay (by simp) fun g hF => ?_, h2, heap_setCell_same _ (T + 1) 1 _ _ _ (heap_setCell_same W (T + 1) 0 _ _ _ h3), (k1.set hg).set hg, (k2.set hg).set hg, (h6.setCell (p := ⟨T + 1, 0, none⟩) (Nat.le_succ_of_le h7) _).setCell (p := ⟨T + 1, 1, none⟩) (Nat.le_succ_of_le h7) _, h7⟩
  have hne : g ≠ T + 1 := fun e => h2 (e ▸ hF)
  exact (Below.heap_setCell _ ⟨T + 1, 1, none⟩ _ g hne).trans (Below.heap_setCell W ⟨T + 1, 0, none⟩ _ g hne)
/-- A variable that has just been laid, and written. -/
theorem lay_two {W : World} {K : Nat} (hK : K ≤ W.heap.size) (a b : Value) : Below K W (((W.alloc (.cells #[.slice none 0 0, .slice none 0 0] 31)).setCell ⟨W.heap.size, 0, none⟩ a).setCell ⟨W.heap.size, 1, none⟩ b) ∧
    (((W.alloc (.cells #[.slice none 0 0, .slice none 0 0] 31)).setCell ⟨W.heap.size, 0, none⟩ a).setCell ⟨W.heap.size, 1, none⟩ b).heap[W.heap.size]? = some (.cells #[a, b] 31 (0, 0)) :=
  ⟨(((Below.refl K W).alloc hK _).setCell (p := ⟨W.heap.size, 0, none⟩) hK a).setCell (p := ⟨W.heap.size, 1, none⟩) hK b, heap_setCell_same _ W.heap.size 1 _ _ b (heap_setCell_same _ W.heap.size 0 _ _ a (heap_alloc_new W _))⟩

set_option linter.unusedSimpArgs false in
set_option maxRecDepth 100000 in
set_option maxHeartbeats 16000000 in
theorem match_any (w : World) (A : Option Addr) (n c : Nat) (ss : List Stp) (nm : ByteArray) (h : RdSt w w.heap.size A n ss) (hz : sumN (ss.take 61) ≤ maxLen) :
    Calls Try.prog 3 #[.slice A n c, .string nm] w fun e w' => e = .returned (.bool true) ∧ Below w.heap.size w w' := by
  have HX := hid h
  have Hl : ss.length = n := h.1
  have HZ := hid hz
  have HA := hid fun V => awake15_any V
  clear h hz
  go_enter Try.func3, Try.ntmps3
  go_wp2_with fail
  refine (HA.out _).mono ?_
  rintro e w1 ⟨rfl, hb1⟩
  have HF := hid (rfew_any w.heap.size A n c ss w1 (HX.out.below hb1) HZ.out)
  have HB1 := hid hb1
  clear hb1
  go_wp2_with fail
  refine HF.out.mono ?_
  rintro e w2 ⟨b, rfl, rfl, hb⟩
  clear HF
  by_cases hbn : b = false ∨ (300 : Int) < (nm.size : Int)
  · have HA2 := hid (HA.out w2)
    clear hb
    rcases hbn with rfl | hnm
    · go_wp2_with fail
      refine HA2.out.mono ?_
      rintro e w3 ⟨rfl, hb3⟩
      have HB3 := hid (HB1.out.trans (hb3.mono HB1.out.size))
      clear hb3
      go_wp2_with fail
      go_ret
      exact ⟨rfl, HB3.out⟩
    · cases b
      · go_wp2_with fail
        refine HA2.out.mono ?_
        rintro e w3 ⟨rfl, hb3⟩
        have HB3 := hid (HB1.out.trans (hb3.mono HB1.out.size))
        clear hb3
        go_wp2_with fail
        go_ret
        exact ⟨rfl, HB3.out⟩
      · go_wp2_with fail
        refine HA2.out.mono ?_
        rintro e w3 ⟨rfl, hb3⟩
        have HB3 := hid (HB1.out.trans (hb3.mono HB1.out.size))
        clear hb3
        go_wp2_with fail
        go_ret
        exact ⟨rfl, HB3.out⟩
  · have hbt : b = true := by
      cases b
      · exact absurd (.inl rfl) hbn
      · rfl
    subst hbt
    have hnm : ¬ (300 : Int) < (nm.size : Int) := fun e => hbn (.inr e)
    obtain ⟨hn6, hs2⟩ := hb rfl
    clear hbn hb HA
    have hQ : Qr ((w2.alloc (.cells #[.map none, .slice none 0 0] 29)).alloc (.cells #[.slice none 0 0, .slice none 0 0] 31)) w2.heap.size (.map none) (.slice none 0 0) := (Below.heap_alloc _ _ _ (by simp)).trans (heap_alloc_new w2 _)
    have hY : ((w2.alloc (.cells #[.map none, .slice none 0 0] 29)).alloc (.cells #[.slice none 0 0, .slice none 0 0] 31)).heap[w2.heap.size + 1]? = some (.cells #[.slice none 0 0, .slice none 0 0] 31 (0, 0)) := by
      have h := heap_alloc_new (w2.alloc (.cells #[.map none, .slice none 0 0] 29)) (.cells #[.slice none 0 0, .slice none 0 0] 31)
      rw [World.size_alloc] at h
      exact h
    have hT := HB1.out.size
    have hR0 : ∀ V : World, RdC V (Gm (fun g => g = w2.heap.size) w2.heap.size) none 0 0 [] := fun V => ⟨Sls.Rd.nil _ _ _, fun _ _ e => (by cases e), Nat.le_refl _, by unfold maxLen; omega⟩
    have HM0 : Hid (MS w ((w2.alloc (.cells #[.map none, .slice none 0 0] 29)).alloc (.cells #[.slice none 0 0, .slice none 0 0] 31)) w2.heap.size (fun g => g = w2.heap.size) ([], []) ([], []) none 0 0 none 0 0) := hid ⟨Lst.zero hQ, (fun e => by have e : w2.heap.size + 1 = w2.heap.size := e; omega), hY, hR0 _, hR0 _, (HB1.out.alloc hT _).alloc (by simp; omega) _, hT⟩
    clear hQ hY hR0
    go_upto_region 5 with fail
    obtain ⟨T, hTe⟩ : ∃ T, w2.heap.size = T := ⟨_, rfl⟩
    rw [hTe] at HM0 hT
    simp only [hTe]
    clear HB1 hTe
    generalize (w2.alloc (.cells #[.map none, .slice none 0 0] 29)).alloc (.cells #[.slice none 0 0, .slice none 0 0] 31) = w3 at *
    go_wp2_with fail
    go_loopw [7] (fun iv W => ∃ (i : Nat) (F : Nat → Prop) (p : List ByteArray × List ByteArray) (A1 A2 : Option Addr) (n1 c1 n2 c2 : Nat), iv = .int .i64 (i : Int) ∧ i ≤ n ∧ p.1.length ≤ sumN (ss.take i) ∧ p.2.length ≤ sumN (ss.take i) ∧ Hid (MS w W T F p p A1 n1 c1 A2 n2 c2)) (fun iv _ => n - (intOf iv).toNat)
    case atStart => exact ⟨0, _, ([], []), none, none, 0, 0, 0, 0, rfl, Nat.zero_le _, Nat.zero_le _, Nat.zero_le _, HM0⟩
    case round =>
      obtain ⟨i, F, p, A1, A2, n1, c1, n2, c2, rfl, hi, hp1, hp2, hM⟩ := hrel
      clear HM0
      obtain ⟨ws, sn⟩ := p
      simp only at hp1 hp2
      have hsum := Nat.le_trans (sumN_take ss i) hs2
      by_cases hlt : i < n
      · have hil : i < ss.length := by omega
        have hii : (i : Int) < (n : Int) := by omega
        have hs1 : sumN (ss.take (i + 1)) = sumN (ss.take i) + ss[i].n := by rw [List.take_succ_eq_append_getElem hil, sumN_snoc]
        have hs3 := Nat.le_trans (sumN_take ss (i + 1)) hs2
        obtain ⟨b, o, rfl, hbW, c0, cn, hns, hnc⟩ := (HX.out.below hM.out.2.2.2.2.2.1).2 i hil
        have HC := hid fun (V : World) (hV : Below w.heap.size w V) => (by obtain ⟨b', o', e, _, q0, q1, q2, _⟩ := (HX.out.below hV).2 i hil; injection e with e; injection e with e1 e2; subst e1 e2; exact ⟨q0, q1, q2⟩ : V.cell? ⟨b, o + i * 2, none⟩ = some (.bool ss[i].tk) ∧ V.cell? ⟨b, o + i * 2 + 1, none⟩ = some (.slice ss[i].A ss[i].n ss[i].c) ∧ Sls.Rd V w.heap.size ss[i].A ss[i].n ss[i].ns)
        generalize ss[i] = st at *
        obtain ⟨tk, An, nn, cn', ns⟩ := st
        simp only at *
        have hn1 : n1 ≤ 200 := by have h := hM.out.2.2.2.1.1.1; simp only at h; omega
        have hn2 : n2 ≤ 200 := by have h := hM.out.2.2.2.2.1.1.1; simp only at h; omega
        cases tk
        · have HAd := hid ((ladd_any (c := cn') hM.out.1 (HC.out _ hM.out.2.2.2.2.2.1).2.2 hM.out.2.2.2.2.2.1.size (fun b' o' e h0 hF => by
            obtain ⟨b2, o2, e2, hb2, _⟩ := hns.2 0 (by rw [hns.1]; exact h0)
            rw [e] at e2
            injection e2 with e2
            injection e2 with e2 _ _
            subst e2
            have := (hM.out.1.fr.1 _ hF).1
            omega) (by show ws.length + nn ≤ _; omega) (by show sn.length + nn ≤ _; omega)))
          have hL1 := addA_len (ws, sn) ns
          rw [hns.1] at hL1
          have hL2 : (addA (ws, sn) ns).1.length ≤ sumN (ss.take (i + 1)) := by have := hL1.1; simp only at this; omega
          have hL3 : (addA (ws, sn) ns).2.length ≤ sumN (ss.take (i + 1)) := by have := hL1.2.1; simp only at this; omega
          clear hns hL1
          go_upto_region 15 with (go_at_call 10; refine HAd.out.mono ?_; rintro e w4 ⟨rfl, hl4⟩)
          have hM4 := hid (hM.out.left (p' := addA (ws, sn) ns) hl4)
          clear hl4 HAd hM c0 cn
          have HRa := hid fun (V : World) (hV : Below w4.heap.size w4 V) => radd_any (Gm _ T) A1 A2 An n1 c1 n2 c2 nn cn' ws sn ns V (hM4.out.below hV).gm (hM4.out.below hV).2.2.2.1 (hM4.out.below hV).2.2.2.2.1 ((HC.out _ (hM4.out.below hV).2.2.2.2.2.1).2.2.more (hM4.out.below hV).2.2.2.2.2.1.size) (by omega) (by omega)
          have HS := hid fun (V : World) (hV : Below w4.heap.size w4 V) => (⟨cell_of_row _ (T + 1) 0 _ _ _ (hM4.out.below hV).2.2.1, cell_of_row _ (T + 1) 1 _ _ _ (hM4.out.below hV).2.2.1⟩ : _ ∧ _)
          have HCs := hid fun (V : World) (hV : Below w4.heap.size w4 V) => HC.out V (hM4.out.below hV).2.2.2.2.2.1
          generalize hpp : addA (ws, sn) ns = pp at *
          obtain ⟨ws', sn'⟩ := pp
          simp only at hL2 hL3
          have HPP := hid hpp
          clear hpp
          go_cut [14, 15] from 65 to 74 (fun v14 v15 V => ∃ (g : Nat) (A3 : Option Addr) (n3 c3 : Nat) (A4 : Option Addr) (n4 c4 : Nat), v14 = .pointer (some ⟨g, 0, none⟩) ∧ v15 = .int .i64 ((sn'.length : Int) - (sn.length : Int)) ∧ V.heap[g]? = some (.cells #[.slice A3 n3 c3, .slice A4 n4 c4] 31 (0, 0)) ∧ RdC V (Gm (Nx F wr w4) T) A3 n3 c3 ws' ∧ RdC V (Gm (Nx F wr w4) T) A4 n4 c4 sn' ∧ Below w4.heap.size w4 V)
          case first =>
            refine Ord.Till.begin (fun V => Below w4.heap.size w4 V) 60 (by kernel_rfl) ?_
            have hS : (fun V : World => Below w4.heap.size w4 V) w4.drew := (Below.refl _ _).drew
            refine Ord.Till.take' 0 (some 66) (oi := _) (x := ?_) rfl rfl (by kernel_rfl) (by kernel_rfl) (by kernel_rfl) (by kernel_rfl) (fun _ _ _ h => h) (by kernel_rfl) ?_ hS ?_
            rotate_left 1
            · intro V hv; obtain ⟨z0, z1⟩ := HS.out V hv; have z2 := (HCs.out V hv).2.1; go_simp; first | done | with_reducible rfl
            try simp only [List.getElem_toArray, List.getElem_cons_zero, List.getElem_cons_succ, Act.put, List.setIfInBounds_toArray, List.set_cons_zero, List.set_cons_succ]
            refine Ord.Till.take' 1 (some 67) (oi := _) (x := ?_) rfl rfl (by kernel_rfl) (by kernel_rfl) (by kernel_rfl) (by kernel_rfl) (fun _ _ _ h => h) (by kernel_rfl) ?_ hS ?_
            rotate_left 1
            · intro V hv; obtain ⟨z0, z1⟩ := HS.out V hv; have z2 := (HCs.out V hv).2.1; go_simp; first | done | with_reducible rfl
            try simp only [List.getElem_toArray, List.getElem_cons_zero, List.getElem_cons_succ, Act.put, List.setIfInBounds_toArray, List.set_cons_zero, List.set_cons_succ]
            refine Ord.Till.take' 2 (some 68) (oi := _) (x := ?_) rfl rfl (by kernel_rfl) (by kernel_rfl) (by kernel_rfl) (by kernel_rfl) (fun _ _ _ h => h) (by kernel_rfl) ?_ hS ?_
            rotate_left 1
            · intro V hv; obtain ⟨z0, z1⟩ := HS.out V hv; have z2 := (HCs.out V hv).2.1; go_simp; first | done | with_reducible rfl
            try simp only [List.getElem_toArray, List.getElem_cons_zero, List.getElem_cons_succ, Act.put, List.setIfInBounds_toArray, List.set_cons_zero, List.set_cons_succ]
            refine Ord.Till.take' 3 (some 69) (oi := _) (x := ?_) rfl rfl (by kernel_rfl) (by kernel_rfl) (by kernel_rfl) (by kernel_rfl) (fun _ _ _ h => h) (by kernel_rfl) ?_ hS ?_
            rotate_left 1
            · intro V hv; obtain ⟨z0, z1⟩ := HS.out V hv; have z2 := (HCs.out V hv).2.1; go_simp; first | done | with_reducible rfl
            try simp only [List.getElem_toArray, List.getElem_cons_zero, List.getElem_cons_succ, Act.put, List.setIfInBounds_toArray, List.set_cons_zero, List.set_cons_succ]
            refine Ord.Till.take' 4 (some 70) (oi := _) (x := ?_) rfl rfl (by kernel_rfl) (by kernel_rfl) (by kernel_rfl) (by kernel_rfl) (fun _ _ _ h => h) (by kernel_rfl) ?_ hS ?_
            rotate_left 1
            · intro V hv; obtain ⟨z0, z1⟩ := HS.out V hv; have z2 := (HCs.out V hv).2.1; go_simp; first | done | with_reducible rfl
            try simp only [List.getElem_toArray, List.getElem_cons_zero, List.getElem_cons_succ, Act.put, List.setIfInBounds_toArray, List.set_cons_zero, List.set_cons_succ]
            refine Ord.Till.take' 5 (some 71) (oi := _) (x := ?_) rfl rfl (by kernel_rfl) (by kernel_rfl) (by kernel_rfl) (by kernel_rfl) (fun _ _ _ h => h) (by kernel_rfl) ?_ hS ?_
            rotate_left 1
            · intro V hv; obtain ⟨z0, z1⟩ := HS.out V hv; have z2 := (HCs.out V hv).2.1; go_simp; first | done | with_reducible rfl
            try simp only [List.getElem_toArray, List.getElem_cons_zero, List.getElem_cons_succ, Act.put, List.setIfInBounds_toArray, List.set_cons_zero, List.set_cons_succ]
            refine Ord.Till.two 6 10 (by kernel_rfl) rfl rfl (fun C hC => ?_) (fun C hC => ?_)
            · rw [if_pos (by kernel_rfl)]
              go_simp
              go_at_call 11
              refine (HRa.out _ hS).mono ?_
              rintro e w5 ⟨A3, n3, c3, A4, n4, c4, rfl, hr3, hr4, hb5⟩
              rw [HPP.out] at hr3 hr4 ⊢
              have hS : (fun V : World => Below w4.heap.size w4 V) w5 := hS.trans hb5
              refine hC.out _ _ (fun _ => hS) ?_
              clear hC C
              try simp only [List.getElem_toArray, List.getElem_cons_zero, List.getElem_cons_succ, Act.put, List.setIfInBounds_toArray, List.set_cons_zero, List.set_cons_succ]
              refine Ord.Till.take' 7 (some 65) (oi := _) (x := ?_) rfl rfl (by kernel_rfl) (by kernel_rfl) (by kernel_rfl) (by kernel_rfl) (fun _ _ _ h => h) (by kernel_rfl) ?_ hS ?_
              rotate_left 1
              · intro V hv; obtain ⟨z0, z1⟩ := HS.out V hv; have z2 := (HCs.out V hv).2.1; go_simp; first | done | with_reducible rfl
              try simp only [List.getElem_toArray, List.getElem_cons_zero, List.getElem_cons_succ, Act.put, List.setIfInBounds_toArray, List.set_cons_zero, List.set_cons_succ]
              refine Ord.Till.take' 8 (some 73) (oi := _) (x := ?_) rfl rfl (by kernel_rfl) (by kernel_rfl) (by kernel_rfl) (by kernel_rfl) (fun _ _ _ h => h) (by kernel_rfl) ?_ hS ?_
              rotate_left 1
              · intro V hv; obtain ⟨z0, z1⟩ := HS.out V hv; have z2 := (HCs.out V hv).2.1; go_simp; first | done | with_reducible rfl
              try simp only [List.getElem_toArray, List.getElem_cons_zero, List.getElem_cons_succ, Act.put, List.setIfInBounds_toArray, List.set_cons_zero, List.set_cons_succ]
              refine Ord.Till.take' 9 (some 74) (oi := _) (x := ?_) rfl rfl (by kernel_rfl) (by kernel_rfl) (by kernel_rfl) (by kernel_rfl) (fun _ _ _ h => h) (by kernel_rfl) ?_ hS ?_
              rotate_left 1
              · intro V hv; obtain ⟨z0, z1⟩ := HS.out V hv; have z2 := (HCs.out V hv).2.1; go_simp; first | done | with_reducible rfl
              try simp only [List.getElem_toArray, List.getElem_cons_zero, List.getElem_cons_succ, Act.put, List.setIfInBounds_toArray, List.set_cons_zero, List.set_cons_succ]
              have hn6 := heap_alloc_new w5 (.cells #[.slice none 0 0, .slice none 0 0] 31)
              have hn7 := heap_alloc_new w5 (.cells #[.slice A3 n3 c3, .slice A4 n4 c4] 31)
              have q0 := cell_of_row _ w5.heap.size 0 _ _ _ hn6
              have q1 := cell_of_row _ w5.heap.size 1 _ _ _ hn6
              have qf := fun o => frozen_of_row _ w5.heap.size o _ _ hn6
              have hS6 : Below w4.heap.size w4 (w5.alloc (.cells #[.slice none 0 0, .slice none 0 0] 31)) := hS.alloc hS.size _
              have hS7 : Below w4.heap.size w4 (w5.alloc (.cells #[.slice A3 n3 c3, .slice A4 n4 c4] 31)) := hS.alloc hS.size _
              have hb7 := (Below.refl w5.heap.size w5).alloc (Nat.le_refl _) (.cells #[.slice A3 n3 c3, .slice A4 n4 c4] 31)
              have hr7 := hid (And.intro (hr3.below hb7) (hr4.below hb7))
              clear hr3 hr4 hb7
              refine Ord.Till.step 10 (by kernel_rfl) rfl (fun C hC => ?_)
              go_simp
              refine hC.out _ _ (fun _ => hS6) ?_
              clear hC C
              try simp only [List.getElem_toArray, List.getElem_cons_zero, List.getElem_cons_succ, Act.put, List.setIfInBounds_toArray, List.set_cons_zero, List.set_cons_succ]
              refine Ord.Till.step 11 (by kernel_rfl) rfl (fun C hC => ?_)
              go_simp
              refine hC.out _ _ (fun _ => hS7) ?_
              clear hC C
              try simp only [List.getElem_toArray, List.getElem_cons_zero, List.getElem_cons_succ, Act.put, List.setIfInBounds_toArray, List.set_cons_zero, List.set_cons_succ]
              refine Ord.Till.step 12 (by kernel_rfl) rfl (fun C hC => ?_)
              go_simp
              refine hC.out _ _ (fun _ => hS7) ?_
              clear hC C
              try simp only [List.getElem_toArray, List.getElem_cons_zero, List.getElem_cons_succ, Act.put, List.setIfInBounds_toArray, List.set_cons_zero, List.set_cons_succ]
              refine Ord.Till.done (by kernel_rfl) ?_ _
              go_wp2_with fail
              go_meet
              exact ⟨w5.heap.size, A3, n3, c3, A4, n4, c4, rfl, rfl, hn7, hr7.out.1, hr7.out.2, hS7⟩
            · rw [if_pos (by kernel_rfl)]
              have HRb := hid fun (V : World) (hV : Below w4.heap.size w4 V) (hg : w4.heap.size < V.heap.size) => radd_any (fun b => Gm (Nx F wr w4) T b ∨ b = w4.heap.size) A1 A2 An n1 c1 n2 c2 nn cn' ws sn ns V (fun b hb => hb.elim ((hM4.out.below hV).gm b) (fun e => e ▸ hg)) ((hM4.out.2.2.2.1.sub (fun b hb e => e.elim id (fun e => absurd e (Nat.ne_of_lt hb)))).below hV) ((hM4.out.2.2.2.2.1.sub (fun b hb e => e.elim id (fun e => absurd e (Nat.ne_of_lt hb)))).below hV) ((HC.out _ (hM4.out.below hV).2.2.2.2.2.1).2.2.more (hM4.out.below hV).2.2.2.2.2.1.size) (by omega) (by omega)
              have hn6 : (w4.alloc (.cells #[.slice none 0 0, .slice none 0 0] 31)).drew.heap[w4.heap.size]? = _ := heap_alloc_new w4 (.cells #[.slice none 0 0, .slice none 0 0] 31)
              have hz6 : w4.heap.size < (w4.alloc (.cells #[.slice none 0 0, .slice none 0 0] 31)).drew.heap.size := (Array.getElem?_eq_some_iff.1 hn6).1
              have hS6 : Below w4.heap.size w4 (w4.alloc (.cells #[.slice none 0 0, .slice none 0 0] 31)).drew := ((Below.refl _ _).alloc (Nat.le_refl _) _).drew
              go_simp
              refine hC.out _ _ (fun _ => hS6) ?_
              clear hC C
              try simp only [List.getElem_toArray, List.getElem_cons_zero, List.getElem_cons_succ, Act.put, List.setIfInBounds_toArray, List.set_cons_zero, List.set_cons_succ]
              generalize (w4.alloc (.cells #[.slice none 0 0, .slice none 0 0] 31)).drew = wb at *
              refine Ord.Till.step 6 (by kernel_rfl) rfl (fun C hC => ?_)
              go_simp
              go_at_call 11
              refine (HRb.out _ hS6 hz6).mono ?_
              rintro e w5 ⟨A3, n3, c3, A4, n4, c4, rfl, hr3, hr4, hb5⟩
              rw [HPP.out] at hr3 hr4 ⊢
              have hS : (fun V : World => Below w4.heap.size w4 V) w5 := hS6.trans (hb5.mono hS6.size)
              have hn7 := (hb5.block _ hz6).trans hn6
              have q0 := cell_of_row _ w4.heap.size 0 _ _ _ hn7
              have q1 := cell_of_row _ w4.heap.size 1 _ _ _ hn7
              have qf := fun o => frozen_of_row _ w4.heap.size o _ _ hn7
              refine hC.out _ _ (fun _ => hS) ?_
              clear hC C
              try simp only [List.getElem_toArray, List.getElem_cons_zero, List.getElem_cons_succ, Act.put, List.setIfInBounds_toArray, List.set_cons_zero, List.set_cons_succ]
              refine Ord.Till.take' 7 (some 65) (oi := _) (x := ?_) rfl rfl (by kernel_rfl) (by kernel_rfl) (by kernel_rfl) (by kernel_rfl) (fun _ _ _ h => h) (by kernel_rfl) ?_ hS ?_
              rotate_left 1
              · intro V hv; obtain ⟨z0, z1⟩ := HS.out V hv; have z2 := (HCs.out V hv).2.1; go_simp; first | done | with_reducible rfl
              try simp only [List.getElem_toArray, List.getElem_cons_zero, List.getElem_cons_succ, Act.put, List.setIfInBounds_toArray, List.set_cons_zero, List.set_cons_succ]
              refine Ord.Till.take' 8 (some 73) (oi := _) (x := ?_) rfl rfl (by kernel_rfl) (by kernel_rfl) (by kernel_rfl) (by kernel_rfl) (fun _ _ _ h => h) (by kernel_rfl) ?_ hS ?_
              rotate_left 1
              · intro V hv; obtain ⟨z0, z1⟩ := HS.out V hv; have z2 := (HCs.out V hv).2.1; go_simp; first | done | with_reducible rfl
              try simp only [List.getElem_toArray, List.getElem_cons_zero, List.getElem_cons_succ, Act.put, List.setIfInBounds_toArray, List.set_cons_zero, List.set_cons_succ]
              refine Ord.Till.take' 9 (some 74) (oi := _) (x := ?_) rfl rfl (by kernel_rfl) (by kernel_rfl) (by kernel_rfl) (by kernel_rfl) (fun _ _ _ h => h) (by kernel_rfl) ?_ hS ?_
              rotate_left 1
              · intro V hv; obtain ⟨z0, z1⟩ := HS.out V hv; have z2 := (HCs.out V hv).2.1; go_simp; first | done | with_reducible rfl
              try simp only [List.getElem_toArray, List.getElem_cons_zero, List.getElem_cons_succ, Act.put, List.setIfInBounds_toArray, List.set_cons_zero, List.set_cons_succ]
              have hS7 : Below w4.heap.size w4 ((w5.setCell ⟨w4.heap.size, 0, none⟩ (.slice A3 n3 c3)).setCell ⟨w4.heap.size, 1, none⟩ (.slice A4 n4 c4)) := (hS.setCell (p := ⟨w4.heap.size, 0, none⟩) (Nat.le_refl _) _).setCell (p := ⟨w4.heap.size, 1, none⟩) (Nat.le_refl _) _
              have hn8 := heap_setCell_same _ w4.heap.size 1 _ _ (.slice A4 n4 c4) (heap_setCell_same w5 w4.heap.size 0 _ _ (.slice A3 n3 c3) hn7)
              have hr7 := hid (And.intro (((hr3.set (g := w4.heap.size) (i := 0) (y := .slice A3 n3 c3) (.inr rfl)).set (g := w4.heap.size) (i := 1) (y := .slice A4 n4 c4) (.inr rfl)).sub (G' := Gm (Nx F wr w4) T) (fun b _ h => .inl h)) (((hr4.set (g := w4.heap.size) (i := 0) (y := .slice A3 n3 c3) (.inr rfl)).set (g := w4.heap.size) (i := 1) (y := .slice A4 n4 c4) (.inr rfl)).sub (G' := Gm (Nx F wr w4) T) (fun b _ h => .inl h)))
              clear hr3 hr4
              refine Ord.Till.step 11 (by kernel_rfl) rfl (fun C hC => ?_)
              go_simp
              refine hC.out _ _ (fun _ => hS7) ?_
              clear hC C
              try simp only [List.getElem_toArray, List.getElem_cons_zero, List.getElem_cons_succ, Act.put, List.setIfInBounds_toArray, List.set_cons_zero, List.set_cons_succ]
              refine Ord.Till.step 12 (by kernel_rfl) rfl (fun C hC => ?_)
              go_simp
              refine hC.out _ _ (fun _ => hS7) ?_
              clear hC C
              try simp only [List.getElem_toArray, List.getElem_cons_zero, List.getElem_cons_succ, Act.put, List.setIfInBounds_toArray, List.set_cons_zero, List.set_cons_succ]
              refine Ord.Till.done (by kernel_rfl) ?_ _
              go_wp2_with fail
              go_meet
              exact ⟨w4.heap.size, A3, n3, c3, A4, n4, c4, rfl, rfl, hn8, hr7.out.1, hr7.out.2, hS7⟩
          case rest =>
            obtain ⟨g, A3, n3, c3, A4, n4, c4, rfl, rfl, hg, hr3, hr4, hb5⟩ := hcut
            have hM6 := hid (hM4.out.below hb5)
            have g0 := cell_of_row _ g 0 _ _ _ hg
            have g1 := cell_of_row _ g 1 _ _ _ hg
            clear HRa HS HCs hM4 hb5 hg
            have e0 := cell_of_row _ (T + 1) 0 _ _ _ hM6.out.2.2.1
            have e1 := cell_of_row _ (T + 1) 1 _ _ _ hM6.out.2.2.1
            have ef := fun o => frozen_of_row wc (T + 1) o _ _ hM6.out.2.2.1
            have hM7 := hid (hM6.out.put (q' := (ws', sn')) (A3 := A3) (n3 := n3) (c3 := c3) (A4 := A4) (n4 := n4) (c4 := c4) hr3 hr4)
            go_upto_region 17 with fail
            generalize (World.setCell wc ⟨T + 1, 0, none⟩ (.slice A3 (n3) (c3))).setCell ⟨T + 1, 1, none⟩ (.slice A4 (n4) (c4)) = w7 at *
            clear e0 e1 ef
            have hE := fun j => hM7.out.below (V := World.drewN w7 j) ⟨rfl, rfl, rfl, Nat.le_refl _, fun _ _ => rfl⟩
            have HLn := hid (fun j => llen_any (hE j).1)
            have HSn := hid (fun j => lseen_any (hE j).1 nm)
            have HHs := hid (fun j => rhas_any _ A4 n4 c4 sn' nm (World.drewN w7 j) (hE j).2.2.2.2.1.1 (by have h := hM7.out.2.2.2.2.1.1.1; simp only at h; omega))
            have hwl : (ws').length = n3 := hM7.out.2.2.2.1.1.1
            simp only [hwl] at HLn
            have d0 := cell_of_row _ (T + 1) 0 _ _ _ hM7.out.2.2.1
            have d1 := cell_of_row _ (T + 1) 1 _ _ _ hM7.out.2.2.1
            clear hwl hE
            go_upto_region 19 with fail
            go_quiet (first | (go_at_call 12; refine Calls.quiet_of_same (HLn.out _)) | (go_at_call 13; refine Calls.quiet_of_same (HSn.out _)) | (go_at_call 14; refine Calls.quiet_of_same (HHs.out _)))
            have hM8 := hid (hM7.out.below (V := World.drewN w7 nq) ⟨rfl, rfl, rfl, Nat.le_refl _, fun _ _ => rfl⟩)
            clear d0 d1 HLn HSn HHs
            go_wp2_with fail
            go_roundw
            · exact ⟨i + 1, _, (ws', sn'), A3, A4, n3, c3, n4, c4, by go_num, by omega, by show (ws').length ≤ _; omega, by show (sn').length ≤ _; omega, hM8⟩
            · simp [intOf]; omega
        · rcases ws with _ | ⟨a, ws⟩
          · have HTk := hid (ltake_none hM.out.1)
            go_upto_region 10 with (go_at_call 8; refine HTk.out.mono ?_; rintro e w4 ⟨rfl, rfl⟩)
            have d0 := cell_of_row _ (T + 1) 0 _ _ _ hM.out.2.2.1
            have d1 := cell_of_row _ (T + 1) 1 _ _ _ hM.out.2.2.1
            obtain rfl : n1 = 0 := hM.out.2.2.2.1.1.1.symm
            have HRt := hid (rtake_none A1 c1 (.slice A2 n2 c2) w4 A2 n2 c2 rfl)
            clear HTk
            go_wp2_with fail
            refine HRt.out.mono ?_
            rintro e w5 ⟨rfl, hb5⟩
            have hb6 := hb5.alloc hb5.size (.cells #[.slice A1 0 c1, .slice A2 n2 c2] 31)
            have hM6 := hid (hM.out.below hb6)
            have hn5 := heap_alloc_new w5 (.cells #[.slice A1 0 c1, .slice A2 n2 c2] 31)
            have g0 := cell_of_row _ w5.heap.size 0 _ _ _ hn5
            have g1 := cell_of_row _ w5.heap.size 1 _ _ _ hn5
            clear HRt hb5 hb6 d0 d1 hn5
            go_upto_region 11 with fail
            generalize w5.alloc (.cells #[.slice A1 0 c1, .slice A2 n2 c2] 31) = w6 at *
            have e0 := cell_of_row _ (T + 1) 0 _ _ _ hM6.out.2.2.1
            have e1 := cell_of_row _ (T + 1) 1 _ _ _ hM6.out.2.2.1
            have ef := fun o => frozen_of_row w6 (T + 1) o _ _ hM6.out.2.2.1
            have hM7 := hid (hM6.out.put (q' := ([], sn)) (A3 := A1) (n3 := 0) (c3 := c1) (A4 := A2) (n4 := n2) (c4 := c2) hM6.out.2.2.2.1 hM6.out.2.2.2.2.1)
            go_upto_region 12 with fail
            generalize (World.setCell w6 ⟨T + 1, 0, none⟩ (.slice A1 (0) (c1))).setCell ⟨T + 1, 1, none⟩ (.slice A2 (n2) (c2)) = w7 at *
            clear e0 e1 ef
            have hE := fun j => hM7.out.below (V := World.drewN w7 j) ⟨rfl, rfl, rfl, Nat.le_refl _, fun _ _ => rfl⟩
            have HLn := hid (fun j => llen_any (hE j).1)
            have HSn := hid (fun j => lseen_any (hE j).1 nm)
            have HHs := hid (fun j => rhas_any _ A2 n2 c2 sn nm (World.drewN w7 j) (hE j).2.2.2.2.1.1 (by omega))
            have hwl : (([] : List ByteArray)).length = 0 := hM7.out.2.2.2.1.1.1
            simp only [hwl] at HLn
            have d0 := cell_of_row _ (T + 1) 0 _ _ _ hM7.out.2.2.1
            have d1 := cell_of_row _ (T + 1) 1 _ _ _ hM7.out.2.2.1
            clear hwl hE
            go_upto_region 19 with fail
            go_quiet (first | (go_at_call 12; refine Calls.quiet_of_same (HLn.out _)) | (go_at_call 13; refine Calls.quiet_of_same (HSn.out _)) | (go_at_call 14; refine Calls.quiet_of_same (HHs.out _)))
            have hM8 := hid (hM7.out.below (V := World.drewN w7 nq) ⟨rfl, rfl, rfl, Nat.le_refl _, fun _ _ => rfl⟩)
            clear d0 d1 HLn HSn HHs
            go_wp2_with fail
            go_roundw
            · exact ⟨i + 1, _, (([] : List ByteArray), sn), A1, A2, 0, c1, n2, c2, by go_num, by omega, by show (([] : List ByteArray)).length ≤ _; omega, by show (sn).length ≤ _; omega, hM8⟩
            · simp [intOf]; omega
          · have HTk := hid (ltake_any hM.out.1 (by simp at hp1; omega))
            have hp1 : ws.length + 1 ≤ sumN (ss.take i) := hp1
            go_upto_region 10 with (go_at_call 8; refine HTk.out.mono ?_; rintro e w4 ⟨rfl, hl4⟩)
            have hM4 := hid (hM.out.left (p' := (ws, sn)) hl4)
            clear hl4 HTk hM
            have d0 := cell_of_row _ (T + 1) 0 _ _ _ hM4.out.2.2.1
            have d1 := cell_of_row _ (T + 1) 1 _ _ _ hM4.out.2.2.1
            have HRt := hid (rtake_any (Gm _ T) A1 A2 n1 c1 n2 c2 a ws w4 hM4.out.2.2.2.1 (by omega))
            go_wp2_with fail
            refine HRt.out.mono ?_
            rintro e w5 ⟨A3, n3, c3, rfl, hr5, hb5⟩
            have hb6 := hb5.alloc hb5.size (.cells #[.slice A3 n3 c3, .slice A2 n2 c2] 31)
            have hM6 := hid (hM4.out.below hb6)
            have hr6 := hid (hr5.below ((Below.refl _ w5).alloc (Nat.le_refl _) (.cells #[.slice A3 n3 c3, .slice A2 n2 c2] 31)))
            have hn5 := heap_alloc_new w5 (.cells #[.slice A3 n3 c3, .slice A2 n2 c2] 31)
            have g0 := cell_of_row _ w5.heap.size 0 _ _ _ hn5
            have g1 := cell_of_row _ w5.heap.size 1 _ _ _ hn5
            clear HRt hb5 hb6 d0 d1 hn5 hr5 hM4
            go_upto_region 11 with fail
            generalize w5.alloc (.cells #[.slice A3 n3 c3, .slice A2 n2 c2] 31) = w6 at *
            have e0 := cell_of_row _ (T + 1) 0 _ _ _ hM6.out.2.2.1
            have e1 := cell_of_row _ (T + 1) 1 _ _ _ hM6.out.2.2.1
            have ef := fun o => frozen_of_row w6 (T + 1) o _ _ hM6.out.2.2.1
            have hM7 := hid (hM6.out.put (q' := (ws, sn)) (A3 := A3) (n3 := n3) (c3 := c3) (A4 := A2) (n4 := n2) (c4 := c2) hr6.out hM6.out.2.2.2.2.1)
            go_upto_region 12 with fail
            generalize (World.setCell w6 ⟨T + 1, 0, none⟩ (.slice A3 (n3) (c3))).setCell ⟨T + 1, 1, none⟩ (.slice A2 (n2) (c2)) = w7 at *
            clear e0 e1 ef
            have hE := fun j => hM7.out.below (V := World.drewN w7 j) ⟨rfl, rfl, rfl, Nat.le_refl _, fun _ _ => rfl⟩
            have HLn := hid (fun j => llen_any (hE j).1)
            have HSn := hid (fun j => lseen_any (hE j).1 nm)
            have HHs := hid (fun j => rhas_any _ A2 n2 c2 sn nm (World.drewN w7 j) (hE j).2.2.2.2.1.1 (by omega))
            have hwl : (ws).length = n3 := hM7.out.2.2.2.1.1.1
            simp only [hwl] at HLn
            have d0 := cell_of_row _ (T + 1) 0 _ _ _ hM7.out.2.2.1
            have d1 := cell_of_row _ (T + 1) 1 _ _ _ hM7.out.2.2.1
            clear hwl hE
            go_upto_region 19 with fail
            go_quiet (first | (go_at_call 12; refine Calls.quiet_of_same (HLn.out _)) | (go_at_call 13; refine Calls.quiet_of_same (HSn.out _)) | (go_at_call 14; refine Calls.quiet_of_same (HHs.out _)))
            have hM8 := hid (hM7.out.below (V := World.drewN w7 nq) ⟨rfl, rfl, rfl, Nat.le_refl _, fun _ _ => rfl⟩)
            clear d0 d1 HLn HSn HHs
            go_wp2_with fail
            go_roundw
            · exact ⟨i + 1, _, (ws, sn), A3, A2, n3, c3, n2, c2, by go_num, by omega, by show (ws).length ≤ _; omega, by show (sn).length ≤ _; omega, hM8⟩
            · simp [intOf]; omega
      · obtain rfl : i = n := by omega
        have hii : ¬ (i : Int) < (i : Int) := by omega
        go_wp2_with fail
        go_ret
        exact ⟨rfl, hM.out.2.2.2.2.2.1⟩
end Go.Proofs.Ytbcjbembhajgcaa.Wnt
