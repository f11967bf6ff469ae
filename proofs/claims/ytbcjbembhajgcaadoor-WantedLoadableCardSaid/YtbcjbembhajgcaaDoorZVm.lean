/-
  symtab: the program's names with a condition.
-/
import Derived.Test.YtbcjbembhajgcaaDoorZVj
import Derived.Test.YtbcjbembhajgcaaDoorZVk
import Derived.Test.YtbcjbembhajgcaaDoorZBh
namespace Go.Proofs.YtbcjbembhajgcaaDoor.Tab
open Go.RowKit Go.Proofs Go.Proofs.YtbcjbembhajgcaaDoor.Byt
open Go.Proofs.YtbcjbembhajgcaaDoor.Bnd

theorem srt_nil : srt [] = [] := List.eq_nil_of_length_eq_zero (srt_len [])
theorem sown_keep {w w' : World} {K n : Nat} {v : Value} {l : List ByteArray} (h : Sls.Own w K v n l) (hk : ∀ g, K ≤ g → g < w.heap.size → w'.heap[g]? = w.heap[g]?) : Sls.Own w' K v n l := by
  obtain ⟨hl, h⟩ := h
  refine ⟨hl, ?_⟩
  rcases h with h | ⟨g, cap, cur, m, hv, hg, hh, rest⟩
  · exact .inl h
  · exact .inr ⟨g, cap, cur, m, hv, hg, (hk g hg (Array.getElem?_eq_some_iff.1 hh).1).trans hh, rest⟩
theorem Rg.low {w w' : World} {r M K : Nat} {es : Array MapEntry} {seen : Array Nat} (h : Rg w r M es seen) (hb : Below K w w') (hr : r < K) (hM : M < K) : Rg w' r M es seen := by
  obtain ⟨clock, since, c0, a, b, c, d⟩ := h
  exact ⟨clock, since, c0, (hb.block M hM).trans a, b, (hb.block r hr).trans c, d⟩
theorem Rg.left {w : World} {r M : Nat} {es : Array MapEntry} {seen : Array Nat} (h : Rg w r M es seen) : w.rangeLeft M r = (leftOf es seen).size := by
  obtain ⟨_, _, _, hb, _, hr, _⟩ := h
  simp only [World.rangeLeft, hb, hr]
/-- What an entry of the map looks like. -/
def Shp (es : Array MapEntry) (U : ByteArray → List Us) : Prop := ∀ x ∈ es.toList, ∃ n v, x.key = .string n ∧ x.val = .agg (row (allL (U n)) v) ∧ v.oneCell' = true
theorem Tm.shp {w : World} {K M : Nat} {U : ByteArray → List Us} (h : Tm w K M U) : ∃ es clock, w.heap[M]? = some (.map es clock) ∧ MapKept.Stamped es clock ∧ Keys es U ∧ Shp es U := by
  obtain ⟨es, clock, hb, hs, hK, hv⟩ := h
  refine ⟨es, clock, hb, hs, hK, fun x hx => ?_⟩
  obtain ⟨n, hn, _⟩ := hK.1 x hx
  obtain ⟨v, e, ho⟩ := hv x hx n hn
  exact ⟨n, v, hn, e, pl_slice ho.pl⟩
/-- A function that is handed on is entered. -/
def Enter (f : FuncId) : Prop := ∀ (args : Array Value) (w : World), (callFunc f args).run Tryd.prog w = .ok (.enter f args) w
theorem enter_any {f : FuncId} {fn : Func} {c : Code} (hf : Tryd.prog.funcs[f]? = some fn) (hname : (fn.name == "runtime.NumGoroutine") = false) (hb : fn.body = some c) : Enter f := fun args w => by
  have h1 : fn.name ≠ "runtime.NumGoroutine" := by simpa using hname
  simp [callFunc, hf, h1, hb]
set_option linter.unusedSimpArgs false in
set_option maxRecDepth 100000 in
set_option maxHeartbeats 4000000 in
theorem with_any (K : Nat) (r : Option Addr) (mo : Option Nat) (U : ByteArray → List Us) (w : World) (hA : AllOf w r mo) (hM : MapOf w K mo U) (f : FuncId) (q : St → Bool) (hent : Enter f)
    (hq : ∀ (s : St) (v : Value) (V : World), Calls Tryd.prog f #[.agg (row s v)] V fun e V' => e = .returned (.bool (q s)) ∧ Below V.heap.size V V')
    (N L : List ByteArray) (hN : Asc N) (hU : ∀ x, U x ≠ [] → x ∈ N) (hNl : N.length ≤ 100000) (hL : Asc L) (hmem : ∀ x, x ∈ L ↔ U x ≠ [] ∧ q (allL (U x)) = true) :
    Calls Tryd.prog 22 #[.pointer r, .func (.func f) #[] #[]] w (NmsP L w) := by
  have HA := hid (all_any r mo w hA)
  rcases hM with ⟨rfl, h0⟩ | ⟨M, rfl, _, hT⟩
  · have hLn : L = [] := List.eq_nil_iff_forall_not_mem.2 fun x hx => ((hmem x).1 hx).1 (h0 x)
    have hr := run_range_nilMap (P := Tryd.prog) w _ _ _ underM
    have hnx := fun ty => run_next_nilMap (P := Tryd.prog) w ty 0 0 #[]
    have hbX := (Below.refl w.heap.size w).alloc (Nat.le_refl _) (.mapIter none 0 #[] 0)
    have hso := psort_any w.heap.size none 0 0 [] (w.alloc (.mapIter none 0 #[] 0)) (Sls.Own.nil _ _) (Nat.zero_le _)
    obtain ⟨W0, hW0⟩ : ∃ W0, w.alloc (.mapIter none 0 #[] 0) = W0 := ⟨_, rfl⟩
    rw [hW0] at hr hnx hbX hso
    have Hso := hid hso
    have HL := hid hLn
    clear hq hent hA hN hU hNl hL hmem h0 hW0 hso hLn
    go_enter Tryd.func22, Tryd.ntmps22
    go_wp2_with fail
    refine HA.out.mono ?_
    rintro e w1 ⟨rfl, rfl⟩
    clear HA
    go_wp2_with fail
    refine wp_loop_rounds 1 ?_
    rw [rounds_succ]
    go_wp2_with fail
    refine Hso.out.mono ?_
    rintro e w5 ⟨rfl, ho5, hb5⟩
    clear Hso
    go_wp2_with fail
    go_ret
    unfold NmsP
    rw [srt_nil] at ho5
    rw [HL.out]
    exact ⟨none, 0, rfl, ho5, hbX.trans hb5⟩
  obtain ⟨es, clock, hb, hs, hK, hS⟩ := hT.shp
  have HQ := hid hq
  have HE := hid hent
  have HLe := hid fun (ss : List ByteArray) (h1 : ss.Nodup) (h2 : ∀ n, n ∈ ss ↔ U n ≠ [] ∧ q (allL (U n)) = true) => srt_eq h1 hL fun x => (h2 x).trans (hmem x).symm
  have hMlt := (Array.getElem?_eq_some_iff.1 hb).1
  clear hq hent hA hT
  go_enter Tryd.func22, Tryd.ntmps22
  go_wp2_with fail
  refine HA.out.mono ?_
  rintro e w1 ⟨rfl, rfl⟩
  clear HA
  go_wp2_with (at_range; refine wp_range _ rfl _ rfl rfl hb hs ?_; intro w0 hrg0 hb0 hs0)
  go_frame
  have Hs0 := hid hs0
  clear hs0
  go_loopw [5] (fun v W => ∃ (m : Nat) (A1 : Option Addr) (c1 : Nat) (ss : List ByteArray) (seen : Array Nat), v = .slice A1 m c1 ∧ Sls.Own W w0.heap.size (.slice A1 m c1) m ss ∧ Rg W w1.heap.size M es seen ∧ Below w1.heap.size w1 W ∧ w0.heap.size ≤ W.heap.size ∧ Hid (Got es seen (fun n => q (allL (U n))) ss)) (fun _ W => W.rangeLeft M w1.heap.size)
  case atStart => exact ⟨0, none, 0, [], #[], rfl, Sls.Own.nil _ _, hrg0, hb0, Nat.le_refl _, hid (Got.start _ _)⟩
  case round =>
    obtain ⟨m, A1, c1, ss, seen, rfl, hO, hR, hB, hz, hG⟩ := hrel
    clear hrg0 hb0
    go_wp2_with (at_next; refine wp_next _ rfl _ rfl rfl hR ?_ ?_)
    · intro h0
      obtain ⟨hD1, hD2⟩ := hG.out.done hK (by rw [h0]; rfl)
      have hE := HLe.out ss hD1 hD2
      have hl := hG.out.len hK hN hU
      have hm := hO.1
      have hLm : L.length = m := by rw [← hE, srt_len, hm]
      have HSo := hid (psort_any w0.heap.size A1 m c1 ss wr hO (by omega))
      have Hz := hid hz
      have HEL := hid hE
      have HLm := hid hLm
      clear hD1 hD2 hE hl hm hO hR h0 hG hz hLm hN hU hmem HLe
      go_wp2_with fail
      refine HSo.out.mono ?_
      rintro e w5 ⟨rfl, ho5, hb5⟩
      clear HSo
      go_wp2_with fail
      go_ret
      rw [HEL.out] at ho5
      unfold NmsP
      rw [HLm.out]
      exact ⟨A1, c1, rfl, ho5.more (by have := Hs0.out; omega), hB.trans (hb5.mono (by have := Hs0.out; omega))⟩
    · intro e he' w2 hR2 hfr hsz hbel hlt hen
      have he : e ∈ (leftOf es seen).toList := by simpa using he'
      obtain ⟨n, v, hk, hv, hv1⟩ := hS e (mem_leftOf he).1
      rw [hk, hv] at hen ⊢
      have hO2 := sown_keep hO (w' := w2) fun g hg _ => hfr g (by have := Hs0.out; omega)
      have hB2 := hB.trans (hbel _ (Nat.le_refl _))
      have hGy : Hid (q (allL (U n)) = true → Got es (seen.push e.born) (fun n => q (allL (U n))) (ss ++ [n])) := hid fun hq => hG.out.yes hs he hk hq
      have hGn : Hid (q (allL (U n)) = false → Got es (seen.push e.born) (fun n => q (allL (U n))) ss) := hid fun hq => hG.out.no hs he hk hq
      have hl := hG.out.len hK hN hU
      have hm := hO.1
      have hRl := hR.left
      have hm2 : m ≤ 100000 := by omega
      generalize allL (U n) = s at *
      have hbX := (Below.refl w2.heap.size w2).alloc (Nat.le_refl _) (.cells zS8 57)
      have hnX := heap_alloc_new w2 (.cells zS8 57)
      unfold zS8 at hbX hnX
      obtain ⟨W3, hW3⟩ : ∃ W3, w2.alloc (.cells #[.int .i64 0, .int .i64 0, .int .i64 0, .int .i64 0, .bool false, .bool false, .bool false, .slice none 0 0] 57) = W3 := ⟨_, rfl⟩
      rw [hW3] at hbX hnX
      have hle2 : w1.heap.size ≤ w2.heap.size := by have := Hs0.out; omega
      have hle3 : w0.heap.size ≤ w2.heap.size := by omega
      have HB4 := below_setRow' hbX (g := w2.heap.size) (Nat.le_refl _) (row s v)
      have HF := hid fun (V : World) (h : Below (W3.setRow w2.heap.size (row s v)).heap.size (W3.setRow w2.heap.size (row s v)) V) => (by
        have b := HB4.trans (h.mono HB4.size)
        exact ⟨hO2.below b, hR2.below b, hB2.trans (b.mono hle2), Nat.le_trans hle3 b.size⟩ : Sls.Own V w0.heap.size (.slice A1 m c1) m ss ∧ Rg V w1.heap.size M es (seen.push e.born) ∧ Below w1.heap.size w1 V ∧ w0.heap.size ≤ V.heap.size)
      obtain ⟨u, hu⟩ : ∃ u, w2.heap.size = u := ⟨_, rfl⟩
      rw [hu] at hnX HF
      have HO4 := row_one (s := s) hv1
      have Hu4 := hid (setRow_heap W3 u _ (row s v) _ _ hnX)
      have HX := hid hnX
      have hent := HE.out
      unfold Enter at hent
      have HC := hid (HQ.out s v)
      obtain ⟨b, hb'⟩ : ∃ b, q s = b := ⟨_, rfl⟩
      rw [hb'] at HC hGy hGn
      have Hlt := hid hlt
      clear hbX hnX hG hO hR hB hfr hbel hk hv hlt hl hm he he' hN hU hmem HLe hz hsz hb' hO2 hR2 hB2 HB4 hle2 hle3
      obtain ⟨t0, t1, t2, t3, t4, t5, t6, tl⟩ := s
      simp only [row] at *
      go_wp2_with (first | (refine stS rfl _ _ rfl u _ rfl rfl _ HX.out rfl rfl HO4 ?_) | (refine ldS rfl _ rfl u rfl _ Hu4.out rfl ?_))
      generalize W3.setRow u #[.int .i64 t0, .int .i64 t1, .int .i64 t2, .int .i64 t3, .bool t4, .bool t5, .bool t6, v] = W4 at *
      refine (HC.out W4).mono ?_
      rintro e5 w5 ⟨rfl, hb5⟩
      obtain ⟨hO5, hR5, hB5, hz5⟩ := HF.out w5 hb5
      clear HC HF hb5
      cases b
      · have HG := hid (hGn.out rfl)
        clear hGy hGn
        go_wp2_with fail
        go_roundw
        · exact ⟨m, A1, c1, ss, seen.push e.born, rfl, hO5, hR5, hB5, hz5, HG.out⟩
        · rw [hR5.left, hRl]; exact Hlt.out
      · have HG := hid (hGy.out rfl)
        clear hGy hGn
        go_wp2_with (at_builtin; refine Sls.wpList_push w5 w0.heap.size (.slice A1 m c1) m _ n hO5 hz5 (by omega) rfl (.tmp 19) (.tmp 21) rfl rfl rfl ?_; intro v6 w6 ho6 hb6 _ _; obtain ⟨A6, c6, rfl, _⟩ := ho6.reads)
        have hR6 := hR5.low hb6 (by have := Hs0.out; omega) (by have := Hs0.out; omega)
        have hB6 := hB5.trans (hb6.mono (by have := Hs0.out; omega))
        have hz6 := hb6.size
        clear hb6 hO5 hB5
        go_roundw
        · exact ⟨m + 1, A6, c6, ss ++ [n], seen.push e.born, rfl, ho6, hR6, hB6, by omega, HG.out⟩
        · rw [hR6.left, hRl]; exact Hlt.out
end Go.Proofs.YtbcjbembhajgcaaDoor.Tab
