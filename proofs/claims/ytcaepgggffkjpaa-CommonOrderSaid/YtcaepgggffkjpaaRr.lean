/-
  common: Find.
-/
import Derived.Test.YtcaepgggffkjpaaRq
namespace Go.Proofs.Ytcaepgggffkjpaa.Cmn
open Go.RowKit Go.Proofs Go.Proofs.Ytcaepgggffkjpaa.Byt
open Go.Proofs.Ytcaepgggffkjpaa.Tab (tl_inj)

theorem results_two {fn : Func} {p q : Tmp} {ty : TypeId} (h : fn.results = #[.cell p ty, .tmp q]) (tmps : Array Value) (w : World) (g : Nat) (cs : Array Value) (v : Value)
    (hp : tmps.getD p undef = .pointer (some ⟨g, 0, none⟩)) (hq : tmps.getD q undef = v) (hl : (loadVar ty ⟨g, 0, none⟩).run Try.prog w = .ok (.agg cs) w) :
    (results fn tmps).run Try.prog w = .ok (.tuple #[.agg cs, v]) w := by
  have hp' : tmps[p]?.getD undef = .pointer (some ⟨g, 0, none⟩) := by simpa using hp
  have hq' : tmps[q]?.getD undef = v := by simpa using hq
  simp [results, h, hp', hq', asAddr, hl]
theorem retF {fn : Func} {p q : Tmp} {T : Ending → World → Prop} {a : Act} {w : World} {g : Nat} {cs : Array Value} {v : Value} (h : fn.results = #[.cell p 32, .tmp q]) (hp : a.tmps.getD p undef = .pointer (some ⟨g, 0, none⟩)) (hq : a.tmps.getD q undef = v) (hd : a.defers = [])
    (hg : w.heap[g]? = some (.cells cs 32 (0, 0))) (hs : cs.size = 3) (hT : T (.returned (.tuple #[.agg cs, v])) w) : bodyPost Try.prog fn T .ret a w :=
  bodyPost_ret (v := .tuple #[.agg cs, v]) (results_two h _ _ g cs v hp hq (run_loadVar_row w g 32 32 cs (0, 0) _ hg Try.underlying32 rfl (by rw [hs]; kernel_rfl))) hd hT
theorem fnd_step {l : List Slt} {k : Nat} {x : ByteArray} (hk : k < l.length) (h : ¬ l[k].name = x) : fnd (l.drop k) x = fnd (l.drop (k + 1)) x := by
  unfold fnd
  rw [List.drop_eq_getElem_cons hk, List.find?_cons_of_neg (by simpa using h)]
theorem fnd_here {l : List Slt} {k : Nat} {x : ByteArray} (hk : k < l.length) (h : l[k].name = x) : fnd (l.drop k) x = some l[k] := by
  unfold fnd
  rw [List.drop_eq_getElem_cons hk, List.find?_cons_of_pos (by simpa using h)]

set_option linter.unusedSimpArgs false in
set_option maxRecDepth 100000 in
set_option maxHeartbeats 2000000 in
theorem pfind_any (K : Nat) (A : Option Addr) (n c : Nat) (l : List Slt) (x : ByteArray) (w : World) (h : RdT w K A n l) (hK : K ≤ w.heap.size) (hn : n ≤ 1000) :
    Calls Try.prog 12 #[.slice A n c, .string x] w (FndP l x w) := by
  have Hl := hid h.1
  have HQ0 : Hid ((w.alloc (.cells #[.string ⟨#[]⟩, .int .i64 0, .int .i64 0] 32)).heap[w.heap.size]? = some (.cells #[.string ⟨#[]⟩, .int .i64 0, .int .i64 0] 32 (0, 0))) := hid (heap_alloc_new w _)
  have HB0 := hid ((Below.refl w.heap.size w).alloc (Nat.le_refl _) (.cells #[.string ⟨#[]⟩, .int .i64 0, .int .i64 0] 32))
  have HF0 : Hid (fnd l x = fnd (l.drop 0) x) := hid rfl
  go_enter Try.func12, Try.ntmps12
  go_wp2_with fail
  go_loopw [10] (fun iv W => ∃ k : Nat, iv = .int .i64 (k : Int) ∧ k ≤ n ∧ Hid (W.heap[w.heap.size]? = some (.cells #[.string ⟨#[]⟩, .int .i64 0, .int .i64 0] 32 (0, 0))) ∧ Hid (Below w.heap.size w W) ∧ Hid (fnd l x = fnd (l.drop k) x)) (fun iv _ => n - (intOf iv).toNat)
  case atStart => exact ⟨0, rfl, by omega, HQ0, HB0, HF0⟩
  case round =>
    obtain ⟨k, rfl, hk, hQ, hB, hF⟩ := hrel
    clear HQ0 HB0 HF0
    have hbs := hB.out.size
    have hlt0 : w.heap.size < wr.heap.size := (Array.getElem?_eq_some_iff.1 hQ.out).1
    by_cases hlt : k < n
    · have hkl : k < l.length := by have := Hl.out; omega
      have hki : (k : Int) < (n : Int) := by omega
      obtain ⟨b, o, rfl, _, p0, p1, p2⟩ := (h.below (hB.out.mono hK)).at_ hkl
      have HT := hid (fun e => fnd_step (x := x) hkl e)
      have HH := hid (fun e => fnd_here (x := x) hkl e)
      generalize l[k] = s at *
      obtain ⟨s0, s1, s2⟩ := s
      have hbA := (Below.refl wr.heap.size wr).alloc (Nat.le_refl _) (.cells #[.string s0, .int .i64 s1, .int .i64 s2] 32)
      have HQ1 := hid ((hbA.block _ hlt0).trans hQ.out)
      have HB1 := hid (hB.out.trans (hbA.mono hbs))
      have HN1 : Hid ((wr.alloc (.cells #[.string s0, .int .i64 s1, .int .i64 s2] 32)).heap[wr.heap.size]? = some (.cells #[.string s0, .int .i64 s1, .int .i64 s2] 32 (0, 0))) := hid (heap_alloc_new wr _)
      clear hbA hQ hB
      by_cases hx : s0 = x
      · have HR : Hid (fnd l x = some ⟨s0, s1, s2⟩) := hid (hF.out.trans (HH.out hx))
        have e2 : (s0.toList == x.toList) = true := by rw [hx]; simp
        clear hx HT HH hF
        go_upto_region 5 with fail
        generalize wr.alloc (.cells #[.string s0, .int .i64 s1, .int .i64 s2] 32) = W1 at *
        have n0 := cell_of_row _ wr.heap.size 0 _ _ _ HN1.out
        have n1 := cell_of_row _ wr.heap.size 1 _ _ _ HN1.out
        have n2 := cell_of_row _ wr.heap.size 2 _ _ _ HN1.out
        go_wp2_with (refine stC rfl _ _ rfl w.heap.size #[.string s0, .int .i64 s1, .int .i64 s2] rfl rfl _ HQ1.out rfl rfl (slot_one _ _ _) ?_)
        refine retF (g := w.heap.size) (cs := #[.string s0, .int .i64 s1, .int .i64 s2]) rfl rfl rfl rfl (setRow_heap _ _ _ _ _ _ HQ1.out) rfl ⟨?_, below_setRow HB1.out (Nat.le_refl _) _⟩
        rw [HR.out]
        rfl
      · have HF1 := hid (hF.out.trans (HT.out hx))
        have e2 : (s0.toList == x.toList) = false := by
          simp only [beq_eq_false_iff_ne]
          exact fun e => hx (tl_inj e)
        clear hx HT HH hF
        go_wp2_with fail
        go_roundw
        · exact ⟨k + 1, by go_num, by omega, HQ1, HB1, HF1⟩
        · simp [intOf]; omega
    · obtain rfl : k = n := by omega
      have hki : ¬ (k : Int) < (k : Int) := by omega
      have HR : Hid (fnd l x = none) := hid (by have := hF.out; rwa [List.drop_of_length_le (by have := Hl.out; omega)] at this)
      clear hF
      go_wp2_with (refine stC rfl _ _ rfl w.heap.size #[.string ⟨#[]⟩, .int .i64 0, .int .i64 0] rfl rfl _ hQ.out rfl rfl (slot_one _ _ _) ?_)
      refine retF (g := w.heap.size) (cs := #[.string ⟨#[]⟩, .int .i64 0, .int .i64 0]) rfl rfl rfl rfl (setRow_heap _ _ _ _ _ _ hQ.out) rfl ⟨?_, below_setRow hB.out (Nat.le_refl _) _⟩
      rw [HR.out]
      rfl
end Go.Proofs.Ytcaepgggffkjpaa.Cmn
