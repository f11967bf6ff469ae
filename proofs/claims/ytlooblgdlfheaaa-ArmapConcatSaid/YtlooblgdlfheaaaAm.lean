/-
  The frame of the laws of armap: entries as arguments.
-/
import Derived.Test.YtlooblgdlfheaaaAk
import Derived.Test.YtlooblgdlfheaaaMp
namespace Go.Proofs.Ytlooblgdlfheaaa.Frame
open Go.ChangeShapes Go.WideShapes Go.ChangeAt Go.RowKit Go.Proofs Go.Deep
set_option maxRecDepth 100000

/-- Entries, as they come in. -/
theorem open_ents_at {H : Type} {enc : TypeId × Value → H} {W : World} {fuel : Nat} {v : Value} {x : DataW H × List MemPlace} (hf : DataW.trod enc Try.prog W 0 (fun _ => true) true fuel 22 [v] = some x) :
    ∃ A n c xs, v = .slice A n c ∧ Amp.RdE W W.heap.size A n xs ∧ n ≤ c ∧ c ≤ maxLen := by
  rcases Go.Deep.open_slice Try.underlying22 hf with ⟨hcs, _⟩ | ⟨a, len, cap, m, n', D, Pl, hcs, _, hl, hm, hmm, _, hi⟩
  · injection hcs with hcs
    exact ⟨none, 0, 0, [], hcs, Amp.RdE.nil _ _ _, Nat.le_refl _, by unfold maxLen; omega⟩
  · injection hcs with hcs
    have hmc : m = cap := by simpa using hmm
    have hsz : Try.prog.cellsOf 40 = 2 := by kernel_rfl
    by_cases h0 : len = 0
    · subst h0
      exact ⟨some a, 0, cap, [], hcs, Amp.RdE.nil _ _ _, hl, hm⟩
    · obtain ⟨b, o, spot⟩ := a
      have hspot : spot = none := by
        obtain ⟨cs', hc, _⟩ := hi 0 (by omega)
        rw [hsz] at hc
        obtain ⟨_, hlen, hat⟩ := World.cells?_some hc
        have h1 := hat 0 (by omega)
        rw [List.getElem?_eq_getElem (by omega)] at h1
        have := World.cell?_spot h1
        simpa [Addr.add] using this
      subst hspot
      have ha : ∀ i j, ((⟨b, o, none⟩ : Addr).add i).add j = ⟨b, o + i + j, none⟩ := fun i j => by
        unfold Addr.add
        split <;> split <;> simp_all
      have key : ∀ i, i < len → ∃ y : Amp.En, b < W.heap.size ∧ Amp.ECells W b (o + i * 2) y := fun i hil => by
        obtain ⟨cs', hc, ht⟩ := hi i (by omega)
        rw [hsz] at hc
        obtain ⟨ys, k, _, _, hcl, hyl, hg⟩ := DataW.trod_struct Try.underlying40 ht
        obtain ⟨_, _, hat⟩ := World.cells?_some hc
        rw [hsz] at hcl
        match cs', hcl with
        | [c0, c1], _ =>
          have hone : oneCellFields Try.prog _ = true := (by kernel_rfl : oneCellFields Try.prog (match Try.prog.underlying 40 with | some (.struct fs) => fs | _ => #[]) = true)
          obtain ⟨y0, g0⟩ := one_field hone hyl hg 0 _ rfl c0 rfl
          obtain ⟨y1, g1⟩ := one_field hone hyl hg 1 _ rfl c1 rfl
          obtain ⟨s, e0, _, hs⟩ := DataW.trod_string Try.underlying9 g0
          obtain ⟨t, e1, _, _⟩ := DataW.trod_int Try.underlying3 g1
          injection e0 with e0; injection e1 with e1
          subst e0; subst e1
          have h0 := hat 0 (by omega)
          have h1 := hat 1 (by omega)
          rw [ha] at h0 h1
          exact ⟨⟨s, t⟩, World.block_lt_of_cell? _ _ (h0.trans rfl), h0, h1⟩
      obtain ⟨xs, hxl, hx⟩ := listed len key
      refine ⟨_, len, cap, xs, hcs, ⟨hxl, fun k hk => ?_⟩, hl, hm⟩
      obtain ⟨hb, hc⟩ := hx k hk
      exact ⟨b, o, rfl, hb, hc⟩
theorem open_ents {H : Type} {enc : TypeId × Value → H} {W : World} {base : Nat} {v : Value} {d : DataW H} {p : List MemPlace} (hok : Value.okWide Try.prog W .any base 22 v)
    (ht : DataW.Trod enc Try.prog W 0 (fun _ => true) true 22 v d p) : ∃ A n c xs, v = .slice A n c ∧ Amp.RdE W W.heap.size A n xs ∧ n ≤ c ∧ c ≤ maxLen := by
  obtain ⟨A, n, c, rfl⟩ := okWide_slice Try.underlying22 hok
  obtain ⟨fuel, hf⟩ := ht
  exact open_ents_at hf
end Go.Proofs.Ytlooblgdlfheaaa.Frame
