/-
  The frame of common's laws (plain rows): resolutions as arguments; the program's contracts together.
-/
import Derived.Test.YtcaepgggffkjpaaRs
import Derived.Test.YtcaepgggffkjpaaMp
import Derived.Deep.Fields
import Derived.Deep.Slices
namespace Go.Proofs.Ytcaepgggffkjpaa.Cmn
/-- What the program gives. -/
theorem pc16 : PC := ⟨playout_any, pfind_any⟩
end Go.Proofs.Ytcaepgggffkjpaa.Cmn
namespace Go.Proofs.Ytcaepgggffkjpaa.Frame
open Go.ChangeShapes Go.WideShapes Go.ChangeAt Go.RowKit Go.Proofs Go.Deep
open Go.Proofs.Ytcaepgggffkjpaa.Bnd (Us)
open Go.Proofs.Ytcaepgggffkjpaa.Cmn (RdR rcell rcells rcell_len flat_len flat_at)
set_option maxRecDepth 100000

theorem listed16 {α : Type} {p : Nat → α → Prop} : ∀ n : Nat, (∀ i, i < n → ∃ y, p i y) → ∃ xs : List α, xs.length = n ∧ ∀ k (h : k < xs.length), p k xs[k]
  | 0, _ => ⟨[], rfl, fun k h => absurd h (by simp)⟩
  | n + 1, h => by
    obtain ⟨xs, hl, hx⟩ := listed16 n fun i hi => h i (by omega)
    obtain ⟨y, hy⟩ := h n (by omega)
    refine ⟨xs ++ [y], by simp [hl], fun k hk => ?_⟩
    by_cases hkn : k < n
    · rw [List.getElem_append_left (by omega)]
      exact hx k (by omega)
    · rw [List.length_append, List.length_singleton] at hk
      obtain rfl : k = xs.length := by omega
      rw [List.getElem_append_right (Nat.le_refl _)]
      simpa [hl] using hy
/-- A resolution's cells. -/
theorem res_at {H : Type} {enc : TypeId × Value → H} {W : World} {fuel : Nat} {cs : List Value} (hsz : cs.length = 5) {x : DataW H × List MemPlace} (hf : DataW.trod enc Try.prog W 0 (fun _ => true) true fuel 40 cs = some x) : ∃ q : Us, cs = rcell q := by
  match cs, hsz with
  | [c0, c1, c2, c3, c4], _ =>
    obtain ⟨xs, n, _, _, _, hyl, hg⟩ := DataW.trod_struct Try.underlying40 hf
    have hone : oneCellFields Try.prog _ = true := (by kernel_rfl : oneCellFields Try.prog (match Try.prog.underlying 40 with | some (.struct fs) => fs | _ => #[]) = true)
    obtain ⟨y0, g0⟩ := one_field hone hyl hg 0 _ rfl c0 rfl
    obtain ⟨y1, g1⟩ := one_field hone hyl hg 1 _ rfl c1 rfl
    obtain ⟨y2, g2⟩ := one_field hone hyl hg 2 _ rfl c2 rfl
    obtain ⟨y3, g3⟩ := one_field hone hyl hg 3 _ rfl c3 rfl
    obtain ⟨y4, g4⟩ := one_field hone hyl hg 4 _ rfl c4 rfl
    obtain ⟨s, e0, _, _⟩ := DataW.trod_string Try.underlying9 g0
    obtain ⟨t, e1, _, _⟩ := DataW.trod_int Try.underlying3 g1
    obtain ⟨u, e2, _, _⟩ := DataW.trod_int Try.underlying3 g2
    obtain ⟨z, e3, _, _⟩ := DataW.trod_int Try.underlying3 g3
    obtain ⟨v, e4, _, _⟩ := DataW.trod_int Try.underlying3 g4
    injection e0 with e0; injection e1 with e1; injection e2 with e2; injection e3 with e3; injection e4 with e4
    subst e0; subst e1; subst e2; subst e3; subst e4
    exact ⟨⟨⟨s, t, u, z⟩, v⟩, rfl⟩
theorem open_ress {H : Type} {enc : TypeId × Value → H} {W : World} {base : Nat} {v : Value} {d : DataW H} {p : List MemPlace} (hok : Value.okWide Try.prog W .any base 22 v)
    (ht : DataW.Trod enc Try.prog W 0 (fun _ => true) true 22 v d p) : ∃ A n c xs, v = .slice A n c ∧ RdR W W.heap.size A n xs ∧ n ≤ c ∧ c ≤ maxLen := by
  obtain ⟨A, n, c, rfl⟩ := okWide_slice Try.underlying22 hok
  obtain ⟨fuel, hf⟩ := ht
  have hnil : ∀ B : Option Addr, RdR W W.heap.size B 0 [] := fun B => ⟨rfl, rfl, fun k hk => absurd hk (by simp [rcells])⟩
  rcases Go.Deep.open_slice Try.underlying22 hf with ⟨hcs, _⟩ | ⟨a, len, cap, m, n', D, Pl, hcs, _, hl, hm, hmm, _, hi⟩
  · injection hcs with hcs
    exact ⟨none, 0, 0, [], hcs, hnil _, Nat.le_refl _, by unfold maxLen; omega⟩
  · injection hcs with hcs
    have hmc : m = cap := by simpa using hmm
    have hsz : Try.prog.cellsOf 40 = 5 := by kernel_rfl
    by_cases h0 : len = 0
    · subst h0
      exact ⟨some a, 0, cap, [], hcs, hnil _, hl, hm⟩
    · obtain ⟨b, o, spot⟩ := a
      have hspot : spot = none := by
        obtain ⟨cs', hc, _⟩ := hi 0 (by omega)
        rw [hsz] at hc
        obtain ⟨_, hlen, hat⟩ := World.cells?_some hc
        have h1 := hat 0 (by omega)
        rw [List.getElem?_eq_getElem (by omega)] at h1
        have := World.cell?_spot h1
        simpa [Addr.add] using this
      subst hspot
      have ha : ∀ i j, ((⟨b, o, none⟩ : Addr).add i).add j = ⟨b, o + i + j, none⟩ := fun i j => by
        unfold Addr.add
        split <;> split <;> simp_all
      have key : ∀ i, i < len → ∃ q : Us, b < W.heap.size ∧ W.rangeAt b (o + i * 5) (rcell q) := fun i hil => by
        obtain ⟨cs', hc, ht⟩ := hi i (by omega)
        rw [hsz] at hc
        obtain ⟨_, hlen, hat⟩ := World.cells?_some hc
        obtain ⟨q, hq⟩ := res_at hlen ht
        subst hq
        have hcell : W.rangeAt b (o + i * 5) (rcell q) := fun j v hv => by
          have hj : j < 5 := (List.getElem?_eq_some_iff.1 hv).1
          have h1 := hat j (by omega)
          rw [ha, hv] at h1
          exact h1
        exact ⟨q, World.block_lt_of_cell? _ _ (hcell 0 _ rfl), hcell⟩
      obtain ⟨qs, hql, hx⟩ := listed16 len key
      refine ⟨_, len, cap, qs, hcs, ⟨hql, by rw [show (rcells qs).length = qs.length * 5 from flat_len rcell_len qs, hql], fun k hk => ?_⟩, hl, hm⟩
      have hk5 : k < qs.length * 5 := by rwa [show (rcells qs).length = qs.length * 5 from flat_len rcell_len qs] at hk
      have hkd : k / 5 < qs.length := by omega
      obtain ⟨hb, hr⟩ := hx (k / 5) hkd
      have h1 := flat_at rcell_len qs (k / 5) hkd (k % 5) (by omega)
      have h2 : k / 5 * 5 + k % 5 = k := by omega
      rw [h2] at h1
      refine ⟨b, o, rfl, hb, ?_⟩
      have h3 : (rcells qs)[k]? = some (rcells qs)[k] := List.getElem?_eq_getElem hk
      have h4 := hr (k % 5) _ (h1.symm.trans h3)
      rw [show o + k / 5 * 5 + k % 5 = o + k by omega] at h4
      exact h4
end Go.Proofs.Ytcaepgggffkjpaa.Frame
