/-
  The frame of symtab's laws: objects as arguments; what the listed table gives.
-/
import Derived.Test.YtbcjbembhajgcaaDoorZVb
import Derived.Test.YtbcjbembhajgcaaDoorZBm
import Derived.Test.YtbcjbembhajgcaaDoorZMo
import Derived.Deep.Fields
import Derived.Deep.Slices
namespace Go.Proofs.YtbcjbembhajgcaaDoor.Frame
open Go.ChangeShapes Go.WideShapes Go.ChangeAt Go.RowKit Go.Proofs Go.Deep
open Go.Proofs.YtbcjbembhajgcaaDoor.Bnd (Prec prec_of named_prec)
open Go.Proofs.YtbcjbembhajgcaaDoor.Obj (Sy)
set_option maxRecDepth 100000

theorem prec_laid {rest : List (String × DataW Unit)} {W : World} (hL : laidMet Tryd.prog (("arlink/bind.precedence", Rows.laid_arlink_bind_precedence) :: rest) W) : Prec W := by
  have e : (Rows.laid_arlink_bind_precedence : DataW Unit) = Lib.tabData .i64 [0, 3, 1, 2, 0, 0] := by kernel_rfl
  rw [e] at hL
  exact prec_of (Lib.tabIs_of_head named_prec (t := 102) (e := 3) (n := 6) (by kernel_rfl) Tryd.underlying102 Tryd.underlying3 (by kernel_rfl) (by kernel_rfl) hL)
theorem gndb_of (W : World) (_ : W.ShapedOpen Tryd.prog) (hL : laidMetH Tryd.prog [("arlink/bind.precedence", Rows.laid_arlink_bind_precedence)] W) : Prec W := by
  rw [MakeChecks.laidMetH_plain _ _ _ (by kernel_rfl)] at hL
  exact prec_laid hL
/-- As many things as are asked for, in a list. -/
theorem listed14 {α : Type} {p : Nat → α → Prop} : ∀ n : Nat, (∀ i, i < n → ∃ y, p i y) → ∃ xs : List α, xs.length = n ∧ ∀ k (h : k < xs.length), p k xs[k]
  | 0, _ => ⟨[], rfl, fun k h => absurd h (by simp)⟩
  | n + 1, h => by
    obtain ⟨xs, hl, hx⟩ := listed14 n fun i hi => h i (by omega)
    obtain ⟨y, hy⟩ := h n (by omega)
    refine ⟨xs ++ [y], by simp [hl], fun k hk => ?_⟩
    by_cases hkn : k < n
    · rw [List.getElem_append_left (by omega)]
      exact hx k (by omega)
    · rw [List.length_append, List.length_singleton] at hk
      obtain rfl : k = xs.length := by omega
      rw [List.getElem_append_right (Nat.le_refl _)]
      simpa [hl] using hy

/-- Symbols, as they come in. -/
theorem open_syms14 {H : Type} {enc : TypeId × Value → H} {W : World} {fuel : Nat} {v : Value} {x : DataW H × List MemPlace} (hf : DataW.trod enc Tryd.prog W 0 (fun _ => true) true fuel 32 [v] = some x) :
    ∃ A n c xs, v = .slice A n c ∧ Obj.RdS W W.heap.size A n xs ∧ n ≤ c ∧ c ≤ maxLen := by
  rcases Go.Deep.open_slice Tryd.underlying32 hf with ⟨hcs, _⟩ | ⟨a, len, cap, m, n', D, Pl, hcs, _, hl, hm, hmm, _, hi⟩
  · injection hcs with hcs
    exact ⟨none, 0, 0, [], hcs, Obj.RdS.nil _ _ _, Nat.le_refl _, by unfold maxLen; omega⟩
  · injection hcs with hcs
    have hmc : m = cap := by simpa using hmm
    have hsz : Tryd.prog.cellsOf 54 = 4 := by kernel_rfl
    by_cases h0 : len = 0
    · subst h0
      exact ⟨some a, 0, cap, [], hcs, Obj.RdS.nil _ _ _, hl, hm⟩
    · obtain ⟨b, o, spot⟩ := a
      have hspot : spot = none := by
        obtain ⟨cs', hc, _⟩ := hi 0 (by omega)
        rw [hsz] at hc
        obtain ⟨_, hlen, hat⟩ := World.cells?_some hc
        have h1 := hat 0 (by omega)
        rw [List.getElem?_eq_getElem (by omega)] at h1
        have := World.cell?_spot h1
        simpa [Addr.add] using this
      subst hspot
      have ha : ∀ i j, ((⟨b, o, none⟩ : Addr).add i).add j = ⟨b, o + i + j, none⟩ := fun i j => by
        unfold Addr.add
        split <;> split <;> simp_all
      have key : ∀ i, i < len → ∃ y : Obj.Sy, (b < W.heap.size ∧ Obj.SCells W b (o + i * 4) y) ∧ y.name.size ≤ maxLen := fun i hil => by
        obtain ⟨cs', hc, ht⟩ := hi i (by omega)
        rw [hsz] at hc
        obtain ⟨ys, k, _, _, hcl, hyl, hg⟩ := DataW.trod_struct Tryd.underlying54 ht
        obtain ⟨_, _, hat⟩ := World.cells?_some hc
        rw [hsz] at hcl
        match cs', hcl with
        | [c0, c1, c2, c3], _ =>
          have hone : oneCellFields Tryd.prog _ = true := (by kernel_rfl : oneCellFields Tryd.prog (match Tryd.prog.underlying 54 with | some (.struct fs) => fs | _ => #[]) = true)
          obtain ⟨y0, g0⟩ := one_field hone hyl hg 0 _ rfl c0 rfl
          obtain ⟨y1, g1⟩ := one_field hone hyl hg 1 _ rfl c1 rfl
          obtain ⟨y2, g2⟩ := one_field hone hyl hg 2 _ rfl c2 rfl
          obtain ⟨y3, g3⟩ := one_field hone hyl hg 3 _ rfl c3 rfl
          obtain ⟨s, e0, _, hs⟩ := DataW.trod_string Tryd.underlying9 g0
          obtain ⟨t, e1, _, _⟩ := DataW.trod_int Tryd.underlying3 g1
          obtain ⟨u, e2, _, _⟩ := DataW.trod_int Tryd.underlying3 g2
          obtain ⟨z, e3, _, _⟩ := DataW.trod_int Tryd.underlying3 g3
          injection e0 with e0; injection e1 with e1; injection e2 with e2; injection e3 with e3
          subst e0; subst e1; subst e2; subst e3
          have h0 := hat 0 (by omega)
          have h1 := hat 1 (by omega)
          have h2 := hat 2 (by omega)
          have h3 := hat 3 (by omega)
          rw [ha] at h0 h1 h2 h3
          exact ⟨⟨s, t, u, z⟩, ⟨World.block_lt_of_cell? _ _ (h0.trans rfl), h0, h1, h2, h3⟩, hs⟩
      obtain ⟨xs, hxl, hx⟩ := Frame.listed14 len key
      refine ⟨_, len, cap, xs, hcs, ⟨hxl, fun k hk => ?_⟩, hl, hm⟩
      obtain ⟨⟨hb, hc⟩, hn⟩ := hx k hk
      exact ⟨⟨b, o, rfl, hb, hc⟩, hn⟩

/-- A slice of bytes has a length that is one. -/
theorem open_body14 {H : Type} {enc : TypeId × Value → H} {W : World} {fuel : Nat} {v : Value} {x : DataW H × List MemPlace} (hf : DataW.trod enc Tryd.prog W 0 (fun _ => true) true fuel 33 [v] = some x) :
    ∃ A n c, v = .slice A n c ∧ n ≤ maxLen := by
  rcases open_ints Tryd.underlying33 Tryd.underlying5 (by kernel_rfl) hf with ⟨hcs, _⟩ | ⟨x, l, c', zs, hcs, _, hl, hm, _⟩
  · injection hcs with hcs
    exact ⟨none, 0, 0, hcs, by unfold maxLen; omega⟩
  · injection hcs with hcs
    exact ⟨_, _, _, hcs, by omega⟩
/-- An object's cells. -/
theorem obj_at14 {H : Type} {enc : TypeId × Value → H} {W : World} {fuel : Nat} {c0 c1 : Value} {x : DataW H × List MemPlace} (hf : DataW.trod enc Tryd.prog W 0 (fun _ => true) true fuel 35 [c0, c1] = some x) :
    ∃ (S B : Option Addr) (p c m d : Nat) (xs : List Sy), c0 = .slice S p c ∧ c1 = .slice B m d ∧ Tab.Ob W W.heap.size S B p c m d xs := by
  obtain ⟨xs, n, _, _, _, hlen, hg⟩ := DataW.trod_struct Tryd.underlying35 hf
  have hone : oneCellFields Tryd.prog _ = true := (by kernel_rfl : oneCellFields Tryd.prog (match Tryd.prog.underlying 35 with | some (.struct fs) => fs | _ => #[]) = true)
  obtain ⟨y0, g0⟩ := one_field hone hlen hg 0 _ rfl c0 rfl
  obtain ⟨y1, g1⟩ := one_field hone hlen hg 1 _ rfl c1 rfl
  obtain ⟨A, n', c, ys, rfl, h1, h2, h3⟩ := open_syms14 g0
  obtain ⟨B, m, e, rfl, h4⟩ := open_body14 g1
  exact ⟨A, B, n', c, m, e, ys, rfl, rfl, h1, h2, h3, h4⟩
theorem open_objs {H : Type} {enc : TypeId × Value → H} {W : World} {base : Nat} {v : Value} {d : DataW H} {p : List MemPlace} (hok : Value.okWide Tryd.prog W .any base 22 v)
    (ht : DataW.Trod enc Tryd.prog W 0 (fun _ => true) true 22 v d p) : ∃ A n c os, v = .slice A n c ∧ Tab.RdO W W.heap.size A n os ∧ n ≤ c ∧ c ≤ maxLen := by
  obtain ⟨A, n, c, rfl⟩ := okWide_slice Tryd.underlying22 hok
  obtain ⟨fuel, hf⟩ := ht
  rcases Go.Deep.open_slice Tryd.underlying22 hf with ⟨hcs, _⟩ | ⟨a, len, cap, m, n', D, Pl, hcs, _, hl, hm, hmm, _, hi⟩
  · injection hcs with hcs
    exact ⟨none, 0, 0, [], hcs, ⟨rfl, fun k hk => absurd hk (by simp)⟩, Nat.le_refl _, by unfold maxLen; omega⟩
  · injection hcs with hcs
    have hmc : m = cap := by simpa using hmm
    have hsz : Tryd.prog.cellsOf 35 = 2 := by kernel_rfl
    by_cases h0 : len = 0
    · subst h0
      exact ⟨some a, 0, cap, [], hcs, ⟨rfl, fun k hk => absurd hk (by simp)⟩, hl, hm⟩
    · obtain ⟨b, o, spot⟩ := a
      have hspot : spot = none := by
        obtain ⟨cs', hc, _⟩ := hi 0 (by omega)
        rw [hsz] at hc
        obtain ⟨_, hlen, hat⟩ := World.cells?_some hc
        have h1 := hat 0 (by omega)
        rw [List.getElem?_eq_getElem (by omega)] at h1
        have := World.cell?_spot h1
        simpa [Addr.add] using this
      subst hspot
      have ha : ∀ i j, ((⟨b, o, none⟩ : Addr).add i).add j = ⟨b, o + i + j, none⟩ := fun i j => by
        unfold Addr.add
        split <;> split <;> simp_all
      have key : ∀ i, i < len → ∃ y : List Sy, b < W.heap.size ∧ ∃ (S B : Option Addr) (p c m d : Nat), W.cell? ⟨b, o + i * 2, none⟩ = some (.slice S p c) ∧ W.cell? ⟨b, o + i * 2 + 1, none⟩ = some (.slice B m d) ∧ Tab.Ob W W.heap.size S B p c m d y := fun i hil => by
        obtain ⟨cs', hc, ht⟩ := hi i (by omega)
        rw [hsz] at hc
        obtain ⟨_, hlen, hat⟩ := World.cells?_some hc
        match cs', hlen with
        | [c0, c1], _ =>
          obtain ⟨S, B, p, c, m, d, xs, rfl, rfl, hob⟩ := obj_at14 ht
          have h0 := hat 0 (by omega)
          have h1 := hat 1 (by omega)
          rw [ha] at h0 h1
          exact ⟨xs, World.block_lt_of_cell? _ _ (h0.trans rfl), S, B, p, c, m, d, h0, h1, hob⟩
      obtain ⟨qs, hql, hx⟩ := listed14 len key
      exact ⟨_, len, cap, qs, hcs, ⟨hql, fun k hk => ⟨b, o, rfl, (hx k hk).1, (hx k hk).2⟩⟩, hl, hm⟩
end Go.Proofs.YtbcjbembhajgcaaDoor.Frame
