/-
  The frame of bind's laws: symbols of units as arguments; what the listed table gives.
-/
import Derived.Test.YtechacnflegliaaDoorYBm
import Derived.Test.YtechacnflegliaaDoorYMo
import Derived.Deep.Fields
import Derived.Deep.Slices
namespace Go.Proofs.YtechacnflegliaaDoor.Frame
open Go.ChangeShapes Go.WideShapes Go.ChangeAt Go.RowKit Go.Proofs Go.Deep
open Go.Proofs.YtechacnflegliaaDoor.Bnd (Us RdU Prec prec_of named_prec ucell)
set_option maxRecDepth 100000

theorem prec_laid {rest : List (String × DataW Unit)} {W : World} (hL : laidMet Tryd.prog (("arlink/bind.precedence", Rows.laid_arlink_bind_precedence) :: rest) W) : Prec W := by
  have e : (Rows.laid_arlink_bind_precedence : DataW Unit) = Lib.tabData .i64 [0, 3, 1, 2, 0, 0] := by kernel_rfl
  rw [e] at hL
  exact prec_of (Lib.tabIs_of_head named_prec (t := 51) (e := 3) (n := 6) (by kernel_rfl) Tryd.underlying51 Tryd.underlying3 (by kernel_rfl) (by kernel_rfl) hL)
theorem gndb_of (W : World) (_ : W.ShapedOpen Tryd.prog) (hL : laidMetH Tryd.prog [("arlink/bind.precedence", Rows.laid_arlink_bind_precedence)] W) : Prec W := by
  rw [MakeChecks.laidMetH_plain _ _ _ (by kernel_rfl)] at hL
  exact prec_laid hL
/-- A field of more than one cell. -/
theorem wide13 {H : Type} {enc : TypeId × Value → H} {W : World} {fs : Array Field} {cs : List Value} {xs : List (DataW H × List MemPlace)} {n : Nat} (hl : xs.length = fs.size)
    (hg : ∀ (i : Nat) (f : Field), fs[i]? = some f → DataW.trod enc Tryd.prog W 0 (fun _ => true) true n f.type ((cs.drop f.offset).take (Tryd.prog.cellsOf f.type)) = xs[i]?) (i : Nat) (f : Field) (hf : fs[i]? = some f) (k : Nat) (hk : Tryd.prog.cellsOf f.type = k) (d : List Value) (hd : (cs.drop f.offset).take k = d) :
    ∃ y, DataW.trod enc Tryd.prog W 0 (fun _ => true) true n f.type d = some y := by
  have hlt : i < xs.length := by rw [hl]; exact (Array.getElem?_eq_some_iff.1 hf).1
  have h3 := hg i f hf
  rw [hk, hd, List.getElem?_eq_getElem hlt] at h3
  exact ⟨_, h3⟩
theorem listed13 {α : Type} {p : Nat → α → Prop} : ∀ n : Nat, (∀ i, i < n → ∃ y, p i y) → ∃ xs : List α, xs.length = n ∧ ∀ k (h : k < xs.length), p k xs[k]
  | 0, _ => ⟨[], rfl, fun k h => absurd h (by simp)⟩
  | n + 1, h => by
    obtain ⟨xs, hl, hx⟩ := listed13 n fun i hi => h i (by omega)
    obtain ⟨y, hy⟩ := h n (by omega)
    refine ⟨xs ++ [y], by simp [hl], fun k hk => ?_⟩
    by_cases hkn : k < n
    · rw [List.getElem_append_left (by omega)]
      exact hx k (by omega)
    · rw [List.length_append, List.length_singleton] at hk
      obtain rfl : k = xs.length := by omega
      rw [List.getElem_append_right (Nat.le_refl _)]
      simpa [hl] using hy
/-- A symbol's cells. -/
theorem sym_at {H : Type} {enc : TypeId × Value → H} {W : World} {fuel : Nat} {c0 c1 c2 c3 : Value} {x : DataW H × List MemPlace} (hf : DataW.trod enc Tryd.prog W 0 (fun _ => true) true fuel 37 [c0, c1, c2, c3] = some x) :
    ∃ y : Obj.Sy, (c0 = .string y.name ∧ c1 = .int .i64 y.bind ∧ c2 = .int .i64 y.size ∧ c3 = .int .i64 y.align) ∧ y.name.size ≤ maxLen := by
  obtain ⟨xs, n, _, _, _, hyl, hg⟩ := DataW.trod_struct Tryd.underlying37 hf
  have hone : oneCellFields Tryd.prog _ = true := (by kernel_rfl : oneCellFields Tryd.prog (match Tryd.prog.underlying 37 with | some (.struct fs) => fs | _ => #[]) = true)
  obtain ⟨y0, g0⟩ := one_field hone hyl hg 0 _ rfl c0 rfl
  obtain ⟨y1, g1⟩ := one_field hone hyl hg 1 _ rfl c1 rfl
  obtain ⟨y2, g2⟩ := one_field hone hyl hg 2 _ rfl c2 rfl
  obtain ⟨y3, g3⟩ := one_field hone hyl hg 3 _ rfl c3 rfl
  obtain ⟨s, e0, _, hs⟩ := DataW.trod_string Tryd.underlying9 g0
  obtain ⟨t, e1, _, _⟩ := DataW.trod_int Tryd.underlying3 g1
  obtain ⟨u, e2, _, _⟩ := DataW.trod_int Tryd.underlying3 g2
  obtain ⟨z, e3, _, _⟩ := DataW.trod_int Tryd.underlying3 g3
  injection e0 with e0; injection e1 with e1; injection e2 with e2; injection e3 with e3
  subst e0; subst e1; subst e2; subst e3
  exact ⟨⟨s, t, u, z⟩, ⟨rfl, rfl, rfl, rfl⟩, hs⟩
theorem use_at {H : Type} {enc : TypeId × Value → H} {W : World} {fuel : Nat} {cs : List Value} (hsz : cs.length = 5) {x : DataW H × List MemPlace} (hf : DataW.trod enc Tryd.prog W 0 (fun _ => true) true fuel 39 cs = some x) :
    ∃ q : Us, cs = ucell q ∧ q.s.name.size ≤ maxLen := by
  match cs, hsz with
  | [c0, c1, c2, c3, c4], _ =>
    obtain ⟨xs, n, _, _, _, hyl, hg⟩ := DataW.trod_struct Tryd.underlying39 hf
    obtain ⟨y0, g0⟩ := wide13 hyl hg 0 _ rfl 4 (by kernel_rfl) [c0, c1, c2, c3] rfl
    obtain ⟨y1, g1⟩ := wide13 hyl hg 1 _ rfl 1 (by kernel_rfl) [c4] rfl
    obtain ⟨y, ⟨rfl, rfl, rfl, rfl⟩, hy⟩ := sym_at g0
    obtain ⟨z, e1, _, _⟩ := DataW.trod_int Tryd.underlying3 g1
    injection e1 with e1
    subst e1
    exact ⟨⟨y, z⟩, rfl, hy⟩
theorem open_use {H : Type} {enc : TypeId × Value → H} {W : World} {base : Nat} {v : Value} {d : DataW H} {p : List MemPlace} (hok : Value.okWide Tryd.prog W .any base 39 v)
    (ht : DataW.Trod enc Tryd.prog W 0 (fun _ => true) true 39 v d p) : ∃ q : Us, v = q.val ∧ q.s.name.size ≤ maxLen := by
  obtain ⟨cs, rfl, hsz⟩ := okWide_struct Tryd.underlying39 hok
  obtain ⟨l⟩ := cs
  obtain ⟨fuel, hf⟩ := ht
  obtain ⟨q, hq, hb⟩ := use_at (hsz.trans (by kernel_rfl)) hf
  refine ⟨q, ?_, hb⟩
  have e : l = ucell q := hq
  rw [e]
  rfl
theorem open_uses {H : Type} {enc : TypeId × Value → H} {W : World} {base : Nat} {v : Value} {d : DataW H} {p : List MemPlace} (hok : Value.okWide Tryd.prog W .any base 22 v)
    (ht : DataW.Trod enc Tryd.prog W 0 (fun _ => true) true 22 v d p) : ∃ A n c xs, v = .slice A n c ∧ RdU W W.heap.size A n xs ∧ n ≤ c ∧ c ≤ maxLen := by
  obtain ⟨A, n, c, rfl⟩ := okWide_slice Tryd.underlying22 hok
  obtain ⟨fuel, hf⟩ := ht
  rcases Go.Deep.open_slice Tryd.underlying22 hf with ⟨hcs, _⟩ | ⟨a, len, cap, m, n', D, Pl, hcs, _, hl, hm, hmm, _, hi⟩
  · injection hcs with hcs
    exact ⟨none, 0, 0, [], hcs, RdU.nil _ _ _, Nat.le_refl _, by unfold maxLen; omega⟩
  · injection hcs with hcs
    have hmc : m = cap := by simpa using hmm
    have hsz : Tryd.prog.cellsOf 39 = 5 := by kernel_rfl
    by_cases h0 : len = 0
    · subst h0
      exact ⟨some a, 0, cap, [], hcs, RdU.nil _ _ _, hl, hm⟩
    · obtain ⟨b, o, spot⟩ := a
      have hspot : spot = none := by
        obtain ⟨cs', hc, _⟩ := hi 0 (by omega)
        rw [hsz] at hc
        obtain ⟨_, hlen, hat⟩ := World.cells?_some hc
        have h1 := hat 0 (by omega)
        rw [List.getElem?_eq_getElem (by omega)] at h1
        have := World.cell?_spot h1
        simpa [Addr.add] using this
      subst hspot
      have ha : ∀ i j, ((⟨b, o, none⟩ : Addr).add i).add j = ⟨b, o + i + j, none⟩ := fun i j => by
        unfold Addr.add
        split <;> split <;> simp_all
      have key : ∀ i, i < len → ∃ q : Us, b < W.heap.size ∧ W.rangeAt b (o + i * 5) (ucell q) := fun i hil => by
        obtain ⟨cs', hc, ht⟩ := hi i (by omega)
        rw [hsz] at hc
        obtain ⟨_, hlen, hat⟩ := World.cells?_some hc
        obtain ⟨q, hq, hb⟩ := use_at hlen ht
        subst hq
        have hcell : W.rangeAt b (o + i * 5) (ucell q) := fun j v hv => by
          have hj : j < 5 := (List.getElem?_eq_some_iff.1 hv).1
          have h1 := hat j (by omega)
          rw [ha, hv] at h1
          exact h1
        exact ⟨q, World.block_lt_of_cell? _ _ (hcell 0 _ rfl), hcell⟩
      obtain ⟨qs, hql, hx⟩ := listed13 len key
      exact ⟨_, len, cap, qs, hcs, ⟨hql, fun k hk => ⟨b, o, rfl, (hx k hk).1, (hx k hk).2⟩⟩, hl, hm⟩
end Go.Proofs.YtechacnflegliaaDoor.Frame
