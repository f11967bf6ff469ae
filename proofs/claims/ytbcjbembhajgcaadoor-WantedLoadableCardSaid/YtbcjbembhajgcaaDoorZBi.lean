/-
  bind: symbols of units in memory; the reference's first and Right.
  bind: the reference's Of.
  bind: the reference's Of, walked.
-/
import Derived.Test.YtbcjbembhajgcaaDoorZBh
import Derived.Deep.Cut
import Derived.Deep.CutRange
import Derived.Deep.AppendLies
namespace Go.Proofs.YtbcjbembhajgcaaDoor.Bnd
open Go.RowKit Go.Proofs Go.Proofs.YtbcjbembhajgcaaDoor.Byt
open Go.Proofs.YtbcjbembhajgcaaDoor.Obj (Sy)
open Go.Proofs.YtbcjbembhajgcaaDoor.Arp (RdI)

/-- The five cells of a symbol of a unit. -/
def ucell (x : Us) : List Value := [.string x.s.name, .int .i64 x.s.bind, .int .i64 x.s.size, .int .i64 x.s.align, .int .i64 x.u]
def ucells : List Us → List Value
  | [] => []
  | x :: r => ucell x ++ ucells r
theorem ucells_append : ∀ a b : List Us, ucells (a ++ b) = ucells a ++ ucells b
  | [], b => rfl
  | x :: r, b => by rw [List.cons_append, ucells, ucells_append r b, ucells, List.append_assoc]
theorem ucells_length : ∀ a : List Us, (ucells a).length = a.length * 5
  | [] => rfl
  | x :: r => by rw [ucells, List.length_append, ucells_length r, List.length_cons]; simp [ucell]; omega
theorem ucells_at : ∀ (a : List Us) (k : Nat) (h : k < a.length) (j : Nat), j < 5 → (ucells a)[k * 5 + j]? = (ucell a[k])[j]?
  | x :: r, 0, _, j, hj => by
    rw [ucells, Nat.zero_mul, Nat.zero_add, List.getElem?_append_left (by simp [ucell]; exact hj)]; rfl
  | x :: r, k + 1, h, j, hj => by
    rw [ucells, List.getElem?_append_right (by simp [ucell]; omega)]
    have e : (k + 1) * 5 + j - (ucell x).length = k * 5 + j := by simp [ucell]; omega
    rw [e, ucells_at r k (by simpa using h) j hj]
    rfl
theorem kU : Cel.Kind 76 78 5 48 (.agg #[.string ⟨#[]⟩, .int .i64 0, .int .i64 0, .int .i64 0, .int .i64 0]) := ⟨by kernel_rfl, by kernel_rfl, by kernel_rfl, by decide⟩
def RdU (w : World) (K : Nat) (A : Option Addr) (n : Nat) (xs : List Us) : Prop :=
  xs.length = n ∧ ∀ k (h : k < xs.length), ∃ b o : Nat, A = some ⟨b, o, none⟩ ∧ b < K ∧ w.rangeAt b (o + k * 5) (ucell xs[k])
theorem RdU.below {w w' : World} {K n : Nat} {A : Option Addr} {xs : List Us} (h : RdU w K A n xs) (hb : Below K w w') : RdU w' K A n xs :=
  ⟨h.1, fun k hk => by
    obtain ⟨b, o, e, hl, hc⟩ := h.2 k hk
    exact ⟨b, o, e, hl, fun j v hv => (hb.cell (p := ⟨b, o + k * 5 + j, none⟩) hl).trans (hc j v hv)⟩⟩
theorem RdU.more {w : World} {K K' n : Nat} {A : Option Addr} {xs : List Us} (h : RdU w K A n xs) (hK : K ≤ K') : RdU w K' A n xs :=
  ⟨h.1, fun k hk => by
    obtain ⟨b, o, e, hl, hc⟩ := h.2 k hk
    exact ⟨b, o, e, by omega, hc⟩⟩
theorem RdU.nil (w : World) (K : Nat) (A : Option Addr) : RdU w K A 0 [] := ⟨rfl, fun k hk => absurd hk (by simp)⟩
theorem rdu_of {w : World} {K n : Nat} {A : Option Addr} {xs : List Us} (h : Cel.Rd w K A n 5 (ucells xs)) : RdU w K A n xs := by
  have hl : xs.length = n := by have := h.1; rw [ucells_length] at this; omega
  refine ⟨hl, fun k hk => ?_⟩
  obtain ⟨b, o, e, hb, _⟩ := h.2 (k * 5) (by rw [ucells_length]; omega)
  refine ⟨b, o, e, hb, fun j v hv => ?_⟩
  have hj : j < 5 := (List.getElem?_eq_some_iff.1 hv).1
  have hm := ucells_at xs k hk j hj
  rw [hv] at hm
  obtain ⟨hj', e2⟩ := List.getElem?_eq_some_iff.1 hm
  obtain ⟨b', o', e', _, hc⟩ := h.2 (k * 5 + j) hj'
  rw [e] at e'
  injection e' with e'
  injection e' with e1 e3
  subst e1 e3
  rw [Nat.add_assoc, hc, e2]
theorem RdU.pre {w : World} {K n m : Nat} {A : Option Addr} {xs : List Us} (h : RdU w K A n xs) (hm : m ≤ n) : RdU w K A m (xs.take m) := by
  refine ⟨by rw [List.length_take, h.1]; omega, fun j hj => ?_⟩
  rw [List.length_take] at hj
  rw [List.getElem_take]
  exact h.2 j (by omega)
/-- The cells of one symbol. -/
theorem RdU.at_ {w : World} {K n : Nat} {A : Option Addr} {xs : List Us} (h : RdU w K A n xs) {k : Nat} (hk : k < xs.length) : ∃ b o : Nat, A = some ⟨b, o, none⟩ ∧ b < K ∧
    w.cell? ⟨b, o + k * 5, none⟩ = some (.string xs[k].s.name) ∧ w.cell? ⟨b, o + k * 5 + 1, none⟩ = some (.int .i64 xs[k].s.bind) ∧ w.cell? ⟨b, o + k * 5 + 2, none⟩ = some (.int .i64 xs[k].s.size) ∧ w.cell? ⟨b, o + k * 5 + 3, none⟩ = some (.int .i64 xs[k].s.align) ∧ w.cell? ⟨b, o + k * 5 + 4, none⟩ = some (.int .i64 xs[k].u) := by
  obtain ⟨b, o, e, hb, hc⟩ := h.2 k hk
  exact ⟨b, o, e, hb, hc 0 _ rfl, hc 1 _ rfl, hc 2 _ rfl, hc 3 _ rfl, hc 4 _ rfl⟩

set_option maxRecDepth 100000 in
set_option maxHeartbeats 1000000 in
theorem first_any (K : Nat) (A : Option Addr) (n c : Nat) (xs : List Us) (b : Int) (w : World) (h : RdU w K A n xs) (hn : n ≤ 140737488355328) :
    Calls Tryd.prog 42 #[.slice A n c, .int .i64 b] w fun e w' => e = .returned (.int .i64 (fsI xs b)) ∧ w = w' := by
  have Hl := hid h.1
  go_enter Tryd.func42, Tryd.ntmps42
  go_wp2_with fail
  go_loop [5] (fun i => ∃ k : Nat, i = .int .i64 (k : Int) ∧ k ≤ n ∧ Hid (∀ j, j < k → ∀ hj : j < xs.length, xs[j].s.bind ≠ b)) (fun i => n - (intOf i).toNat)
  case atStart => exact ⟨0, rfl, by omega, hid (fun j hj => absurd hj (Nat.not_lt_zero _))⟩
  case round =>
    obtain ⟨k, rfl, hk, hG⟩ := hrel
    by_cases hlt : k < n
    · have hkl : k < xs.length := by have := Hl.out; omega
      have hki : (k : Int) < (n : Int) := by omega
      obtain ⟨b0, o, rfl, _, _, p1, _⟩ := h.at_ hkl
      have HH := hid (fsI_hit hkl hG.out)
      have HG2 : Hid (xs[k].s.bind ≠ b → ∀ j, j < k + 1 → ∀ hj : j < xs.length, xs[j].s.bind ≠ b) := hid (fun hne j hj hjl => by
        by_cases e : j = k
        · subst e; exact hne
        · exact hG.out j (by omega) hjl)
      generalize xs[k].s.bind = y at *
      by_cases hy : y = b
      · subst hy
        have HR := hid (HH.out rfl)
        clear HH HG2
        go_wp2_with fail
        go_ret
        exact ⟨ret_int HR.out.symm, rfl⟩
      · have HR := hid (HG2.out hy)
        have hyb : (y == b) = false := by simpa using hy
        clear HH HG2 hy
        go_wp2_with fail
        go_round
        case rel => exact ⟨k + 1, by go_num, by omega, HR⟩
        case measure => simp [intOf]; omega
    · obtain rfl : k = n := by omega
      have hki : ¬ (k : Int) < (k : Int) := by omega
      have HR := hid (fsI_miss (l := xs) (b := b) fun j hj => hG.out j (by have := Hl.out; omega) hj)
      go_wp2_with fail
      go_ret
      exact ⟨ret_int HR.out.symm, rfl⟩
end Go.Proofs.YtbcjbembhajgcaaDoor.Bnd

namespace Go.Proofs.YtbcjbembhajgcaaDoor.Bnd
open Go.RowKit Go.Proofs Go.Proofs.YtbcjbembhajgcaaDoor.Byt
open Go.Proofs.YtbcjbembhajgcaaDoor.Obj (Sy)
open Go.Proofs.YtbcjbembhajgcaaDoor.Arp (RdI)

theorem ldR {ops : Array Oper} {rest : List Oper} {o : Oper} {a : Act} {w : World} {Q : Exit → Act → World → Prop} (hgd : o.guard = none) (x : Operand) (ho : o.op = .load 60 x)
    (u : Nat) (hx : a.eval x = .pointer (some ⟨u, 0, none⟩)) (cs : Array Value) (hg : w.heap[u]? = some (.cells cs 60 (0, 0))) (hs : cs.size = 8)
    (h : wpList Tryd.prog ops Q rest (a.put o.dst (.agg cs)) w) : wpList Tryd.prog ops Q (o :: rest) a w :=
  wpList_load_row hgd 60 x ho u hx 60 cs (0, 0) _ hg Tryd.underlying60 rfl (by rw [hs]; kernel_rfl) h
theorem stR {ops : Array Oper} {rest : List Oper} {o : Oper} {a : Act} {w : World} {Q : Exit → Act → World → Prop} (hgd : o.guard = none) (x y : Operand) (ho : o.op = .store 60 x y)
    (u : Nat) (cells : Array Value) (hx : a.eval x = .pointer (some ⟨u, 0, none⟩)) (hy : a.eval y = .agg cells) (old : Array Value) (hg : w.heap[u]? = some (.cells old 60 (0, 0))) (hs : cells.size = 8) (hold : old.size = 8)
    (h1 : cells.all (·.oneCell') = true) (h : wpList Tryd.prog ops Q rest (a.put o.dst undef) (w.setRow u cells)) : wpList Tryd.prog ops Q (o :: rest) a w :=
  wpList_store_row hgd 60 x y ho u cells hx hy 60 old hg (by rw [hs]; kernel_rfl) (by rw [hs, hold]) h1 h

/-- What the loop of Of has gathered. -/
def ofZ (f : Us → Int) (xs : List Us) (k : Nat) : Int := if 0 ≤ fsI xs 1 then 0 else mxs f (xs.take k)
def ofG (xs : List Us) (k : Nat) : List Int := ((xs.take k).filter fun x => x.s.bind == 1).map (·.u)
theorem ofZ_zero (f : Us → Int) (xs : List Us) : ofZ f xs 0 = 0 := by unfold ofZ; split <;> rfl
theorem ofG_len (xs : List Us) (k : Nat) : (ofG xs k).length ≤ xs.length := by
  unfold ofG
  rw [List.length_map]
  exact Nat.le_trans (List.length_filter_le _ _) (by rw [List.length_take]; omega)
theorem ofG_one {xs : List Us} {k : Nat} (hk : k < xs.length) (h : xs[k].s.bind = 1) : ofG xs (k + 1) = ofG xs k ++ [xs[k].u] := by
  unfold ofG
  rw [List.take_succ_eq_append_getElem hk, List.filter_append, List.map_append]
  simp [h]
theorem ofG_not {xs : List Us} {k : Nat} (hk : k < xs.length) (h : xs[k].s.bind ≠ 1) : ofG xs (k + 1) = ofG xs k := by
  unfold ofG
  rw [List.take_succ_eq_append_getElem hk, List.filter_append, List.map_append]
  simp [h]
theorem ofZ_strong (f : Us → Int) {xs : List Us} {k : Nat} (h : 0 ≤ fsI xs 1) : ofZ f xs (k + 1) = ofZ f xs k := by
  unfold ofZ; rw [if_pos h, if_pos h]
theorem ofZ_common (f : Us → Int) {xs : List Us} {k : Nat} (hk : k < xs.length) (h : ¬ 0 ≤ fsI xs 1) (h3 : xs[k].s.bind = 3) : ofZ f xs (k + 1) = max (ofZ f xs k) (f xs[k]) := by
  unfold ofZ; rw [if_neg h, if_neg h, List.take_succ_eq_append_getElem hk, mxs_snoc, if_pos h3]
theorem ofZ_other (f : Us → Int) {xs : List Us} {k : Nat} (hk : k < xs.length) (h3 : xs[k].s.bind ≠ 3) : ofZ f xs (k + 1) = ofZ f xs k := by
  unfold ofZ; split
  · rfl
  · rw [List.take_succ_eq_append_getElem hk, mxs_snoc, if_neg h3]
theorem one_strong {xs : List Us} {k : Nat} (hk : k < xs.length) (h : xs[k].s.bind = 1) : 0 ≤ fsI xs 1 := by
  have e := fsI_some (l := xs) (b := 1)
  have : (fst xs 1).isSome = true := List.find?_isSome.2 ⟨xs[k], List.getElem_mem hk, by simpa using h⟩
  rw [this] at e
  exact of_decide_eq_true e.symm
/-- The state, in the end. -/
theorem ofL_strong {xs : List Us} {i : Nat} (hi : i < xs.length) (h : fst xs 1 = some xs[i]) :
    ofL xs = ⟨1, xs[i].s.size, 0, xs[i].u, decide (0 ≤ fsI xs 1) || decide (0 ≤ fsI xs 2), decide (0 ≤ fsI xs 4), decide (0 ≤ fsI xs 5), ofG xs xs.length⟩ := by
  rw [← fsI_some, ← fsI_some, ← fsI_some, ← fsI_some]
  unfold ofL ofG
  rw [h, List.take_length]
theorem ofL_common {xs : List Us} {i : Nat} (hi : i < xs.length) (h1 : ¬ 0 ≤ fsI xs 1) (h : fst xs 3 = some xs[i]) :
    ofL xs = ⟨3, ofZ (·.s.size) xs xs.length, ofZ (·.s.align) xs xs.length, xs[i].u, decide (0 ≤ fsI xs 1) || decide (0 ≤ fsI xs 2), decide (0 ≤ fsI xs 4), decide (0 ≤ fsI xs 5), ofG xs xs.length⟩ := by
  have e := (fsI_none h1).1
  rw [← fsI_some, ← fsI_some, ← fsI_some, ← fsI_some]
  unfold ofL ofG ofZ
  rw [if_neg h1, if_neg h1, e, h, List.take_length]
theorem ofL_weak {xs : List Us} {i : Nat} (hi : i < xs.length) (h1 : ¬ 0 ≤ fsI xs 1) (h3 : ¬ 0 ≤ fsI xs 3) (h : fst xs 2 = some xs[i]) :
    ofL xs = ⟨2, xs[i].s.size, 0, xs[i].u, decide (0 ≤ fsI xs 1) || decide (0 ≤ fsI xs 2), decide (0 ≤ fsI xs 4), decide (0 ≤ fsI xs 5), ofG xs xs.length⟩ := by
  have e := (fsI_none h1).1
  have e3 := (fsI_none h3).1
  rw [← fsI_some, ← fsI_some, ← fsI_some, ← fsI_some]
  unfold ofL ofG
  rw [e, e3, h, List.take_length]
theorem ofL_no {xs : List Us} (h1 : ¬ 0 ≤ fsI xs 1) (h3 : ¬ 0 ≤ fsI xs 3) (h2 : ¬ 0 ≤ fsI xs 2) :
    ofL xs = ⟨0, 0, 0, -1, decide (0 ≤ fsI xs 1) || decide (0 ≤ fsI xs 2), decide (0 ≤ fsI xs 4), decide (0 ≤ fsI xs 5), ofG xs xs.length⟩ := by
  have e := (fsI_none h1).1
  have e3 := (fsI_none h3).1
  have e2 := (fsI_none h2).1
  rw [← fsI_some, ← fsI_some, ← fsI_some, ← fsI_some]
  unfold ofL ofG
  rw [e, e3, e2, List.take_length]
theorem ofZ_no (f : Us → Int) {xs : List Us} (h3 : ¬ 0 ≤ fsI xs 3) (k : Nat) : ofZ f xs k = 0 := by
  unfold ofZ
  split
  · rfl
  · refine mxs_none _ _ ?_
    have e := (fsI_none h3).1
    unfold fst at e ⊢
    rw [List.find?_eq_none] at e ⊢
    exact fun x hx => e x (List.mem_of_mem_take hx)
/-- The loop of Of: its variable and what it holds. -/
structure OfR (w W : World) (g : Nat) (xs : List Us) (d sr wr : Bool) (k : Nat) : Prop where
  b : Below w.heap.size w W
  z : W.heap[g]? = some (.cells #[.int .i64 0, .int .i64 0, .int .i64 0, .int .i64 0, .bool false, .bool false, .bool false, .slice none 0 0] 60 (0, 0))
  r : ∃ A c, W.heap[g + 1]? = some (.cells #[.int .i64 0, .int .i64 (ofZ (·.s.size) xs k), .int .i64 (ofZ (·.s.align) xs k), .int .i64 (-1), .bool d, .bool sr, .bool wr, .slice A (ofG xs k).length c] 60 (0, 0)) ∧
    OwnI W (g + 1 + 1) (.slice A (ofG xs k).length c) (ofG xs k)
end Go.Proofs.YtbcjbembhajgcaaDoor.Bnd

namespace Go.Proofs.YtbcjbembhajgcaaDoor.Bnd
open Go.RowKit Go.Proofs Go.Proofs.YtbcjbembhajgcaaDoor.Byt
open Go.Proofs.YtbcjbembhajgcaaDoor.Obj (Sy)
open Go.Proofs.YtbcjbembhajgcaaDoor.Arp (RdI)

set_option linter.unusedSimpArgs false in
set_option maxRecDepth 100000 in
set_option maxHeartbeats 8000000 in
theorem of_any (K : Nat) (A : Option Addr) (n c : Nat) (xs : List Us) (w : World) (h : RdU w K A n xs) (hK : K ≤ w.heap.size) (hn : n ≤ 100000) :
    Calls Tryd.prog 34 #[.slice A n c] w (StP (ofL xs) w) := by
  have Hl := hid h.1
  obtain ⟨W, hW, hbW, hR0, hR1, hz⟩ := two_new w (.cells #[.int .i64 0, .int .i64 0, .int .i64 0, .int .i64 0, .bool false, .bool false, .bool false, .slice none 0 0] 60) (.cells #[.int .i64 0, .int .i64 0, .int .i64 0, .int .i64 (-1), .bool false, .bool false, .bool false, .slice none 0 0] 60)
  have HF := hid fun (b : Int) (V : World) (hV : Below w.heap.size w V) => first_any K A n c xs b V (h.below (hV.mono hK)) (by omega)
  have HU := hid fun (V : World) (hV : Below w.heap.size w V) => h.below (hV.mono hK)
  have L1 := fsI_lt xs 1
  have L2 := fsI_lt xs 2
  have L3 := fsI_lt xs 3
  have L4 := fsI_lt xs 4
  have L5 := fsI_lt xs 5
  have F1 := hid (HF.out 1)
  have F2 := hid (HF.out 2)
  have F3 := hid (HF.out 3)
  have F4 := hid (HF.out 4)
  have F5 := hid (HF.out 5)
  obtain ⟨f1, q1⟩ : ∃ f, fsI xs 1 = f := ⟨_, rfl⟩
  obtain ⟨f2, q2⟩ : ∃ f, fsI xs 2 = f := ⟨_, rfl⟩
  obtain ⟨f3, q3⟩ : ∃ f, fsI xs 3 = f := ⟨_, rfl⟩
  obtain ⟨f4, q4⟩ : ∃ f, fsI xs 4 = f := ⟨_, rfl⟩
  obtain ⟨f5, q5⟩ : ∃ f, fsI xs 5 = f := ⟨_, rfl⟩
  rw [q1] at L1 F1
  rw [q2] at L2 F2
  rw [q3] at L3 F3
  rw [q4] at L4 F4
  rw [q5] at L5 F5
  have Q1 := hid q1
  have Q2 := hid q2
  have Q3 := hid q3
  have Q4 := hid q4
  have Q5 := hid q5
  have hln : (xs.length : Int) ≤ 100000 := by have := Hl.out; omega
  have l1 : -1 ≤ f1 ∧ f1 ≤ 100000 := by omega
  have l2 : -1 ≤ f2 ∧ f2 ≤ 100000 := by omega
  have l3 : -1 ≤ f3 ∧ f3 ≤ 100000 := by omega
  have l4 : -1 ≤ f4 ∧ f4 ≤ 100000 := by omega
  have l5 : -1 ≤ f5 ∧ f5 ≤ 100000 := by omega
  clear HF q1 q2 q3 q4 q5 L1 L2 L3 L4 L5 hln h
  obtain ⟨g, hg⟩ : ∃ g, w.heap.size = g := ⟨_, rfl⟩
  have HbW := hid hbW
  have HS : Hid (W.heap.size = g + 1 + 1) := hid (by omega)
  have H1 : Hid (W.heap[g + 1]? = some (.cells #[.int .i64 0, .int .i64 0, .int .i64 0, .int .i64 (-1), .bool false, .bool false, .bool false, .slice none 0 0] 60 (0, 0))) := hid (hg ▸ hR1)
  have H0 : Hid (W.heap[g]? = some (.cells #[.int .i64 0, .int .i64 0, .int .i64 0, .int .i64 0, .bool false, .bool false, .bool false, .slice none 0 0] 60 (0, 0))) := hid (hg ▸ hR0)
  clear hbW hR0 hR1 hz
  obtain ⟨d, hd⟩ : ∃ d, (decide (0 ≤ f1) || decide (0 ≤ f2)) = d := ⟨_, rfl⟩
  obtain ⟨d4, hd4⟩ : ∃ d, decide (0 ≤ f4) = d := ⟨_, rfl⟩
  obtain ⟨d5, hd5⟩ : ∃ d, decide (0 ≤ f5) = d := ⟨_, rfl⟩
  have HD := hid hd
  have HD4 := hid hd4
  have HD5 := hid hd5
  obtain ⟨V2, hV2⟩ : ∃ V2, ((W.setCell ⟨g + 1, 4, none⟩ (.bool d)).setCell ⟨g + 1, 5, none⟩ (.bool d4)).setCell ⟨g + 1, 6, none⟩ (.bool d5) = V2 := ⟨_, rfl⟩
  have HQ2 : Hid (OfR w V2 g xs d d4 d5 0) := hid (by
    rw [← hV2]
    have hgg : w.heap.size ≤ g + 1 := by omega
    refine ⟨((HbW.out.setCell (p := ⟨g + 1, 4, none⟩) hgg _).setCell (p := ⟨g + 1, 5, none⟩) hgg _).setCell (p := ⟨g + 1, 6, none⟩) hgg _, ?_, none, 0, ?_, OwnI.nil _ _⟩
    · exact (Below.heap_setCell _ ⟨g + 1, 6, none⟩ _ g (by show g ≠ g + 1; omega)).trans ((Below.heap_setCell _ ⟨g + 1, 5, none⟩ _ g (by show g ≠ g + 1; omega)).trans ((Below.heap_setCell W ⟨g + 1, 4, none⟩ _ g (by show g ≠ g + 1; omega)).trans H0.out))
    · rw [ofZ_zero, ofZ_zero]
      exact heap_setCell_same _ (g + 1) 6 _ _ _ (heap_setCell_same _ (g + 1) 5 _ _ _ (heap_setCell_same W (g + 1) 4 _ _ _ H1.out)))
  have c4 := cell_of_row _ (g + 1) 4 _ _ _ H1.out
  have c5 := cell_of_row _ (g + 1) 5 _ _ _ H1.out
  have c6 := cell_of_row _ (g + 1) 6 _ _ _ H1.out
  have fu := fun o => frozen_of_row W (g + 1) o _ _ H1.out
  have HW := hid hW
  have HV2 := hid hV2
  clear hW hV2 hd hd4 hd5
  go_enter Tryd.func34, Tryd.ntmps34
  go_upto_region 2 with fail
  rw [HW.out]
  have HG := hid hg
  clear HW hg
  go_upto_region 5 with (first
    | ((with_reducible refine (F1.out _ HbW.out).mono ?_); rintro e w' ⟨rfl, rfl⟩)
    | ((with_reducible refine (F2.out _ HbW.out).mono ?_); rintro e w' ⟨rfl, rfl⟩)
    | ((with_reducible refine (F3.out _ HbW.out).mono ?_); rintro e w' ⟨rfl, rfl⟩))
  go_cut [20] from 15 to 21 (fun _ wx => wx = W.setCell ⟨g + 1, 4, none⟩ (.bool d))
  case first =>
    have hd := HD.out
    by_cases h1 : 0 ≤ f1
    all_goals
      first | rw [decide_eq_true h1, Bool.true_or] at hd | rw [decide_eq_false h1, Bool.false_or] at hd
      subst hd
      go_wp2_with fail
      go_meet
      exact rfl
  case rest =>
    subst hcut
    have hV2 := HV2.out
    have hd4 := HD4.out
    have hd5 := HD5.out
    subst hd4 hd5
    go_wp2_with (first
      | ((with_reducible refine (F4.out _ (HbW.out.setCell (p := ⟨g + 1, 4, none⟩) (by have := HG.out; show _ ≤ g + 1; omega) _)).mono ?_); rintro e w' ⟨rfl, rfl⟩)
      | ((with_reducible refine (F5.out _ ((HbW.out.setCell (p := ⟨g + 1, 4, none⟩) (by have := HG.out; show _ ≤ g + 1; omega) _).setCell (p := ⟨g + 1, 5, none⟩) (by have := HG.out; show _ ≤ g + 1; omega) _)).mono ?_); rintro e w' ⟨rfl, rfl⟩))
    clear c4 c5 c6 fu hV2 F1 F2 F3 F4 F5 HV2 HD4 HD5 H0 H1 HS HbW
    have HD4 : Hid (decide (0 ≤ fsI xs 4) = decide (0 ≤ f4)) := hid (by rw [Q4.out])
    have HD5 : Hid (decide (0 ≤ fsI xs 5) = decide (0 ≤ f5)) := hid (by rw [Q5.out])
    have HD1 : Hid ((decide (0 ≤ fsI xs 1) || decide (0 ≤ fsI xs 2)) = d) := hid (by rw [Q1.out, Q2.out]; exact HD.out)
    generalize decide (0 ≤ f4) = d4 at *
    generalize decide (0 ≤ f5) = d5 at *
    clear HD
    go_loopw [7] (fun i X => ∃ k : Nat, i = .int .i64 (k : Int) ∧ k ≤ n ∧ Hid (OfR w X g xs d d4 d5 k)) (fun i _ => n - (intOf i).toNat)
    case atStart => exact ⟨0, rfl, by omega, HQ2⟩
    case round =>
      obtain ⟨k, rfl, hk, hG⟩ := hrel
      clear HQ2
      obtain ⟨hb, hz0, A0, c0, hr, ho⟩ := hG.out
      have hg1 : g + 1 < wr.heap.size := (Array.getElem?_eq_some_iff.1 hr).1
      by_cases hlt : k < n
      · have hkl : k < xs.length := by have := Hl.out; omega
        have hki : (k : Int) < (n : Int) := by omega
        have hgl : (ofG xs k).length ≤ 100000 := by have := ofG_len xs k; have := Hl.out; omega
        have r1 := cell_of_row _ (g + 1) 1 _ _ _ hr
        have r2 := cell_of_row _ (g + 1) 2 _ _ _ hr
        have r7 := cell_of_row _ (g + 1) 7 _ _ _ hr
        have fr := fun o => frozen_of_row wr (g + 1) o _ _ hr
        obtain ⟨b0, o, hA, hb0K, p0, p1, p2, p3, p4⟩ := (HU.out wr hb).at_ hkl
        have hb0 : b0 < w.heap.size := by omega
        have hb1 : b0 < wr.heap.size := by have := hb.size; omega
        have hbg : b0 ≠ g + 1 := by have := HG.out; omega
        have HX4 : Hid (∀ V, Below w.heap.size w V → V.cell? ⟨b0, o + k * 5 + 4, none⟩ = some (.int .i64 xs[k].u)) := hid (fun V hV => by
          obtain ⟨b', o', e, _, _, _, _, _, q4⟩ := (HU.out V hV).at_ hkl
          rw [hA] at e
          injection e with e
          injection e with e1 e2
          rw [e1, e2]
          exact q4)
        have HX3 : Hid (∀ V, Below w.heap.size w V → V.cell? ⟨b0, o + k * 5 + 3, none⟩ = some (.int .i64 xs[k].s.align)) := hid (fun V hV => by
          obtain ⟨b', o', e, _, _, _, _, q3, _⟩ := (HU.out V hV).at_ hkl
          rw [hA] at e
          injection e with e
          injection e with e1 e2
          rw [e1, e2]
          exact q3)
        have HG1 := hid (fun h => ofG_one hkl h)
        have HGn := hid (fun h => ofG_not hkl h)
        have HS1 := hid (fun h => one_strong hkl h)
        have HZs := hid (fun h => ofZ_strong (k := k) (·.s.size) (xs := xs) h)
        have HZa := hid (fun h => ofZ_strong (k := k) (·.s.align) (xs := xs) h)
        have HCs := hid (fun h h3 => ofZ_common (·.s.size) hkl h h3)
        have HCa := hid (fun h h3 => ofZ_common (·.s.align) hkl h h3)
        have HOs := hid (fun h3 => ofZ_other (·.s.size) hkl h3)
        have HOa := hid (fun h3 => ofZ_other (·.s.align) hkl h3)
        rw [Q1.out] at HS1 HZs HZa HCs HCa
        subst hA
        generalize xs[k] = x at *
        generalize ofZ (fun x => x.s.size) xs k = zs at *
        generalize ofZ (fun x => x.s.align) xs k = za at *
        generalize ofG xs k = gk at *
        obtain ⟨⟨x0, x1, x2, x3⟩, x4⟩ := x
        simp only at *
        by_cases hx1 : x1 = 1
        · subst hx1
          have h1 := HS1.out rfl
          go_upto_region 12 with fail
          have hbd : Below wr.heap.size wr wr.drew := (Below.refl _ _).drew
          have hS : (fun W' => W'.cell? ⟨g + 1, 7, none⟩ = some (.slice A0 gk.length c0) ∧ W'.cell? ⟨b0, o + k * 5 + 4, none⟩ = some (.int .i64 x4)) wr.drew := ⟨r7, p4⟩
          refine Ord.Till.begin (fun W' => W'.cell? ⟨g + 1, 7, none⟩ = some (.slice A0 gk.length c0) ∧ W'.cell? ⟨b0, o + k * 5 + 4, none⟩ = some (.int .i64 x4)) 10 (by kernel_rfl) ?_
          have hod := ho.below hbd
          have hrd := (hbd.block (g + 1) hg1).trans hr
          have hzd := (hbd.block g (by omega)).trans hz0
          have hbw := hb.trans (hbd.mono hb.size)
          have hsz : wr.heap.size ≤ wr.drew.heap.size := hbd.size
          generalize wr.drew = wd at *
          refine Ord.Till.take' 0 (some 43) (oi := _) (x := ?_) rfl rfl (by kernel_rfl) (by kernel_rfl) (by kernel_rfl) (by kernel_rfl) (fun _ _ _ h => h) (by kernel_rfl) ?_ hS ?_
          rotate_left 1
          · intro v hv; obtain ⟨z0, z1⟩ := hv; go_simp; first | done | with_reducible rfl
          try simp only [List.getElem_toArray, List.getElem_cons_zero, List.getElem_cons_succ, Act.put, List.setIfInBounds_toArray, List.set_cons_zero, List.set_cons_succ]
          refine Ord.Till.take' 1 (some 44) (oi := _) (x := ?_) rfl rfl (by kernel_rfl) (by kernel_rfl) (by kernel_rfl) (by kernel_rfl) (fun _ _ _ h => h) (by kernel_rfl) ?_ hS ?_
          rotate_left 1
          · intro v hv; obtain ⟨z0, z1⟩ := hv; go_simp; first | done | with_reducible rfl
          try simp only [List.getElem_toArray, List.getElem_cons_zero, List.getElem_cons_succ, Act.put, List.setIfInBounds_toArray, List.set_cons_zero, List.set_cons_succ]
          refine Ord.Till.take' 2 (some 45) (oi := _) (x := ?_) rfl rfl (by kernel_rfl) (by kernel_rfl) (by kernel_rfl) (by kernel_rfl) (fun _ _ _ h => h) (by kernel_rfl) ?_ hS ?_
          rotate_left 1
          · intro v hv; obtain ⟨z0, z1⟩ := hv; go_simp; first | done | with_reducible rfl
          try simp only [List.getElem_toArray, List.getElem_cons_zero, List.getElem_cons_succ, Act.put, List.setIfInBounds_toArray, List.set_cons_zero, List.set_cons_succ]
          refine Ord.Till.take' 3 (some 46) (oi := _) (x := ?_) rfl rfl (by kernel_rfl) (by kernel_rfl) (by kernel_rfl) (by kernel_rfl) (fun _ _ _ h => h) (by kernel_rfl) ?_ hS ?_
          rotate_left 1
          · intro v hv; obtain ⟨z0, z1⟩ := hv; go_simp; first | done | with_reducible rfl
          try simp only [List.getElem_toArray, List.getElem_cons_zero, List.getElem_cons_succ, Act.put, List.setIfInBounds_toArray, List.set_cons_zero, List.set_cons_succ]
          refine Ord.Till.take' 4 (some 47) (oi := _) (x := ?_) rfl rfl (by kernel_rfl) (by kernel_rfl) (by kernel_rfl) (by kernel_rfl) (fun _ _ _ h => h) (by kernel_rfl) ?_ hS ?_
          rotate_left 1
          · intro v hv; obtain ⟨z0, z1⟩ := hv; go_simp; first | done | with_reducible rfl
          try simp only [List.getElem_toArray, List.getElem_cons_zero, List.getElem_cons_succ, Act.put, List.setIfInBounds_toArray, List.set_cons_zero, List.set_cons_succ]
          refine Ord.Till.take' 5 (some 48) (oi := _) (x := ?_) rfl rfl (by kernel_rfl) (by kernel_rfl) (by kernel_rfl) (by kernel_rfl) (fun _ _ _ h => h) (by kernel_rfl) ?_ hS ?_
          rotate_left 1
          · intro v hv; obtain ⟨z0, z1⟩ := hv; go_simp; first | done | with_reducible rfl
          try simp only [List.getElem_toArray, List.getElem_cons_zero, List.getElem_cons_succ, Act.put, List.setIfInBounds_toArray, List.set_cons_zero, List.set_cons_succ]
          refine Ord.Till.take' 6 (some 49) (oi := _) (x := ?_) rfl rfl (by kernel_rfl) (by kernel_rfl) (by kernel_rfl) (by kernel_rfl) (fun _ _ _ h => h) (by kernel_rfl) ?_ hS ?_
          rotate_left 1
          · intro v hv; obtain ⟨z0, z1⟩ := hv; go_simp; first | done | with_reducible rfl
          try simp only [List.getElem_toArray, List.getElem_cons_zero, List.getElem_cons_succ, Act.put, List.setIfInBounds_toArray, List.set_cons_zero, List.set_cons_succ]
          refine Ord.Till.step 7 (by kernel_rfl) rfl (fun C hC => ?_)
          go_simp
          have hbA := (Below.refl wd.heap.size wd).alloc (Nat.le_refl _) (.cells #[.int .i64 x4] 3)
          have hnew := heap_alloc_new wd (.cells #[.int .i64 x4] 3)
          have hsA := World.size_alloc wd (.cells #[.int .i64 x4] 3)
          have hoA := hod.below hbA
          have hrA := (hbA.block (g + 1) (by omega)).trans hrd
          have hzA := (hbA.block g (by omega)).trans hzd
          have hbB := hbw.trans (hbA.mono hbw.size)
          have hS2 : (fun W' => W'.cell? ⟨g + 1, 7, none⟩ = some (.slice A0 gk.length c0) ∧ W'.cell? ⟨b0, o + k * 5 + 4, none⟩ = some (.int .i64 x4)) (wd.alloc (.cells #[.int .i64 x4] 3)) := ⟨cell_of_row _ (g + 1) 7 _ _ _ hrA, (hbA.cell (p := ⟨b0, o + k * 5 + 4, none⟩) (by show b0 < _; omega)).trans hS.2⟩
          refine hC.out _ _ (fun _ => hS2) ?_
          clear hC C hbA hS hod hrd hzd hbw
          try simp only [List.getElem_toArray, List.getElem_cons_zero, List.getElem_cons_succ, Act.put, List.setIfInBounds_toArray, List.set_cons_zero, List.set_cons_succ]
          refine Ord.Till.step 8 (by kernel_rfl) rfl (fun C hC => ?_)
          refine Cel.step_app kI _ (g + 1 + 1) (.slice A0 gk.length c0) gk.length _ hoA (by rw [hsA]; omega) ⟨wd.heap.size, 0, none⟩ 1 1 [.int .i64 x4] rfl (by simp [Value.oneCell']) (World.news_of_block (cs := #[.int .i64 x4]) (t := 3) (fr := (0, 0)) hnew) (by omega) (by omega) rfl (.tmp 44) (.tmp 50) rfl rfl rfl ?_
          intro v6 w6 ho6 hb6 _ hfr6
          obtain ⟨A6, c6, rfl, _⟩ := ho6.reads
          have hr6 := (hb6.block (g + 1) (by omega)).trans hrA
          have hz6 := (hb6.block g (by omega)).trans hzA
          have hb6' := hbB.trans (hb6.mono (by have := HG.out; omega))
          have hk6 := hb6.size
          have hS3 : (fun W' => W'.cell? ⟨g + 1, 7, none⟩ = some (.slice A0 gk.length c0) ∧ W'.cell? ⟨b0, o + k * 5 + 4, none⟩ = some (.int .i64 x4)) w6 := ⟨cell_of_row _ (g + 1) 7 _ _ _ hr6, HX4.out w6 hb6'⟩
          refine hC.out _ _ (fun _ => hS3) ?_
          clear hC C hrA hzA hbB hS2 hfr6 hb6 hoA hnew hsA
          try simp only [List.getElem_toArray, List.getElem_cons_zero, List.getElem_cons_succ, Act.put, List.setIfInBounds_toArray, List.set_cons_zero, List.set_cons_succ]
          refine Ord.Till.step 9 (by kernel_rfl) rfl (fun C hC => ?_)
          go_simp
          refine hC.out _ _ (fun _ => hS3) ?_
          clear hC C
          try simp only [List.getElem_toArray, List.getElem_cons_zero, List.getElem_cons_succ, Act.put, List.setIfInBounds_toArray, List.set_cons_zero, List.set_cons_succ]
          have f6 : ∀ o, w6.frozen? ⟨g + 1, o, none⟩ = false := fun o => frozen_of_row w6 (g + 1) o _ _ hr6
          have c67 := hS3.1
          refine Ord.Till.step 10 (by kernel_rfl) rfl (fun C hC => ?_)
          go_simp
          refine hC.out _ _ (fun hz => absurd rfl hz) ?_
          clear hC C
          try simp only [List.getElem_toArray, List.getElem_cons_zero, List.getElem_cons_succ, Act.put, List.setIfInBounds_toArray, List.set_cons_zero, List.set_cons_succ]
          refine Ord.Till.done (by kernel_rfl) ?_ _
          have HN : Hid (OfR w (w6.setCell ⟨g + 1, 7, none⟩ (.slice A6 (gk.length + 1) c6)) g xs d d4 d5 (k + 1)) := hid (by
            refine ⟨hb6'.setCell (p := ⟨g + 1, 7, none⟩) (by have := HG.out; show _ ≤ g + 1; omega) _, (Below.heap_setCell w6 ⟨g + 1, 7, none⟩ _ g (by show g ≠ g + 1; omega)).trans hz6, A6, c6, ?_, ?_⟩
            · rw [HZs.out h1, HZa.out h1, HG1.out rfl, List.length_append]
              exact heap_setCell_same w6 (g + 1) 7 _ _ _ hr6
            · rw [HG1.out rfl]
              unfold OwnI
              rw [List.length_append, ints_append]
              exact Cel.Own.keep ho6 (fun q hq _ => Below.heap_setCell w6 ⟨g + 1, 7, none⟩ _ q (by show q ≠ g + 1; omega)))
          generalize w6.setCell ⟨g + 1, 7, none⟩ (.slice A6 (gk.length + 1) c6) = w7 at *
          have h1f : decide (f1 < 0) = false := by simp; omega
          clear hS3 f6 c67 hr6 hz6 hb6' ho6 r1 r2 r7 fr p0 p1 p2 p3 p4 hr ho hz0 hb hG
          go_wp2_with fail
          go_roundw
          · exact ⟨k + 1, by go_num, by omega, HN⟩
          · simp [intOf]; omega
        · have hx1b : (x1 == 1) = false := by simpa using hx1
          by_cases h13 : ¬ 0 ≤ f1 ∧ x1 = 3
          · obtain ⟨h1, rfl⟩ := h13
            have h1f : decide (f1 < 0) = true := by simp; omega
            go_upto_region 14 with fail
            go_region
            have hR4 := (heap_setCell_same wr (g + 1) 1 _ _ (.int .i64 (max zs x2)) hr)
            have hB4 := (hb.setCell (p := ⟨g + 1, 1, none⟩) (by have := HG.out; show _ ≤ g + 1; omega) (.int .i64 (max zs x2))).drew
            have hZ4 := (Below.heap_setCell wr ⟨g + 1, 1, none⟩ (.int .i64 (max zs x2)) g (by show g ≠ g + 1; omega)).trans hz0
            have hO4 : OwnI (wr.setCell ⟨g + 1, 1, none⟩ (.int .i64 (max zs x2))) (g + 1 + 1) _ _ := OwnI.keep ho (fun q hq _ => Below.heap_setCell wr ⟨g + 1, 1, none⟩ _ q (by show q ≠ g + 1; omega))
            have p34 : (wr.setCell ⟨g + 1, 1, none⟩ (.int .i64 (max zs x2))).drew.cell? ⟨b0, o + k * 5 + 3, none⟩ = some (.int .i64 x3) := HX3.out _ hB4
            have HR4 : Hid ((wr.setCell ⟨g + 1, 1, none⟩ (.int .i64 (max zs x2))).drew.heap[g + 1]? = _) := hid hR4
            have HZ4 : Hid ((wr.setCell ⟨g + 1, 1, none⟩ (.int .i64 (max zs x2))).drew.heap[g]? = _) := hid hZ4
            have HO4 : Hid (OwnI (wr.setCell ⟨g + 1, 1, none⟩ (.int .i64 (max zs x2))).drew (g + 1 + 1) _ _) := hid hO4
            have HB4 := hid hB4
            clear hR4 hB4 hZ4 hO4
            generalize (wr.setCell ⟨g + 1, 1, none⟩ (.int .i64 (max zs x2))).drew = w4 at *
            have hw4 : b0 < w4.heap.size := by have := HB4.out.size; omega
            have q2 := cell_of_row _ (g + 1) 2 _ _ _ HR4.out
            have f4 := fun o => frozen_of_row w4 (g + 1) o _ _ HR4.out
            clear r1 r2 r7 fr p0 p1 p2 p3 p4 hr ho hz0 hb hG
            go_upto_region 15 with fail
            go_region
            have HN : Hid (OfR w (w4.setCell ⟨g + 1, 2, none⟩ (.int .i64 (max za x3))).drew g xs d d4 d5 (k + 1)) := hid (by
              refine ⟨(HB4.out.setCell (p := ⟨g + 1, 2, none⟩) (by have := HG.out; show _ ≤ g + 1; omega) _).drew, (Below.heap_setCell w4 ⟨g + 1, 2, none⟩ _ g (by show g ≠ g + 1; omega)).trans HZ4.out, A0, c0, ?_, ?_⟩
              · rw [HCs.out h1 rfl, HCa.out h1 rfl, HGn.out hx1]
                exact heap_setCell_same w4 (g + 1) 2 _ _ _ HR4.out
              · rw [HGn.out hx1]
                exact OwnI.keep (w' := (w4.setCell ⟨g + 1, 2, none⟩ (.int .i64 (max za x3))).drew) HO4.out (fun q hq _ => Below.heap_setCell w4 ⟨g + 1, 2, none⟩ _ q (by show q ≠ g + 1; omega)))
            generalize (w4.setCell ⟨g + 1, 2, none⟩ (.int .i64 (max za x3))).drew = w7 at *
            clear q2 f4 p34
            go_wp2_with fail
            go_roundw
            · exact ⟨k + 1, by go_num, by omega, HN⟩
            · simp [intOf]; omega
          · have HN : Hid (OfR w wr g xs d d4 d5 (k + 1)) := hid (by
              refine ⟨hb, hz0, A0, c0, ?_, ?_⟩
              · have e1 : ofZ (fun x => x.s.size) xs (k + 1) = zs ∧ ofZ (fun x => x.s.align) xs (k + 1) = za := by
                  by_cases h1 : 0 ≤ f1
                  · exact ⟨HZs.out h1, HZa.out h1⟩
                  · have h3 : x1 ≠ 3 := fun e => h13 ⟨h1, e⟩
                    exact ⟨HOs.out h3, HOa.out h3⟩
                rw [e1.1, e1.2, HGn.out hx1]
                exact hr
              · rw [HGn.out hx1]
                exact ho)
            by_cases h1 : 0 ≤ f1
            · have h1f : decide (f1 < 0) = false := by simp; omega
              clear h13 r1 r2 r7 fr p0 p2 p3 p4 hr ho hz0 hb hG
              go_wp2_with fail
              go_roundw
              · exact ⟨k + 1, by go_num, by omega, HN⟩
              · simp [intOf]; omega
            · have h1f : decide (f1 < 0) = true := by simp; omega
              have hx3 : (x1 == 3) = false := by simpa using fun e => h13 ⟨h1, e⟩
              clear h13 r1 r2 r7 fr p0 p2 p3 p4 hr ho hz0 hb hG
              go_wp2_with fail
              go_roundw
              · exact ⟨k + 1, by go_num, by omega, HN⟩
              · simp [intOf]; omega
      · obtain rfl : k = n := by omega
        have hki : ¬ (k : Int) < (k : Int) := by omega
        have HX := hid fun (i : Nat) (hi : i < xs.length) => (HU.out wr hb).at_ hi
        have r0 := cell_of_row _ (g + 1) 0 _ _ _ hr
        have r1 := cell_of_row _ (g + 1) 1 _ _ _ hr
        have r3 := cell_of_row _ (g + 1) 3 _ _ _ hr
        have fr := fun o => frozen_of_row wr (g + 1) o _ _ hr
        have HZs := hid fun h3 => ofZ_no (·.s.size) (xs := xs) h3 k
        have HZa := hid fun h3 => ofZ_no (·.s.align) (xs := xs) h3 k
        have HZ1 : Hid (0 ≤ fsI xs 1 → ofZ (fun x => x.s.align) xs k = 0) := hid (fun h => by unfold ofZ; rw [if_pos h])
        have HE1 := hid fun i (hi : i < xs.length) h => ofL_strong hi h
        have HE3 := hid fun i (hi : i < xs.length) h1 h => ofL_common hi h1 h
        have HE2 := hid fun i (hi : i < xs.length) h1 h3 h => ofL_weak hi h1 h3 h
        have HE0 := hid fun h1 h3 h2 => ofL_no (xs := xs) h1 h3 h2
        simp only [HD1.out, HD4.out, HD5.out, Hl.out] at HE1 HE3 HE2 HE0
        generalize ofZ (fun x => x.s.size) xs k = zs at *
        generalize ofZ (fun x => x.s.align) xs k = za at *
        generalize ofG xs k = gk at *
        simp only [Q1.out, Q2.out, Q3.out] at HZ1 HE1 HE3 HE2 HE0 HZs HZa
        have hgg : (decide (0 ≤ f1) : Bool) = decide (0 ≤ f1) := rfl
        by_cases h1 : 0 ≤ f1
        · obtain ⟨i, ei, hi, hf⟩ := fsI_at (l := xs) (b := 1) (by rw [Q1.out]; exact h1)
          rw [Q1.out] at ei
          have HE := hid (HE1.out i (by have := Hl.out; omega) hf)
          obtain rfl : za = 0 := HZ1.out h1
          have hik : (i : Int) < (k : Int) := by have := Hl.out; omega
          obtain ⟨b0, o, rfl, _, _, p1, p2, _, p4⟩ := HX.out i hi
          have hb0 : b0 ≠ g + 1 := by have := HG.out; omega
          subst ei
          clear HX HZs HZa HZ1 HE1 HE3 HE2 HE0 hf HU
          generalize xs[i].s.size = x2 at *
          generalize xs[i].u = x4 at *
          go_upto_region 27 with fail
          have HB9 := hid ((((hb).setCell (p := ⟨g + 1, 0, none⟩) (by have := HG.out; show _ ≤ g + 1; omega) (.int .i64 (1))).setCell (p := ⟨g + 1, 1, none⟩) (by have := HG.out; show _ ≤ g + 1; omega) (.int .i64 (x2))).setCell (p := ⟨g + 1, 3, none⟩) (by have := HG.out; show _ ≤ g + 1; omega) (.int .i64 (x4)))
          have HR9 : Hid (((((wr).setCell ⟨g + 1, 0, none⟩ (.int .i64 (1))).setCell ⟨g + 1, 1, none⟩ (.int .i64 (x2))).setCell ⟨g + 1, 3, none⟩ (.int .i64 (x4))).heap[g + 1]? = some (.cells #[.int .i64 (1), .int .i64 (x2), .int .i64 (0), .int .i64 (x4), .bool d, .bool d4, .bool d5, .slice A0 gk.length c0] 60 (0, 0))) := hid (heap_setCell_same _ (g + 1) 3 _ _ (.int .i64 (x4)) (heap_setCell_same _ (g + 1) 1 _ _ (.int .i64 (x2)) (heap_setCell_same _ (g + 1) 0 _ _ (.int .i64 (1)) (hr))))
          have HZ9 : Hid (((((wr).setCell ⟨g + 1, 0, none⟩ (.int .i64 (1))).setCell ⟨g + 1, 1, none⟩ (.int .i64 (x2))).setCell ⟨g + 1, 3, none⟩ (.int .i64 (x4))).heap[g]? = _) := hid ((Below.heap_setCell (((wr).setCell ⟨g + 1, 0, none⟩ (.int .i64 (1))).setCell ⟨g + 1, 1, none⟩ (.int .i64 (x2))) ⟨g + 1, 3, none⟩ (.int .i64 (x4)) g (by show g ≠ g + 1; omega)).trans ((Below.heap_setCell ((wr).setCell ⟨g + 1, 0, none⟩ (.int .i64 (1))) ⟨g + 1, 1, none⟩ (.int .i64 (x2)) g (by show g ≠ g + 1; omega)).trans ((Below.heap_setCell (wr) ⟨g + 1, 0, none⟩ (.int .i64 (1)) g (by show g ≠ g + 1; omega)).trans (hz0))))
          have HO9 : Hid (OwnI ((((wr).setCell ⟨g + 1, 0, none⟩ (.int .i64 (1))).setCell ⟨g + 1, 1, none⟩ (.int .i64 (x2))).setCell ⟨g + 1, 3, none⟩ (.int .i64 (x4))) (g + 1 + 1) _ _) := hid (OwnI.keep ho (fun q hq _ => (Below.heap_setCell (((wr).setCell ⟨g + 1, 0, none⟩ (.int .i64 (1))).setCell ⟨g + 1, 1, none⟩ (.int .i64 (x2))) ⟨g + 1, 3, none⟩ (.int .i64 (x4)) q (by show q ≠ g + 1; omega)).trans ((Below.heap_setCell ((wr).setCell ⟨g + 1, 0, none⟩ (.int .i64 (1))) ⟨g + 1, 1, none⟩ (.int .i64 (x2)) q (by show q ≠ g + 1; omega)).trans ((Below.heap_setCell (wr) ⟨g + 1, 0, none⟩ (.int .i64 (1)) q (by show q ≠ g + 1; omega)).trans (rfl)))))
          generalize (((wr).setCell ⟨g + 1, 0, none⟩ (.int .i64 (1))).setCell ⟨g + 1, 1, none⟩ (.int .i64 (x2))).setCell ⟨g + 1, 3, none⟩ (.int .i64 (x4)) = w9 at *
          clear hr ho hz0 hb hG
          go_wp2_with (first | (refine ldR rfl _ rfl (g + 1) rfl _ HR9.out rfl ?_) | (refine stR rfl _ _ rfl g _ rfl rfl _ HZ9.out rfl rfl (row_one (s := ⟨_, _, _, _, _, _, _, []⟩) rfl) ?_))
          refine retR (g := g) rfl rfl rfl (setRow_heap _ _ _ _ _ _ HZ9.out) rfl ⟨.slice A0 gk.length c0, by rw [HE.out]; rfl, ?_, below_setRow' HB9.out (by have := HG.out; omega) _⟩
          rw [HE.out]
          exact (OwnI.keep HO9.out fun q hq _ => setRow_other _ _ _ _ (by omega)).more (by have := HG.out; omega)
        · by_cases h3 : 0 ≤ f3
          · obtain ⟨i, ei, hi, hf⟩ := fsI_at (l := xs) (b := 3) (by rw [Q3.out]; exact h3)
            rw [Q3.out] at ei
            have HE := hid (HE3.out i (by have := Hl.out; omega) h1 hf)
            have hik : (i : Int) < (k : Int) := by have := Hl.out; omega
            obtain ⟨b0, o, rfl, _, _, p1, p2, _, p4⟩ := HX.out i hi
            have hb0 : b0 ≠ g + 1 := by have := HG.out; omega
            subst ei
            clear HX HZs HZa HZ1 HE1 HE3 HE2 HE0 hf HU
            generalize xs[i].u = x4 at *
            go_upto_region 27 with fail
            have HB9 := hid (((hb).setCell (p := ⟨g + 1, 0, none⟩) (by have := HG.out; show _ ≤ g + 1; omega) (.int .i64 (3))).setCell (p := ⟨g + 1, 3, none⟩) (by have := HG.out; show _ ≤ g + 1; omega) (.int .i64 (x4)))
            have HR9 : Hid ((((wr).setCell ⟨g + 1, 0, none⟩ (.int .i64 (3))).setCell ⟨g + 1, 3, none⟩ (.int .i64 (x4))).heap[g + 1]? = some (.cells #[.int .i64 (3), .int .i64 (zs), .int .i64 (za), .int .i64 (x4), .bool d, .bool d4, .bool d5, .slice A0 gk.length c0] 60 (0, 0))) := hid (heap_setCell_same _ (g + 1) 3 _ _ (.int .i64 (x4)) (heap_setCell_same _ (g + 1) 0 _ _ (.int .i64 (3)) (hr)))
            have HZ9 : Hid ((((wr).setCell ⟨g + 1, 0, none⟩ (.int .i64 (3))).setCell ⟨g + 1, 3, none⟩ (.int .i64 (x4))).heap[g]? = _) := hid ((Below.heap_setCell ((wr).setCell ⟨g + 1, 0, none⟩ (.int .i64 (3))) ⟨g + 1, 3, none⟩ (.int .i64 (x4)) g (by show g ≠ g + 1; omega)).trans ((Below.heap_setCell (wr) ⟨g + 1, 0, none⟩ (.int .i64 (3)) g (by show g ≠ g + 1; omega)).trans (hz0)))
            have HO9 : Hid (OwnI (((wr).setCell ⟨g + 1, 0, none⟩ (.int .i64 (3))).setCell ⟨g + 1, 3, none⟩ (.int .i64 (x4))) (g + 1 + 1) _ _) := hid (OwnI.keep ho (fun q hq _ => (Below.heap_setCell ((wr).setCell ⟨g + 1, 0, none⟩ (.int .i64 (3))) ⟨g + 1, 3, none⟩ (.int .i64 (x4)) q (by show q ≠ g + 1; omega)).trans ((Below.heap_setCell (wr) ⟨g + 1, 0, none⟩ (.int .i64 (3)) q (by show q ≠ g + 1; omega)).trans (rfl))))
            generalize ((wr).setCell ⟨g + 1, 0, none⟩ (.int .i64 (3))).setCell ⟨g + 1, 3, none⟩ (.int .i64 (x4)) = w9 at *
            clear hr ho hz0 hb hG
            go_wp2_with (first | (refine ldR rfl _ rfl (g + 1) rfl _ HR9.out rfl ?_) | (refine stR rfl _ _ rfl g _ rfl rfl _ HZ9.out rfl rfl (row_one (s := ⟨_, _, _, _, _, _, _, []⟩) rfl) ?_))
            refine retR (g := g) rfl rfl rfl (setRow_heap _ _ _ _ _ _ HZ9.out) rfl ⟨.slice A0 gk.length c0, by rw [HE.out]; rfl, ?_, below_setRow' HB9.out (by have := HG.out; omega) _⟩
            rw [HE.out]
            exact (OwnI.keep HO9.out fun q hq _ => setRow_other _ _ _ _ (by omega)).more (by have := HG.out; omega)
          · obtain rfl : zs = 0 := HZs.out h3
            obtain rfl : za = 0 := HZa.out h3
            by_cases h2 : 0 ≤ f2
            · obtain ⟨i, ei, hi, hf⟩ := fsI_at (l := xs) (b := 2) (by rw [Q2.out]; exact h2)
              rw [Q2.out] at ei
              have HE := hid (HE2.out i (by have := Hl.out; omega) h1 h3 hf)
              have hik : (i : Int) < (k : Int) := by have := Hl.out; omega
              obtain ⟨b0, o, rfl, _, _, p1, p2, _, p4⟩ := HX.out i hi
              have hb0 : b0 ≠ g + 1 := by have := HG.out; omega
              subst ei
              clear HX HZs HZa HZ1 HE1 HE3 HE2 HE0 hf HU
              generalize xs[i].s.size = x2 at *
              generalize xs[i].u = x4 at *
              go_upto_region 27 with fail
              have HB9 := hid ((((hb).setCell (p := ⟨g + 1, 0, none⟩) (by have := HG.out; show _ ≤ g + 1; omega) (.int .i64 (2))).setCell (p := ⟨g + 1, 1, none⟩) (by have := HG.out; show _ ≤ g + 1; omega) (.int .i64 (x2))).setCell (p := ⟨g + 1, 3, none⟩) (by have := HG.out; show _ ≤ g + 1; omega) (.int .i64 (x4)))
              have HR9 : Hid (((((wr).setCell ⟨g + 1, 0, none⟩ (.int .i64 (2))).setCell ⟨g + 1, 1, none⟩ (.int .i64 (x2))).setCell ⟨g + 1, 3, none⟩ (.int .i64 (x4))).heap[g + 1]? = some (.cells #[.int .i64 (2), .int .i64 (x2), .int .i64 (0), .int .i64 (x4), .bool d, .bool d4, .bool d5, .slice A0 gk.length c0] 60 (0, 0))) := hid (heap_setCell_same _ (g + 1) 3 _ _ (.int .i64 (x4)) (heap_setCell_same _ (g + 1) 1 _ _ (.int .i64 (x2)) (heap_setCell_same _ (g + 1) 0 _ _ (.int .i64 (2)) (hr))))
              have HZ9 : Hid (((((wr).setCell ⟨g + 1, 0, none⟩ (.int .i64 (2))).setCell ⟨g + 1, 1, none⟩ (.int .i64 (x2))).setCell ⟨g + 1, 3, none⟩ (.int .i64 (x4))).heap[g]? = _) := hid ((Below.heap_setCell (((wr).setCell ⟨g + 1, 0, none⟩ (.int .i64 (2))).setCell ⟨g + 1, 1, none⟩ (.int .i64 (x2))) ⟨g + 1, 3, none⟩ (.int .i64 (x4)) g (by show g ≠ g + 1; omega)).trans ((Below.heap_setCell ((wr).setCell ⟨g + 1, 0, none⟩ (.int .i64 (2))) ⟨g + 1, 1, none⟩ (.int .i64 (x2)) g (by show g ≠ g + 1; omega)).trans ((Below.heap_setCell (wr) ⟨g + 1, 0, none⟩ (.int .i64 (2)) g (by show g ≠ g + 1; omega)).trans (hz0))))
              have HO9 : Hid (OwnI ((((wr).setCell ⟨g + 1, 0, none⟩ (.int .i64 (2))).setCell ⟨g + 1, 1, none⟩ (.int .i64 (x2))).setCell ⟨g + 1, 3, none⟩ (.int .i64 (x4))) (g + 1 + 1) _ _) := hid (OwnI.keep ho (fun q hq _ => (Below.heap_setCell (((wr).setCell ⟨g + 1, 0, none⟩ (.int .i64 (2))).setCell ⟨g + 1, 1, none⟩ (.int .i64 (x2))) ⟨g + 1, 3, none⟩ (.int .i64 (x4)) q (by show q ≠ g + 1; omega)).trans ((Below.heap_setCell ((wr).setCell ⟨g + 1, 0, none⟩ (.int .i64 (2))) ⟨g + 1, 1, none⟩ (.int .i64 (x2)) q (by show q ≠ g + 1; omega)).trans ((Below.heap_setCell (wr) ⟨g + 1, 0, none⟩ (.int .i64 (2)) q (by show q ≠ g + 1; omega)).trans (rfl)))))
              generalize (((wr).setCell ⟨g + 1, 0, none⟩ (.int .i64 (2))).setCell ⟨g + 1, 1, none⟩ (.int .i64 (x2))).setCell ⟨g + 1, 3, none⟩ (.int .i64 (x4)) = w9 at *
              clear hr ho hz0 hb hG
              go_wp2_with (first | (refine ldR rfl _ rfl (g + 1) rfl _ HR9.out rfl ?_) | (refine stR rfl _ _ rfl g _ rfl rfl _ HZ9.out rfl rfl (row_one (s := ⟨_, _, _, _, _, _, _, []⟩) rfl) ?_))
              refine retR (g := g) rfl rfl rfl (setRow_heap _ _ _ _ _ _ HZ9.out) rfl ⟨.slice A0 gk.length c0, by rw [HE.out]; rfl, ?_, below_setRow' HB9.out (by have := HG.out; omega) _⟩
              rw [HE.out]
              exact (OwnI.keep HO9.out fun q hq _ => setRow_other _ _ _ _ (by omega)).more (by have := HG.out; omega)
            · have HE := hid (HE0.out h1 h3 h2)
              clear HX HZs HZa HZ1 HE1 HE3 HE2 HE0 HU
              go_upto_region 27 with fail
              have HB9 := hid (hb)
              have HR9 : Hid ((wr).heap[g + 1]? = some (.cells #[.int .i64 (0), .int .i64 (0), .int .i64 (0), .int .i64 (-1), .bool d, .bool d4, .bool d5, .slice A0 gk.length c0] 60 (0, 0))) := hid (hr)
              have HZ9 : Hid ((wr).heap[g]? = _) := hid (hz0)
              have HO9 : Hid (OwnI (wr) (g + 1 + 1) _ _) := hid (OwnI.keep ho (fun q hq _ => rfl))
              generalize wr = w9 at *
              clear hr ho hz0 hb hG
              go_wp2_with (first | (refine ldR rfl _ rfl (g + 1) rfl _ HR9.out rfl ?_) | (refine stR rfl _ _ rfl g _ rfl rfl _ HZ9.out rfl rfl (row_one (s := ⟨_, _, _, _, _, _, _, []⟩) rfl) ?_))
              refine retR (g := g) rfl rfl rfl (setRow_heap _ _ _ _ _ _ HZ9.out) rfl ⟨.slice A0 gk.length c0, by rw [HE.out]; rfl, ?_, below_setRow' HB9.out (by have := HG.out; omega) _⟩
              rw [HE.out]
              exact (OwnI.keep HO9.out fun q hq _ => setRow_other _ _ _ _ (by omega)).more (by have := HG.out; omega)
end Go.Proofs.YtbcjbembhajgcaaDoor.Bnd
