/-
  The frame of wanted's laws (plain rows): lists of names and steps as arguments; how long the lists of names may be.
-/
import Derived.Test.YtbcjbembhajgcaaQl
import Derived.Test.YtbcjbembhajgcaaQj
import Derived.Test.YtbcjbembhajgcaaMp
import Derived.Deep.SlicePairs
import Derived.SizedLaws
namespace Go.Proofs.Ytbcjbembhajgcaa.Frame
open Go.ChangeShapes Go.WideShapes Go.ChangeAt Go.RowKit Go.Proofs Go.Deep
open Go.Proofs.Ytbcjbembhajgcaa.Wnt (Stp RdSt sumN sumN_snoc)
set_option maxRecDepth 100000

/-- Names, as they come in. -/
theorem names_of {H : Type} {enc : TypeId × Value → H} {W : World} {fuel : Nat} {v : Value} {x : DataW H × List MemPlace} (hf : DataW.trod enc Try.prog W 0 (fun _ => true) true fuel 26 [v] = some x) :
    ∃ A n c l, v = .slice A n c ∧ Sls.Rd W W.heap.size A n l ∧ n ≤ c ∧ c ≤ maxLen := by
  rcases open_strings Try.underlying26 Try.underlying9 (by kernel_rfl) hf with ⟨hcs, _⟩ | ⟨x, l, c', zs, hcs, _, hl, hm, hz, _, hcell, hwz⟩
  · injection hcs with hcs
    exact ⟨_, _, _, [], hcs, Sls.Rd.nil _ _ _, by omega, by unfold maxLen; omega⟩
  · injection hcs with hcs
    have hz' : zs.length = c' := by simpa using hz
    by_cases h0 : l = 0
    · subst h0
      exact ⟨_, _, _, [], hcs, Sls.Rd.nil _ _ _, hl, hm⟩
    · refine ⟨_, _, _, zs.take l, hcs, ⟨by simp; omega, fun k hk => ?_⟩, hl, hm⟩
      have hkn : k < l := by simp at hk; omega
      have hc := hcell k (by omega)
      obtain ⟨b, o, spot⟩ := x
      have hspot : spot = none := by
        have := World.cell?_spot (hcell 0 (by omega))
        simpa [Addr.add] using this
      subst hspot
      have ha : (⟨b, o, none⟩ : Addr).add k = ⟨b, o + k, none⟩ := by unfold Addr.add; split <;> simp_all
      rw [ha] at hc
      refine ⟨b, o, rfl, World.block_lt_of_cell? _ _ hc, ?_⟩
      rw [hc]
      simp [List.getD_eq_getElem?_getD, List.getElem?_eq_getElem (show k < zs.length by omega)]
theorem open_strs {H : Type} {enc : TypeId × Value → H} {W : World} {base : Nat} {v : Value} {d : DataW H} {p : List MemPlace} (hok : Value.okWide Try.prog W .any base 26 v)
    (ht : DataW.Trod enc Try.prog W 0 (fun _ => true) true 26 v d p) : ∃ A n c l, v = .slice A n c ∧ Sls.Rd W W.heap.size A n l ∧ n ≤ c ∧ c ≤ maxLen := by
  obtain ⟨A, n, c, rfl⟩ := okWide_slice Try.underlying26 hok
  obtain ⟨fuel, hf⟩ := ht
  exact names_of hf
/-- How long a list of names may be. -/
theorem names_len {H : Type} {enc : TypeId × Value → H} {W : World} {fuel : Nat} {A : Option Addr} {n c : Nat} {d : DataW H} {p : List MemPlace} (hf : DataW.trod enc Try.prog W 0 (fun _ => true) true fuel 26 [.slice A n c] = some (d, p))
    (hw : ∀ k ∈ d.weights Try.prog 26, k ≤ reachBytes) : n ≤ reachBytes := by
  rcases open_slice Try.underlying26 hf with ⟨hcs, _⟩ | ⟨a, len, cap, m, n', D, Pl, hcs, _, hl, _, hmm, hx, _⟩
  · injection hcs with hcs
    injection hcs with _ hn _
    omega
  · injection hcs with hcs
    injection hcs with _ hn _
    subst hn
    injection hx with hx _
    subst hx
    have hb : Try.prog.bytesOf 9 = 16 := by kernel_rfl
    have := hw ((n + (m - n)) * Try.prog.bytesOf 9) (by simp [DataW.weights, Try.underlying26])
    rw [hb] at this
    omega
theorem weights_all {H : Type} {P : Program} {e : TypeId} : ∀ {ds : List (DataW H)} {d : DataW H}, d ∈ ds → ∀ k ∈ d.weights P e, k ∈ DataW.weightsAll P e ds
  | x :: ds, d, h, k, hk => by
    simp only [DataW.weightsAll, List.mem_append]
    rcases List.mem_cons.1 h with rfl | h
    · exact .inl hk
    · exact .inr (weights_all h k hk)
theorem sum_le {ss : List Stp} {B : Nat} (h : ∀ x ∈ ss, x.n ≤ B) : sumN ss ≤ ss.length * B := by
  induction ss with
  | nil => simp [sumN]
  | cons x ss ih =>
    have h1 := h x List.mem_cons_self
    have h2 := ih fun y hy => h y (List.mem_cons_of_mem _ hy)
    have e : sumN (x :: ss) = x.n + sumN ss := by simp [sumN]
    rw [e, List.length_cons, Nat.add_mul]
    omega
theorem open_steps {H : Type} {enc : TypeId × Value → H} {W : World} {base : Nat} {v : Value} {d : DataW H} {p : List MemPlace} (hok : Value.okWide Try.prog W .any base 22 v)
    (ht : DataW.Trod enc Try.prog W 0 (fun _ => true) true 22 v d p) (hw : ∀ k ∈ d.weights Try.prog 22, k ≤ reachBytes) : ∃ A n c ss, v = .slice A n c ∧ RdSt W W.heap.size A n ss ∧ sumN (ss.take 61) ≤ maxLen := by
  obtain ⟨A, n, c, rfl⟩ := okWide_slice Try.underlying22 hok
  obtain ⟨fuel, hf⟩ := ht
  rcases open_slice_pairs (f0 := _) (f1 := _) Try.underlying22 Try.underlying33 (by kernel_rfl) (by kernel_rfl) (by kernel_rfl) (by kernel_rfl) (by kernel_rfl) hf with ⟨hcs, _⟩ | ⟨a, len, cap, m, n', V0, V1, D0, D1, P0, P1, hcs, _, hl, hm, hmm, hx, hi⟩
  · injection hcs with hcs
    injection hcs with _ hn _
    subst hn
    exact ⟨_, _, _, [], rfl, ⟨rfl, fun k hk => absurd hk (by simp)⟩, by simp [sumN]⟩
  · injection hcs with hcs
    have hmc : m = cap := by simpa using hmm
    by_cases h0 : len = 0
    · subst h0
      injection hcs with _ hn _
      subst hn
      exact ⟨_, _, _, [], rfl, ⟨rfl, fun k hk => absurd hk (by simp)⟩, by simp [sumN]⟩
    · obtain ⟨b, o, spot⟩ := a
      have hspot : spot = none := by
        have := World.cell?_spot (hi 0 (by omega)).1
        simpa [Addr.add] using this
      subst hspot
      have ha : ∀ i, (⟨b, o, none⟩ : Addr).add i = ⟨b, o + i, none⟩ := fun i => by
        unfold Addr.add
        split <;> simp_all
      injection hx with hx _
      have key : ∀ i, i < len → ∃ y : Stp, (b < W.heap.size ∧ W.cell? ⟨b, o + i * 2, none⟩ = some (.bool y.tk) ∧ W.cell? ⟨b, o + i * 2 + 1, none⟩ = some (.slice y.A y.n y.c) ∧ Sls.Rd W W.heap.size y.A y.n y.ns ∧ y.n ≤ y.c ∧ y.c ≤ maxLen) ∧ y.n ≤ reachBytes := fun i hil => by
        obtain ⟨c0, c1, g0, g1⟩ := hi i (by omega)
        obtain ⟨t, e0, _⟩ := DataW.trod_bool Try.underlying4 g0
        injection e0 with e0
        obtain ⟨A', n', c', l, e1, hr, h1, h2⟩ := names_of g1
        rw [e0] at c0
        rw [e1] at c1 g1
        rw [ha] at c0 c1
        have hmem : DataW.agg [D0 i, D1 i] ∈ (List.range len).map fun i => DataW.agg [D0 i, D1 i] := List.mem_map.2 ⟨i, List.mem_range.2 hil, rfl⟩
        have hn := names_len g1 fun k hk => hw k (by
          rw [hx]
          simp only [DataW.weights, Try.underlying22, List.mem_cons, List.mem_append]
          refine .inr (.inl (weights_all hmem k ?_))
          simp only [DataW.weights, Try.underlying33, DataW.weightsEach, List.map_cons, List.map_nil, List.mem_append]
          exact .inr (.inl hk))
        exact ⟨⟨t, A', n', c', l⟩, ⟨World.block_lt_of_cell? _ _ (c0.trans rfl), c0, c1, hr, h1, h2⟩, hn⟩
      obtain ⟨ss, hsl, hs⟩ := listed len key
      refine ⟨_, len, cap, ss, by injection hcs, ⟨hsl, fun k hk => ?_⟩, ?_⟩
      · obtain ⟨⟨hb, h1, h2, h3⟩, _⟩ := hs k hk
        exact ⟨b, o, rfl, hb, h1, h2, h3⟩
      · have h1 : sumN (ss.take 61) ≤ (ss.take 61).length * reachBytes := sum_le fun x hx => by
          obtain ⟨k, hk, rfl⟩ := List.getElem_of_mem (List.mem_of_mem_take hx)
          exact (hs k hk).2
        have h2 : (ss.take 61).length ≤ 61 := by rw [List.length_take]; omega
        have h3 := reachBytes_lt
        have h4 : (ss.take 61).length * reachBytes ≤ 61 * reachBytes := Nat.mul_le_mul_right _ h2
        have h5 : 61 * reachBytes ≤ 61 * 140737488355328 := Nat.mul_le_mul_left _ (by omega)
        unfold maxLen
        omega

/-- From a walk to a plain row, with what is known of the lengths. -/
theorem lifted_sized {os : Os} {started : os.Started} {H : Type} {enc : TypeId × Value → H} {f : FuncId} {fn : Func} {s : ChangeSpec} (hv : s.vars = [])
    (hs : ∀ ds : List (DataW H), ds.length = fn.params.size → s.fn H ds = { results := [.lit (.bool true)], args := ds }) (hres : fn.resultTypes = #[4])
    (hpar : (fn.params.toList.all fun t => Try.prog.readableRec t && decide (t < Try.prog.types.size)) = true) (noInit : Try.prog.inits.idxOf? f = none) (hfn : Try.prog.funcs[f]? = some fn)
    (witness : ∃ (w : World) (tape : Tape) (i : Input), w.os = os ∧ (w.forCall tape i).Shaped Try.prog ∧ i.vars = [] ∧ Input.okWide Try.prog (w.forCall tape i) .any w.heap.size f i ∧
      s.pre6 enc Try.prog fn [] false (w.forCall tape i).memory i.args ∧ ({} : Assume).holds Try.prog (lone (Frame.enter Try.prog f i.args .normal) [] (w.forCall tape i)))
    (walk : ∀ W base args ds p, Args enc fn W base args ds p → (∀ (j : Nat) t (d : DataW H), fn.params[j]? = some t → ds[j]? = some d → ∀ k ∈ d.weights Try.prog t, k ≤ reachBytes) → Calls Try.prog f args W fun e w' => e = .returned (.bool true) ∧ Below W.heap.size W w') :
    ReturnsInHanded {} Try.checked os f .any (s.pre6 enc Try.prog fn [] false) (s.post enc Try.prog fn false true false false) := by
  refine returnsInHanded_of_change_sized (C := Try.checked) own started noInit hfn witness ?_
  intro W base args ds gs before hval hW _ hz _
  have hW' := hW
  obtain ⟨p, q, hA, hV, rfl, hfz, hnd⟩ := hW
  rw [hv] at hV
  obtain ⟨rfl, rfl⟩ := trodVars_none hV
  have hlt : ∀ x ∈ p, x.block < W.heap.size := fun x hx => hW'.lt x (by simp [hx])
  have hws : ∀ (j : Nat) t (d : DataW H), fn.params[j]? = some t → ds[j]? = some d → ∀ k ∈ d.weights Try.prog t, k ≤ reachBytes := fun j t d ht hd k hk => by
    have hj : j < fn.params.toList.length := by
      rw [Array.length_toList]
      exact (Array.getElem?_eq_some_iff.1 ht).1
    have := List.all_eq_true.1 hz k (DataW.weights_mem_each (j := j) (t := t) (d := d) (by rw [List.getElem?_append_left hj, Array.getElem?_toList]; exact ht) (by rw [List.append_nil]; exact hd) k hk)
    simpa using this
  refine (walk W base args ds p ⟨hval, hA, hlt⟩ hws).mono fun e W' ⟨he, bel⟩ => ?_
  subst he
  have hlen : ds.length = fn.params.size := by rw [trodAll_length _ _ _ _ hA]; simp
  have hsp := hs ds hlen
  refine ⟨_, rfl, ds, [], p ++ [], [], p, [], hW', ?_, ?_, ?_, bel.frame _, fun h => by cases h⟩
  · rw [List.append_nil, hsp, hres]
    exact trodAll_mk1 (shut_bool Try.underlying4 _)
  · rw [List.append_nil, hsp]
    exact retrod bel _ _ _ _ (fun t ht => by have := List.all_eq_true.1 hpar t ht; simpa using this) hlt hA
  · rw [List.append_nil, hsp, hv]
    exact rfl
end Go.Proofs.Ytbcjbembhajgcaa.Frame
