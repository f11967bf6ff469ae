/-
  From a walk to the statement of a law whose row lists variables of the library: a function of plain data that returns true and leaves below what was there. Headers as arguments.
-/
import Derived.Test.YtfhdgbpkhcnanaaDoorLaw
import Derived.Test.YtfhdgbpkhcnanaaDoorTie
import Derived.ProofKit
import Derived.Deep.Fields
import Derived.Lay
import Derived.LaidOnce
import Derived.SevenTiedAt
namespace Go.Proofs.YtfhdgbpkhcnanaaDoor.Frame
open Go.ChangeShapes Go.WideShapes Go.ChangeAt Go.RowKit Go.Deep Go.Proofs

theorem liftedL {os : Os} {started : os.Started} {H : Type} {enc : TypeId × Value → H} {f : FuncId} {fn : Func} {s : ChangeSpec} {L : List (String × DataW Unit)} (hv : s.vars = [])
    (hs : ∀ ds : List (DataW H), ds.length = fn.params.size → s.fn H ds = { results := [.lit (.bool true)], args := ds }) (hres : fn.resultTypes = #[4])
    (hpar : (fn.params.toList.all fun t => Tryd.prog.readableRec t && decide (t < Tryd.prog.types.size)) = true) (noInit : Tryd.prog.inits.idxOf? f = none) (hfn : Tryd.prog.funcs[f]? = some fn)
    (witness : ∃ (w : World) (tape : Tape) (i : Input), w.os = os ∧ (w.forCall tape i).Shaped Tryd.prog ∧ i.vars = [] ∧ Input.okWide Tryd.prog (w.forCall tape i) .any w.heap.size f i ∧
      ((s.pre enc Tryd.prog fn [] false (w.forCall tape i).memory i.args ∧ laidMetH Tryd.prog L (w.forCall tape i).memory) ∧ sizedMet enc Tryd.prog fn (OpenSpec.ofChange s) false (w.forCall tape i).memory i.args) ∧ ({} : Assume).holds Tryd.prog (lone (Frame.enter Tryd.prog f i.args .normal) [] (w.forCall tape i)))
    (walk : ∀ W base args ds p, Args enc fn W base args ds p → Calls Tryd.prog f args W fun e w' => e = .returned (.bool true) ∧ Below W.heap.size W w') :
    ReturnsInHanded {} Tryd.checked os f .any (fun w args => (s.pre enc Tryd.prog fn [] false w args ∧ laidMetH Tryd.prog L w) ∧ sizedMet enc Tryd.prog fn (OpenSpec.ofChange s) false w args) (s.post enc Tryd.prog fn false true false false) := by
  refine returnsInHanded_of_change_and (C := Tryd.checked) (X := fun w _ => laidMetH Tryd.prog L w) (fun _ _ _ hh h => h.of_heap hh) own started noInit hfn witness ?_
  intro W base args ds gs before hval hW _ _ _ _
  have hW' := hW
  obtain ⟨p, q, hA, hV, rfl, hfz, hnd⟩ := hW
  rw [hv] at hV
  obtain ⟨rfl, rfl⟩ := trodVars_none hV
  have hlt : ∀ x ∈ p, x.block < W.heap.size := fun x hx => hW'.lt x (by simp [hx])
  refine (walk W base args ds p ⟨hval, hA, hlt⟩).mono fun e W' ⟨he, bel⟩ => ?_
  subst he
  have hlen : ds.length = fn.params.size := by rw [trodAll_length _ _ _ _ hA]; simp
  have hsp := hs ds hlen
  refine ⟨_, rfl, ds, [], p ++ [], [], p, [], hW', ?_, ?_, ?_, bel.frame _, fun h => by cases h⟩
  · rw [List.append_nil, hsp, hres]
    exact trodAll_mk1 (shut_bool Tryd.underlying4 _)
  · rw [List.append_nil, hsp]
    exact retrod bel _ _ _ _ (fun t ht => by have := List.all_eq_true.1 hpar t ht; simpa using this) hlt hA
  · rw [List.append_nil, hsp, hv]
    exact rfl

/-- A field of one cell, out of a struct by value. -/
theorem one_field {H : Type} {enc : TypeId × Value → H} {W : World} {fs : Array Field} {cs : List Value} {xs : List (DataW H × List MemPlace)} {n : Nat} (hone : oneCellFields Tryd.prog fs = true) (hl : xs.length = fs.size)
    (hg : ∀ (i : Nat) (f : Field), fs[i]? = some f → DataW.trod enc Tryd.prog W 0 (fun _ => true) true n f.type ((cs.drop f.offset).take (Tryd.prog.cellsOf f.type)) = xs[i]?) (i : Nat) (f : Field) (hf : fs[i]? = some f) (c : Value) (hc : cs[i]? = some c) :
    ∃ y, DataW.trod enc Tryd.prog W 0 (fun _ => true) true n f.type [c] = some y := by
  obtain ⟨h1, h2⟩ := hone_of hone i f hf
  have hlt : i < xs.length := by rw [hl]; exact (Array.getElem?_eq_some_iff.1 hf).1
  have h3 := hg i f hf
  rw [h1, h2, List.getElem?_eq_getElem hlt] at h3
  have h4 : (cs.drop i).take 1 = [c] := by
    obtain ⟨h5, h6⟩ := List.getElem?_eq_some_iff.1 hc
    rw [List.drop_eq_getElem_cons h5, h6]
    rfl
  rw [h4] at h3
  exact ⟨_, h3⟩

/-- A header of the reference, as an argument. -/
theorem open_hdr {H : Type} {enc : TypeId × Value → H} {W : World} {base : Nat} {v : Value} {d : DataW H} {p : List MemPlace} (hok : Value.okWide Tryd.prog W .any base 23 v)
    (ht : DataW.Trod enc Tryd.prog W 0 (fun _ => true) true 23 v d p) :
    ∃ (s : ByteArray) (t u g m z : Int), v = .agg #[.string s, .int .i64 t, .int .i64 u, .int .i64 g, .int .i64 m, .int .i64 z] ∧ s.size ≤ maxLen ∧ t < 9223372036854775808 ∧ u < 9223372036854775808 ∧ g < 9223372036854775808 ∧ m < 9223372036854775808 ∧ z < 9223372036854775808 := by
  obtain ⟨cs, rfl, hsz⟩ := okWide_struct Tryd.underlying23 hok
  obtain ⟨l⟩ := cs
  have hsz' : l.length = 6 := hsz.trans (by kernel_rfl)
  match l, hsz' with
  | [c0, c1, c2, c3, c4, c5], _ =>
    obtain ⟨fuel, hf⟩ := ht
    obtain ⟨xs, n, _, _, _, hlen, hg⟩ := DataW.trod_struct Tryd.underlying23 hf
    have hone : oneCellFields Tryd.prog _ = true := (by kernel_rfl : oneCellFields Tryd.prog (match Tryd.prog.underlying 23 with | some (.struct fs) => fs | _ => #[]) = true)
    obtain ⟨y0, g0⟩ := one_field hone hlen hg 0 _ rfl c0 rfl
    obtain ⟨y1, g1⟩ := one_field hone hlen hg 1 _ rfl c1 rfl
    obtain ⟨y2, g2⟩ := one_field hone hlen hg 2 _ rfl c2 rfl
    obtain ⟨y3, g3⟩ := one_field hone hlen hg 3 _ rfl c3 rfl
    obtain ⟨y4, g4⟩ := one_field hone hlen hg 4 _ rfl c4 rfl
    obtain ⟨y5, g5⟩ := one_field hone hlen hg 5 _ rfl c5 rfl
    obtain ⟨s, e0, _, hs⟩ := DataW.trod_string Tryd.underlying9 g0
    obtain ⟨t, e1, _, w1⟩ := DataW.trod_int Tryd.underlying3 g1
    obtain ⟨u, e2, _, w2⟩ := DataW.trod_int Tryd.underlying3 g2
    obtain ⟨g, e3, _, w3⟩ := DataW.trod_int Tryd.underlying3 g3
    obtain ⟨m, e4, _, w4⟩ := DataW.trod_int Tryd.underlying3 g4
    obtain ⟨z, e5, _, w5⟩ := DataW.trod_int Tryd.underlying3 g5
    injection e0 with e0; injection e1 with e1; injection e2 with e2; injection e3 with e3; injection e4 with e4; injection e5 with e5
    subst e0; subst e1; subst e2; subst e3; subst e4; subst e5
    have b1 := bounds_i64 w1
    have b2 := bounds_i64 w2
    have b3 := bounds_i64 w3
    have b4 := bounds_i64 w4
    have b5 := bounds_i64 w5
    exact ⟨s, t, u, g, m, z, rfl, hs, by omega, by omega, by omega, by omega, by omega⟩
end Go.Proofs.YtfhdgbpkhcnanaaDoor.Frame
