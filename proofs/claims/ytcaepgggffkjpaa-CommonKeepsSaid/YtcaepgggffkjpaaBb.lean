/-
  bind: what the reference gives is the state of all (mathematics).
-/
import Derived.Test.YtcaepgggffkjpaaBa
namespace Go.Proofs.Ytcaepgggffkjpaa.Bnd
open Go.Proofs.Ytcaepgggffkjpaa.Obj (Sy)

/-- The first symbol with a binding. -/
def fst (l : List Us) (b : Int) : Option Us := l.find? fun x => x.s.bind == b
/-- Its index. -/
def fsI (l : List Us) (b : Int) : Int := match l.findIdx? (fun x => x.s.bind == b) with | none => -1 | some i => (i : Int)
def mxs (f : Us → Int) (l : List Us) : Int := l.foldl (fun n x => if x.s.bind = 3 then max n (f x) else n) 0
/-- The state, as the reference has it. -/
def ofL (l : List Us) : St :=
  let d := (fst l 1).isSome || (fst l 2).isSome
  let g := (l.filter fun x => x.s.bind == 1).map (·.u)
  match fst l 1 with
  | some x => ⟨1, x.s.size, 0, x.u, d, (fst l 4).isSome, (fst l 5).isSome, g⟩
  | none => match fst l 3 with
    | some x => ⟨3, mxs (·.s.size) l, mxs (·.s.align) l, x.u, d, (fst l 4).isSome, (fst l 5).isSome, g⟩
    | none => match fst l 2 with
      | some x => ⟨2, x.s.size, 0, x.u, d, (fst l 4).isSome, (fst l 5).isSome, g⟩
      | none => ⟨0, 0, 0, -1, d, (fst l 4).isSome, (fst l 5).isSome, g⟩
theorem mxs_snoc (f : Us → Int) (l : List Us) (x : Us) : mxs f (l ++ [x]) = if x.s.bind = 3 then max (mxs f l) (f x) else mxs f l := by simp [mxs]
theorem mxs_none (f : Us → Int) : ∀ l : List Us, fst l 3 = none → mxs f l = 0 := by
  refine Dec.by_snoc (fun _ => rfl) (fun l x ih h => ?_)
  unfold fst at h ih
  rw [List.find?_append] at h
  simp only [Option.or_eq_none_iff] at h
  have h2 : ¬ x.s.bind = 3 := by simpa using h.2
  rw [mxs_snoc, if_neg h2, ih h.1]
theorem fst_snoc (l : List Us) (x : Us) (b : Int) : fst (l ++ [x]) b = (fst l b).or (if x.s.bind = b then some x else none) := by
  unfold fst
  rw [List.find?_append]
  congr 1
  by_cases h : x.s.bind = b <;> simp [h]
set_option linter.unusedSimpArgs false in
theorem ofL_snoc (l : List Us) (x : Us) (hx : uOk x = true) : ofL (l ++ [x]) = joi (ofL l) (sgl x) := by
  obtain ⟨_, _, hs, ha, _⟩ := uOk_iff.1 hx
  have m1 := mxs_none (·.s.size) l
  have m2 := mxs_none (·.s.align) l
  have r1 : rnk 1 = 3 := rfl
  have r2 : rnk 2 = 1 := rfl
  have r3 : rnk 3 = 2 := rfl
  have r4 : rnk 4 = 0 := rfl
  have r5 : rnk 5 = 0 := rfl
  have r0 : rnk 0 = 0 := rfl
  obtain ⟨⟨n, b, z, a⟩, u⟩ := x
  simp only at hs ha
  have hb := five hx
  simp only at hb
  rcases hb with rfl | rfl | rfl | rfl | rfl
  all_goals
    unfold ofL sgl joi prv
    simp only [fst_snoc, mxs_snoc, r1, r2, r3, r4, r5, r0]
    cases h1 : fst l 1 <;> cases h2 : fst l 2 <;> cases h3 : fst l 3 <;> cases h4 : fst l 4 <;> cases h5 : fst l 5 <;>
      simp_all [r1, r2, r3, r4, r5, r0, Int.max_eq_right]
theorem ofL_nil : ofL [] = emp := rfl
theorem ofL_all : ∀ l : List Us, (∀ x ∈ l, uOk x = true) → ofL l = allL l := by
  refine Dec.by_snoc (fun _ => rfl) (fun l x ih h => ?_)
  rw [ofL_snoc l x (h x (by simp)), allL_snoc, ih fun y hy => h y (by simp [hy])]
theorem fsI_some {l : List Us} {b : Int} : (fst l b).isSome = decide (0 ≤ fsI l b) := by
  unfold fst fsI
  cases h : l.findIdx? (fun x => x.s.bind == b) with
  | none =>
    rw [List.findIdx?_eq_none_iff] at h
    have : l.find? (fun x => x.s.bind == b) = none := List.find?_eq_none.2 fun x hx => by simpa using h x hx
    rw [this]; rfl
  | some i =>
    have hi := List.findIdx?_eq_some_iff_getElem.1 h
    obtain ⟨hlt, hp, _⟩ := hi
    have : (l.find? (fun x => x.s.bind == b)).isSome = true := List.find?_isSome.2 ⟨l[i], List.getElem_mem hlt, hp⟩
    rw [this]; simp
/-- Where the first one stands. -/
theorem fsI_at {l : List Us} {b : Int} (h : 0 ≤ fsI l b) : ∃ i : Nat, fsI l b = (i : Int) ∧ ∃ hi : i < l.length, fst l b = some l[i] := by
  unfold fsI at h ⊢
  unfold fst
  cases hq : l.findIdx? (fun x => x.s.bind == b) with
  | none => rw [hq] at h; exact absurd h (by decide)
  | some i =>
    obtain ⟨hlt, hp, hn⟩ := List.findIdx?_eq_some_iff_getElem.1 hq
    refine ⟨i, rfl, hlt, ?_⟩
    rw [List.find?_eq_some_iff_getElem]
    exact ⟨hp, i, hlt, rfl, fun j hj => by simpa using hn j hj⟩
theorem fsI_none {l : List Us} {b : Int} (h : ¬ 0 ≤ fsI l b) : fst l b = none ∧ fsI l b = -1 := by
  have e := fsI_some (l := l) (b := b)
  rw [decide_eq_false h] at e
  refine ⟨by cases hf : fst l b with | none => rfl | some x => rw [hf] at e; simp at e, ?_⟩
  unfold fsI at h ⊢
  cases hq : l.findIdx? (fun x => x.s.bind == b) with
  | none => rfl
  | some i => rw [hq] at h; exact absurd (by simp) h
/-- The index, as a loop finds it. -/
theorem fsI_hit {l : List Us} {b : Int} {k : Nat} (hk : k < l.length) (h0 : ∀ j, j < k → ∀ hj : j < l.length, l[j].s.bind ≠ b) (h : l[k].s.bind = b) : fsI l b = (k : Int) := by
  unfold fsI
  have : l.findIdx? (fun x => x.s.bind == b) = some k := List.findIdx?_eq_some_iff_getElem.2 ⟨hk, by simpa using h, fun j hj => by simpa using h0 j hj (by omega)⟩
  rw [this]
theorem fsI_miss {l : List Us} {b : Int} (h0 : ∀ j, ∀ hj : j < l.length, l[j].s.bind ≠ b) : fsI l b = -1 := by
  unfold fsI
  have : l.findIdx? (fun x => x.s.bind == b) = none := List.findIdx?_eq_none_iff.2 fun x hx => by
    obtain ⟨j, hj, rfl⟩ := List.getElem_of_mem hx
    simpa using h0 j hj
  rw [this]
theorem fsI_lt (l : List Us) (b : Int) : -1 ≤ fsI l b ∧ fsI l b < l.length + 1 := by
  by_cases h : 0 ≤ fsI l b
  · obtain ⟨i, e, hi, _⟩ := fsI_at h
    omega
  · have := (fsI_none h).2
    omega
end Go.Proofs.Ytcaepgggffkjpaa.Bnd
