/-
  bind: the state of a symbol (mathematics, no program).
-/
import Derived.Test.YtcaepgggffkjpaaOb
namespace Go.Proofs.Ytcaepgggffkjpaa.Bnd
open Go.Proofs.Ytcaepgggffkjpaa.Obj (Sy)

/-- A symbol of a unit. -/
structure Us where
  s : Sy
  u : Int
/-- The state of a symbol. -/
structure St where
  bind : Int
  size : Int
  align : Int
  unit : Int
  dfd : Bool
  sr : Bool
  wr : Bool
  strongs : List Int
@[ext] theorem St.ext' {a b : St} (h1 : a.bind = b.bind) (h2 : a.size = b.size) (h3 : a.align = b.align) (h4 : a.unit = b.unit) (h5 : a.dfd = b.dfd) (h6 : a.sr = b.sr) (h7 : a.wr = b.wr) (h8 : a.strongs = b.strongs) : a = b := by
  cases a; cases b; simp_all
def rnk (b : Int) : Int := if b = 1 then 3 else if b = 3 then 2 else if b = 2 then 1 else 0
def emp : St := ⟨0, 0, 0, -1, false, false, false, []⟩
/-- The state of one symbol. -/
def sgl (x : Us) : St :=
  ⟨if 0 < rnk x.s.bind then x.s.bind else 0, if 0 < rnk x.s.bind then x.s.size else 0, if x.s.bind = 3 then x.s.align else 0, if 0 < rnk x.s.bind then x.u else -1,
    x.s.bind == 1 || x.s.bind == 2, x.s.bind == 4, x.s.bind == 5, if x.s.bind = 1 then [x.u] else []⟩
/-- The definition that prevails; the other fields stay those of the state it is taken from. -/
def prv (a b : St) : St :=
  if rnk a.bind < rnk b.bind then b else if a.bind = 3 ∧ b.bind = 3 then { a with size := max a.size b.size, align := max a.align b.align } else a
def joi (a b : St) : St := { prv a b with dfd := a.dfd || b.dfd, sr := a.sr || b.sr, wr := a.wr || b.wr, strongs := a.strongs ++ b.strongs }
def allL (l : List Us) : St := l.foldl (fun s x => joi s (sgl x)) emp
theorem allL_snoc (l : List Us) (x : Us) : allL (l ++ [x]) = joi (allL l) (sgl x) := by simp [allL]

theorem rnk_two {b : Int} : rnk b = 2 ↔ b = 3 := by
  unfold rnk; split <;> (try split) <;> (try split) <;> omega
theorem prv_bind (a b : St) : (prv a b).bind = if rnk a.bind < rnk b.bind then b.bind else a.bind := by
  unfold prv; split
  · rfl
  · split <;> rfl
theorem prv_rnk (a b : St) : rnk (prv a b).bind = max (rnk a.bind) (rnk b.bind) := by
  rw [prv_bind]; split <;> omega
set_option linter.unusedSimpArgs false in
theorem prv_assoc (a b c : St) : (prv (prv a b) c).bind = (prv a (prv b c)).bind ∧ (prv (prv a b) c).size = (prv a (prv b c)).size ∧ (prv (prv a b) c).align = (prv a (prv b c)).align ∧ (prv (prv a b) c).unit = (prv a (prv b c)).unit := by
  have hab := prv_rnk a b
  have hbc := prv_rnk b c
  have ea := rnk_two (b := a.bind)
  have eb := rnk_two (b := b.bind)
  have ec := rnk_two (b := c.bind)
  have eab := rnk_two (b := (prv a b).bind)
  have ebc := rnk_two (b := (prv b c).bind)
  by_cases h1 : rnk a.bind < rnk b.bind
  · have e1 : prv a b = b := by unfold prv; rw [if_pos h1]
    rw [e1]
    by_cases h2 : rnk b.bind < rnk c.bind
    · have e2 : prv b c = c := by unfold prv; rw [if_pos h2]
      have e3 : prv a c = c := by unfold prv; rw [if_pos (by omega)]
      rw [e2, e3]; exact ⟨rfl, rfl, rfl, rfl⟩
    · have e3 : prv a (prv b c) = prv b c := by rw [prv, if_pos (by omega)]
      rw [e3]; exact ⟨rfl, rfl, rfl, rfl⟩
  · by_cases h2 : rnk b.bind < rnk c.bind
    · have e2 : prv b c = c := by unfold prv; rw [if_pos h2]
      rw [e2]
      have q : prv (prv a b) c = prv a c ∨ (a.bind = 3 ∧ b.bind = 3) := by
        by_cases h3 : a.bind = 3 ∧ b.bind = 3
        · exact .inr h3
        · left
          have e1 : prv a b = a := by unfold prv; rw [if_neg h1, if_neg h3]
          rw [e1]
      rcases q with q | ⟨q1, q2⟩
      · rw [q]; exact ⟨rfl, rfl, rfl, rfl⟩
      · have h4 : rnk (prv a b).bind < rnk c.bind := by omega
        have h5 : rnk a.bind < rnk c.bind := by have := ea.2 q1; have := eb.2 q2; omega
        have e4 : prv (prv a b) c = c := by rw [prv, if_pos h4]
        have e5 : prv a c = c := by rw [prv, if_pos h5]
        rw [e4, e5]; exact ⟨rfl, rfl, rfl, rfl⟩
    · by_cases ha : a.bind = 3 <;> by_cases hb : b.bind = 3 <;> by_cases hc : c.bind = 3
      all_goals
        have r1 : rnk 3 = 2 := rfl
        unfold prv
        simp only [ha, hb, hc, r1] at h1 h2 ⊢
        simp [h1, h2, ha, hb, hc, Int.max_assoc]
      all_goals
        repeat' split
      all_goals
        simp_all
      all_goals omega
theorem joi_assoc (a b c : St) : joi (joi a b) c = joi a (joi b c) := by
  have key : ∀ x y x' y' : St, x.bind = x'.bind → x.size = x'.size → x.align = x'.align → x.unit = x'.unit → y.bind = y'.bind → y.size = y'.size → y.align = y'.align → y.unit = y'.unit →
      (prv x y).bind = (prv x' y').bind ∧ (prv x y).size = (prv x' y').size ∧ (prv x y).align = (prv x' y').align ∧ (prv x y).unit = (prv x' y').unit := by
    intro x y x' y' h1 h2 h3 h4 h5 h6 h7 h8
    unfold prv
    rw [h1, h5]
    split
    · exact ⟨h5, h6, h7, h8⟩
    · split
      · exact ⟨rfl, by simp [h2, h6], by simp [h3, h7], h4⟩
      · exact ⟨h1, h2, h3, h4⟩
  obtain ⟨p1, p2, p3, p4⟩ := prv_assoc a b c
  obtain ⟨q1, q2, q3, q4⟩ := key (joi a b) c (prv a b) c rfl rfl rfl rfl rfl rfl rfl rfl
  obtain ⟨r1, r2, r3, r4⟩ := key a (joi b c) a (prv b c) rfl rfl rfl rfl rfl rfl rfl rfl
  refine St.ext' ?_ ?_ ?_ ?_ ?_ ?_ ?_ ?_
  · exact q1.trans (p1.trans r1.symm)
  · exact q2.trans (p2.trans r2.symm)
  · exact q3.trans (p3.trans r3.symm)
  · exact q4.trans (p4.trans r4.symm)
  · simp [joi, Bool.or_assoc]
  · simp [joi, Bool.or_assoc]
  · simp [joi, Bool.or_assoc]
  · simp [joi]
theorem joi_emp (a : St) : joi a emp = a := by
  have h0 : rnk emp.bind = 0 := rfl
  have hp : ∀ b, 0 ≤ rnk b := fun b => by unfold rnk; split <;> (try split) <;> (try split) <;> omega
  have e : prv a emp = a := by
    unfold prv
    rw [if_neg (by have := hp a.bind; omega), if_neg (by rintro ⟨_, h⟩; exact absurd h (by decide))]
  unfold joi
  rw [e]
  cases a
  simp [emp]
/-- What holds of the states of sequences. -/
def WF (s : St) : Prop := (s.bind = 0 ∨ s.bind = 1 ∨ s.bind = 2 ∨ s.bind = 3) ∧ (s.bind = 0 → s.size = 0 ∧ s.align = 0 ∧ s.unit = -1)
theorem emp_joi {a : St} (h : WF a) : joi emp a = a := by
  have e : (prv emp a).bind = a.bind ∧ (prv emp a).size = a.size ∧ (prv emp a).align = a.align ∧ (prv emp a).unit = a.unit := by
    unfold prv
    rcases h.1 with h1 | h1 | h1 | h1
    · obtain ⟨h2, h3, h4⟩ := h.2 h1
      rw [if_neg (by rw [h1]; decide), if_neg (by rintro ⟨h, _⟩; exact absurd h (by decide)), h1, h2, h3, h4]
      exact ⟨rfl, rfl, rfl, rfl⟩
    all_goals rw [if_pos (by rw [h1]; decide)]; exact ⟨rfl, rfl, rfl, rfl⟩
  obtain ⟨e1, e2, e3, e4⟩ := e
  exact St.ext' e1 e2 e3 e4 (by simp [joi, emp]) (by simp [joi, emp]) (by simp [joi, emp]) (by simp [joi, emp])
theorem wf_emp : WF emp := ⟨.inl rfl, fun _ => ⟨rfl, rfl, rfl⟩⟩
theorem wf_prv {a b : St} (ha : WF a) (hb : WF b) : WF (prv a b) := by
  unfold prv
  split
  · exact hb
  · split
    · rename_i h
      refine ⟨ha.1, fun h0 => ?_⟩
      have := h.1
      simp only at h0
      omega
    · exact ha
theorem wf_joi {a b : St} (ha : WF a) (hb : WF b) : WF (joi a b) := wf_prv ha hb
/-- Symbols as the laws take them. -/
def uOk (x : Us) : Bool := decide (1 ≤ x.s.bind) && (decide (x.s.bind ≤ 5) && (decide (0 ≤ x.s.size) && (decide (0 ≤ x.s.align) && decide (0 ≤ x.u))))
theorem uOk_iff {x : Us} : uOk x = true ↔ 1 ≤ x.s.bind ∧ x.s.bind ≤ 5 ∧ 0 ≤ x.s.size ∧ 0 ≤ x.s.align ∧ 0 ≤ x.u := by simp [uOk]
def rightL (l : List Us) : Bool := decide (l.length ≤ 50) && l.all uOk
theorem rightL_iff {l : List Us} : rightL l = true ↔ l.length ≤ 50 ∧ ∀ x ∈ l, uOk x = true := by simp [rightL]
theorem five {x : Us} (h : uOk x = true) : x.s.bind = 1 ∨ x.s.bind = 2 ∨ x.s.bind = 3 ∨ x.s.bind = 4 ∨ x.s.bind = 5 := by
  obtain ⟨h1, h2, _⟩ := uOk_iff.1 h
  omega
theorem wf_sgl (x : Us) : WF (sgl x) := by
  unfold sgl WF rnk
  simp only
  by_cases h1 : x.s.bind = 1 <;> by_cases h2 : x.s.bind = 3 <;> by_cases h3 : x.s.bind = 2 <;> simp_all
theorem wf_all (l : List Us) : WF (allL l) := by
  refine Dec.by_snoc (P := fun l => WF (allL l)) wf_emp (fun l x ih => ?_) l
  rw [allL_snoc]
  exact wf_joi ih (wf_sgl x)
theorem all_append (a b : List Us) : allL (a ++ b) = joi (allL a) (allL b) := by
  refine Dec.by_snoc (P := fun b => allL (a ++ b) = joi (allL a) (allL b)) ?_ (fun b x ih => ?_) b
  · rw [List.append_nil]; exact (joi_emp _).symm
  · rw [← List.append_assoc, allL_snoc, ih, allL_snoc, joi_assoc]
end Go.Proofs.Ytcaepgggffkjpaa.Bnd
