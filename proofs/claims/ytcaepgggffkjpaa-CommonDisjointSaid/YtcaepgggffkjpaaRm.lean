/-
  Regions that draw their order: a condition on the world that holds until one named operation.
-/
import Derived.Test.YtcaepgggffkjpaaMg
import Derived.Test.YtcaepgggffkjpaaOa
namespace Go.Proofs.Ytcaepgggffkjpaa.Ord
open Go.RowKit Go.Proofs
variable {P : Program} {ops : Array Oper} {Q : Exit → Act → World → Prop} {md : Region.Mode} {S : World → Prop} {z : Nat}

/-- Whatever comes up next: S holds behind it, as long as z has not come. -/
def Tz (P : Program) (md : Region.Mode) (ops : Array Oper) (Q : Exit → Act → World → Prop) (S : World → Prop) (z : Nat) : Nat → Array Bool → Act → World → Prop
  | 0, li, a, w => Region.ready md ops li = [] ∧ Q .normal a w
  | k + 1, li, a, w => (Region.ready md ops li = [] → Q .normal a w) ∧ ∀ j ∈ Region.ready md ops li, wpOp P ops Q j (fun b v => (j ≠ z → li.getD z true = false → S v) ∧ Tz P md ops Q S z k (li.setIfInBounds j true) b v) a w
theorem Tz.any : ∀ (k : Nat) (li : Array Bool) (a : Act) (w : World), Tz P md ops Q S z k li a w → wpAny P md ops Q k li a w
  | 0, _, _, _, h => h
  | k + 1, _, _, _, h => ⟨h.1, fun j hj => wpOp_mono (fun b v q => Tz.any k _ b v q.2) (h.2 j hj)⟩
/-- An operation that z waits for may be taken first, if it yields in every world that meets S. -/
theorem Tz.first {i : Nat} {oi : Oper} {x : Value} (hi : ops[i]? = some oi) (hsel : ∀ (j : Nat) (o : Oper) cs b, ops[j]? = some o → o.op ≠ .select cs b)
    (hQ : ∀ c a w, Q (.panic c) (a.put oi.dst x) w → Q (.panic c) a w) (hz : ∀ o, ops[z]? = some o → ∃ e ∈ o.after, Region.binds md e = true ∧ e.on = i) :
    ∀ (k : Nat) (li : Array Bool) (a : Act) (w : World),
      (∀ j oj, ops[j]? = some oj → j ≠ i → li.getD j true = false → (∀ e ∈ oj.after, Region.binds md e = true → e.on ≠ i) → oi.apart ops oj = true) →
      i ∈ Region.ready md ops li → li.getD z true = false → YieldsIf P ops S oi x a → S w →
      Tz P md ops Q S z k (li.setIfInBounds i true) (a.put oi.dst x) w → Tz P md ops Q S z (k + 1) li a w := by
  intro k
  induction k with
  | zero =>
    intro li a w _ hr _ hy hS H
    refine ⟨fun h => (by rw [h] at hr; cases hr), fun j hj => ?_⟩
    by_cases e : j = i
    · subst e; exact hy.wpOp hi hS ⟨fun _ _ => hS, H⟩
    · have q := ready_mono hj e
      rw [H.1] at q
      cases q
  | succ k ih =>
    intro li a w hf hr hlz hy hS H
    refine ⟨fun h => (by rw [h] at hr; cases hr), fun j hj => ?_⟩
    by_cases e : j = i
    · subst e; exact hy.wpOp hi hS ⟨fun _ _ => hS, H⟩
    · have hun := (mem_ready.1 hr).1
      obtain ⟨hju, oj, hoj, hall⟩ := mem_ready.1 hj
      have hno : ∀ d ∈ oj.after, Region.binds md d = true → d.on ≠ i := fun d hd hb q => by
        have h1 := hall d hd hb
        rw [q] at h1
        rcases Nat.lt_or_ge i li.size with g | g
        · simp [g] at hun h1
          rw [hun] at h1
          cases h1
        · simp [Array.getElem?_eq_none g] at h1
      have hjz : j ≠ z := fun q => by
        subst q
        obtain ⟨d, hd, hb, hon⟩ := hz oj hoj
        exact hno d hd hb hon
      have hz1 : (li.setIfInBounds i true).getD z true = false := by
        rw [getD_set_ne true (fun q => ?_)]
        · exact hlz
        · subst q
          obtain ⟨oz, hoz, -⟩ := (mem_ready.1 hr).2
          obtain ⟨d, hd, hb, hon⟩ := hz oz hoz
          have h1 := (mem_ready.1 hr).2
          obtain ⟨oz', hoz', hall'⟩ := h1
          rw [hoz] at hoz'
          injection hoz' with hoz'
          subst hoz'
          have h2 := hall' d hd hb
          rw [hon] at h2
          rcases Nat.lt_or_ge i li.size with g | g
          · simp [g] at hun h2
            rw [hun] at h2
            cases h2
          · simp [Array.getElem?_eq_none g] at h2
      refine wpOp_mono (fun b v q => ⟨fun h1 _ => q.2.1 h1 hz1, ih (li.setIfInBounds j true) b v ?_ (ready_mono hr (Ne.symm e)) (by rw [getD_set_ne true hjz]; exact hlz) q.1 (q.2.1 hjz hz1) ?_⟩)
        (wpOp_putIf hoj (hf j oj hoj e hju hno) (fun cs b => hsel i oi cs b hi) (fun cs b => hsel j oj cs b hoj) hQ hy (H.2 j (ready_mono hj e)))
      · intro m om hm hmi hmu hmo
        refine hf m om hm hmi ?_ hmo
        by_cases hjm : j = m
        · subst hjm; exact hju
        · rw [getD_set_ne true hjm] at hmu; exact hmu
      · rw [Array.setIfInBounds_comm _ _ e]
        exact q.2.2
theorem Tz.take (i : Nat) (d : Option Nat) {oi : Oper} {x : Value} {k : Nat} {li : Array Bool} {a : Act} {w : World} (hi : ops[i]? = some oi) (hd : oi.dst = d)
    (hs : Region.noSelect ops = true) (hf : Region.free md ops li i = true) (hr : (Region.ready md ops li).contains i = true) (hzb : (match ops[z]? with | some o => o.after.any (fun e => Region.binds md e && e.on == i) | none => true) = true)
    (hlz : li.getD z true = false)
    (hQ : ∀ c a w, Q (.panic c) (a.put oi.dst x) w → Q (.panic c) a w) (hw : Region.wanted oi (yielded ops a.tmps) = true) (hy : ∀ v, S v → (execOp a.eval oi).run P v = .ok (.value x) v) (hS : S w)
    (h : Tz P md ops Q S z k (li.setIfInBounds i true) (a.put d x) w) : Tz P md ops Q S z (k + 1) li a w := by
  subst hd
  refine Tz.first hi (Region.noSelect_spec hs) hQ (fun o ho => ?_) k li a w (Region.free_spec hi hf) (by simpa using hr) hlz (.inl ⟨hw, hy⟩) hS h
  rw [ho] at hzb
  obtain ⟨e, he, hq⟩ := Array.any_eq_true'.1 hzb
  rw [Bool.and_eq_true, beq_iff_eq] at hq
  exact ⟨e, he, hq.1, hq.2⟩
/-- An operation that reads no memory may be taken first. -/
theorem Tz.first0 {i : Nat} {oi : Oper} {x : Value} (hi : ops[i]? = some oi) (hsel : ∀ (j : Nat) (o : Oper) cs b, ops[j]? = some o → o.op ≠ .select cs b)
    (hQ : ∀ c a w, Q (.panic c) (a.put oi.dst x) w → Q (.panic c) a w) (hiz : i ≠ z) (hzs : z < ops.size) :
    ∀ (k : Nat) (li : Array Bool) (a : Act) (w : World), li.size = ops.size →
      (∀ j oj, ops[j]? = some oj → j ≠ i → li.getD j true = false → (∀ e ∈ oj.after, Region.binds md e = true → e.on ≠ i) → oi.apart ops oj = true) →
      i ∈ Region.ready md ops li → YieldsIf P ops (fun _ => True) oi x a → (li.getD z true = false → S w) →
      Tz P md ops Q S z k (li.setIfInBounds i true) (a.put oi.dst x) w → Tz P md ops Q S z (k + 1) li a w := by
  intro k
  induction k with
  | zero =>
    intro li a w _ _ hr hy hS H
    refine ⟨fun h => (by rw [h] at hr; cases hr), fun j hj => ?_⟩
    by_cases e : j = i
    · subst e; exact hy.wpOp hi trivial ⟨fun _ h => hS h, H⟩
    · have q := ready_mono hj e
      rw [H.1] at q
      cases q
  | succ k ih =>
    intro li a w hls hf hr hy hS H
    refine ⟨fun h => (by rw [h] at hr; cases hr), fun j hj => ?_⟩
    by_cases e : j = i
    · subst e; exact hy.wpOp hi trivial ⟨fun _ h => hS h, H⟩
    · have hun := (mem_ready.1 hr).1
      obtain ⟨hju, oj, hoj, hall⟩ := mem_ready.1 hj
      have hno : ∀ d ∈ oj.after, Region.binds md d = true → d.on ≠ i := fun d hd hb q => by
        have h1 := hall d hd hb
        rw [q] at h1
        rcases Nat.lt_or_ge i li.size with g | g
        · simp [g] at hun h1
          rw [hun] at h1
          cases h1
        · simp [Array.getElem?_eq_none g] at h1
      have hz1 : (li.setIfInBounds i true).getD z true = li.getD z true := getD_set_ne true hiz
      refine wpOp_mono (fun b v q => ⟨fun h1 h2 => q.2.1 h1 (by rw [hz1]; exact h2), ih (li.setIfInBounds j true) b v (by simpa using hls) ?_ (ready_mono hr (Ne.symm e)) q.1 (fun h2 => ?_) ?_⟩)
        (wpOp_putIf hoj (hf j oj hoj e hju hno) (fun cs b => hsel i oi cs b hi) (fun cs b => hsel j oj cs b hoj) hQ hy (H.2 j (ready_mono hj e)))
      · intro m om hm hmi hmu hmo
        refine hf m om hm hmi ?_ hmo
        by_cases hjm : j = m
        · subst hjm; exact hju
        · rw [getD_set_ne true hjm] at hmu; exact hmu
      · by_cases hjz : j = z
        · subst hjz
          simp [hls, hzs] at h2
        · rw [getD_set_ne true hjz] at h2
          exact q.2.1 hjz (by rw [hz1]; exact h2)
      · rw [Array.setIfInBounds_comm _ _ e]
        exact q.2.2
theorem Tz.take0 (i : Nat) (d : Option Nat) {oi : Oper} {x : Value} {k : Nat} {li : Array Bool} {a : Act} {w : World} (hi : ops[i]? = some oi) (hd : oi.dst = d)
    (hs : Region.noSelect ops = true) (hf : Region.free md ops li i = true) (hr : (Region.ready md ops li).contains i = true) (hiz : (i == z) = false) (hzs : decide (z < ops.size) = true) (hls : (li.size == ops.size) = true)
    (hQ : ∀ c a w, Q (.panic c) (a.put oi.dst x) w → Q (.panic c) a w) (hw : Region.wanted oi (yielded ops a.tmps) = true) (hy : ∀ v, (execOp a.eval oi).run P v = .ok (.value x) v) (hS : li.getD z true = false → S w)
    (h : Tz P md ops Q S z k (li.setIfInBounds i true) (a.put d x) w) : Tz P md ops Q S z (k + 1) li a w := by
  subst hd
  exact Tz.first0 hi (Region.noSelect_spec hs) hQ (by simpa using hiz) (by simpa using hzs) k li a w (by simpa using hls) (Region.free_spec hi hf) (by simpa using hr) (.inl ⟨hw, fun v _ => hy v⟩) hS h
/-- One alone may come up. -/
theorem Tz.step (i : Nat) {oi : Oper} {k : Nat} {li : Array Bool} {a : Act} {w : World} (hr : Region.ready md ops li = [i]) (hi : ops[i]? = some oi)
    (h : ∀ C : Act → World → Prop, Shut (∀ b v, (i ≠ z → li.getD z true = false → S v) → Tz P md ops Q S z k (li.setIfInBounds i true) b v → C b v) → if Region.wanted oi (yielded ops a.tmps) = true then Oper.wp P oi a w C Q else C (a.put oi.dst undef) w) :
    Tz P md ops Q S z (k + 1) li a w := by
  refine ⟨fun h0 => (by rw [hr] at h0; cases h0), fun j hj => ?_⟩
  rw [hr, List.mem_singleton] at hj
  subst hj
  exact wpOp_step hi (fun C hC => h C (fun b v h1 h2 => hC b v ⟨h1, h2⟩))
theorem Tz.done {li : Array Bool} {a : Act} {w : World} (hr : Region.ready md ops li = []) (h : Q .normal a w) : ∀ k, Tz P md ops Q S z k li a w
  | 0 => ⟨hr, h⟩
  | _ + 1 => ⟨fun _ => h, by rw [hr]; simp⟩
theorem Tz.begin (S : World → Prop) (z : Nat) {id : Nat} {a : Act} {w : World} (hm : P.follows .mixedOrders = true) (h : Tz P .any ops Q S z ops.size (Array.replicate ops.size false) a w.drew) : (Code.region id ops true).wp P Q a w :=
  wp_region_any hm (Tz.any _ _ _ _ h)
end Go.Proofs.Ytcaepgggffkjpaa.Ord
