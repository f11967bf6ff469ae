/-
  objsym's reference: Valid, Word, Number.
-/
import Derived.Test.YtkacndinjomifaaOj
import Derived.Deep.CutRange
import Derived.BigQuiet
namespace Go.Proofs.Ytkacndinjomifaa.Ord
open Go.RowKit Go.Proofs

variable {P : Program} {ops : Array Oper} {Q : Exit → Act → World → Prop} {md : Region.Mode} {S : World → Prop} {z : Nat}

/-- Whatever comes up next: S holds behind it, but for z. -/
def Till (P : Program) (md : Region.Mode) (ops : Array Oper) (Q : Exit → Act → World → Prop) (S : World → Prop) (z : Nat) : Nat → Array Bool → Act → World → Prop
  | 0, li, a, w => Region.ready md ops li = [] ∧ Q .normal a w
  | k + 1, li, a, w => (Region.ready md ops li = [] → Q .normal a w) ∧ ∀ j ∈ Region.ready md ops li, wpOp P ops Q j (fun b v => (j ≠ z → S v) ∧ Till P md ops Q S z k (li.setIfInBounds j true) b v) a w

theorem Till.any : ∀ (k : Nat) (li : Array Bool) (a : Act) (w : World), Till P md ops Q S z k li a w → wpAny P md ops Q k li a w
  | 0, _, _, _, h => h
  | k + 1, _, _, _, h => ⟨h.1, fun j hj => wpOp_mono (fun b v q => Till.any k _ b v q.2) (h.2 j hj)⟩

/-- An operation that z waits for may be taken first, if it yields in every world that meets S. -/
theorem Till.first {i : Nat} {oi : Oper} {x : Value} (hi : ops[i]? = some oi) (hsel : ∀ (j : Nat) (o : Oper) cs b, ops[j]? = some o → o.op ≠ .select cs b)
    (hQ : ∀ c a w, Q (.panic c) (a.put oi.dst x) w → Q (.panic c) a w) (hz : ∀ o, ops[z]? = some o → ∃ e ∈ o.after, Region.binds md e = true ∧ e.on = i) :
    ∀ (k : Nat) (li : Array Bool) (a : Act) (w : World),
      (∀ j oj, ops[j]? = some oj → j ≠ i → li.getD j true = false → (∀ e ∈ oj.after, Region.binds md e = true → e.on ≠ i) → oi.apart ops oj = true) →
      i ∈ Region.ready md ops li → YieldsIf P ops S oi x a → S w →
      Till P md ops Q S z k (li.setIfInBounds i true) (a.put oi.dst x) w → Till P md ops Q S z (k + 1) li a w := by
  intro k
  induction k with
  | zero =>
    intro li a w _ hr hy hS H
    refine ⟨fun h => (by rw [h] at hr; cases hr), fun j hj => ?_⟩
    by_cases e : j = i
    · subst e; exact hy.wpOp hi hS ⟨fun _ => hS, H⟩
    · have q := ready_mono hj e
      rw [H.1] at q
      cases q
  | succ k ih =>
    intro li a w hf hr hy hS H
    refine ⟨fun h => (by rw [h] at hr; cases hr), fun j hj => ?_⟩
    by_cases e : j = i
    · subst e; exact hy.wpOp hi hS ⟨fun _ => hS, H⟩
    · have hun := (mem_ready.1 hr).1
      obtain ⟨hju, oj, hoj, hall⟩ := mem_ready.1 hj
      have hno : ∀ d ∈ oj.after, Region.binds md d = true → d.on ≠ i := fun d hd hb q => by
        have h1 := hall d hd hb
        rw [q] at h1
        rcases Nat.lt_or_ge i li.size with g | g
        · simp [g] at hun h1
          rw [hun] at h1
          cases h1
        · simp [Array.getElem?_eq_none g] at h1
      have hjz : j ≠ z := fun q => by
        subst q
        obtain ⟨d, hd, hb, hon⟩ := hz oj hoj
        exact hno d hd hb hon
      refine wpOp_mono (fun b v q => ⟨q.2.1, ih (li.setIfInBounds j true) b v ?_ (ready_mono hr (Ne.symm e)) q.1 (q.2.1 hjz) ?_⟩)
        (wpOp_putIf hoj (hf j oj hoj e hju hno) (fun cs b => hsel i oi cs b hi) (fun cs b => hsel j oj cs b hoj) hQ hy (H.2 j (ready_mono hj e)))
      · intro m om hm hmi hmu hmo
        refine hf m om hm hmi ?_ hmo
        by_cases hjm : j = m
        · subst hjm; exact hju
        · rw [getD_set_ne true hjm] at hmu; exact hmu
      · rw [Array.setIfInBounds_comm _ _ e]
        exact q.2.2

theorem Till.take (i : Nat) {oi : Oper} {x : Value} {k : Nat} {li : Array Bool} {a : Act} {w : World} (hi : ops[i]? = some oi)
    (hs : Region.noSelect ops = true) (hf : Region.free md ops li i = true) (hr : (Region.ready md ops li).contains i = true) (hzb : (match ops[z]? with | some o => o.after.any (fun e => Region.binds md e && e.on == i) | none => true) = true)
    (hQ : ∀ c a w, Q (.panic c) (a.put oi.dst x) w → Q (.panic c) a w) (hw : Region.wanted oi (yielded ops a.tmps) = true) (hy : ∀ v, S v → (execOp a.eval oi).run P v = .ok (.value x) v) (hS : S w)
    (h : Till P md ops Q S z k (li.setIfInBounds i true) (a.put oi.dst x) w) : Till P md ops Q S z (k + 1) li a w := by
  refine Till.first hi (Region.noSelect_spec hs) hQ (fun o ho => ?_) k li a w (Region.free_spec hi hf) (by simpa using hr) (.inl ⟨hw, hy⟩) hS h
  rw [ho] at hzb
  obtain ⟨e, he, hq⟩ := Array.any_eq_true'.1 hzb
  rw [Bool.and_eq_true, beq_iff_eq] at hq
  exact ⟨e, he, hq.1, hq.2⟩

/-- One alone may come up. -/
theorem Till.step (i : Nat) {oi : Oper} {k : Nat} {li : Array Bool} {a : Act} {w : World} (hr : Region.ready md ops li = [i]) (hi : ops[i]? = some oi)
    (h : ∀ C : Act → World → Prop, Shut (∀ b v, (i ≠ z → S v) → Till P md ops Q S z k (li.setIfInBounds i true) b v → C b v) → if Region.wanted oi (yielded ops a.tmps) = true then Oper.wp P oi a w C Q else C (a.put oi.dst undef) w) :
    Till P md ops Q S z (k + 1) li a w := by
  refine ⟨fun h0 => (by rw [hr] at h0; cases h0), fun j hj => ?_⟩
  rw [hr, List.mem_singleton] at hj
  subst hj
  exact wpOp_step hi (fun C hC => h C (fun b v h1 h2 => hC b v ⟨h1, h2⟩))

theorem Till.done {li : Array Bool} {a : Act} {w : World} (hr : Region.ready md ops li = []) (h : Q .normal a w) : ∀ k, Till P md ops Q S z k li a w
  | 0 => ⟨hr, h⟩
  | _ + 1 => ⟨fun _ => h, by rw [hr]; simp⟩

theorem Till.begin (S : World → Prop) (z : Nat) {id : Nat} {a : Act} {w : World} (hm : P.follows .mixedOrders = true) (h : Till P .any ops Q S z ops.size (Array.replicate ops.size false) a w.drew) : (Code.region id ops true).wp P Q a w :=
  wp_region_any hm (Till.any _ _ _ _ h)
/-- An operation whose guard says no. -/
theorem Till.skip (i : Nat) {oi : Oper} {k : Nat} {li : Array Bool} {a : Act} {w : World} (hi : ops[i]? = some oi)
    (hs : Region.noSelect ops = true) (hf : Region.free md ops li i = true) (hr : (Region.ready md ops li).contains i = true) (hzb : (match ops[z]? with | some o => o.after.any (fun e => Region.binds md e && e.on == i) | none => true) = true)
    (hQ : ∀ c a w, Q (.panic c) (a.put oi.dst undef) w → Q (.panic c) a w) (hw : Region.wanted oi (yielded ops a.tmps) = false) (hS : S w)
    (h : Till P md ops Q S z k (li.setIfInBounds i true) (a.put oi.dst undef) w) : Till P md ops Q S z (k + 1) li a w := by
  refine Till.first hi (Region.noSelect_spec hs) hQ (fun o ho => ?_) k li a w (Region.free_spec hi hf) (by simpa using hr) (.inr ⟨hw, rfl⟩) hS h
  rw [ho] at hzb
  obtain ⟨e, he, hq⟩ := Array.any_eq_true'.1 hzb
  rw [Bool.and_eq_true, beq_iff_eq] at hq
  exact ⟨e, he, hq.1, hq.2⟩
end Go.Proofs.Ytkacndinjomifaa.Ord

namespace Go.Proofs.Ytkacndinjomifaa.Obj
open Go.RowKit Go.Proofs Go.Proofs.Ytkacndinjomifaa.Byt
open Go.Proofs.Ytkacndinjomifaa.Sls (Oth)

theorem below_drewN {K : Nat} (w : World) (m : Nat) : Below K w (w.drewN m) := ⟨rfl, rfl, rfl, Nat.le_refl _, fun _ _ => rfl⟩

theorem cell_keep {W W1 : World} {p : Addr} {v : Value} (hb : Below W.heap.size W W1) (h : W.cell? p = some v) : W1.cell? p = some v := by
  rw [hb.cell (World.block_lt_of_cell? W p h)]; exact h
theorem keep_v {V W W1 : World} {B C q : Nat} {v0 u0 u1 u2 u3 : Value} (h : W.cell? ⟨B, 0, none⟩ = some v0 ∧ W.cell? ⟨C, q, none⟩ = some u0 ∧ W.cell? ⟨C, q + 1, none⟩ = some u1 ∧ W.cell? ⟨C, q + 2, none⟩ = some u2 ∧ W.cell? ⟨C, q + 3, none⟩ = some u3 ∧ Below V.heap.size V W) (hb : Below W.heap.size W W1) :
    W1.cell? ⟨B, 0, none⟩ = some v0 ∧ W1.cell? ⟨C, q, none⟩ = some u0 ∧ W1.cell? ⟨C, q + 1, none⟩ = some u1 ∧ W1.cell? ⟨C, q + 2, none⟩ = some u2 ∧ W1.cell? ⟨C, q + 3, none⟩ = some u3 ∧ Below V.heap.size V W1 := by
  obtain ⟨h0, h4, h5, h6, h7, h8⟩ := h
  exact ⟨cell_keep hb h0, cell_keep hb h4, cell_keep hb h5, cell_keep hb h6, cell_keep hb h7, h8.trans (hb.mono h8.size)⟩
theorem held_v {V W : World} {B C q : Nat} {v0 u0 u1 u2 u3 : Value} (h : W.cell? ⟨B, 0, none⟩ = some v0 ∧ W.cell? ⟨C, q, none⟩ = some u0 ∧ W.cell? ⟨C, q + 1, none⟩ = some u1 ∧ W.cell? ⟨C, q + 2, none⟩ = some u2 ∧ W.cell? ⟨C, q + 3, none⟩ = some u3 ∧ Below V.heap.size V W) : Below V.heap.size V W := by
  obtain ⟨_, _, _, _, _, h8⟩ := h
  exact h8

set_option linter.unusedSimpArgs false in
set_option maxRecDepth 100000 in
set_option maxHeartbeats 6000000 in
theorem rvalid_any (K : Nat) (A B : Option Addr) (n c m d : Nat) (xs : List Sy) (w : World) (h : RdS w K A n xs) (hK : K ≤ w.heap.size) (hn : n ≤ 140737488355328) (hnc : n ≤ c) :
    Calls Try.prog 18 #[.agg #[.slice A n c, .slice B m d]] w fun e w' => e = .returned (.bool (validO xs)) ∧ Below w.heap.size w w' := by
  have Hl := hid h.1
  have hb0 := (Below.refl w.heap.size w).alloc (Nat.le_refl _) (.cells #[.slice A n c, .slice B m d] 25)
  have hrow0 := heap_alloc_new w (.cells #[.slice A n c, .slice B m d] 25)
  have hsz0 : (w.alloc (.cells #[.slice A n c, .slice B m d] 25)).heap.size = w.heap.size + 1 := World.size_alloc _ _
  have h0 := h.below (hb0.mono hK)
  go_enter Try.func18, Try.ntmps18
  go_wp2_with fail
  generalize w.alloc (.cells #[.slice A n c, .slice B m d] 25) = w0 at *
  go_loopw [3] (fun i W => ∃ k : Nat, i = .int .i64 (k : Int) ∧ k ≤ n ∧ Hid (goodL [] xs = goodL (xs.take k) (xs.drop k)) ∧ Below (w.heap.size + 1) w0 W) (fun i _ => n - (intOf i).toNat)
  case atStart => exact ⟨0, rfl, by omega, hid rfl, Below.refl _ _⟩
  case round =>
    obtain ⟨k, rfl, hk, hG, hb⟩ := hrel
    have hrow := (hb.block w.heap.size (by omega)).trans hrow0
    have q0 := cell_of_row _ w.heap.size 0 _ _ _ hrow
    have hwr : w.heap.size + 1 ≤ wr.heap.size := by have := hb.size; omega
    by_cases hlt : k < n
    · have hkl : k < xs.length := by have := Hl.out; omega
      have hkc : (k : Int) ≤ (c : Int) := by omega
      have hk0 : ¬ (k : Int) < 0 := by omega
      have hR := h0.below (hb.mono (by omega))
      obtain ⟨⟨b, o, rfl, hbK, hcell⟩, hsz⟩ := hR.2 k hkl
      have Hstep := hid (goodL_step hkl)
      have HC : Hid (∀ W, Below wr.heap.size wr W → Calls Try.prog 27 #[xs[k].val] W fun e W' => e = .returned (.bool (symOk xs[k])) ∧ Below W.heap.size W W') := hid fun W hW => rsym_any _ W
      have HH : Hid (∀ W, Below wr.heap.size wr W → Calls Try.prog 28 #[.slice (some ⟨b, o, none⟩) k c, .string xs[k].name] W fun e W' => e = .returned (.bool (has (xs.take k) xs[k].name)) ∧ Below W.heap.size W W') := hid fun W hW =>
        (rhas_any K _ k c (xs.take k) _ W ((hR.below (hW.mono (by omega))).pre hk) (by omega)).mono fun e W' ⟨h1, h2⟩ => ⟨h1, by rw [h2]; exact Below.refl _ _⟩
      have hb1 : b < wr.heap.size := by omega
      have HX : Hid (∀ W, Below wr.heap.size wr W → W.cell? ⟨w.heap.size, 0, none⟩ = some (.slice (some ⟨b, o, none⟩) n c) ∧ SCells W b (o + k * 4) xs[k]) := hid fun W hW => ⟨(hW.cell (p := ⟨w.heap.size, 0, none⟩) (by show w.heap.size < _; omega)).trans q0, hcell.below hW hb1⟩
      generalize xs[k] = x at *
      obtain ⟨x0, x1, x2, x3⟩ := x
      obtain ⟨p0, p1, p2, p3⟩ := hcell
      simp only [Sy.val] at HC
      clear hR hk0
      cases hsy : symOk ⟨x0, x1, x2, x3⟩
      · rw [hsy] at HC
        have Hr : Hid (validO xs = false) := hid (by unfold validO; rw [hG.out, Hstep.out, hsy]; simp)
        have hbX0 : Below wr.heap.size wr wr.drew := (Below.refl _ _).drew
        go_upto_region 4 with fail
        go_cut [30] from 11 to 30 (fun s30 wx => s30 = .bool true ∧ Below wr.heap.size wr wx)
        case first =>
          refine Ord.Till.begin (fun W' => W'.cell? ⟨w.heap.size, 0, none⟩ = some (.slice (some ⟨b, o, none⟩) n c) ∧ W'.cell? ⟨b, o + k * 4, none⟩ = some (.string x0) ∧ W'.cell? ⟨b, o + k * 4 + 1, none⟩ = some (.int .i64 x1) ∧ W'.cell? ⟨b, o + k * 4 + 2, none⟩ = some (.int .i64 x2) ∧ W'.cell? ⟨b, o + k * 4 + 3, none⟩ = some (.int .i64 x3) ∧ Below wr.heap.size wr W') 20 (by kernel_rfl) ?_
          have hS0 : (fun W' => W'.cell? ⟨w.heap.size, 0, none⟩ = some (.slice (some ⟨b, o, none⟩) n c) ∧ W'.cell? ⟨b, o + k * 4, none⟩ = some (.string x0) ∧ W'.cell? ⟨b, o + k * 4 + 1, none⟩ = some (.int .i64 x1) ∧ W'.cell? ⟨b, o + k * 4 + 2, none⟩ = some (.int .i64 x2) ∧ W'.cell? ⟨b, o + k * 4 + 3, none⟩ = some (.int .i64 x3) ∧ Below wr.heap.size wr W') wr.drew := ⟨q0, p0, p1, p2, p3, hbX0⟩
          refine Ord.Till.take 0 (oi := _) (x := ?_) rfl (by kernel_rfl) (by kernel_rfl) (by kernel_rfl) (by kernel_rfl) (fun _ _ _ h => h) (by rfl) ?_ hS0 ?_
          rotate_left 1
          · intro v hv; obtain ⟨z1, z2, z3, z4, z5, z6⟩ := hv; go_simp; first | done | with_reducible rfl
          try simp only [Act.put, List.setIfInBounds_toArray, List.set_cons_zero, List.set_cons_succ]
          refine Ord.Till.take 1 (oi := _) (x := ?_) rfl (by kernel_rfl) (by kernel_rfl) (by kernel_rfl) (by kernel_rfl) (fun _ _ _ h => h) (by rfl) ?_ hS0 ?_
          rotate_left 1
          · intro v hv; obtain ⟨z1, z2, z3, z4, z5, z6⟩ := hv; go_simp; first | done | with_reducible rfl
          try simp only [Act.put, List.setIfInBounds_toArray, List.set_cons_zero, List.set_cons_succ]
          refine Ord.Till.take 2 (oi := _) (x := ?_) rfl (by kernel_rfl) (by kernel_rfl) (by kernel_rfl) (by kernel_rfl) (fun _ _ _ h => h) (by rfl) ?_ hS0 ?_
          rotate_left 1
          · intro v hv; obtain ⟨z1, z2, z3, z4, z5, z6⟩ := hv; go_simp; first | done | with_reducible rfl
          try simp only [Act.put, List.setIfInBounds_toArray, List.set_cons_zero, List.set_cons_succ]
          refine Ord.Till.take 3 (oi := _) (x := ?_) rfl (by kernel_rfl) (by kernel_rfl) (by kernel_rfl) (by kernel_rfl) (fun _ _ _ h => h) (by rfl) ?_ hS0 ?_
          rotate_left 1
          · intro v hv; obtain ⟨z1, z2, z3, z4, z5, z6⟩ := hv; go_simp; first | done | with_reducible rfl
          try simp only [Act.put, List.setIfInBounds_toArray, List.set_cons_zero, List.set_cons_succ]
          refine Ord.Till.take 4 (oi := _) (x := ?_) rfl (by kernel_rfl) (by kernel_rfl) (by kernel_rfl) (by kernel_rfl) (fun _ _ _ h => h) (by rfl) ?_ hS0 ?_
          rotate_left 1
          · intro v hv; obtain ⟨z1, z2, z3, z4, z5, z6⟩ := hv; go_simp; first | done | with_reducible rfl
          try simp only [Act.put, List.setIfInBounds_toArray, List.set_cons_zero, List.set_cons_succ]
          refine Ord.Till.step 5 (by kernel_rfl) rfl (fun C hC => ?_)
          go_simp
          go_at_call 27
          refine (HC.out _ hbX0).mono ?_
          rintro e w' ⟨rfl, hbX⟩
          have hS1 := keep_v hS0 hbX
          refine hC.out _ _ (fun _ => hS1) ?_
          clear hC C
          try simp only [Act.put, List.setIfInBounds_toArray, List.set_cons_zero, List.set_cons_succ]
          refine Ord.Till.take 6 (oi := _) (x := ?_) rfl (by kernel_rfl) (by kernel_rfl) (by kernel_rfl) (by kernel_rfl) (fun _ _ _ h => h) (by rfl) ?_ hS1 ?_
          rotate_left 1
          · intro v hv; obtain ⟨z1, z2, z3, z4, z5, z6⟩ := hv; go_simp; first | done | with_reducible rfl
          try simp only [Act.put, List.setIfInBounds_toArray, List.set_cons_zero, List.set_cons_succ]
          refine Ord.Till.take 7 (oi := _) (x := ?_) rfl (by kernel_rfl) (by kernel_rfl) (by kernel_rfl) (by kernel_rfl) (fun _ _ _ h => h) (by rfl) ?_ hS1 ?_
          rotate_left 1
          · intro v hv; obtain ⟨z1, z2, z3, z4, z5, z6⟩ := hv; go_simp; first | done | with_reducible rfl
          try simp only [Act.put, List.setIfInBounds_toArray, List.set_cons_zero, List.set_cons_succ]
          refine Ord.Till.skip 8 (oi := _) rfl (by kernel_rfl) (by kernel_rfl) (by kernel_rfl) (by kernel_rfl) (fun _ _ _ h => h) (by kernel_rfl) hS1 ?_
          try simp only [Act.put, List.setIfInBounds_toArray, List.set_cons_zero, List.set_cons_succ]
          refine Ord.Till.skip 9 (oi := _) rfl (by kernel_rfl) (by kernel_rfl) (by kernel_rfl) (by kernel_rfl) (fun _ _ _ h => h) (by kernel_rfl) hS1 ?_
          try simp only [Act.put, List.setIfInBounds_toArray, List.set_cons_zero, List.set_cons_succ]
          refine Ord.Till.skip 10 (oi := _) rfl (by kernel_rfl) (by kernel_rfl) (by kernel_rfl) (by kernel_rfl) (fun _ _ _ h => h) (by kernel_rfl) hS1 ?_
          try simp only [Act.put, List.setIfInBounds_toArray, List.set_cons_zero, List.set_cons_succ]
          refine Ord.Till.skip 11 (oi := _) rfl (by kernel_rfl) (by kernel_rfl) (by kernel_rfl) (by kernel_rfl) (fun _ _ _ h => h) (by kernel_rfl) hS1 ?_
          try simp only [Act.put, List.setIfInBounds_toArray, List.set_cons_zero, List.set_cons_succ]
          refine Ord.Till.skip 12 (oi := _) rfl (by kernel_rfl) (by kernel_rfl) (by kernel_rfl) (by kernel_rfl) (fun _ _ _ h => h) (by kernel_rfl) hS1 ?_
          try simp only [Act.put, List.setIfInBounds_toArray, List.set_cons_zero, List.set_cons_succ]
          refine Ord.Till.skip 13 (oi := _) rfl (by kernel_rfl) (by kernel_rfl) (by kernel_rfl) (by kernel_rfl) (fun _ _ _ h => h) (by kernel_rfl) hS1 ?_
          try simp only [Act.put, List.setIfInBounds_toArray, List.set_cons_zero, List.set_cons_succ]
          refine Ord.Till.skip 14 (oi := _) rfl (by kernel_rfl) (by kernel_rfl) (by kernel_rfl) (by kernel_rfl) (fun _ _ _ h => h) (by kernel_rfl) hS1 ?_
          try simp only [Act.put, List.setIfInBounds_toArray, List.set_cons_zero, List.set_cons_succ]
          refine Ord.Till.skip 15 (oi := _) rfl (by kernel_rfl) (by kernel_rfl) (by kernel_rfl) (by kernel_rfl) (fun _ _ _ h => h) (by kernel_rfl) hS1 ?_
          try simp only [Act.put, List.setIfInBounds_toArray, List.set_cons_zero, List.set_cons_succ]
          refine Ord.Till.skip 16 (oi := _) rfl (by kernel_rfl) (by kernel_rfl) (by kernel_rfl) (by kernel_rfl) (fun _ _ _ h => h) (by kernel_rfl) hS1 ?_
          try simp only [Act.put, List.setIfInBounds_toArray, List.set_cons_zero, List.set_cons_succ]
          refine Ord.Till.skip 17 (oi := _) rfl (by kernel_rfl) (by kernel_rfl) (by kernel_rfl) (by kernel_rfl) (fun _ _ _ h => h) (by kernel_rfl) hS1 ?_
          try simp only [Act.put, List.setIfInBounds_toArray, List.set_cons_zero, List.set_cons_succ]
          refine Ord.Till.skip 18 (oi := _) rfl (by kernel_rfl) (by kernel_rfl) (by kernel_rfl) (by kernel_rfl) (fun _ _ _ h => h) (by kernel_rfl) hS1 ?_
          try simp only [Act.put, List.setIfInBounds_toArray, List.set_cons_zero, List.set_cons_succ]
          refine Ord.Till.take 19 (oi := _) (x := ?_) rfl (by kernel_rfl) (by kernel_rfl) (by kernel_rfl) (by kernel_rfl) (fun _ _ _ h => h) (by rfl) ?_ hS1 ?_
          rotate_left 1
          · intro v hv; obtain ⟨z1, z2, z3, z4, z5, z6⟩ := hv; go_simp; first | done | with_reducible rfl
          try simp only [Act.put, List.setIfInBounds_toArray, List.set_cons_zero, List.set_cons_succ]
          refine Ord.Till.done (by kernel_rfl) ?_ _
          have hZ := held_v hS1
          go_wp2_with fail
          go_meet
          exact ⟨rfl, hZ⟩
        case rest =>
          obtain ⟨rfl, hbc⟩ := hcut
          go_wp2_with fail
          go_ret
          exact ⟨ret_bool Hr.out.symm, (hb0.trans (hb.mono (by omega))).trans (hbc.mono (by omega))⟩
      · rw [hsy] at HC
        have hbX0 : Below wr.heap.size wr wr.drew := (Below.refl _ _).drew
        obtain ⟨v, hv⟩ : ∃ v, v = has (xs.take k) x0 := ⟨_, rfl⟩
        simp only at HH
        rw [← hv] at HH
        have Hv := hid hv
        clear hv
        go_upto_region 4 with fail
        go_cut [30] from 11 to 30 (fun s30 wx => s30 = .bool v ∧ Below wr.heap.size wr wx)
        case first =>
          go_region_held3 (fun W' => W'.cell? ⟨w.heap.size, 0, none⟩ = some (.slice (some ⟨b, o, none⟩) n c) ∧ W'.cell? ⟨b, o + k * 4, none⟩ = some (.string x0) ∧ W'.cell? ⟨b, o + k * 4 + 1, none⟩ = some (.int .i64 x1) ∧ W'.cell? ⟨b, o + k * 4 + 2, none⟩ = some (.int .i64 x2) ∧ W'.cell? ⟨b, o + k * 4 + 3, none⟩ = some (.int .i64 x3) ∧ Below wr.heap.size wr W')
            (first | exact ⟨q0, p0, p1, p2, p3, hbX0⟩ | exact keep_v (by assumption) hbX)
            (first
              | (go_at_call 27; refine (HC.out _ (by first | assumption | exact held_v (by assumption))).mono ?_; rintro e w' ⟨rfl, hbX⟩)
              | (go_at_call 28; refine (HH.out _ (by first | assumption | exact held_v (by assumption))).mono ?_; rintro e w' ⟨rfl, hbX⟩)
              | fail)
          rename_i hh
          have hZ := held_v hh
          clear hh
          go_wp2_with fail
          go_meet
          exact ⟨by first | rfl | simp, hZ⟩
        case rest =>
          obtain ⟨rfl, hbc⟩ := hcut
          cases v
          · have Hr : Hid (goodL [] xs = goodL (xs.take (k + 1)) (xs.drop (k + 1))) := hid (by rw [hG.out, Hstep.out, hsy]; simp only; rw [← Hv.out]; rfl)
            have hbb := hb.trans (hbc.mono (by omega))
            clear hbc hb Hstep hG
            go_wp2_with fail
            go_roundw
            · exact ⟨k + 1, by go_num, by omega, Hr, hbb⟩
            · simp [intOf]; omega
          · have Hr : Hid (validO xs = false) := hid (by unfold validO; rw [hG.out, Hstep.out, hsy]; simp only; rw [← Hv.out]; simp)
            go_wp2_with fail
            go_ret
            exact ⟨ret_bool Hr.out.symm, (hb0.trans (hb.mono (by omega))).trans (hbc.mono (by omega))⟩
    · obtain rfl : k = n := by omega
      have Hr : Hid (goodL [] xs = true) := hid (by rw [hG.out, List.drop_eq_nil_of_le (by have := Hl.out; omega)]; rfl)
      have HV : Hid (validO xs = decide ((k : Int) ≤ 65536)) := hid (by
        unfold validO
        rw [Hr.out, Hl.out, Bool.and_true]
        by_cases q : k ≤ 65536
        · rw [decide_eq_true q, decide_eq_true (by omega)]
        · rw [decide_eq_false q, decide_eq_false (by omega)])
      go_wp2_with fail
      go_ret
      exact ⟨ret_bool HV.out.symm, hb0.trans (hb.mono (by omega))⟩
end Go.Proofs.Ytkacndinjomifaa.Obj
