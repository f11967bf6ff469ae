/-
  Append onto byte slices with what stays: all blocks but the slice's own; what a writer's step leaves as it is.
-/
import Derived.Test.YteeeongnabpheaaGreatDoorWf
import Derived.Test.YteeeongnabpheaaGreatDoorP4z
namespace Go.Proofs.YteeeongnabpheaaGreatDoor.Ord
open Go.RowKit Go.Proofs
variable {P : Program} {ops : Array Oper} {Q : Exit → Act → World → Prop} {md : Region.Mode} {S : World → Prop} {z : Nat}
/-- An operation whose guard says no. -/
theorem Till.skip (i : Nat) {oi : Oper} {k : Nat} {li : Array Bool} {a : Act} {w : World} (hi : ops[i]? = some oi)
    (hs : Region.noSelect ops = true) (hf : Region.free md ops li i = true) (hr : (Region.ready md ops li).contains i = true) (hzb : (match ops[z]? with | some o => o.after.any (fun e => Region.binds md e && e.on == i) | none => true) = true)
    (hQ : ∀ c a w, Q (.panic c) (a.put oi.dst undef) w → Q (.panic c) a w) (hw : Region.wanted oi (yielded ops a.tmps) = false) (hS : S w)
    (h : Till P md ops Q S z k (li.setIfInBounds i true) (a.put oi.dst undef) w) : Till P md ops Q S z (k + 1) li a w := by
  refine Till.first hi (Region.noSelect_spec hs) hQ (fun o ho => ?_) k li a w (Region.free_spec hi hf) (by simpa using hr) (.inr ⟨hw, rfl⟩) hS h
  rw [ho] at hzb
  obtain ⟨e, he, hq⟩ := Array.any_eq_true'.1 hzb
  rw [Bool.and_eq_true, beq_iff_eq] at hq
  exact ⟨e, he, hq.1, hq.2⟩
/-- One of two may come up. -/
theorem Till.two (i j : Nat) {oi oj : Oper} {k : Nat} {li : Array Bool} {a : Act} {w : World} (hr : Region.ready md ops li = [i, j]) (hi : ops[i]? = some oi) (hj : ops[j]? = some oj)
    (h1 : ∀ C : Act → World → Prop, Shut (∀ b v, (i ≠ z → S v) → Till P md ops Q S z k (li.setIfInBounds i true) b v → C b v) → if Region.wanted oi (yielded ops a.tmps) = true then Oper.wp P oi a w C Q else C (a.put oi.dst undef) w)
    (h2 : ∀ C : Act → World → Prop, Shut (∀ b v, (j ≠ z → S v) → Till P md ops Q S z k (li.setIfInBounds j true) b v → C b v) → if Region.wanted oj (yielded ops a.tmps) = true then Oper.wp P oj a w C Q else C (a.put oj.dst undef) w) :
    Till P md ops Q S z (k + 1) li a w := by
  refine ⟨fun h0 => (by rw [hr] at h0; cases h0), fun x hx => ?_⟩
  rw [hr, List.mem_cons, List.mem_singleton] at hx
  rcases hx with rfl | rfl
  · exact wpOp_step hi (fun C hC => h1 C (fun b v q1 q2 => hC b v ⟨q1, q2⟩))
  · exact wpOp_step hj (fun C hC => h2 C (fun b v q1 q2 => hC b v ⟨q1, q2⟩))
/-- One of three may come up. -/
theorem Till.three (i j m : Nat) {oi oj om : Oper} {k : Nat} {li : Array Bool} {a : Act} {w : World} (hr : Region.ready md ops li = [i, j, m]) (hi : ops[i]? = some oi) (hj : ops[j]? = some oj) (hm : ops[m]? = some om)
    (h1 : ∀ C : Act → World → Prop, Shut (∀ b v, (i ≠ z → S v) → Till P md ops Q S z k (li.setIfInBounds i true) b v → C b v) → if Region.wanted oi (yielded ops a.tmps) = true then Oper.wp P oi a w C Q else C (a.put oi.dst undef) w)
    (h2 : ∀ C : Act → World → Prop, Shut (∀ b v, (j ≠ z → S v) → Till P md ops Q S z k (li.setIfInBounds j true) b v → C b v) → if Region.wanted oj (yielded ops a.tmps) = true then Oper.wp P oj a w C Q else C (a.put oj.dst undef) w)
    (h3 : ∀ C : Act → World → Prop, Shut (∀ b v, (m ≠ z → S v) → Till P md ops Q S z k (li.setIfInBounds m true) b v → C b v) → if Region.wanted om (yielded ops a.tmps) = true then Oper.wp P om a w C Q else C (a.put om.dst undef) w) :
    Till P md ops Q S z (k + 1) li a w := by
  refine ⟨fun h0 => (by rw [hr] at h0; cases h0), fun x hx => ?_⟩
  rw [hr, List.mem_cons, List.mem_cons, List.mem_singleton] at hx
  rcases hx with rfl | rfl | rfl
  · exact wpOp_step hi (fun C hC => h1 C (fun b v q1 q2 => hC b v ⟨q1, q2⟩))
  · exact wpOp_step hj (fun C hC => h2 C (fun b v q1 q2 => hC b v ⟨q1, q2⟩))
  · exact wpOp_step hm (fun C hC => h3 C (fun b v q1 q2 => hC b v ⟨q1, q2⟩))
theorem Till.take' (i : Nat) (d : Option Nat) {oi : Oper} {x : Value} {k : Nat} {li : Array Bool} {a : Act} {w : World} (hi : ops[i]? = some oi) (hd : oi.dst = d)
    (hs : Region.noSelect ops = true) (hf : Region.free md ops li i = true) (hr : (Region.ready md ops li).contains i = true) (hzb : (match ops[z]? with | some o => o.after.any (fun e => Region.binds md e && e.on == i) | none => true) = true)
    (hQ : ∀ c a w, Q (.panic c) (a.put oi.dst x) w → Q (.panic c) a w) (hw : Region.wanted oi (yielded ops a.tmps) = true) (hy : ∀ v, S v → (execOp a.eval oi).run P v = .ok (.value x) v) (hS : S w)
    (h : Till P md ops Q S z k (li.setIfInBounds i true) (a.put d x) w) : Till P md ops Q S z (k + 1) li a w := by
  subst hd
  exact Till.take i hi hs hf hr hzb hQ hw hy hS h
theorem Till.skip' (i : Nat) (d : Option Nat) {oi : Oper} {k : Nat} {li : Array Bool} {a : Act} {w : World} (hi : ops[i]? = some oi) (hd : oi.dst = d)
    (hs : Region.noSelect ops = true) (hf : Region.free md ops li i = true) (hr : (Region.ready md ops li).contains i = true) (hzb : (match ops[z]? with | some o => o.after.any (fun e => Region.binds md e && e.on == i) | none => true) = true)
    (hQ : ∀ c a w, Q (.panic c) (a.put oi.dst undef) w → Q (.panic c) a w) (hw : Region.wanted oi (yielded ops a.tmps) = false) (hS : S w)
    (h : Till P md ops Q S z k (li.setIfInBounds i true) (a.put d undef) w) : Till P md ops Q S z (k + 1) li a w := by
  subst hd
  exact Till.skip i hi hs hf hr hzb hQ hw hS h
end Go.Proofs.YteeeongnabpheaaGreatDoor.Ord

namespace Go.Proofs.YteeeongnabpheaaGreatDoor.Byt
open Go.RowKit Go.Proofs
open Go.Proofs.YteeeongnabpheaaGreatDoor.Sls (Fr Fr.ahead blk)

theorem kB : Cel.Kind 22 5 1 1 (.int .u8 0) := ⟨by kernel_rfl, by kernel_rfl, by kernel_rfl, by decide⟩
theorem Own.cel {w : World} {K n : Nat} {v : Value} {l : List UInt8} : Own w K v n l ↔ Cel.Own 5 1 w K v n (enc l) := by
  unfold Own Cel.Own
  simp only [Nat.mul_one, enc_length]
theorem Rd.cel {w : World} {K n : Nat} {A : Option Addr} {xs : List UInt8} (h : Rd w K A n xs) : Cel.Rd w K A n 1 (enc xs) :=
  ⟨by rw [enc_length, Nat.mul_one]; exact h.1, fun k hk => by
    rw [enc_length] at hk
    obtain ⟨b, o, e, hl, hc⟩ := h.2 k hk
    exact ⟨b, o, e, hl, by rw [hc]; simp [enc]⟩⟩

theorem wpList_appF {ops : Array Oper} {rest : List Oper} {o : Oper} {a : Act} {Q : Exit → Act → World → Prop} (w : World) (K : Nat) (v : Value) (n : Nat) (l : List UInt8)
    (hown : Own w K v n l) (hK : K ≤ w.heap.size) (A : Option Addr) (k c B : Nat) (src : List UInt8) (hr : Rd w B A k src) (hsz : n + k ≤ 1000000) (hgd : o.guard = none) (s x : Operand)
    (ho : o.op = .call { callee := .builtin .append, args := #[s, x], argTypes := #[22, 22] })
    (hs : a.eval s = v) (hx : a.eval x = .slice A k c)
    (h : ∀ v' w', Own w' K v' (n + k) (l ++ src) → Below K w w' → Fr v w v' w' → wpList Tryz.prog ops Q rest (a.put o.dst v') w') :
    wpList Tryz.prog ops Q (o :: rest) a w := by
  refine wpList_plain hgd fun K' hK' => ?_
  obtain ⟨v', w', hrun, r1, r2, r3⟩ := Cel.run_rd kB w K B o.type v n (enc l) (Own.cel.1 hown) hK A k c (enc src) hr.cel enc_one hsz (by omega)
  unfold Oper.wp execOp
  simp only [ho, resolve, invoke, builtin, Sem.run_bind, Sem.run_pure, Result.andThen_ok, List.map_toArray, List.map_cons, List.map_nil, hs, hx, hrun]
  exact hK' _ _ (h v' w' (Own.cel.2 (by rw [enc_append]; exact r1)) r2 r3)

theorem wpList_pushF {ops : Array Oper} {rest : List Oper} {o : Oper} {a : Act} {Q : Exit → Act → World → Prop} (w : World) (K : Nat) (v : Value) (n : Nat) (l : List UInt8) (u : UInt8) (X : Int) (hX : X = (u.toNat : Int))
    (hown : Own w K v n l) (hK : K ≤ w.heap.size) (hn : n < 1000000) (hgd : o.guard = none) (s x : Operand)
    (ho : o.op = .call { callee := .builtin .append, args := #[s, x], argTypes := #[22, 22] })
    (hs : a.eval s = v) (hx : a.eval x = .slice (some ⟨w.heap.size, 0, none⟩) 1 1)
    (h : ∀ v' w', Own w' K v' (n + 1) (l ++ [u]) → Below K w w' → Fr v w v' w' → wpList Tryz.prog ops Q rest (a.put o.dst v') w') :
    wpList Tryz.prog ops Q (o :: rest) a (w.alloc (.cells #[.int .u8 X] 5)) := by
  subst hX
  refine wpList_appF _ K v n l (hown.alloc _) (by simp; omega) (some ⟨w.heap.size, 0, none⟩) 1 1 (w.heap.size + 1) [u] ⟨rfl, fun k hk => ⟨w.heap.size, 0, rfl, by omega, ?_⟩⟩ (by omega) hgd s x ho hs hx
    (fun v' w' h1 h2 h3 => h v' w' h1 (((Below.refl K w).alloc hK _).trans h2) (Fr.ahead _ h3))
  simp only [List.length_singleton] at hk
  obtain rfl : k = 0 := by omega
  rw [cell_of_row _ w.heap.size (0 + 0) _ 5 (0, 0) (heap_alloc_new w _)]
  rfl
theorem step_appF {ops : Array Oper} {o : Oper} {a : Act} {C : Act → World → Prop} {Q : Exit → Act → World → Prop} {E : Prop} (w : World) (K : Nat) (v : Value) (n : Nat) (l : List UInt8)
    (hown : Own w K v n l) (hK : K ≤ w.heap.size) (A : Option Addr) (k c B : Nat) (src : List UInt8) (hr : Rd w B A k src) (hsz : n + k ≤ 1000000) (hgd : o.guard = none) (s x : Operand)
    (ho : o.op = .call { callee := .builtin .append, args := #[s, x], argTypes := #[22, 22] })
    (hs : a.eval s = v) (hx : a.eval x = .slice A k c)
    (h : ∀ v' w', Own w' K v' (n + k) (l ++ src) → Below K w w' → Fr v w v' w' → C (a.put o.dst v') w') :
    if Region.wanted o (yielded ops a.tmps) = true then Oper.wp Tryz.prog o a w C Q else E := by
  have hw : Region.wanted o (yielded ops a.tmps) = true := by simp [Region.wanted, hgd]
  rw [if_pos hw]
  obtain ⟨v', w', hrun, r1, r2, r3⟩ := Cel.run_rd kB w K B o.type v n (enc l) (Own.cel.1 hown) hK A k c (enc src) hr.cel enc_one hsz (by omega)
  unfold Oper.wp execOp
  simp only [ho, resolve, invoke, builtin, Sem.run_bind, Sem.run_pure, Result.andThen_ok, List.map_toArray, List.map_cons, List.map_nil, hs, hx, hrun]
  exact h v' w' (Own.cel.2 (by rw [enc_append]; exact r1)) r2 r3
theorem Own.fr {w w' : World} {K n : Nat} {v u u' : Value} {l : List UInt8} (h : Own w K v n l) (ho : Fr u w u' w') (ha : Sls.Apart v u) : Own w' K v n l :=
  Own.cel.2 ((Own.cel.1 h).fr ho ha)
theorem Own.blk_lt {w : World} {K n : Nat} {v : Value} {l : List UInt8} (h : Own w K v n l) {k : Nat} (hk : blk v = some k) : k < w.heap.size := (Own.cel.1 h).blk_lt hk
theorem Own.blk_ge {w : World} {K n : Nat} {v : Value} {l : List UInt8} (h : Own w K v n l) {k : Nat} (hk : blk v = some k) : K ≤ k := by
  rcases h.2 with ⟨rfl, _⟩ | ⟨g, cap, cur, m, rfl, hg, _⟩
  · cases hk
  · injection hk with hk
    subst hk
    exact hg
end Go.Proofs.YteeeongnabpheaaGreatDoor.Byt

namespace Go.Proofs.YteeeongnabpheaaGreatDoor.Arw
open Go.RowKit Go.Proofs Go.Proofs.YteeeongnabpheaaGreatDoor.Byt Go.Proofs.YteeeongnabpheaaGreatDoor.Dec Go.Proofs.YteeeongnabpheaaGreatDoor.Lnm Go.Proofs.YteeeongnabpheaaGreatDoor.Hdr Go.Proofs.YteeeongnabpheaaGreatDoor.Arp
open Go.Proofs.YteeeongnabpheaaGreatDoor.Sls (Fr blk)

/-- What a writer's step leaves: all blocks below K, and all but the writer's cell B and the slice's own block. -/
structure Fw (K B : Nat) (v : Value) (W : World) (v' : Value) (W' : World) : Prop where
  below : Below K W W'
  size : W.heap.size ≤ W'.heap.size
  keep : ∀ k, k < W.heap.size → k ≠ B → blk v ≠ some k → W'.heap[k]? = W.heap[k]?
  tgt : ∀ k, blk v' = some k → blk v = some k ∨ W.heap.size ≤ k
theorem Fw.refl (K B : Nat) (v : Value) (W : World) : Fw K B v W v W := ⟨Below.refl _ _, Nat.le_refl _, fun _ _ _ _ => rfl, fun _ h => .inl h⟩
theorem Fw.trans {K B : Nat} {v v' v'' : Value} {W W' W'' : World} (h : Fw K B v W v' W') (k : Fw K B v' W' v'' W'') : Fw K B v W v'' W'' :=
  ⟨h.below.trans k.below, Nat.le_trans h.size k.size, fun j hj hB hv => by
    have := h.size
    rw [k.keep j (by omega) hB (fun e => by rcases h.tgt j e with q | q; exact hv q; omega)]
    exact h.keep j hj hB hv, fun j hj => by
    rcases k.tgt j hj with q | q
    · exact h.tgt j q
    · have := h.size; exact .inr (by omega)⟩
theorem Fw.of_below {K B : Nat} {v : Value} {W W' : World} (h : Below W.heap.size W W') (hK : K ≤ W.heap.size) : Fw K B v W v W' :=
  ⟨h.mono hK, h.size, fun k hk _ _ => h.block k hk, fun _ e => .inl e⟩
theorem Fw.of_fr {K B : Nat} {v v' : Value} {W W' : World} (h : Fr v W v' W') (hb : Below K W W') (hs : W.heap.size ≤ W'.heap.size) : Fw K B v W v' W' :=
  ⟨hb, hs, fun k hk _ hv => h.1 k hk hv, h.2⟩
/-- What is read lies apart from the writer. -/
def Apt (n : Nat) (A : Option Addr) (v : Value) (B : Nat) : Prop := ∀ a, 0 < n → A = some a → a.block ≠ B ∧ blk v ≠ some a.block
theorem Apt.fw {K B n : Nat} {A : Option Addr} {v v' : Value} {W W' : World} {xs : List UInt8} {K' : Nat} (h : Apt n A v B) (hr : Rd W K' A n xs) (hK : K' ≤ W.heap.size) (hf : Fw K B v W v' W') : Apt n A v' B := fun a hn e => by
  obtain ⟨h1, h2⟩ := h a hn e
  refine ⟨h1, fun q => ?_⟩
  rcases hf.tgt _ q with q | q
  · exact h2 q
  · obtain ⟨b, o, e2, hl, _⟩ := hr.2 0 (by rw [hr.1]; exact hn)
    rw [e] at e2
    injection e2 with e2
    subst e2
    simp only at q
    omega
theorem cell_eq {W W' : World} {b o : Nat} (h : W'.heap[b]? = W.heap[b]?) : W'.cell? ⟨b, o, none⟩ = W.cell? ⟨b, o, none⟩ := by
  unfold World.cell?
  simp only [h]
theorem Rd.fw {K B n : Nat} {A : Option Addr} {v v' : Value} {W W' : World} {xs : List UInt8} {K' : Nat} (hr : Byt.Rd W K' A n xs) (hK : K' ≤ W.heap.size) (h : Apt n A v B) (hf : Fw K B v W v' W') : Byt.Rd W' K' A n xs :=
  ⟨hr.1, fun k hk => by
    obtain ⟨b, o, e, hl, hc⟩ := hr.2 k hk
    obtain ⟨h1, h2⟩ := h _ (by have := hr.1; omega) e
    exact ⟨b, o, e, hl, by rw [cell_eq (hf.keep b (by omega) h1 h2)]; exact hc⟩⟩
theorem own_ne {w : World} {K n : Nat} {v : Value} {l : List UInt8} (h : Byt.Own w K v n l) {B : Nat} {cs : Array Value} {t : TypeId} {m : Nat × Nat} (hB : w.heap[B]? = some (.cells cs t m)) (ht : t ≠ 5) : blk v ≠ some B := fun e => by
  rcases h.2 with ⟨rfl, _⟩ | ⟨g, cap, cur, m', rfl, _, hg, _⟩
  · cases e
  · injection e with e
    simp only at e
    subst e
    rw [hB] at hg
    injection hg with hg
    injection hg with _ hg _
    exact ht hg
theorem Fw.set {K B : Nat} {v v' : Value} {W : World} (hK : K ≤ B) (hv : ∀ k, blk v' = some k → blk v = some k ∨ W.heap.size ≤ k) (y : Value) : Fw K B v W v' (W.setCell ⟨B, 0, none⟩ y) :=
  ⟨(Below.refl K W).setCell (p := ⟨B, 0, none⟩) hK y, by have := ((Below.refl 0 W).setCell (p := ⟨B, 0, none⟩) (Nat.zero_le _) y).size; exact this, fun k _ hk _ => Below.heap_setCell W ⟨B, 0, none⟩ y k hk, hv⟩
theorem Fw.row {K B : Nat} {v v' : Value} {W W' : World} (h : Fw K B v W v' W') {g : Nat} {o : Obj} (hg : W.heap[g]? = some o) (h1 : g ≠ B) (h2 : blk v ≠ some g) : W'.heap[g]? = some o :=
  (h.keep g (Array.getElem?_eq_some_iff.1 hg).1 h1 h2).trans hg
end Go.Proofs.YteeeongnabpheaaGreatDoor.Arw
