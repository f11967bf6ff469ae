/-
  Regions that draw their order: an operation that is left out, one of two, one of three; append of elements that are read. (Slices in memory: Mg, which fill.py prunes for a seat without slices of strings.)
-/
import Derived.Test.YtjobmkodgodloaaGreatDoorYMg
import Derived.Lib.AppendStr
import Derived.Deep.RegionHeld3
namespace Go.Proofs.YtjobmkodgodloaaGreatDoor.Ord
open Go.RowKit Go.Proofs
variable {P : Program} {ops : Array Oper} {Q : Exit → Act → World → Prop} {md : Region.Mode} {S : World → Prop} {z : Nat}
theorem Till.skip (i : Nat) {oi : Oper} {k : Nat} {li : Array Bool} {a : Act} {w : World} (hi : ops[i]? = some oi)
   (hs : Region.noSelect ops = true) (hf : Region.free md ops li i = true) (hr : (Region.ready md ops li).contains i = true) (hzb : (match ops[z]? with | some o => o.after.any (fun e => Region.binds md e && e.on == i) | none => true) = true)
   (hQ : ∀ c a w, Q (.panic c) (a.put oi.dst undef) w → Q (.panic c) a w) (hw : Region.wanted oi (yielded ops a.tmps) = false) (hS : S w)
   (h : Till P md ops Q S z k (li.setIfInBounds i true) (a.put oi.dst undef) w) : Till P md ops Q S z (k + 1) li a w := by
 refine Till.first hi (Region.noSelect_spec hs) hQ (fun o ho => ?_) k li a w (Region.free_spec hi hf) (by simpa using hr) (.inr ⟨hw, rfl⟩) hS h
 rw [ho] at hzb
 obtain ⟨e, he, hq⟩ := Array.any_eq_true'.1 hzb
 rw [Bool.and_eq_true, beq_iff_eq] at hq
 exact ⟨e, he, hq.1, hq.2⟩
theorem Till.two (i j : Nat) {oi oj : Oper} {k : Nat} {li : Array Bool} {a : Act} {w : World} (hr : Region.ready md ops li = [i, j]) (hi : ops[i]? = some oi) (hj : ops[j]? = some oj)
   (h1 : ∀ C : Act → World → Prop, Shut (∀ b v, (i ≠ z → S v) → Till P md ops Q S z k (li.setIfInBounds i true) b v → C b v) → if Region.wanted oi (yielded ops a.tmps) = true then Oper.wp P oi a w C Q else C (a.put oi.dst undef) w)
   (h2 : ∀ C : Act → World → Prop, Shut (∀ b v, (j ≠ z → S v) → Till P md ops Q S z k (li.setIfInBounds j true) b v → C b v) → if Region.wanted oj (yielded ops a.tmps) = true then Oper.wp P oj a w C Q else C (a.put oj.dst undef) w) :
   Till P md ops Q S z (k + 1) li a w := by
 refine ⟨fun h0 => (by rw [hr] at h0; cases h0), fun x hx => ?_⟩
 rw [hr, List.mem_cons, List.mem_singleton] at hx
 rcases hx with rfl | rfl
 · exact wpOp_step hi (fun C hC => h1 C (fun b v q1 q2 => hC b v ⟨q1, q2⟩))
 · exact wpOp_step hj (fun C hC => h2 C (fun b v q1 q2 => hC b v ⟨q1, q2⟩))
theorem Till.take' (i : Nat) (d : Option Nat) {oi : Oper} {x : Value} {k : Nat} {li : Array Bool} {a : Act} {w : World} (hi : ops[i]? = some oi) (hd : oi.dst = d)
   (hs : Region.noSelect ops = true) (hf : Region.free md ops li i = true) (hr : (Region.ready md ops li).contains i = true) (hzb : (match ops[z]? with | some o => o.after.any (fun e => Region.binds md e && e.on == i) | none => true) = true)
   (hQ : ∀ c a w, Q (.panic c) (a.put oi.dst x) w → Q (.panic c) a w) (hw : Region.wanted oi (yielded ops a.tmps) = true) (hy : ∀ v, S v → (execOp a.eval oi).run P v = .ok (.value x) v) (hS : S w)
   (h : Till P md ops Q S z k (li.setIfInBounds i true) (a.put d x) w) : Till P md ops Q S z (k + 1) li a w := by
 subst hd
 exact Till.take i hi hs hf hr hzb hQ hw hy hS h
end Go.Proofs.YtjobmkodgodloaaGreatDoor.Ord

namespace Go.Proofs.YtjobmkodgodloaaGreatDoor.Cel
open Go.RowKit Go.Proofs
open Go.Proofs.YtjobmkodgodloaaGreatDoor.Sls (Oth Oth.refl Oth.new Oth.put Oth.alloc Oth.trans Fr Fr.refl Fr.new Fr.put Fr.ahead Apart blk)

theorem Own.lit0 (t : TypeId) (sz : Nat) (w : World) (K : Nat) (hK : K ≤ w.heap.size) : Own t sz (w.alloc (.cells #[] t)) K (.slice (some ⟨w.heap.size, 0, none⟩) 0 0) 0 [] :=
 ⟨by simp, .inr ⟨w.heap.size, 0, #[], (0, 0), rfl, hK, heap_alloc_new w _, Nat.le_refl _, by unfold maxLen; omega, by simp, by simp, fun j hj => by omega⟩⟩

end Go.Proofs.YtjobmkodgodloaaGreatDoor.Cel
