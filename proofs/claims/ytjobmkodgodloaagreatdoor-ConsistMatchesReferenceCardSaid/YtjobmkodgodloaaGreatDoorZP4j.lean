/-
  b[from:to] of a byte slice, wherever its bounds lie (at the capacity, too).
-/
import Derived.Test.YtjobmkodgodloaaGreatDoorZMa
namespace Go.Proofs.YtjobmkodgodloaaGreatDoor.Byt
open Go.RowKit Go.Proofs

theorem slice_runAt (w : World) (b o n c f t : Nat) (hft : f ≤ t) (htc : t ≤ c) :
   (Instr.sliceAt 22 (.slice (some ⟨b, o, none⟩) n c) (some (.int .i64 (f : Int))) (some (.int .i64 (t : Int))) none).run Tryz.prog w = .ok (.slice (if c = f then some ⟨b, o, none⟩ else some ⟨b, o + f, none⟩) (t - f) (c - f)) w := by
 have h1 : (f : Int) ≤ (t : Int) := by omega
 have h2 : (t : Int) ≤ (c : Int) := by omega
 have h3 : (f : Int) ≤ (c : Int) := by omega
 by_cases hc : c = f
 · subst hc
   obtain rfl : t = c := by omega
   rw [if_pos rfl]
   go_simp
 · rw [if_neg hc]
   go_simp
theorem slice_rd {w : World} {K b o n c f t : Nat} {l : List UInt8} (h : Rd w K (some ⟨b, o, none⟩) n l) (hft : f ≤ t) (htn : t ≤ n) (hnc : n ≤ c) :
   Rd w K (if c = f then some ⟨b, o, none⟩ else some ⟨b, o + f, none⟩) (t - f) ((l.drop f).take (t - f)) := by
 have hl := h.1
 split
 · rename_i hc
   have e : t - f = 0 := by omega
   rw [e, List.take_zero]
   exact Rd.nil _ _ _
 · exact (h.cut f).pre (by omega)
theorem wpList_slice {ops : Array Oper} {rest : List Oper} {o : Oper} {a : Act} {Q : Exit → Act → World → Prop} {w : World} (x lo hi : Operand) (ho : o.op = .slice 22 x (some lo) (some hi) none) (hgd : o.guard = none) (b p n c f t : Nat)
   (hx : a.eval x = .slice (some ⟨b, p, none⟩) n c) (u v : Int) (hl : a.eval lo = .int .i64 u) (hh : a.eval hi = .int .i64 v) (hu : u = (f : Int)) (hv : v = (t : Int)) (hft : f ≤ t) (htc : t ≤ c)
   (h : wpList Tryz.prog ops Q rest (a.put o.dst (.slice (if c = f then some ⟨b, p, none⟩ else some ⟨b, p + f, none⟩) (t - f) (c - f))) w) : wpList Tryz.prog ops Q (o :: rest) a w := by
 subst hu hv
 refine wpList_plain hgd fun K' hK' => ?_
 have hrun := slice_runAt w b p n c f t hft htc
 unfold Oper.wp execOp
 simp only [ho, hx, hl, hh, Option.map_some, Option.map_none, hrun, Sem.run_bind, Sem.run_pure, Result.andThen_ok]
 exact hK' _ _ h
end Go.Proofs.YtjobmkodgodloaaGreatDoor.Byt
