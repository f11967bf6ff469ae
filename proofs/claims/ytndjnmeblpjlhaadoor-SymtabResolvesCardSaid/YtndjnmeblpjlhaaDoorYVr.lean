/-
  symtab's reference: Resolved, SameResolved; the law's state.
  symtab's reference: SameResolved, of lists that are the same.
-/
import Derived.Test.YtndjnmeblpjlhaaDoorYVn
import Derived.Test.YtndjnmeblpjlhaaDoorYVe
import Derived.BigQuiet
namespace Go.Proofs.YtndjnmeblpjlhaaDoor.Tab
open Go.RowKit Go.Proofs Go.Proofs.YtndjnmeblpjlhaaDoor.Byt
open Go.Proofs.YtndjnmeblpjlhaaDoor.Obj (Sy RdS SCells)
open Go.Proofs.YtndjnmeblpjlhaaDoor.Bnd

/-- The resolutions of the names. -/
def resL (os : List (List Sy)) : List Us := (nms os).map fun x => rsv x (ofL (uses os x))
end Go.Proofs.YtndjnmeblpjlhaaDoor.Tab

namespace Go.Proofs.YtndjnmeblpjlhaaDoor.Tab
open Go.RowKit Go.Proofs Go.Proofs.YtndjnmeblpjlhaaDoor.Byt
open Go.Proofs.YtndjnmeblpjlhaaDoor.Bnd

theorem res_under : Tryd.prog.underlying 54 = some (.struct (Tryd.prog.fieldsOf 54)) := by kernel_rfl
theorem res_held : Tryd.prog.stoodInHeld 54 = false := by kernel_rfl
theorem res_guard : Tryd.prog.eqGuardType Tryd.prog.depth 54 = false := by kernel_rfl
theorem guard_res (op : BinOp) (X Y : Operand) (xs ys : Array Value) (w : World) : (eqGuard op 54 X Y (.agg xs) (.agg ys)).run Tryd.prog w = .ok () w := run_eqGuard_agg w op _ X Y xs ys res_guard
theorem equal_res (x0 : ByteArray) (x1 x2 x3 x4 : Int) (w : World) :
    (Op.equalIn 10000 54 (.agg #[.string x0, .int .i64 x1, .int .i64 x2, .int .i64 x3, .int .i64 x4]) (.agg #[.string x0, .int .i64 x1, .int .i64 x2, .int .i64 x3, .int .i64 x4])).run Tryd.prog w = .ok true w := by
  have u3 := Tryd.underlying3
  have u9 := Tryd.underlying9
  rw [show (10000 : Nat) = 9999 + 1 from rfl, run_equalIn_agg w 9999 54 _ _ res_under res_held]
  simp only [Program.fieldsOf, Tryd.underlying54]
  go_simp
theorem neq_res (x0 : ByteArray) (x1 x2 x3 x4 : Int) (w : World) :
    (binOp .neq 54 (.agg #[.string x0, .int .i64 x1, .int .i64 x2, .int .i64 x3, .int .i64 x4]) (.agg #[.string x0, .int .i64 x1, .int .i64 x2, .int .i64 x3, .int .i64 x4])).run Tryd.prog w = .ok (.bool false) w := by
  rw [run_neq_struct, equal_res]
  rfl
set_option linter.unusedSimpArgs false in
set_option maxRecDepth 100000 in
set_option maxHeartbeats 2000000 in
theorem rsamer_any (K : Nat) (A B : Option Addr) (n c d : Nat) (xs : List Us) (w : World) (h : RdU w K A n xs) (h' : RdU w K B n xs) (hK : K ≤ w.heap.size) (hn : n ≤ 100000) :
    Calls Tryd.prog 21 #[.slice A n c, .slice B n d] w fun e w' => e = .returned (.bool true) ∧ Below w.heap.size w w' := by
  have Hl := hid h.1
  have hnb : ((n : Int) != (n : Int)) = false := by simp
  go_enter Tryd.func21, Tryd.ntmps21
  go_wp2_with fail
  go_loopw [5] (fun i W => ∃ k : Nat, i = .int .i64 (k : Int) ∧ k ≤ n ∧ Below w.heap.size w W) (fun i _ => n - (intOf i).toNat)
  case atStart => exact ⟨0, rfl, by omega, Below.refl _ _⟩
  case round =>
    obtain ⟨k, rfl, hk, hb⟩ := hrel
    by_cases hlt : k < n
    · have hkl : k < xs.length := by have := Hl.out; omega
      have hki : (k : Int) < (n : Int) := by omega
      obtain ⟨b, o, rfl, hbK, hcell⟩ := (h.below (hb.mono hK)).2 k hkl
      obtain ⟨b', o', rfl, hbK', hcell'⟩ := (h'.below (hb.mono hK)).2 k hkl
      generalize xs[k] = x at *
      obtain ⟨⟨x0, x1, x2, x3⟩, x4⟩ := x
      have p0 : wr.cell? ⟨b, o + k * 5, none⟩ = some (.string x0) := hcell 0 _ rfl
      have p1 : wr.cell? ⟨b, o + k * 5 + 1, none⟩ = some (.int .i64 x1) := hcell 1 _ rfl
      have p2 : wr.cell? ⟨b, o + k * 5 + 2, none⟩ = some (.int .i64 x2) := hcell 2 _ rfl
      have p3 : wr.cell? ⟨b, o + k * 5 + 3, none⟩ = some (.int .i64 x3) := hcell 3 _ rfl
      have p4 : wr.cell? ⟨b, o + k * 5 + 4, none⟩ = some (.int .i64 x4) := hcell 4 _ rfl
      have s0 : wr.cell? ⟨b', o' + k * 5, none⟩ = some (.string x0) := hcell' 0 _ rfl
      have s1 : wr.cell? ⟨b', o' + k * 5 + 1, none⟩ = some (.int .i64 x1) := hcell' 1 _ rfl
      have s2 : wr.cell? ⟨b', o' + k * 5 + 2, none⟩ = some (.int .i64 x2) := hcell' 2 _ rfl
      have s3 : wr.cell? ⟨b', o' + k * 5 + 3, none⟩ = some (.int .i64 x3) := hcell' 3 _ rfl
      have s4 : wr.cell? ⟨b', o' + k * 5 + 4, none⟩ = some (.int .i64 x4) := hcell' 4 _ rfl
      have hgd := guard_res
      have hne := neq_res
      clear hcell hcell'
      go_wp2_with fail
      go_quiet (fail)
      go_wp2_with fail
      go_roundw
      · exact ⟨k + 1, by go_num, by omega, bdr hb _⟩
      · simp [intOf]; omega
    · obtain rfl : k = n := by omega
      have hki : ¬ (k : Int) < (k : Int) := by omega
      go_wp2_with fail
      go_ret
      exact ⟨rfl, hb⟩
end Go.Proofs.YtndjnmeblpjlhaaDoor.Tab
