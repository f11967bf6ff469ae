/-
  The descriptions of the fields, and the functions in them.
-/
import Derived.Test.YtfhdgbpkhcnanaaDoorHda
import Derived.Deep.WholeRow
import Derived.Deep.Cut
namespace Go.Proofs.YtfhdgbpkhcnanaaDoor.Hdr
open Go.RowKit Go.Proofs Go.Proofs.YtfhdgbpkhcnanaaDoor.Byt Go.Proofs.YtfhdgbpkhcnanaaDoor.Str Go.Proofs.YtfhdgbpkhcnanaaDoor.Dec

/-- A literal whose value is known. -/
theorem wpList_built (d : Option Nat) {ops : Array Oper} {rest : List Oper} {o : Oper} {a : Act} {Q : Exit → Act → World → Prop} {w : World} (_ : o.dst = d) (hgd : o.guard = none) (t : TypeId) (ps : Array (Nat × Operand)) (ho : o.op = .build t ps) (vs : Array (Nat × Value)) (v : Value) (hrun : (Instr.build t vs).run Tryd.prog w = .ok v w)
    (hvs : ps.map (fun x => (x.1, a.eval x.2)) = vs) (h : wpList Tryd.prog ops Q rest (a.put o.dst v) w) : wpList Tryd.prog ops Q (o :: rest) a w := by
  refine wpList_plain hgd fun K' hK' => ?_
  unfold Oper.wp execOp
  simp only [ho, hvs, Sem.run_bind, Sem.run_pure, hrun, Result.andThen_ok]
  exact hK' _ _ h

/-- A store whose world is known. -/
theorem wpList_stored {ops : Array Oper} {rest : List Oper} {o : Oper} {a : Act} {Q : Exit → Act → World → Prop} {w w' : World} (hd : o.dst = none) (hgd : o.guard = none) (t : TypeId) (p x : Operand) (ho : o.op = .store t p x) (vp vx : Value) (hp : a.eval p = vp) (hx : a.eval x = vx)
    (hrun : (Instr.storeAt t vp vx).run Tryd.prog w = .ok () w') (h : wpList Tryd.prog ops Q rest a w') : wpList Tryd.prog ops Q (o :: rest) a w := by
  refine wpList_plain hgd fun K' hK' => ?_
  unfold Oper.wp execOp
  simp only [ho, hp, hx, Sem.run_bind, Sem.run_pure, hrun, Result.andThen_ok]
  rw [Oper.upon_skip]
  have e : ∀ v, a.put o.dst v = a := fun v => by rw [hd]; rfl
  rw [e]
  exact hK' _ _ h

/-- The description of field 1. -/
def row0 : Array Value := #[.int .i64 12, .int .i64 10, .bool true, .func (.func 31) #[] #[]]
/-- The description of field 2. -/
def row1 : Array Value := #[.int .i64 6, .int .i64 10, .bool true, .func (.func 32) #[] #[]]
/-- The description of field 3. -/
def row2 : Array Value := #[.int .i64 6, .int .i64 10, .bool true, .func (.func 33) #[] #[]]
/-- The description of field 4. -/
def row3 : Array Value := #[.int .i64 8, .int .i64 8, .bool true, .func (.func 34) #[] #[]]
/-- The description of field 5. -/
def row4 : Array Value := #[.int .i64 10, .int .i64 10, .bool false, .func (.func 35) #[] #[]]
/-- All of them. -/
def rows : Array Value := row0 ++ row1 ++ row2 ++ row3 ++ row4
theorem built0 (w : World) : (Instr.build 47 #[(0, .int .i64 12), (1, .int .i64 10), (2, .bool true), (3, .func (.func 31) #[] #[])]).run Tryd.prog w = .ok (.agg row0) w := by kernel_rfl
theorem built1 (w : World) : (Instr.build 47 #[(0, .int .i64 6), (1, .int .i64 10), (2, .bool true), (3, .func (.func 32) #[] #[])]).run Tryd.prog w = .ok (.agg row1) w := by kernel_rfl
theorem built2 (w : World) : (Instr.build 47 #[(0, .int .i64 6), (1, .int .i64 10), (2, .bool true), (3, .func (.func 33) #[] #[])]).run Tryd.prog w = .ok (.agg row2) w := by kernel_rfl
theorem built3 (w : World) : (Instr.build 47 #[(0, .int .i64 8), (1, .int .i64 8), (2, .bool true), (3, .func (.func 34) #[] #[])]).run Tryd.prog w = .ok (.agg row3) w := by kernel_rfl
theorem built4 (w : World) : (Instr.build 47 #[(0, .int .i64 10), (1, .int .i64 10), (2, .bool false), (3, .func (.func 35) #[] #[])]).run Tryd.prog w = .ok (.agg row4) w := by kernel_rfl
theorem builtAll (w : World) : (Instr.build 48 #[(0, .agg row0), (1, .agg row1), (2, .agg row2), (3, .agg row3), (4, .agg row4)]).run Tryd.prog w = .ok (.agg rows) w := by kernel_rfl
theorem at0 (w : World) : (Instr.index 48 (.agg rows) (.int .i64 0)).run Tryd.prog w = .ok (.agg row0) w := by kernel_rfl
theorem at1 (w : World) : (Instr.index 48 (.agg rows) (.int .i64 1)).run Tryd.prog w = .ok (.agg row1) w := by kernel_rfl
theorem at2 (w : World) : (Instr.index 48 (.agg rows) (.int .i64 2)).run Tryd.prog w = .ok (.agg row2) w := by kernel_rfl
theorem at3 (w : World) : (Instr.index 48 (.agg rows) (.int .i64 3)).run Tryd.prog w = .ok (.agg row3) w := by kernel_rfl
theorem at4 (w : World) : (Instr.index 48 (.agg rows) (.int .i64 4)).run Tryd.prog w = .ok (.agg row4) w := by kernel_rfl

set_option maxRecDepth 100000 in
set_option maxHeartbeats 1000000 in
theorem fields_any (w : World) :
    Calls Tryd.prog 19 #[] w fun e w' => e = .returned (.agg rows) ∧ Below w.heap.size w w' := by
  go_enter Tryd.func19, Tryd.ntmps19
  go_upto_region 1 with (fail)
  go_step
  refine wpList_built (some 1) rfl rfl _ _ rfl _ _ (built0 _) (by kernel_rfl) ?_
  refine wpList_built (some 2) rfl rfl _ _ rfl _ _ (built1 _) (by kernel_rfl) ?_
  refine wpList_built (some 3) rfl rfl _ _ rfl _ _ (built2 _) (by kernel_rfl) ?_
  refine wpList_built (some 4) rfl rfl _ _ rfl _ _ (built3 _) (by kernel_rfl) ?_
  refine wpList_built (some 5) rfl rfl _ _ rfl _ _ (built4 _) (by kernel_rfl) ?_
  refine wpList_built (some 6) rfl rfl _ _ rfl _ _ (builtAll _) (by kernel_rfl) ?_
  refine wpList_stored rfl rfl _ _ _ rfl _ _ rfl rfl (run_storeAt_new w 48 _ rows (by kernel_rfl) (by kernel_rfl) (by kernel_rfl)) ?_
  go_wp2
  have hl := run_loadVar_new (P := Tryd.prog) w 48 rows 5 47 Tryd.underlying48 (by kernel_rfl)
  exact bodyPost_ret (v := .agg rows) (by simp [results, Tryd.results19, Act.put, asAddr, hl]) rfl ⟨rfl, (Below.refl _ _).alloc (Nat.le_refl _) _⟩
end Go.Proofs.YtfhdgbpkhcnanaaDoor.Hdr
