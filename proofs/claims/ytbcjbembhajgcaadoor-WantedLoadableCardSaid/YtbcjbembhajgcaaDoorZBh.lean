/-
  bind: the program's questions; the law's state; the reference's Same.
-/
import Derived.Test.YtbcjbembhajgcaaDoorZBg
namespace Go.Proofs.YtbcjbembhajgcaaDoor.Bnd
open Go.RowKit Go.Proofs Go.Proofs.YtbcjbembhajgcaaDoor.Byt
open Go.Proofs.YtbcjbembhajgcaaDoor.Obj (Sy)
open Go.Proofs.YtbcjbembhajgcaaDoor.Arp (RdI)

def wantd (s : St) : Bool := s.sr && !s.dfd
theorem wanted_any (s : St) (v : Value) (w : World) :
    Calls Tryd.prog 23 #[s.val v] w fun e w' => e = .returned (.bool (wantd s)) ∧ Below w.heap.size w w' := by
  have hb := (Below.refl w.heap.size w).alloc (Nat.le_refl _) (.cells (row s v) 57)
  have HD : Hid (wantd s = (s.sr && !s.dfd)) := hid rfl
  obtain ⟨s0, s1, s2, s3, s4, s5, s6, sl⟩ := s
  generalize wantd _ = d at *
  unfold St.val
  simp only [row] at *
  cases s5 <;> cases s4
  all_goals
    go_enter Tryd.func23, Tryd.ntmps23
    go_wp2_with fail
    go_ret
    exact ⟨ret_bool HD.out.symm, hb⟩
theorem retR {fn : Func} {p : Tmp} {T : Ending → World → Prop} {a : Act} {w : World} {g : Nat} {cs : Array Value} (h : fn.results = #[.cell p 60]) (hp : a.tmps.getD p undef = .pointer (some ⟨g, 0, none⟩)) (hd : a.defers = [])
    (hg : w.heap[g]? = some (.cells cs 60 (0, 0))) (hs : cs.size = 8) (hT : T (.returned (.agg cs)) w) : bodyPost Tryd.prog fn T .ret a w :=
  bodyPost_ret (v := .agg cs) (results_cell_row h _ _ g 60 cs (0, 0) _ hp hg Tryd.underlying60 rfl (by rw [hs]; kernel_rfl)) hd hT
end Go.Proofs.YtbcjbembhajgcaaDoor.Bnd
