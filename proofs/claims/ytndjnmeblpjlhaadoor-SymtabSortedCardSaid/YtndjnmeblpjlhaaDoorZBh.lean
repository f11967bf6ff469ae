/-
  bind: the program's questions; the law's state; the reference's Same.
-/
import Derived.Test.YtndjnmeblpjlhaaDoorZBg
namespace Go.Proofs.YtndjnmeblpjlhaaDoor.Bnd
open Go.RowKit Go.Proofs Go.Proofs.YtndjnmeblpjlhaaDoor.Byt
open Go.Proofs.YtndjnmeblpjlhaaDoor.Obj (Sy)
open Go.Proofs.YtndjnmeblpjlhaaDoor.Arp (RdI)

def wantd (s : St) : Bool := s.sr && !s.dfd
theorem wanted_any (s : St) (v : Value) (w : World) :
    Calls Tryd.prog 24 #[s.val v] w fun e w' => e = .returned (.bool (wantd s)) ∧ Below w.heap.size w w' := by
  have hb := (Below.refl w.heap.size w).alloc (Nat.le_refl _) (.cells (row s v) 41)
  have HD : Hid (wantd s = (s.sr && !s.dfd)) := hid rfl
  obtain ⟨s0, s1, s2, s3, s4, s5, s6, sl⟩ := s
  generalize wantd _ = d at *
  unfold St.val
  simp only [row] at *
  cases s5 <;> cases s4
  all_goals
    go_enter Tryd.func24, Tryd.ntmps24
    go_wp2_with fail
    go_ret
    exact ⟨ret_bool HD.out.symm, hb⟩
theorem retR {fn : Func} {p : Tmp} {T : Ending → World → Prop} {a : Act} {w : World} {g : Nat} {cs : Array Value} (h : fn.results = #[.cell p 39]) (hp : a.tmps.getD p undef = .pointer (some ⟨g, 0, none⟩)) (hd : a.defers = [])
    (hg : w.heap[g]? = some (.cells cs 39 (0, 0))) (hs : cs.size = 8) (hT : T (.returned (.agg cs)) w) : bodyPost Tryd.prog fn T .ret a w :=
  bodyPost_ret (v := .agg cs) (results_cell_row h _ _ g 39 cs (0, 0) _ hp hg Tryd.underlying39 rfl (by rw [hs]; kernel_rfl)) hd hT
set_option maxRecDepth 100000 in
set_option maxHeartbeats 1000000 in
theorem same13_eq (s : St) (va vb : Value) (w : World) (ha : Pl w w.heap.size va s.strongs) (hb : Pl w w.heap.size vb s.strongs) (hn : s.strongs.length ≤ 1000000) :
    Calls Tryd.prog 12 #[s.val va, s.val vb] w fun e w' => e = .returned (.bool true) ∧ Below w.heap.size w w' := by
  obtain ⟨A, n, c, rfl, hra, _, _⟩ := ha
  obtain ⟨B, m, d, rfl, hrb, _, _⟩ := hb
  obtain ⟨W, hW, hbW, hR0, hR1, hz⟩ := two_new w (.cells (row s (.slice A n c)) 39) (.cells (row s (.slice B m d)) 39)
  have HN := hid fun (k : Nat) => Arp.rnumbers_any w.heap.size w.heap.size A B n c m d s.strongs s.strongs (W.drewN k) ((hra.below hbW).below (bdr (Below.refl _ _) k)) ((hrb.below hbW).below (bdr (Below.refl _ _) k)) (by have := hra.1; omega)
  have HT : Hid ((s.strongs == s.strongs) = true) := hid (by simp)
  rw [HT.out] at HN
  clear HT hra hrb hn
  obtain ⟨s0, s1, s2, s3, s4, s5, s6, sl⟩ := s
  unfold St.val
  simp only [row] at *
  have c0 := fun i => cell_of_row _ w.heap.size i _ _ _ hR0
  have c1 := fun i => cell_of_row _ (w.heap.size + 1) i _ _ _ hR1
  have c00 := c0 0
  have c01 := c0 1
  have c02 := c0 2
  have c03 := c0 3
  have c04 := c0 4
  have c05 := c0 5
  have c06 := c0 6
  have c07 := c0 7
  have c10 := c1 0
  have c11 := c1 1
  have c12 := c1 2
  have c13 := c1 3
  have c14 := c1 4
  have c15 := c1 5
  have c16 := c1 6
  have c17 := c1 7
  have Hb := hid hbW
  clear c0 c1 hR0 hR1 hz hbW
  go_enter Tryd.func12, Tryd.ntmps12
  go_wp2_with (go_at_call 31; refine (HN.out 0).mono ?_; rintro e w' ⟨rfl, k, rfl⟩)
  go_ret
  exact ⟨rfl, bdr Hb.out _⟩
end Go.Proofs.YtndjnmeblpjlhaaDoor.Bnd
