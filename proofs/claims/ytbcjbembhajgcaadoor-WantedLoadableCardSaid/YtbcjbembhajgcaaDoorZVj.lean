/-
  symtab: the program's all, kept, State.
-/
import Derived.Test.YtbcjbembhajgcaaDoorZVi
import Derived.Test.YtbcjbembhajgcaaDoorZBg
namespace Go.Proofs.YtbcjbembhajgcaaDoor.Tab
open Go.RowKit Go.Proofs Go.Proofs.YtbcjbembhajgcaaDoor.Byt
open Go.Proofs.YtbcjbembhajgcaaDoor.Bnd

/-- Which map a receiver has. -/
def AllOf (w : World) (r : Option Addr) (mo : Option Nat) : Prop := (r = none ∧ mo = none) ∨ ∃ (T : Nat) (n : Int), r = some ⟨T, 0, none⟩ ∧ w.heap[T]? = some (.cells #[.int .i64 n, .map mo] 30 (0, 0))
theorem AllOf.below {w w' : World} {r : Option Addr} {mo : Option Nat} (h : AllOf w r mo) (hb : Below w.heap.size w w') : AllOf w' r mo := by
  rcases h with h | ⟨T, n, e, hT⟩
  · exact .inl h
  · exact .inr ⟨T, n, e, (hb.block T (Array.getElem?_eq_some_iff.1 hT).1).trans hT⟩
/-- What the map holds. -/
def MapOf (w : World) (K : Nat) (mo : Option Nat) (U : ByteArray → List Us) : Prop := (mo = none ∧ ∀ x, U x = []) ∨ ∃ M, mo = some M ∧ K ≤ M ∧ Tm w K M U
theorem MapOf.below {w w' : World} {K : Nat} {mo : Option Nat} {U : ByteArray → List Us} (h : MapOf w K mo U) (hb : Below w.heap.size w w') : MapOf w' K mo U := by
  rcases h with h | ⟨M, e, hK, hT⟩
  · exact .inl h
  · exact .inr ⟨M, e, hK, hT.below hb⟩
theorem all_any (r : Option Addr) (mo : Option Nat) (w : World) (h : AllOf w r mo) : Calls Tryd.prog 31 #[.pointer r] w fun e w' => e = .returned (.map mo) ∧ w' = w := by
  rcases h with ⟨rfl, rfl⟩ | ⟨T, n, rfl, hT⟩
  · go_enter Tryd.func31, Tryd.ntmps31
    go_wp2_with fail
    go_ret
    exact ⟨rfl, rfl⟩
  · have c1 := cell_of_row _ T 1 _ _ _ hT
    go_enter Tryd.func31, Tryd.ntmps31
    go_wp2_with fail
    go_ret
    exact ⟨rfl, rfl⟩
/-- What a look into the map gives. -/
theorem looked (K : Nat) (mo : Option Nat) (U : ByteArray → List Us) (nm : ByteArray) (w : World) (h : MapOf w K mo U) :
    ∃ (ok : Bool) (s : St) (v : Value), (Instr.lookup 28 (.map mo) (.string nm) true).run Tryd.prog w = .ok (.tuple #[.agg (row s v), .bool ok]) w ∧ v.oneCell' = true ∧ (ok = true → s = allL (U nm) ∧ OwnI w K v (allL (U nm)).strongs) ∧ (ok = false → U nm = []) := by
  rcases h with ⟨rfl, h⟩ | ⟨M, rfl, _, h⟩
  · exact ⟨false, ⟨0, 0, 0, 0, false, false, false, []⟩, .slice none 0 0, nil_none w nm, rfl, fun e => (by cases e), fun _ => h nm⟩
  · by_cases hu : U nm = []
    · exact ⟨false, ⟨0, 0, 0, 0, false, false, false, []⟩, .slice none 0 0, h.none nm hu, rfl, fun e => (by cases e), fun _ => hu⟩
    · obtain ⟨v, hl, ho⟩ := h.get nm hu
      exact ⟨true, allL (U nm), v, hl, pl_slice ho.pl, fun _ => ⟨rfl, ho⟩, fun e => (by cases e)⟩
theorem _root_.Go.Proofs.YtbcjbembhajgcaaDoor.Bnd.OwnI.setRow {w : World} {K u : Nat} {v : Value} {l : List Int} {old : Array Value} (h : OwnI w K v l) (hu : w.heap[u]? = some (.cells old 57 (0, 0))) (cs : Array Value) : OwnI (w.setRow u cs) K v l :=
  h.typ fun g cs' m hg => (setRow_other _ _ _ _ (by rintro rfl; rw [hu] at hg; cases hg)).trans hg
/-- A state that the map keeps. -/
def KeptP (s : St) (K : Nat) (w : World) (e : Ending) (w' : World) : Prop := ∃ v, e = .returned (s.val v) ∧ OwnI w' K v s.strongs ∧ Below w.heap.size w w'
set_option linter.unusedSimpArgs false in
set_option maxRecDepth 100000 in
set_option maxHeartbeats 4000000 in
theorem kept_any (K : Nat) (r : Option Addr) (mo : Option Nat) (U : ByteArray → List Us) (nm : ByteArray) (w : World) (hA : AllOf w r mo) (hM : MapOf w K mo U) :
    Calls Tryd.prog 19 #[.pointer r, .string nm] w (KeptP (allL (U nm)) K w) := by
  have hbW := (Below.refl w.heap.size w).alloc (Nat.le_refl _) (.cells zS8 57)
  have hnW := heap_alloc_new w (.cells zS8 57)
  have hzW := World.size_alloc w (.cells zS8 57)
  unfold zS8 at hbW hnW hzW
  go_enter Tryd.func19, Tryd.ntmps19
  go_wp2_with fail
  generalize w.alloc (.cells #[.int .i64 0, .int .i64 0, .int .i64 0, .int .i64 0, .bool false, .bool false, .bool false, .slice none 0 0] 57) = W0 at *
  refine (all_any r mo W0 (hA.below hbW)).mono ?_
  rintro e w1 ⟨rfl, rfl⟩
  obtain ⟨ok, s, v, hL, hv1, h1, h0⟩ := looked K mo U nm w1 (hM.below hbW)
  obtain ⟨g, hg⟩ : ∃ g, w.heap.size = g := ⟨_, rfl⟩
  rw [hg] at hnW hzW
  rw [hg]
  have hbX := (Below.refl w1.heap.size w1).alloc (Nat.le_refl _) (.cells zS8 57)
  have hnX := heap_alloc_new w1 (.cells zS8 57)
  unfold zS8 at hbX hnX
  have hoX : ok = true → OwnI (w1.alloc (.cells #[.int .i64 0, .int .i64 0, .int .i64 0, .int .i64 0, .bool false, .bool false, .bool false, .slice none 0 0] 57)) K v (allL (U nm)).strongs := fun e => (h1 e).2.below hbX
  have hgX := (hbX.block g (by omega)).trans hnW
  have HB := hbW.trans (hbX.mono hbW.size)
  rw [hg] at HB
  have hE : ok = false → allL (U nm) = emp := fun e => by rw [h0 e]; rfl
  have hS : ok = true → s = allL (U nm) := fun e => (h1 e).1
  clear hbW h1 h0 hA hM
  generalize allL (U nm) = t at *
  obtain ⟨s0, s1, s2, s3, s4, s5, s6, sl⟩ := s
  have HO := row_one (s := ⟨s0, s1, s2, s3, s4, s5, s6, sl⟩) hv1
  simp only [row] at *
  obtain ⟨W2, hW2⟩ : ∃ W2, w1.alloc (.cells #[.int .i64 0, .int .i64 0, .int .i64 0, .int .i64 0, .bool false, .bool false, .bool false, .slice none 0 0] 57) = W2 := ⟨_, rfl⟩
  rw [hW2] at hnX hoX hgX HB
  have Hg := hid hg
  have hg3 : (W2.setRow w1.heap.size #[.int .i64 s0, .int .i64 s1, .int .i64 s2, .int .i64 s3, .bool s4, .bool s5, .bool s6, v]).heap[g]? = _ := (setRow_other _ _ _ _ (by omega)).trans hgX
  have hu3 := setRow_heap W2 w1.heap.size _ #[.int .i64 s0, .int .i64 s1, .int .i64 s2, .int .i64 s3, .bool s4, .bool s5, .bool s6, v] _ _ hnX
  have HB3 := below_setRow' HB (g := w1.heap.size) (by omega) #[.int .i64 s0, .int .i64 s1, .int .i64 s2, .int .i64 s3, .bool s4, .bool s5, .bool s6, v]
  have ho3 := fun e => (hoX e).setRow hnX #[.int .i64 s0, .int .i64 s1, .int .i64 s2, .int .i64 s3, .bool s4, .bool s5, .bool s6, v]
  have hlt3 : g < (W2.setRow w1.heap.size #[.int .i64 s0, .int .i64 s1, .int .i64 s2, .int .i64 s3, .bool s4, .bool s5, .bool s6, v]).heap.size := (Array.getElem?_eq_some_iff.1 hg3).1
  have Hg3 := hid hg3
  have Hu3 := hid hu3
  have HnX := hid hnX
  have HB4 := hid HB3
  clear hg hbX hgX HB hg3 hu3 HB3 hoX hnW hnX hzW
  cases ok
  · have HE := hid (hE rfl)
    clear hS hE ho3
    go_wp2_with (refine stS rfl _ _ rfl w1.heap.size _ rfl rfl _ HnX.out rfl rfl HO ?_)
    generalize W2.setRow w1.heap.size #[.int .i64 s0, .int .i64 s1, .int .i64 s2, .int .i64 s3, .bool s4, .bool s5, .bool s6, v] = W3 at *
    refine (empty_any W3).mono ?_
    rintro e w4 ⟨rfl, hb4⟩
    have hg4 := (hb4.block g hlt3).trans Hg3.out
    have HBB := HB4.out.trans (hb4.mono (by omega))
    go_wp2_with (refine stS rfl _ _ rfl g _ rfl rfl _ hg4 rfl rfl (row_one rfl) ?_)
    exact retS (g := g) rfl rfl rfl (setRow_heap _ _ _ _ _ _ hg4) rfl ⟨.slice none 0 0, by rw [HE.out]; rfl, by rw [HE.out]; exact OwnI.nil _ _, (below_setRow' HBB (Nat.le_refl _) _).mono (Nat.le_of_eq Hg.out)⟩
  · have HE := hid (hS rfl)
    have hO4 := ho3 rfl
    clear hS hE ho3
    go_wp2_with (first | (refine stS rfl _ _ rfl w1.heap.size _ rfl rfl _ HnX.out rfl rfl HO ?_) | (refine ldS rfl _ rfl w1.heap.size rfl _ Hu3.out rfl ?_) | (refine stS rfl _ _ rfl g _ rfl rfl _ Hg3.out rfl rfl HO ?_))
    exact retS (g := g) rfl rfl rfl (setRow_heap _ _ _ _ _ _ Hg3.out) rfl ⟨v, by rw [← HE.out]; rfl, hO4.setRow Hg3.out _, (below_setRow' HB4.out (Nat.le_refl _) _).mono (Nat.le_of_eq Hg.out)⟩
end Go.Proofs.YtbcjbembhajgcaaDoor.Tab
