/-
  The reference's Decode: the errors before the fields.
-/
import Derived.Test.YtfhdgbpkhcnanaaDoorHre
import Derived.Deep.LoopGhost
namespace Go.Proofs.YtfhdgbpkhcnanaaDoor.Hdr
open Go.RowKit Go.Proofs Go.Proofs.YtfhdgbpkhcnanaaDoor.Byt Go.Proofs.YtfhdgbpkhcnanaaDoor.Str Go.Proofs.YtfhdgbpkhcnanaaDoor.Dec

/-- The result before anything has been found. -/
def z23 : Obj := .cells #[.string ⟨#[]⟩, .int .i64 0, .int .i64 0, .int .i64 0, .int .i64 0, .int .i64 0] 23
theorem load_six23 (w : World) (B : Nat) (cs : Array Value) (h : w.heap[B]? = some (.cells cs 23 (0, 0))) (hs : cs.size = 6) :
    (loadVar 23 ⟨B, 0, none⟩).run Tryd.prog w = .ok (.agg cs) w :=
  run_loadVar_row w B 23 23 cs (0, 0) _ h Tryd.underlying23 rfl (by rw [hs]; kernel_rfl)

set_option maxRecDepth 100000 in
theorem rdecode_2 (K : Nat) (A : Option Addr) (n c : Nat) (l : List UInt8) (w : World) (hr : Rd w K A n l) (h : n < 60) :
    Calls Tryd.prog 13 #[.slice A n c] w (Decodes l w) := by
  have Hf := hid fun w' (hb : Below w.heap.size w w') => Decodes.bad (derr_2 (l := l) (by rw [hr.1]; exact h)) (by decide) hb
  go_enter Tryd.func13, Tryd.ntmps13
  go_wp2_with fail
  exact bodyPost_ret (v := .tuple #[.agg #[.string ⟨#[]⟩, .int .i64 0, .int .i64 0, .int .i64 0, .int .i64 0, .int .i64 0], .int .i64 2]) (by simp [results, Tryd.results13, go_sem]) rfl (Hf.out _ ((Below.refl _ _).alloc (Nat.le_refl _) _))

set_option maxRecDepth 100000 in
set_option maxHeartbeats 1000000 in
theorem rdecode_4 (K b o : Nat) (n c : Nat) (l : List UInt8) (w : World) (hr : Rd w K (some ⟨b, o, none⟩) n l) (hK : K ≤ w.heap.size) (h : 60 ≤ n) (hx : ¬ (l.drop 58).take 2 = [96, 10]) :
    Calls Tryd.prog 13 #[.slice (some ⟨b, o, none⟩) n c] w (Decodes l w) := by
  have hll : 60 ≤ l.length := by rw [hr.1]; exact h
  have Hf := hid fun w' (hb : Below w.heap.size w w') => Decodes.bad (derr_4 hll hx) (by decide) hb
  have hb0 : Below w.heap.size w (w.alloc z23) := (Below.refl _ _).alloc (Nat.le_refl _) _
  have hr1 := ((hr.more hK).below hb0)
  have Hb0 := hid hb0
  unfold z23 at Hb0 hr1
  obtain ⟨b1, o1, e1, hbK, h58⟩ := hr1.2 58 (by omega)
  obtain ⟨b2, o2, e2, _, h59⟩ := hr1.2 59 (by omega)
  injection e1 with e1; injection e1 with e1 e1'; subst e1; subst e1'
  injection e2 with e2; injection e2 with e2 e2'; subst e2; subst e2'
  rw [mark_iff hll] at hx
  generalize l[58] = x at *
  generalize l[59] = y at *
  clear hr1 hb0 hr hll
  by_cases hx1 : x = 96
  · have hy : y ≠ 10 := fun e => hx ⟨hx1, e⟩
    subst hx1
    have t2 : ((y.toNat : Int) != 10) = true := by
      rw [bne_iff_ne]; intro e; apply hy; rw [← UInt8.toNat_inj]; show y.toNat = 10; omega
    clear hx hy
    go_enter Tryd.func13, Tryd.ntmps13
    go_wp2_with fail
    exact bodyPost_ret (v := .tuple #[.agg #[.string ⟨#[]⟩, .int .i64 0, .int .i64 0, .int .i64 0, .int .i64 0, .int .i64 0], .int .i64 4]) (by simp [results, Tryd.results13, go_sem]) rfl (Hf.out _ Hb0.out)
  · have t1 : ((x.toNat : Int) != 96) = true := by
      rw [bne_iff_ne]; intro e; apply hx1; rw [← UInt8.toNat_inj]; show x.toNat = 96; omega
    clear hx hx1
    go_enter Tryd.func13, Tryd.ntmps13
    go_wp2_with fail
    exact bodyPost_ret (v := .tuple #[.agg #[.string ⟨#[]⟩, .int .i64 0, .int .i64 0, .int .i64 0, .int .i64 0, .int .i64 0], .int .i64 4]) (by simp [results, Tryd.results13, go_sem]) rfl (Hf.out _ Hb0.out)

/-- The two blocks that the call has laid. -/
theorem two_blocks {w w2 : World} {m : Nat} {c1 c2 : Array Value} {t : TypeId} (h : w2 = ((w.alloc (.cells c1 t)).alloc (.cells c2 t)).drewN m) :
    w2.heap[w.heap.size]? = some (.cells c1 t (0, 0)) ∧ w2.heap[w.heap.size + 1]? = some (.cells c2 t (0, 0)) ∧ w2.heap.size = w.heap.size + 2 ∧ Below w.heap.size w w2 := by
  subst h
  refine ⟨?_, ?_, by simp, (((Below.refl _ _).alloc (Nat.le_refl _) _).alloc (by simp) _).trans (below_drewN _ _)⟩
  · show ((w.alloc (.cells c1 t)).alloc (.cells c2 t)).heap[w.heap.size]? = _
    rw [Below.heap_alloc _ _ _ (by simp)]
    exact heap_alloc_new w _
  · show ((w.alloc (.cells c1 t)).alloc (.cells c2 t)).heap[w.heap.size + 1]? = _
    have := heap_alloc_new (w.alloc (.cells c1 t)) (.cells c2 t)
    rw [World.size_alloc] at this
    exact this
theorem row_free {w : World} {B : Nat} {cs : Array Value} {t : TypeId} (h : w.heap[B]? = some (.cells cs t (0, 0))) : ∀ j, w.frozen? ⟨B, j, none⟩ = false := fun j => by simp [World.frozen?, h]

set_option maxRecDepth 100000 in
set_option maxHeartbeats 4000000 in
theorem rdecode_6 (K b o : Nat) (n c : Nat) (l : List UInt8) (w : World) (hr : Rd w K (some ⟨b, o, none⟩) n l) (hK : K ≤ w.heap.size) (h : 60 ≤ n) (hc : n ≤ c) (hx : (l.drop 58).take 2 = [96, 10]) (h6 : nameOk (nm l) = false) :
    Calls Tryd.prog 13 #[.slice (some ⟨b, o, none⟩) n c] w (Decodes l w) := by
  have hll : 60 ≤ l.length := by rw [hr.1]; exact h
  have Hf := hid fun w' (hb : Below w.heap.size w w') => Decodes.bad (derr_6 hll hx h6) (by decide) hb
  have hb0 : Below w.heap.size w (w.alloc z23) := (Below.refl _ _).alloc (Nat.le_refl _) _
  have HR0 := hid (hr.more hK)
  have hr1 := ((hr.more hK).below hb0)
  unfold z23 at hr1
  obtain ⟨b1, o1, e1, hbK, h58⟩ := hr1.2 58 (by omega)
  obtain ⟨b2, o2, e2, _, h59⟩ := hr1.2 59 (by omega)
  injection e1 with e1; injection e1 with e1 e1'; subst e1; subst e1'
  injection e2 with e2; injection e2 with e2 e2'; subst e2; subst e2'
  rw [mark_iff hll] at hx
  rw [hx.1] at h58
  rw [hx.2] at h59
  have HR := hid hr1
  have hns := nm_size l
  have Hn := hid fun w' => rfits_any (nm l) w' (by omega)
  have Hll := hid hll
  clear hr1 hb0 hr hx hll
  go_enter Tryd.func13, Tryd.ntmps13
  go_wp2_with fail
  go_loop [4] (fun i => ∃ j : Nat, i = .int .i64 (j : Int) ∧ j ≤ 16 ∧ l.take 16 = l.take j ++ List.replicate (16 - j) 32) (fun i => numOf i)
  case atStart => exact ⟨16, rfl, by omega, trim_start l⟩
  case round =>
    obtain ⟨j, rfl, hj, htr⟩ := hrel
    have Htr := hid htr
    clear htr
    rcases Nat.eq_zero_or_pos j with rfl | hpos
    · have hby := trim_exit Htr.out (by rw [List.take_zero]; exact suffix_nil)
      have HR2 := hid (HR.out.pre (show 0 ≤ n by omega))
      have Hnm := hid (nm_take hby)
      go_wp2_with (first
        | (refine wpList_str _ _ _ _ _ _ HR2.out rfl (.tmp 38) rfl rfl ?_; rw [Hnm.out])
        | (go_at_call 22; refine (Hn.out _).mono ?_; rintro e w2 ⟨rfl, m2, hw2⟩; rw [h6]; have hh0 := (two_blocks hw2).1; have hbW := (two_blocks hw2).2.2.2; have kc := fun j => cell_of_row w2 w.heap.size j _ 23 (0, 0) hh0; have kz := row_free hh0; have Hh0 := hid hh0; have HbW := hid hbW; clear hw2 hh0 hbW))
      have hl := load_six23 _ _ _ (six w2 w.heap.size _ 23 Hh0.out rfl (.string ⟨#[]⟩) (.int .i64 0) (.int .i64 0) (.int .i64 0) (.int .i64 0) (.int .i64 0)) rfl
      exact bodyPost_ret (v := .tuple #[.agg #[.string ⟨#[]⟩, .int .i64 0, .int .i64 0, .int .i64 0, .int .i64 0, .int .i64 0], .int .i64 6]) (by simp [results, Tryd.results13, asAddr, hl]) rfl (Hf.out _ (six_below HbW.out (Nat.le_refl _) _ _ _ _ _ _))
    · obtain ⟨q, rfl⟩ : ∃ q, j = q + 1 := ⟨j - 1, by omega⟩
      have hql : q < l.length := by have := Hll.out; omega
      obtain ⟨b3, o3, e3, _, hq⟩ := HR.out.2 q hql
      injection e3 with e3; injection e3 with e3 e3'; subst e3; subst e3'
      have Hst := hid fun (h32 : l[q]'hql = 32) => trim_step Hll.out (show q < 16 by omega) Htr.out h32
      have Hsp := hid fun (h32 : l[q]'hql ≠ 32) => trim_stop Hll.out (show q < 16 by omega) h32
      generalize hcq : l[q]'hql = x at *
      by_cases h32 : x = 32
      · subst h32
        have Hs := hid (Hst.out rfl)
        clear Hst Hsp
        go_wp2_with fail
        go_round
        case rel => exact ⟨q, rfl, by omega, Hs.out⟩
        case measure => simp [numOf]
      · have t1 : ((x.toNat : Int) == 32) = false := by
          rw [beq_eq_false_iff_ne]; intro e; apply h32; rw [← UInt8.toNat_inj]; show x.toNat = 32; omega
        have hby := trim_exit Htr.out (Hsp.out h32)
        have HR2 := hid (HR.out.pre (show q + 1 ≤ n by omega))
        have Hnm := hid (nm_take hby)
        clear Hst Hsp h32 hcq
        go_wp2_with (first
          | (refine wpList_str _ _ _ _ _ _ HR2.out rfl (.tmp 38) rfl rfl ?_; rw [Hnm.out])
          | (go_at_call 22; refine (Hn.out _).mono ?_; rintro e w2 ⟨rfl, m2, hw2⟩; rw [h6]; have hh0 := (two_blocks hw2).1; have hbW := (two_blocks hw2).2.2.2; have kc := fun j => cell_of_row w2 w.heap.size j _ 23 (0, 0) hh0; have kz := row_free hh0; have Hh0 := hid hh0; have HbW := hid hbW; clear hw2 hh0 hbW))
        have hl := load_six23 _ _ _ (six w2 w.heap.size _ 23 Hh0.out rfl (.string ⟨#[]⟩) (.int .i64 0) (.int .i64 0) (.int .i64 0) (.int .i64 0) (.int .i64 0)) rfl
        exact bodyPost_ret (v := .tuple #[.agg #[.string ⟨#[]⟩, .int .i64 0, .int .i64 0, .int .i64 0, .int .i64 0, .int .i64 0], .int .i64 6]) (by simp [results, Tryd.results13, asAddr, hl]) rfl (Hf.out _ (six_below HbW.out (Nat.le_refl _) _ _ _ _ _ _))
end Go.Proofs.YtfhdgbpkhcnanaaDoor.Hdr
