/-
  wanted: the heap's list: its methods through the interface.
  wanted: the library's heap over the list: up, down, Push, Pop; take.
-/
import Derived.Test.YtbcjbembhajgcaaDoorZQa
import Derived.Test.YtbcjbembhajgcaaDoorZOa
import Derived.Handy
import Derived.MapKept
namespace Go.Proofs.YtbcjbembhajgcaaDoor.Wnt
open Go.RowKit Go.Proofs Go.Proofs.YtbcjbembhajgcaaDoor.Byt
open Go.Proofs.YtbcjbembhajgcaaDoor.Tab (bl bl_iff putN tl_inj)

/-- The list of names that are waiting, as an interface: by its address in the worklist. -/
def px (T : Nat) : Value := .iface 65 (.pointer (some ⟨T, 1, none⟩))
theorem load_p {w : World} {T : Nat} {v : Value} (h : w.cell? ⟨T, 1, none⟩ = some v) : (loadVar 44 ⟨T, 1, none⟩).run Tryd.prog w = .ok v w := by
  simp [loadVar, Tryd.isAgg44, h, go_sem]
theorem wrap_ok (ts : Array TypeId) (t : TypeId) (a : Addr) (x y : ByteArray) : Builtin.ssaWrapNilChk_ ts t #[.pointer (some a), .string x, .string y] = pure (.pointer (some a)) := rfl
theorem method_val {w : World} {T : Nat} {v : Value} {name : String} {f k : Nat} (hm : (Tryd.prog.info? 65).map (fun i => (i.methods.find? (·.name == name)).map fun m => (m.path, m.func)) = some (some (#[], some (f, false))))
    (h : w.cell? ⟨T, 1, none⟩ = some v) : (Go.method (k + 1) 65 (.pointer (some ⟨T, 1, none⟩)) name).run Tryd.prog w = .ok (f, v) w := by
  rcases hi : Tryd.prog.info? 65 with _ | i
  · rw [hi] at hm; cases hm
  rw [hi] at hm
  simp only [Option.map_some, Option.some.injEq] at hm
  rcases hf : i.methods.find? (·.name == name) with _ | m
  · rw [hf] at hm; cases hm
  rw [hf] at hm
  simp only [Option.map_some, Option.some.injEq, Prod.mk.injEq] at hm
  obtain ⟨h1, h2⟩ := hm
  simp [Go.method, typeInfo, hi, hf, h1, h2, follow, receiverAt, run_underlying Tryd.underlying65, Place.get, strVal, wrap_ok, asAddr, load_p h, Result.andThen]
theorem method_ptr {w : World} {T : Nat} {name : String} {f k : Nat} (hm : (Tryd.prog.info? 65).map (fun i => (i.methods.find? (·.name == name)).map fun m => (m.path, m.func)) = some (some (#[], some (f, true)))) :
    (Go.method (k + 1) 65 (.pointer (some ⟨T, 1, none⟩)) name).run Tryd.prog w = .ok (f, .pointer (some ⟨T, 1, none⟩)) w := by
  rcases hi : Tryd.prog.info? 65 with _ | i
  · rw [hi] at hm; cases hm
  rw [hi] at hm
  simp only [Option.map_some, Option.some.injEq] at hm
  rcases hf : i.methods.find? (·.name == name) with _ | m
  · rw [hf] at hm; cases hm
  rw [hf] at hm
  simp only [Option.map_some, Option.some.injEq, Prod.mk.injEq] at hm
  obtain ⟨h1, h2⟩ := hm
  simp [Go.method, typeInfo, hi, hf, h1, h2, follow, receiverAt, run_underlying Tryd.underlying65, Place.get, Result.andThen]
theorem iLen : (Tryd.prog.info? 65).map (fun i => (i.methods.find? (·.name == "Len")).map fun m => (m.path, m.func)) = some (some (#[], some (26, false))) := by kernel_rfl
theorem iLess : (Tryd.prog.info? 65).map (fun i => (i.methods.find? (·.name == "Less")).map fun m => (m.path, m.func)) = some (some (#[], some (82, false))) := by kernel_rfl
theorem iSwap : (Tryd.prog.info? 65).map (fun i => (i.methods.find? (·.name == "Swap")).map fun m => (m.path, m.func)) = some (some (#[], some (83, false))) := by kernel_rfl
theorem iLeast : (Tryd.prog.info? 65).map (fun i => (i.methods.find? (·.name == "arlink/wanted.least")).map fun m => (m.path, m.func)) = some (some (#[], some (84, false))) := by kernel_rfl
theorem iPop : (Tryd.prog.info? 65).map (fun i => (i.methods.find? (·.name == "Pop")).map fun m => (m.path, m.func)) = some (some (#[], some (85, true))) := by kernel_rfl
theorem iPush : (Tryd.prog.info? 65).map (fun i => (i.methods.find? (·.name == "Push")).map fun m => (m.path, m.func)) = some (some (#[], some (86, true))) := by kernel_rfl

/-- A worklist in memory: its map, its names that are waiting. -/
def Qr (w : World) (T : Nat) (m v : Value) : Prop := w.heap[T]? = some (.cells #[m, v] 46 (0, 0))
theorem Qr.lt {w : World} {T : Nat} {m v : Value} (h : Qr w T m v) : T < w.heap.size := (Array.getElem?_eq_some_iff.1 h).1
theorem Qr.c0 {w : World} {T : Nat} {m v : Value} (h : Qr w T m v) : w.cell? ⟨T, 0, none⟩ = some m := cell_of_row w T 0 _ _ _ h
theorem Qr.c1 {w : World} {T : Nat} {m v : Value} (h : Qr w T m v) : w.cell? ⟨T, 1, none⟩ = some v := cell_of_row w T 1 _ _ _ h
theorem Qr.fz {w : World} {T : Nat} {m v : Value} (h : Qr w T m v) (o : Nat) : w.frozen? ⟨T, o, none⟩ = false := frozen_of_row w T o _ _ h
theorem Qr.keep {w w' : World} {T : Nat} {m v : Value} (h : Qr w T m v) (e : w'.heap[T]? = w.heap[T]?) : Qr w' T m v := e.trans h
theorem Qr.ne {w : World} {T K n : Nat} {m v u : Value} {l : List ByteArray} (h : Qr w T m v) (ho : Sls.Own w K u n l) : Sls.blk u ≠ some T := fun e => by
  rcases ho.2 with ⟨rfl, _⟩ | ⟨g, cap, cur, mm, rfl, _, hh, _⟩
  · cases e
  · injection e with e
    subst e
    unfold Qr at h
    rw [h] at hh
    injection hh with hh
    injection hh with _ e2
    exact absurd e2 (by decide)
/-- What may have changed: the worklist's row, the block of its names. -/
def Fq (T : Nat) (v : Value) (w : World) (v' : Value) (w' : World) : Prop :=
  (∀ g, g < w.heap.size → g ≠ T → Sls.blk v ≠ some g → w'.heap[g]? = w.heap[g]?) ∧ (∀ g, Sls.blk v' = some g → Sls.blk v = some g ∨ w.heap.size ≤ g) ∧ w.heap.size ≤ w'.heap.size
theorem Fq.refl (T : Nat) (v : Value) (w : World) : Fq T v w v w := ⟨fun _ _ _ _ => rfl, fun _ h => .inl h, Nat.le_refl _⟩
theorem Fq.trans {T : Nat} {v v' v'' : Value} {w w' w'' : World} (h : Fq T v w v' w') (k : Fq T v' w' v'' w'') : Fq T v w v'' w'' :=
  ⟨fun g a b c => (k.1 g (Nat.lt_of_lt_of_le a h.2.2) b (fun e => by
      rcases h.2.1 g e with q | q
      · exact c q
      · omega)).trans (h.1 g a b c), fun g e => by
    rcases k.2.1 g e with q | q
    · exact h.2.1 g q
    · exact .inr (Nat.le_trans h.2.2 q), Nat.le_trans h.2.2 k.2.2⟩
theorem Fq.of_fr {T K : Nat} {v v' : Value} {w w' : World} (h : Sls.Fr v w v' w') (hb : Below K w w') : Fq T v w v' w' := ⟨fun g a _ c => h.1 g a c, h.2, hb.size⟩
theorem Fr_trans {v v' v'' : Value} {w w' w'' : World} (h : Sls.Fr v w v' w') (k : Sls.Fr v' w' v'' w'') (hs : w.heap.size ≤ w'.heap.size) : Sls.Fr v w v'' w'' :=
  ⟨fun g a c => (k.1 g (Nat.lt_of_lt_of_le a hs) (fun e => by
      rcases h.2 g e with q | q
      · exact c q
      · omega)).trans (h.1 g a c), fun g e => by
    rcases k.2 g e with q | q
    · exact h.2 g q
    · exact .inr (Nat.le_trans hs q)⟩
theorem Qr.fr {w w' : World} {T K n : Nat} {m v v' : Value} {l : List ByteArray} (h : Qr w T m v) (ho : Sls.Own w K v n l) (f : Sls.Fr v w v' w') : Qr w' T m v :=
  h.keep (f.1 T h.lt (h.ne ho))

theorem plen_any (w : World) (A : Option Addr) (n c : Nat) : Calls Tryd.prog 26 #[.slice A n c] w fun e w' => e = .returned (.int .i64 (n : Int)) ∧ w' = w := by
  go_enter Tryd.func26, Tryd.ntmps26
  go_wp2_with fail
  go_ret
  exact ⟨rfl, rfl⟩
theorem pless_any (K : Nat) (A : Option Addr) (n c : Nat) (l : List ByteArray) (w : World) (h : Sls.Rd w K A n l) {i j : Nat} (hi : i < n) (hj : j < n) : Calls Tryd.prog 82 #[.slice A n c, .int .i64 (i : Int), .int .i64 (j : Int)] w fun e w' => e = .returned (.bool (bl (nth l i) (nth l j))) ∧ ∃ k, w' = w.drewN k := by
  have hl := h.1
  have hil : i < l.length := by omega
  have hjl : j < l.length := by omega
  obtain ⟨b, o, rfl, hbK, ci⟩ := h.2 i hil
  obtain ⟨b', o', e, _, cj⟩ := h.2 j hjl
  injection e with e
  injection e with e1 e2
  subst e1 e2
  have hii : (i : Int) < (n : Int) := by omega
  have hjj : (j : Int) < (n : Int) := by omega
  have HE : Hid (bl (nth l i) (nth l j) = Op.bytesLess l[i].toList l[j].toList) := hid (by rw [nth_eq hil, nth_eq hjl]; rfl)
  generalize l[i] = x at *
  generalize l[j] = y at *
  go_enter Tryd.func82, Tryd.ntmps82
  go_wp2_with fail
  go_quiet (fail)
  go_wp2_with fail
  go_ret
  exact ⟨ret_bool HE.out.symm, _, rfl⟩
theorem pleast_any (K : Nat) (A : Option Addr) (n c : Nat) (l : List ByteArray) (w : World) (h : Sls.Rd w K A n l) (hn : 0 < n) : Calls Tryd.prog 84 #[.slice A n c] w fun e w' => e = .returned (.string (nth l 0)) ∧ w' = w := by
  have hl := h.1
  have hil : 0 < l.length := by omega
  obtain ⟨b, o, rfl, hbK, ci⟩ := h.2 0 hil
  rw [Nat.add_zero] at ci
  have hii : (0 : Int) < (n : Int) := by omega
  have HE : Hid (nth l 0 = l[0]) := hid (nth_eq hil)
  generalize l[0] = x at *
  go_enter Tryd.func84, Tryd.ntmps84
  go_wp2_with fail
  go_ret
  exact ⟨ret_str HE.out.symm, rfl⟩
theorem pswap_any (K : Nat) (A : Option Addr) (n c : Nat) (l : List ByteArray) (w : World) (h : Sls.Own w K (.slice A n c) n l) {i j : Nat} (hi : i < n) (hj : j < n) : Calls Tryd.prog 83 #[.slice A n c, .int .i64 (i : Int), .int .i64 (j : Int)] w fun e w' => e = .returned (.tuple #[]) ∧ Sls.Own w' K (.slice A n c) n (swp l i j) ∧ Below K w w' ∧ Sls.Fr (.slice A n c) w (.slice A n c) w' := by
  have hl := h.1
  have hil : i < l.length := by omega
  have hjl : j < l.length := by omega
  obtain ⟨g, cap, hv, hgK, ci, fi, S1⟩ := h.at_ hil
  injection hv with e1 _ e3
  subst e1 e3
  obtain ⟨g', cap', hv', _, cj, fj, _⟩ := h.at_ hjl
  injection hv' with e1 _ e3
  injection e1 with e1
  injection e1 with e1
  subst e1 e3
  have hii : (i : Int) < (n : Int) := by omega
  have hjj : (j : Int) < (n : Int) := by omega
  have O1 := S1 l[j]
  obtain ⟨g2, cap2, hv2, _, _, fj2, S2⟩ := O1.at_ (i := j) (by rw [List.length_set]; exact hjl)
  injection hv2 with e1 _ e3
  injection e1 with e1
  injection e1 with e1
  subst e1 e3
  have O2 := hid (S2 l[i])
  have hsw : swp l i j = (l.set i l[j]).set j l[i] := by unfold swp; rw [nth_eq hil, nth_eq hjl]
  rw [hsw]
  clear hsw
  have HB := hid (fun (x y : Value) => ((((Below.refl K w).setCell (p := ⟨g, i, none⟩) hgK x).setCell (p := ⟨g, j, none⟩) hgK y).drew))
  have HF := hid (fun (x y : Value) (q : Nat) (hq : q ≠ g) => (Below.heap_setCell (w.setCell ⟨g, i, none⟩ x) ⟨g, j, none⟩ y q hq).trans (Below.heap_setCell w ⟨g, i, none⟩ x q hq))
  clear S1 S2 O1 h fj2
  generalize l[i] = x at *
  generalize l[j] = y at *
  go_enter Tryd.func83, Tryd.ntmps83
  go_wp2_with fail
  go_region
  refine bodyPost_end (results_none rfl _ _ _) rfl ?_
  exact ⟨rfl, O2.out.drewN 1, HB.out _ _, fun q _ hb => HF.out _ _ q fun e => hb (by rw [e]; rfl), fun q e => .inl e⟩
theorem ppop_any (K T : Nat) (m : Value) (A : Option Addr) (n c : Nat) (l : List ByteArray) (w : World) (hq : Qr w T m (.slice A n c)) (h : Sls.Own w K (.slice A n c) n l) (hT : K ≤ T) (hn : 0 < n) :
    Calls Tryd.prog 85 #[.pointer (some ⟨T, 1, none⟩)] w fun e w' => e = .returned (.iface 9 (.string (nth l (n - 1)))) ∧ Qr w' T m (.slice A (n - 1) c) ∧ Sls.Own w' K (.slice A (n - 1) c) (n - 1) (l.take (n - 1)) ∧ Below K w w' ∧ Fq T (.slice A n c) w (.slice A (n - 1) c) w' := by
  have hl := h.1
  have hil : n - 1 < l.length := by omega
  have hcm : c ≤ maxLen := by
    obtain ⟨A', c', e, _, _, hc⟩ := h.reads
    injection e with _ _ e
    subst e
    exact hc
  have hnc : n ≤ c := by
    obtain ⟨A', c', e, _, hc, _⟩ := h.reads
    injection e with _ _ e
    subst e
    exact hc
  obtain ⟨g, cap, hv, hgK, ci, _, _⟩ := h.at_ hil
  injection hv with e1 _ e3
  subst e1 e3
  have c1 := hq.c1
  have f1 := hq.fz
  have hW : Hid (Sls.Own (w.setCell ⟨T, 1, none⟩ (.slice (some ⟨g, 0, none⟩) (n - 1) c)) K (.slice (some ⟨g, 0, none⟩) (n - 1) c) (n - 1) (l.take (n - 1))) := hid (by
    refine ⟨by rw [List.length_take]; omega, ?_⟩
    rcases h.2 with ⟨e, _⟩ | ⟨g', cap', cur, mm, hv', hg', hh, _, hm, hs, ht, hf⟩
    · cases e
    · injection hv' with e1 _ e3
      injection e1 with e1
      injection e1 with e1
      subst e1 e3
      refine .inr ⟨g, c, cur, mm, rfl, hg', (Below.heap_setCell w ⟨T, 1, none⟩ _ g ?_).trans hh, by omega, hm, hs, ?_, hf⟩
      · show g ≠ T
        rintro rfl
        exact hq.ne h rfl
      · have e2 := congrArg (List.take (n - 1)) ht
        rw [List.take_take, Nat.min_eq_left (by omega)] at e2
        rw [e2]
        unfold Sls.enc
        rw [List.map_take])
  have hR : Hid (Qr (w.setCell ⟨T, 1, none⟩ (.slice (some ⟨g, 0, none⟩) (n - 1) c)) T m (.slice (some ⟨g, 0, none⟩) (n - 1) c)) := hid (heap_setCell_same w T 1 _ _ _ hq)
  have hB : Hid (Below K w (w.setCell ⟨T, 1, none⟩ (.slice (some ⟨g, 0, none⟩) (n - 1) c))) := hid ((Below.refl K w).setCell (p := ⟨T, 1, none⟩) hT _)
  have hF : Hid (Fq T (.slice (some ⟨g, 0, none⟩) n c) w (.slice (some ⟨g, 0, none⟩) (n - 1) c) (w.setCell ⟨T, 1, none⟩ (.slice (some ⟨g, 0, none⟩) (n - 1) c))) := hid ⟨fun q _ hne _ => Below.heap_setCell w ⟨T, 1, none⟩ _ q hne, fun q e => .inl e, hB.out.size⟩
  have e0 : (n : Int) - 1 = ((n - 1 : Nat) : Int) := by omega
  have hii : ((n - 1 : Nat) : Int) < (n : Int) := by omega
  have hnn : ((n : Nat) : Int) < 9223372036854775808 := by unfold maxLen at hcm; omega
  have HE := hid (nth_eq hil)
  generalize l[n - 1] = x at *
  go_enter Tryd.func85, Tryd.ntmps85
  go_wp2_with fail
  go_ret
  refine ⟨?_, hR.out, hW.out, hB.out, hF.out⟩
  rw [HE.out]
  rfl

theorem kP : Cel.Kind 44 9 1 16 (.string ⟨#[]⟩) := ⟨by kernel_rfl, by kernel_rfl, by kernel_rfl, by decide⟩
theorem own_cel {w : World} {K n : Nat} {v : Value} {l : List ByteArray} : Sls.Own w K v n l ↔ Cel.Own 9 1 w K v n (Sls.enc l) := by
  unfold Sls.Own Cel.Own
  simp only [Nat.mul_one, Sls.enc_length]
theorem assert_str (x : ByteArray) (w : World) : (Instr.typeAssert (.iface 9 (.string x)) 20 9 false).run Tryd.prog w = .ok (.string x) w := by kernel_rfl
set_option linter.unusedSimpArgs false in
theorem ppush_any (K T : Nat) (m v : Value) (n : Nat) (l : List ByteArray) (s : ByteArray) (w : World) (hq : Qr w T m v) (h : Sls.Own w K v n l) (hT : K ≤ T) (hn : n < 1000000) :
    Calls Tryd.prog 86 #[.pointer (some ⟨T, 1, none⟩), .iface 9 (.string s)] w fun e w' => e = .returned (.tuple #[]) ∧ ∃ v', Qr w' T m v' ∧ Sls.Own w' K v' (n + 1) (l ++ [s]) ∧ Below K w w' ∧ Fq T v w v' w' := by
  have hK : K ≤ w.heap.size := Nat.le_trans hT (Nat.le_of_lt hq.lt)
  have ha := assert_str s
  go_enter Tryd.func86, Tryd.ntmps86
  go_wp2_with fail
  refine Ord.Till.begin (fun W => W.cell? ⟨T, 1, none⟩ = some v) 9 (by kernel_rfl) ?_
  have hS0 : (fun W : World => W.cell? ⟨T, 1, none⟩ = some v) w.drew := hq.c1
  refine Ord.Till.take' 0 (some 4) (oi := _) (x := ?_) rfl rfl (by kernel_rfl) (by kernel_rfl) (by kernel_rfl) (by kernel_rfl) (fun _ _ _ h => h) (by kernel_rfl) ?_ hS0 ?_
  rotate_left 1
  · intro W hv; have z0 : W.cell? ⟨T, 1, none⟩ = some v := hv; go_simp; first | done | with_reducible rfl
  try simp only [Act.put, List.setIfInBounds_toArray, List.set_cons_zero, List.set_cons_succ]
  refine Ord.Till.take' 1 (some 5) (oi := _) (x := ?_) rfl rfl (by kernel_rfl) (by kernel_rfl) (by kernel_rfl) (by kernel_rfl) (fun _ _ _ h => h) (by kernel_rfl) ?_ hS0 ?_
  rotate_left 1
  · intro W hv; have z0 : W.cell? ⟨T, 1, none⟩ = some v := hv; go_simp; first | done | with_reducible rfl
  try simp only [Act.put, List.setIfInBounds_toArray, List.set_cons_zero, List.set_cons_succ]
  refine Ord.Till.take' 2 (some 6) (oi := _) (x := ?_) rfl rfl (by kernel_rfl) (by kernel_rfl) (by kernel_rfl) (by kernel_rfl) (fun _ _ _ h => h) (by kernel_rfl) ?_ hS0 ?_
  rotate_left 1
  · intro W hv; have z0 : W.cell? ⟨T, 1, none⟩ = some v := hv; go_simp; first | done | with_reducible rfl
  try simp only [Act.put, List.setIfInBounds_toArray, List.set_cons_zero, List.set_cons_succ]
  refine Ord.Till.take' 3 (some 7) (oi := _) (x := ?_) rfl rfl (by kernel_rfl) (by kernel_rfl) (by kernel_rfl) (by kernel_rfl) (fun _ _ _ h => h) (by kernel_rfl) ?_ hS0 ?_
  rotate_left 1
  · intro W hv; have z0 : W.cell? ⟨T, 1, none⟩ = some v := hv; go_simp; first | done | with_reducible rfl
  try simp only [Act.put, List.setIfInBounds_toArray, List.set_cons_zero, List.set_cons_succ]
  refine Ord.Till.take' 4 (some 8) (oi := _) (x := ?_) rfl rfl (by kernel_rfl) (by kernel_rfl) (by kernel_rfl) (by kernel_rfl) (fun _ _ _ h => h) (by kernel_rfl) ?_ hS0 ?_
  rotate_left 1
  · intro W hv; have z0 : W.cell? ⟨T, 1, none⟩ = some v := hv; go_simp; first | done | with_reducible rfl
  try simp only [Act.put, List.setIfInBounds_toArray, List.set_cons_zero, List.set_cons_succ]
  refine Ord.Till.take' 5 (some 9) (oi := _) (x := ?_) rfl rfl (by kernel_rfl) (by kernel_rfl) (by kernel_rfl) (by kernel_rfl) (fun _ _ _ h => h) (by kernel_rfl) ?_ hS0 ?_
  rotate_left 1
  · intro W hv; have z0 : W.cell? ⟨T, 1, none⟩ = some v := hv; go_simp; first | done | with_reducible rfl
  try simp only [Act.put, List.setIfInBounds_toArray, List.set_cons_zero, List.set_cons_succ]
  refine Ord.Till.step 6 (by kernel_rfl) rfl (fun C hC => ?_)
  go_simp
  have hw1 : w.heap.size < (w.alloc (.cells #[.string s] 9)).heap.size := by simp
  have hS1 : (fun W : World => W.cell? ⟨T, 1, none⟩ = some v) (w.alloc (.cells #[.string s] 9)).drew := cell_of_row _ T 1 _ _ _ ((Below.heap_alloc w _ T hq.lt).trans hq)
  have hc1 : (w.alloc (.cells #[.string s] 9)).drew.cell? ⟨w.heap.size, 0, none⟩ = some (.string s) := cell_of_row (w.alloc (.cells #[.string s] 9)) w.heap.size 0 _ _ _ (heap_alloc_new w _)
  have hB1 : Below K w (w.alloc (.cells #[.string s] 9)).drew := ((Below.refl K w).alloc hK _).drew
  have ho1 : Cel.Own 9 1 (w.alloc (.cells #[.string s] 9)).drew K v n (Sls.enc l) := own_cel.1 (h.alloc _)
  have hQ1 : Qr (w.alloc (.cells #[.string s] 9)).drew T m v := hq.keep (Below.heap_alloc w _ T hq.lt)
  have hF1 : Sls.Fr v w v (w.alloc (.cells #[.string s] 9)).drew := ⟨fun q a _ => Below.heap_alloc w _ q a, fun _ e => .inl e⟩
  have hz1 : w.heap.size < (w.alloc (.cells #[.string s] 9)).drew.heap.size := hw1
  refine hC.out _ _ (fun _ => hS1) ?_
  clear hC C hS0
  generalize (w.alloc (.cells #[.string s] 9)).drew = w1 at *
  try simp only [List.getElem_toArray, List.getElem_cons_zero, List.getElem_cons_succ, Act.put, List.setIfInBounds_toArray, List.set_cons_zero, List.set_cons_succ]
  refine Ord.Till.step 7 (by kernel_rfl) rfl (fun C hC => ?_)
  refine Cel.step_app kP w1 K v n (Sls.enc l) ho1 (by omega) ⟨w.heap.size, 0, none⟩ 1 1 [.string s] rfl (fun u hu => by rw [List.mem_singleton] at hu; subst hu; rfl) (fun j u hj => ?_) (by omega) (by omega) (by rfl) _ _ (by rfl) (by rfl) (by rfl) ?_
  · rcases j with _ | j
    · rw [List.getElem?_cons_zero] at hj
      rw [← hj]
      exact hc1
    · rw [List.getElem?_cons_succ, List.getElem?_nil] at hj
      cases hj
  intro v2 w2 ho2 hb2 _ hf2
  have ho2 : Sls.Own w2 K v2 (n + 1) (l ++ [s]) := own_cel.2 (by rw [Sls.enc_append]; exact ho2)
  obtain ⟨A2, k2, rfl, _⟩ := ho2.reads
  have hQ2 : Qr w2 T m v := hQ1.keep (hf2.1 T hQ1.lt (hq.ne h))
  have hB2 := hB1.trans hb2
  have hF2 : Sls.Fr v w (.slice A2 (n + 1) k2) w2 := Fr_trans hF1 hf2 (by omega)
  have hS2 : (fun W : World => W.cell? ⟨T, 1, none⟩ = some v) w2 := hQ2.c1
  have z2 := hQ2.c1
  have f2 := hQ2.fz
  refine hC.out _ _ (fun _ => hS2) ?_
  clear hC C
  try simp only [List.getElem_toArray, List.getElem_cons_zero, List.getElem_cons_succ, Act.put, List.setIfInBounds_toArray, List.set_cons_zero, List.set_cons_succ]
  refine Ord.Till.step 8 (by kernel_rfl) rfl (fun C hC => ?_)
  go_simp
  refine hC.out _ _ (fun _ => hS2) ?_
  clear hC C
  try simp only [List.getElem_toArray, List.getElem_cons_zero, List.getElem_cons_succ, Act.put, List.setIfInBounds_toArray, List.set_cons_zero, List.set_cons_succ]
  refine Ord.Till.step 9 (by kernel_rfl) rfl (fun C hC => ?_)
  go_simp
  refine hC.out _ _ (fun hz => absurd rfl hz) ?_
  clear hC C
  refine Ord.Till.done (by kernel_rfl) ?_ _
  refine bodyPost_end (results_none rfl _ _ _) rfl ?_
  have hne : Sls.blk (.slice A2 (n + 1) k2) ≠ some T := hQ2.ne ho2
  refine ⟨rfl, _, heap_setCell_same w2 T 1 _ _ _ hQ2, own_cel.2 ((own_cel.1 ho2).setc hQ2 (by decide) 1 _), hB2.setCell (p := ⟨T, 1, none⟩) hT _, ?_⟩
  exact ⟨fun q a b c => (Below.heap_setCell w2 ⟨T, 1, none⟩ _ q b).trans (hF2.1 q a c), hF2.2, (hB2.setCell (p := ⟨T, 1, none⟩) hT (.slice A2 (n + 1) k2)).size⟩
end Go.Proofs.YtbcjbembhajgcaaDoor.Wnt

namespace Go.Proofs.YtbcjbembhajgcaaDoor.Wnt
open Go.RowKit Go.Proofs Go.Proofs.YtbcjbembhajgcaaDoor.Byt
open Go.Proofs.YtbcjbembhajgcaaDoor.Tab (bl bl_iff putN tl_inj)

/-- What stays of the world while the list's names change their places. -/
def Mv (K T : Nat) (m v : Value) (w w' : World) : Prop := Below K w w' ∧ Sls.Fr v w v w' ∧ Qr w' T m v
theorem Mv.refl {K T : Nat} {m v : Value} {w : World} (h : Qr w T m v) : Mv K T m v w w := ⟨Below.refl _ _, Sls.Fr.refl _ _, h⟩
theorem Mv.step {K T n : Nat} {m v : Value} {w w' w'' : World} {l : List ByteArray} (h : Mv K T m v w w') (ho : Sls.Own w' K v n l) (hb : Below K w' w'') (hf : Sls.Fr v w' v w'') : Mv K T m v w w'' :=
  ⟨h.1.trans hb, Fr_trans h.2.1 hf h.1.size, h.2.2.fr ho hf⟩
theorem Mv.drewN {K T : Nat} {m v : Value} {w w' : World} (h : Mv K T m v w w') (k : Nat) : Mv K T m v w (w'.drewN k) := ⟨h.1.trans ⟨rfl, rfl, rfl, Nat.le_refl _, fun _ _ => rfl⟩, h.2.1, h.2.2⟩

set_option linter.unusedSimpArgs false in
set_option maxRecDepth 100000 in
theorem up_any (K T : Nat) (m : Value) (A : Option Addr) (n c j0 : Nat) (l : List ByteArray) (w : World) (hq : Qr w T m (.slice A n c)) (h : Sls.Own w K (.slice A n c) n l) (hn : n ≤ 1000000) (hu : UpI l n j0) :
    Calls Tryd.prog 36 #[px T, .int .i64 (j0 : Int)] w fun e w' => e = .returned (.tuple #[]) ∧ ∃ l', l'.Perm l ∧ Hp l' n ∧ Sls.Own w' K (.slice A n c) n l' ∧ Mv K T m (.slice A n c) w w' := by
  have HP0 : Hid (UpI l n j0 ∧ l.Perm l) := hid ⟨hu, List.Perm.refl l⟩
  have hjn := hu.1
  have HM0 := hid (Mv.refl (K := K) hq)
  clear hu
  unfold px
  go_enter Tryd.func36, Tryd.ntmps36
  go_wp2_with fail
  go_loopw [1] (fun jv W => ∃ (j : Nat) (l' : List ByteArray), jv = .int .i64 (j : Int) ∧ j < n ∧ Hid (UpI l' n j ∧ l'.Perm l) ∧ Sls.Own W K (.slice A n c) n l' ∧ Hid (Mv K T m (.slice A n c) w W)) (fun jv _ => (intOf jv).toNat)
  case atStart => exact ⟨j0, l, rfl, hjn, HP0, h, HM0⟩
  case round =>
    obtain ⟨j, l', rfl, hj, hP, hO, hM⟩ := hrel
    have hQ := hM.out.2.2
    have hm := method_val (k := 238) iLess hQ.c1
    have hms := fun k => method_val (k := 238) (w := wr.drewN k) iSwap hQ.c1
    by_cases h0 : j = 0
    · subst h0
      go_wp2_with fail
      refine bodyPost_end (results_none rfl _ _ _) rfl ?_
      exact ⟨rfl, l', hP.out.2, hP.out.1.done (.inl rfl), hO, hM.out⟩
    · have hj0 : 0 < j := by omega
      have e1 : ((j : Int) - 1) / 2 = ((par j : Nat) : Int) := by unfold par; omega
      have hpj := par_lt hj0
      have e2 : (((par j : Nat) : Int) == (j : Int)) = false := by simp; omega
      have hr : Sls.Rd wr wr.heap.size A n l' := by
        obtain ⟨A', c', e, hr, _⟩ := hO.reads
        injection e with e1 _ _
        subst e1
        exact hr
      have HL := hid (pless_any _ A n c l' wr hr hj (by omega : par j < n))
      clear hr
      cases hb : bl (nth l' j) (nth l' (par j))
      · have HR := hid (hP.out.1.done (.inr (by rw [hb]; decide)))
        rw [hb] at HL
        clear hb
        go_wp2_with (go_at_call 82; refine HL.out.mono ?_; rintro e w1 ⟨rfl, k1, rfl⟩)
        refine bodyPost_end (results_none rfl _ _ _) rfl ?_
        exact ⟨rfl, l', hP.out.2, HR.out, hO.drewN k1, hM.out.drewN k1⟩
      · have HN := hid (hP.out.1.step hj0 hb)
        have HPm : Hid ((swp l' (par j) j).Perm l) := hid ((swp_perm (by have := hO.1; omega) (by have := hO.1; omega)).trans hP.out.2)
        rw [hb] at HL
        clear hb hP
        have HS := hid (fun k => pswap_any K A n c l' (wr.drewN k) (hO.drewN k) (by omega : par j < n) hj)
        go_wp2_with (first | (go_at_call 82; refine HL.out.mono ?_; rintro e w1 ⟨rfl, k1, rfl⟩; have hms1 := hms k1) | (go_at_call 83; refine (HS.out _).mono ?_; rintro e w2 ⟨rfl, ho2, hb2, hf2⟩))
        have hM2 := hid ((hM.out.drewN k1).step (hO.drewN k1) hb2 hf2)
        clear hb2 hf2
        go_roundw
        · exact ⟨par j, swp l' (par j) j, rfl, by omega, hid ⟨HN.out, HPm.out⟩, ho2, hM2⟩
        · simp [intOf]; omega

def lc (i : Nat) : Nat := 2 * i + 1
def rc (i : Nat) : Nat := 2 * i + 2
/-- Behind down: the list is a heap again; what lies from n on is as it was. -/
def DnP (K T N n : Nat) (m : Value) (A : Option Addr) (c : Nat) (l : List ByteArray) (w : World) (e : Ending) (w' : World) : Prop :=
  (∃ b : Bool, e = .returned (.bool b)) ∧ ∃ l', l'.Perm l ∧ Hp l' n ∧ (∀ k, n ≤ k → nth l' k = nth l k) ∧ Sls.Own w' K (.slice A N c) N l' ∧ Mv K T m (.slice A N c) w w'
def DnH (l l' : List ByteArray) (n i : Nat) : Prop := DnI l' n i ∧ l'.Perm l ∧ ∀ k, n ≤ k → nth l' k = nth l k
theorem DnH.step {l l' : List ByteArray} {n i j : Nat} (h : DnH l l' n i) (hj : Lss l' n i j) (hl : bl (nth l' j) (nth l' i) = true) (hi : i < n) : DnH l (swp l' i j) n j := by
  have h1 : i < l'.length := Nat.lt_of_lt_of_le hi h.1.1
  have h2 : j < l'.length := Nat.lt_of_lt_of_le hj.2.2.1 h.1.1
  have h3 := hj.2.2.1
  refine ⟨h.1.step hj hl, (swp_perm h1 h2).trans h.2.1, fun k hk => ?_⟩
  rw [nth_swp h1 h2, if_neg (by omega), if_neg (by omega)]
  exact h.2.2 k hk
theorem own_rd {w : World} {K n c : Nat} {A : Option Addr} {l : List ByteArray} (h : Sls.Own w K (.slice A n c) n l) : Sls.Rd w w.heap.size A n l := by
  obtain ⟨A', c', e, hr, _⟩ := h.reads
  injection e with e1 _ _
  subst e1
  exact hr

set_option linter.unusedSimpArgs false in
set_option maxRecDepth 100000 in
set_option maxHeartbeats 800000 in
theorem down_any (K T : Nat) (m : Value) (A : Option Addr) (N n c i0 : Nat) (l : List ByteArray) (w : World) (hq : Qr w T m (.slice A N c)) (h : Sls.Own w K (.slice A N c) N l) (hN : N ≤ 1000000) (hu : DnI l n i0) (hi0 : i0 ≤ n) :
    Calls Tryd.prog 45 #[px T, .int .i64 (i0 : Int), .int .i64 (n : Int)] w (DnP K T N n m A c l w) := by
  have HP0 : Hid (DnH l l n i0) := hid ⟨hu, List.Perm.refl l, fun _ _ => rfl⟩
  have hnN : n ≤ N := by have := hu.1; have := h.1; omega
  have HM0 := hid (Mv.refl (K := K) hq)
  clear hu
  unfold px
  go_enter Tryd.func45, Tryd.ntmps45
  go_wp2_with fail
  go_loopw [7] (fun iv W => ∃ (i : Nat) (l' : List ByteArray), iv = .int .i64 (i : Int) ∧ i ≤ n ∧ Hid (DnH l l' n i) ∧ Sls.Own W K (.slice A N c) N l' ∧ Hid (Mv K T m (.slice A N c) w W)) (fun iv _ => n - (intOf iv).toNat)
  case atStart => exact ⟨i0, l, rfl, hi0, HP0, h, HM0⟩
  case round =>
    obtain ⟨i, l', rfl, hi, hP, hO, hM⟩ := hrel
    have hQ := hM.out.2.2
    have e1 : 2 * (i : Int) + 1 = (lc i : Int) := by unfold lc; omega
    have e2 : (lc i : Int) + 1 = (rc i : Int) := by unfold lc rc; omega
    have hi6 : (i : Int) ≤ 1000000 := by omega
    have hl6 : (lc i : Int) ≤ 3000000 := by unfold lc; omega
    have hl0 : ¬ (lc i : Int) < 0 := by omega
    have hm := fun k => method_val (k := 238) (w := wr.drewN k) iLess hQ.c1
    have hm0 := method_val (k := 238) iLess hQ.c1
    have hms := fun k => method_val (k := 238) (w := wr.drewN k) iSwap hQ.c1
    by_cases h1 : n ≤ lc i
    · have h1' : (n : Int) ≤ (lc i : Int) := by omega
      have HR := hid (hP.out.1.leaf h1)
      go_wp2_with fail
      go_ret
      exact ⟨⟨_, rfl⟩, l', hP.out.2.1, HR.out, hP.out.2.2, hO, hM.out⟩
    · have h1' : ¬ (n : Int) ≤ (lc i : Int) := by omega
      by_cases h2 : rc i < n
      · have h2' : (rc i : Int) < (n : Int) := by omega
        cases hb : bl (nth l' (rc i)) (nth l' (lc i))
        · have HJ : Hid (Lss l' n i (lc i)) := hid (Lss.one (by unfold lc at h1; omega) (fun e => by have := e.2; rw [show 2 * i + 2 = rc i from rfl, show 2 * i + 1 = lc i from rfl, hb] at this; cases this))
          have HLf := hid (pless_any _ A N c l' wr (own_rd hO) (by omega : rc i < N) (by omega : lc i < N))
          rw [hb] at HLf
          clear hb
          go_upto_region 8 with (go_at_call 82; refine HLf.out.mono ?_; rintro e w1 ⟨rfl, k1, rfl⟩)
          have hO1 := hO.drewN k1
          have hM1 := hid (hM.out.drewN k1)
          clear HLf hm hm0 hms hM hO hQ
          generalize wr.drewN k1 = V at *
          have hQ1 := hM1.out.2.2
          have q1 := method_val (k := 238) iLess hQ1.c1
          have q2 := fun k => method_val (k := 238) (w := V.drewN k) iSwap hQ1.c1
          have hjn := HJ.out.2.2.1
          have HL1 := hid (pless_any _ A N c l' V (own_rd hO1) (by omega : lc i < N) (by omega : i < N))
          cases hb : bl (nth l' (lc i)) (nth l' i)
          · have HR := hid (hP.out.1.done HJ.out (by rw [hb]; decide))
            rw [hb] at HL1
            clear hb
            go_wp2_with (go_at_call 82; refine HL1.out.mono ?_; rintro e w2 ⟨rfl, k2, rfl⟩)
            go_ret
            exact ⟨⟨_, rfl⟩, l', hP.out.2.1, HR.out, hP.out.2.2, hO1.drewN k2, hM1.out.drewN k2⟩
          · have HN := hid (hP.out.step HJ.out hb (by omega))
            rw [hb] at HL1
            clear hb hP
            have HS := hid (fun k => pswap_any K A N c l' (V.drewN k) (hO1.drewN k) (by omega : i < N) (by omega : lc i < N))
            go_wp2_with (first | (go_at_call 82; refine HL1.out.mono ?_; rintro e w2 ⟨rfl, k2, rfl⟩; have q3 := q2 k2) | (go_at_call 83; refine (HS.out _).mono ?_; rintro e w3 ⟨rfl, ho3, hb3, hf3⟩))
            have hM3 := hid ((hM1.out.drewN k2).step (hO1.drewN k2) hb3 hf3)
            clear hb3 hf3
            have hij : i < lc i := by unfold lc; omega
            go_roundw
            · exact ⟨lc i, swp l' i (lc i), rfl, by omega, HN, ho3, hM3⟩
            · simp [intOf]; omega
        · have HJ : Hid (Lss l' n i (rc i)) := hid (Lss.two (by unfold rc at h2; omega) hb)
          have HLf := hid (pless_any _ A N c l' wr (own_rd hO) (by omega : rc i < N) (by omega : lc i < N))
          rw [hb] at HLf
          clear hb
          go_upto_region 8 with (go_at_call 82; refine HLf.out.mono ?_; rintro e w1 ⟨rfl, k1, rfl⟩)
          have hO1 := hO.drewN k1
          have hM1 := hid (hM.out.drewN k1)
          clear HLf hm hm0 hms hM hO hQ
          generalize wr.drewN k1 = V at *
          have hQ1 := hM1.out.2.2
          have q1 := method_val (k := 238) iLess hQ1.c1
          have q2 := fun k => method_val (k := 238) (w := V.drewN k) iSwap hQ1.c1
          have hjn := HJ.out.2.2.1
          have HL1 := hid (pless_any _ A N c l' V (own_rd hO1) (by omega : rc i < N) (by omega : i < N))
          cases hb : bl (nth l' (rc i)) (nth l' i)
          · have HR := hid (hP.out.1.done HJ.out (by rw [hb]; decide))
            rw [hb] at HL1
            clear hb
            go_wp2_with (go_at_call 82; refine HL1.out.mono ?_; rintro e w2 ⟨rfl, k2, rfl⟩)
            go_ret
            exact ⟨⟨_, rfl⟩, l', hP.out.2.1, HR.out, hP.out.2.2, hO1.drewN k2, hM1.out.drewN k2⟩
          · have HN := hid (hP.out.step HJ.out hb (by omega))
            rw [hb] at HL1
            clear hb hP
            have HS := hid (fun k => pswap_any K A N c l' (V.drewN k) (hO1.drewN k) (by omega : i < N) (by omega : rc i < N))
            go_wp2_with (first | (go_at_call 82; refine HL1.out.mono ?_; rintro e w2 ⟨rfl, k2, rfl⟩; have q3 := q2 k2) | (go_at_call 83; refine (HS.out _).mono ?_; rintro e w3 ⟨rfl, ho3, hb3, hf3⟩))
            have hM3 := hid ((hM1.out.drewN k2).step (hO1.drewN k2) hb3 hf3)
            clear hb3 hf3
            have hij : i < rc i := by unfold rc; omega
            go_roundw
            · exact ⟨rc i, swp l' i (rc i), rfl, by omega, HN, ho3, hM3⟩
            · simp [intOf]; omega
      · have h2' : ¬ (rc i : Int) < (n : Int) := by omega
        have HJ : Hid (Lss l' n i (lc i)) := hid (Lss.one (by unfold lc at h1; omega) (fun e => by have := e.1; unfold rc at h2; omega))
        have hO1 := hO
        have hM1 := hM
        clear hm hm0 hms hM hO hQ
        generalize wr = V at *
        have hQ1 := hM1.out.2.2
        have q1 := method_val (k := 238) iLess hQ1.c1
        have q2 := fun k => method_val (k := 238) (w := V.drewN k) iSwap hQ1.c1
        have hjn := HJ.out.2.2.1
        have HL1 := hid (pless_any _ A N c l' V (own_rd hO1) (by omega : lc i < N) (by omega : i < N))
        cases hb : bl (nth l' (lc i)) (nth l' i)
        · have HR := hid (hP.out.1.done HJ.out (by rw [hb]; decide))
          rw [hb] at HL1
          clear hb
          go_wp2_with (go_at_call 82; refine HL1.out.mono ?_; rintro e w2 ⟨rfl, k2, rfl⟩)
          go_ret
          exact ⟨⟨_, rfl⟩, l', hP.out.2.1, HR.out, hP.out.2.2, hO1.drewN k2, hM1.out.drewN k2⟩
        · have HN := hid (hP.out.step HJ.out hb (by omega))
          rw [hb] at HL1
          clear hb hP
          have HS := hid (fun k => pswap_any K A N c l' (V.drewN k) (hO1.drewN k) (by omega : i < N) (by omega : lc i < N))
          go_wp2_with (first | (go_at_call 82; refine HL1.out.mono ?_; rintro e w2 ⟨rfl, k2, rfl⟩; have q3 := q2 k2) | (go_at_call 83; refine (HS.out _).mono ?_; rintro e w3 ⟨rfl, ho3, hb3, hf3⟩))
          have hM3 := hid ((hM1.out.drewN k2).step (hO1.drewN k2) hb3 hf3)
          clear hb3 hf3
          have hij : i < lc i := by unfold lc; omega
          go_roundw
          · exact ⟨lc i, swp l' i (lc i), rfl, by omega, HN, ho3, hM3⟩
          · simp [intOf]; omega
end Go.Proofs.YtbcjbembhajgcaaDoor.Wnt
