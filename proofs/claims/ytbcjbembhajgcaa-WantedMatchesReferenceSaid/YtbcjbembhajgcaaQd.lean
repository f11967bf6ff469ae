/-
  wanted: the heap's list: its methods through the interface.
-/
import Derived.Test.YtbcjbembhajgcaaQa
import Derived.Test.YtbcjbembhajgcaaOa
import Derived.Handy
import Derived.MapKept
namespace Go.Proofs.Ytbcjbembhajgcaa.Wnt
open Go.RowKit Go.Proofs Go.Proofs.Ytbcjbembhajgcaa.Byt
open Go.Proofs.Ytbcjbembhajgcaa.Tab (bl bl_iff putN tl_inj)

/-- The list of names that are waiting, as an interface: by its address in the worklist. -/
def px (T : Nat) : Value := .iface 49 (.pointer (some ⟨T, 1, none⟩))
theorem load_p {w : World} {T : Nat} {v : Value} (h : w.cell? ⟨T, 1, none⟩ = some v) : (loadVar 27 ⟨T, 1, none⟩).run Try.prog w = .ok v w := by
  simp [loadVar, Try.isAgg27, h, go_sem]
theorem wrap_ok (ts : Array TypeId) (t : TypeId) (a : Addr) (x y : ByteArray) : Builtin.ssaWrapNilChk_ ts t #[.pointer (some a), .string x, .string y] = pure (.pointer (some a)) := rfl
theorem method_val {w : World} {T : Nat} {v : Value} {name : String} {f k : Nat} (hm : (Try.prog.info? 49).map (fun i => (i.methods.find? (·.name == name)).map fun m => (m.path, m.func)) = some (some (#[], some (f, false))))
    (h : w.cell? ⟨T, 1, none⟩ = some v) : (Go.method (k + 1) 49 (.pointer (some ⟨T, 1, none⟩)) name).run Try.prog w = .ok (f, v) w := by
  rcases hi : Try.prog.info? 49 with _ | i
  · rw [hi] at hm; cases hm
  rw [hi] at hm
  simp only [Option.map_some, Option.some.injEq] at hm
  rcases hf : i.methods.find? (·.name == name) with _ | m
  · rw [hf] at hm; cases hm
  rw [hf] at hm
  simp only [Option.map_some, Option.some.injEq, Prod.mk.injEq] at hm
  obtain ⟨h1, h2⟩ := hm
  simp [Go.method, typeInfo, hi, hf, h1, h2, follow, receiverAt, run_underlying Try.underlying49, Place.get, strVal, wrap_ok, asAddr, load_p h, Result.andThen]
theorem method_ptr {w : World} {T : Nat} {name : String} {f k : Nat} (hm : (Try.prog.info? 49).map (fun i => (i.methods.find? (·.name == name)).map fun m => (m.path, m.func)) = some (some (#[], some (f, true)))) :
    (Go.method (k + 1) 49 (.pointer (some ⟨T, 1, none⟩)) name).run Try.prog w = .ok (f, .pointer (some ⟨T, 1, none⟩)) w := by
  rcases hi : Try.prog.info? 49 with _ | i
  · rw [hi] at hm; cases hm
  rw [hi] at hm
  simp only [Option.map_some, Option.some.injEq] at hm
  rcases hf : i.methods.find? (·.name == name) with _ | m
  · rw [hf] at hm; cases hm
  rw [hf] at hm
  simp only [Option.map_some, Option.some.injEq, Prod.mk.injEq] at hm
  obtain ⟨h1, h2⟩ := hm
  simp [Go.method, typeInfo, hi, hf, h1, h2, follow, receiverAt, run_underlying Try.underlying49, Place.get, Result.andThen]
theorem iLen : (Try.prog.info? 49).map (fun i => (i.methods.find? (·.name == "Len")).map fun m => (m.path, m.func)) = some (some (#[], some (18, false))) := by kernel_rfl
theorem iLess : (Try.prog.info? 49).map (fun i => (i.methods.find? (·.name == "Less")).map fun m => (m.path, m.func)) = some (some (#[], some (38, false))) := by kernel_rfl
theorem iSwap : (Try.prog.info? 49).map (fun i => (i.methods.find? (·.name == "Swap")).map fun m => (m.path, m.func)) = some (some (#[], some (39, false))) := by kernel_rfl
theorem iLeast : (Try.prog.info? 49).map (fun i => (i.methods.find? (·.name == "arlink/wanted.least")).map fun m => (m.path, m.func)) = some (some (#[], some (40, false))) := by kernel_rfl
theorem iPop : (Try.prog.info? 49).map (fun i => (i.methods.find? (·.name == "Pop")).map fun m => (m.path, m.func)) = some (some (#[], some (41, true))) := by kernel_rfl
theorem iPush : (Try.prog.info? 49).map (fun i => (i.methods.find? (·.name == "Push")).map fun m => (m.path, m.func)) = some (some (#[], some (42, true))) := by kernel_rfl


/-- A worklist in memory: its map, its names that are waiting. -/
def Qr (w : World) (T : Nat) (m v : Value) : Prop := w.heap[T]? = some (.cells #[m, v] 29 (0, 0))
theorem Qr.lt {w : World} {T : Nat} {m v : Value} (h : Qr w T m v) : T < w.heap.size := (Array.getElem?_eq_some_iff.1 h).1
theorem Qr.c0 {w : World} {T : Nat} {m v : Value} (h : Qr w T m v) : w.cell? ⟨T, 0, none⟩ = some m := cell_of_row w T 0 _ _ _ h
theorem Qr.c1 {w : World} {T : Nat} {m v : Value} (h : Qr w T m v) : w.cell? ⟨T, 1, none⟩ = some v := cell_of_row w T 1 _ _ _ h
theorem Qr.fz {w : World} {T : Nat} {m v : Value} (h : Qr w T m v) (o : Nat) : w.frozen? ⟨T, o, none⟩ = false := frozen_of_row w T o _ _ h
theorem Qr.keep {w w' : World} {T : Nat} {m v : Value} (h : Qr w T m v) (e : w'.heap[T]? = w.heap[T]?) : Qr w' T m v := e.trans h
theorem Qr.ne {w : World} {T K n : Nat} {m v u : Value} {l : List ByteArray} (h : Qr w T m v) (ho : Sls.Own w K u n l) : Sls.blk u ≠ some T := fun e => by
  rcases ho.2 with ⟨rfl, _⟩ | ⟨g, cap, cur, mm, rfl, _, hh, _⟩
  · cases e
  · injection e with e
    subst e
    unfold Qr at h
    rw [h] at hh
    injection hh with hh
    injection hh with _ e2
    exact absurd e2 (by decide)
/-- What may have changed: the worklist's row, the block of its names. -/
def Fq (T : Nat) (v : Value) (w : World) (v' : Value) (w' : World) : Prop :=
  (∀ g, g < w.heap.size → g ≠ T → Sls.blk v ≠ some g → w'.heap[g]? = w.heap[g]?) ∧ (∀ g, Sls.blk v' = some g → Sls.blk v = some g ∨ w.heap.size ≤ g) ∧ w.heap.size ≤ w'.heap.size
theorem Fq.refl (T : Nat) (v : Value) (w : World) : Fq T v w v w := ⟨fun _ _ _ _ => rfl, fun _ h => .inl h, Nat.le_refl _⟩
theorem Fq.trans {T : Nat} {v v' v'' : Value} {w w' w'' : World} (h : Fq T v w v' w') (k : Fq T v' w' v'' w'') : Fq T v w v'' w'' :=
  ⟨fun g a b c => (k.1 g (Nat.lt_of_lt_of_le a h.2.2) b (fun e => by
      rcases h.2.1 g e with q | q
      · exact c q
      · omega)).trans (h.1 g a b c), fun g e => by
    rcases k.2.1 g e with q | q
    · exact h.2.1 g q
    · exact .inr (Nat.le_trans h.2.2 q), Nat.le_trans h.2.2 k.2.2⟩
theorem Fq.of_fr {T K : Nat} {v v' : Value} {w w' : World} (h : Sls.Fr v w v' w') (hb : Below K w w') : Fq T v w v' w' := ⟨fun g a _ c => h.1 g a c, h.2, hb.size⟩
theorem Fr_trans {v v' v'' : Value} {w w' w'' : World} (h : Sls.Fr v w v' w') (k : Sls.Fr v' w' v'' w'') (hs : w.heap.size ≤ w'.heap.size) : Sls.Fr v w v'' w'' :=
  ⟨fun g a c => (k.1 g (Nat.lt_of_lt_of_le a hs) (fun e => by
      rcases h.2 g e with q | q
      · exact c q
      · omega)).trans (h.1 g a c), fun g e => by
    rcases k.2 g e with q | q
    · exact h.2 g q
    · exact .inr (Nat.le_trans hs q)⟩
theorem Qr.fr {w w' : World} {T K n : Nat} {m v v' : Value} {l : List ByteArray} (h : Qr w T m v) (ho : Sls.Own w K v n l) (f : Sls.Fr v w v' w') : Qr w' T m v :=
  h.keep (f.1 T h.lt (h.ne ho))

theorem plen_any (w : World) (A : Option Addr) (n c : Nat) : Calls Try.prog 18 #[.slice A n c] w fun e w' => e = .returned (.int .i64 (n : Int)) ∧ w' = w := by
  go_enter Try.func18, Try.ntmps18
  go_wp2_with fail
  go_ret
  exact ⟨rfl, rfl⟩
theorem pless_any (K : Nat) (A : Option Addr) (n c : Nat) (l : List ByteArray) (w : World) (h : Sls.Rd w K A n l) {i j : Nat} (hi : i < n) (hj : j < n) : Calls Try.prog 38 #[.slice A n c, .int .i64 (i : Int), .int .i64 (j : Int)] w fun e w' => e = .returned (.bool (bl (nth l i) (nth l j))) ∧ ∃ k, w' = w.drewN k := by
  have hl := h.1
  have hil : i < l.length := by omega
  have hjl : j < l.length := by omega
  obtain ⟨b, o, rfl, hbK, ci⟩ := h.2 i hil
  obtain ⟨b', o', e, _, cj⟩ := h.2 j hjl
  injection e with e
  injection e with e1 e2
  subst e1 e2
  have hii : (i : Int) < (n : Int) := by omega
  have hjj : (j : Int) < (n : Int) := by omega
  have HE : Hid (bl (nth l i) (nth l j) = Op.bytesLess l[i].toList l[j].toList) := hid (by rw [nth_eq hil, nth_eq hjl]; rfl)
  generalize l[i] = x at *
  generalize l[j] = y at *
  go_enter Try.func38, Try.ntmps38
  go_wp2_with fail
  go_quiet (fail)
  go_wp2_with fail
  go_ret
  exact ⟨ret_bool HE.out.symm, _, rfl⟩
theorem pleast_any (K : Nat) (A : Option Addr) (n c : Nat) (l : List ByteArray) (w : World) (h : Sls.Rd w K A n l) (hn : 0 < n) : Calls Try.prog 40 #[.slice A n c] w fun e w' => e = .returned (.string (nth l 0)) ∧ w' = w := by
  have hl := h.1
  have hil : 0 < l.length := by omega
  obtain ⟨b, o, rfl, hbK, ci⟩ := h.2 0 hil
  rw [Nat.add_zero] at ci
  have hii : (0 : Int) < (n : Int) := by omega
  have HE : Hid (nth l 0 = l[0]) := hid (nth_eq hil)
  generalize l[0] = x at *
  go_enter Try.func40, Try.ntmps40
  go_wp2_with fail
  go_ret
  exact ⟨ret_str HE.out.symm, rfl⟩
theorem pswap_any (K : Nat) (A : Option Addr) (n c : Nat) (l : List ByteArray) (w : World) (h : Sls.Own w K (.slice A n c) n l) {i j : Nat} (hi : i < n) (hj : j < n) : Calls Try.prog 39 #[.slice A n c, .int .i64 (i : Int), .int .i64 (j : Int)] w fun e w' => e = .returned (.tuple #[]) ∧ Sls.Own w' K (.slice A n c) n (swp l i j) ∧ Below K w w' ∧ Sls.Fr (.slice A n c) w (.slice A n c) w' := by
  have hl := h.1
  have hil : i < l.length := by omega
  have hjl : j < l.length := by omega
  obtain ⟨g, cap, hv, hgK, ci, fi, S1⟩ := h.at_ hil
  injection hv with e1 _ e3
  subst e1 e3
  obtain ⟨g', cap', hv', _, cj, fj, _⟩ := h.at_ hjl
  injection hv' with e1 _ e3
  injection e1 with e1
  injection e1 with e1
  subst e1 e3
  have hii : (i : Int) < (n : Int) := by omega
  have hjj : (j : Int) < (n : Int) := by omega
  have O1 := S1 l[j]
  obtain ⟨g2, cap2, hv2, _, _, fj2, S2⟩ := O1.at_ (i := j) (by rw [List.length_set]; exact hjl)
  injection hv2 with e1 _ e3
  injection e1 with e1
  injection e1 with e1
  subst e1 e3
  have O2 := hid (S2 l[i])
  have hsw : swp l i j = (l.set i l[j]).set j l[i] := by unfold swp; rw [nth_eq hil, nth_eq hjl]
  rw [hsw]
  clear hsw
  have HB := hid (fun (x y : Value) => ((((Below.refl K w).setCell (p := ⟨g, i, none⟩) hgK x).setCell (p := ⟨g, j, none⟩) hgK y).drew))
  have HF := hid (fun (x y : Value) (q : Nat) (hq : q ≠ g) => (Below.heap_setCell (w.setCell ⟨g, i, none⟩ x) ⟨g, j, none⟩ y q hq).trans (Below.heap_setCell w ⟨g, i, none⟩ x q hq))
  clear S1 S2 O1 h fj2
  generalize l[i] = x at *
  generalize l[j] = y at *
  go_enter Try.func39, Try.ntmps39
  go_wp2_with fail
  go_region
  refine bodyPost_end (results_none rfl _ _ _) rfl ?_
  exact ⟨rfl, O2.out.drewN 1, HB.out _ _, fun q _ hb => HF.out _ _ q fun e => hb (by rw [e]; rfl), fun q e => .inl e⟩
theorem ppop_any (K T : Nat) (m : Value) (A : Option Addr) (n c : Nat) (l : List ByteArray) (w : World) (hq : Qr w T m (.slice A n c)) (h : Sls.Own w K (.slice A n c) n l) (hT : K ≤ T) (hn : 0 < n) :
    Calls Try.prog 41 #[.pointer (some ⟨T, 1, none⟩)] w fun e w' => e = .returned (.iface 9 (.string (nth l (n - 1)))) ∧ Qr w' T m (.slice A (n - 1) c) ∧ Sls.Own w' K (.slice A (n - 1) c) (n - 1) (l.take (n - 1)) ∧ Below K w w' ∧ Fq T (.slice A n c) w (.slice A (n - 1) c) w' := by
  have hl := h.1
  have hil : n - 1 < l.length := by omega
  have hcm : c ≤ maxLen := by
    obtain ⟨A', c', e, _, _, hc⟩ := h.reads
    injection e with _ _ e
    subst e
    exact hc
  have hnc : n ≤ c := by
    obtain ⟨A', c', e, _, hc, _⟩ := h.reads
    injection e with _ _ e
    subst e
    exact hc
  obtain ⟨g, cap, hv, hgK, ci, _, _⟩ := h.at_ hil
  injection hv with e1 _ e3
  subst e1 e3
  have c1 := hq.c1
  have f1 := hq.fz
  have hW : Hid (Sls.Own (w.setCell ⟨T, 1, none⟩ (.slice (some ⟨g, 0, none⟩) (n - 1) c)) K (.slice (some ⟨g, 0, none⟩) (n - 1) c) (n - 1) (l.take (n - 1))) := hid (by
    refine ⟨by rw [List.length_take]; omega, ?_⟩
    rcases h.2 with ⟨e, _⟩ | ⟨g', cap', cur, mm, hv', hg', hh, _, hm, hs, ht, hf⟩
    · cases e
    · injection hv' with e1 _ e3
      injection e1 with e1
      injection e1 with e1
      subst e1 e3
      refine .inr ⟨g, c, cur, mm, rfl, hg', (Below.heap_setCell w ⟨T, 1, none⟩ _ g ?_).trans hh, by omega, hm, hs, ?_, hf⟩
      · show g ≠ T
        rintro rfl
        exact hq.ne h rfl
      · have e2 := congrArg (List.take (n - 1)) ht
        rw [List.take_take, Nat.min_eq_left (by omega)] at e2
        rw [e2]
        unfold Sls.enc
        rw [List.map_take])
  have hR : Hid (Qr (w.setCell ⟨T, 1, none⟩ (.slice (some ⟨g, 0, none⟩) (n - 1) c)) T m (.slice (some ⟨g, 0, none⟩) (n - 1) c)) := hid (heap_setCell_same w T 1 _ _ _ hq)
  have hB : Hid (Below K w (w.setCell ⟨T, 1, none⟩ (.slice (some ⟨g, 0, none⟩) (n - 1) c))) := hid ((Below.refl K w).setCell (p := ⟨T, 1, none⟩) hT _)
  have hF : Hid (Fq T (.slice (some ⟨g, 0, none⟩) n c) w (.slice (some ⟨g, 0, none⟩) (n - 1) c) (w.setCell ⟨T, 1, none⟩ (.slice (some ⟨g, 0, none⟩) (n - 1) c))) := hid ⟨fun q _ hne _ => Below.heap_setCell w ⟨T, 1, none⟩ _ q hne, fun q e => .inl e, hB.out.size⟩
  have e0 : (n : Int) - 1 = ((n - 1 : Nat) : Int) := by omega
  have hii : ((n - 1 : Nat) : Int) < (n : Int) := by omega
  have hnn : ((n : Nat) : Int) < 9223372036854775808 := by unfold maxLen at hcm; omega
  have HE := hid (nth_eq hil)
  generalize l[n - 1] = x at *
  go_enter Try.func41, Try.ntmps41
  go_wp2_with fail
  go_ret
  refine ⟨?_, hR.out, hW.out, hB.out, hF.out⟩
  rw [HE.out]
  rfl

theorem kP : Cel.Kind 27 9 1 16 (.string ⟨#[]⟩) := ⟨by kernel_rfl, by kernel_rfl, by kernel_rfl, by decide⟩
theorem own_cel {w : World} {K n : Nat} {v : Value} {l : List ByteArray} : Sls.Own w K v n l ↔ Cel.Own 9 1 w K v n (Sls.enc l) := by
  unfold Sls.Own Cel.Own
  simp only [Nat.mul_one, Sls.enc_length]
theorem assert_str (x : ByteArray) (w : World) : (Instr.typeAssert (.iface 9 (.string x)) 20 9 false).run Try.prog w = .ok (.string x) w := by kernel_rfl
set_option linter.unusedSimpArgs false in
theorem ppush_any (K T : Nat) (m v : Value) (n : Nat) (l : List ByteArray) (s : ByteArray) (w : World) (hq : Qr w T m v) (h : Sls.Own w K v n l) (hT : K ≤ T) (hn : n < 1000000) :
    Calls Try.prog 42 #[.pointer (some ⟨T, 1, none⟩), .iface 9 (.string s)] w fun e w' => e = .returned (.tuple #[]) ∧ ∃ v', Qr w' T m v' ∧ Sls.Own w' K v' (n + 1) (l ++ [s]) ∧ Below K w w' ∧ Fq T v w v' w' := by
  have hK : K ≤ w.heap.size := Nat.le_trans hT (Nat.le_of_lt hq.lt)
  have ha := assert_str s
  go_enter Try.func42, Try.ntmps42
  go_wp2_with fail
  refine Ord.Till.begin (fun W => W.cell? ⟨T, 1, none⟩ = some v) 9 (by kernel_rfl) ?_
  have hS0 : (fun W : World => W.cell? ⟨T, 1, none⟩ = some v) w.drew := hq.c1
  refine Ord.Till.take' 0 (some 4) (oi := _) (x := ?_) rfl rfl (by kernel_rfl) (by kernel_rfl) (by kernel_rfl) (by kernel_rfl) (fun _ _ _ h => h) (by kernel_rfl) ?_ hS0 ?_
  rotate_left 1
  · intro W hv; have z0 : W.cell? ⟨T, 1, none⟩ = some v := hv; go_simp; first | done | with_reducible rfl
  try simp only [Act.put, List.setIfInBounds_toArray, List.set_cons_zero, List.set_cons_succ]
  refine Ord.Till.take' 1 (some 5) (oi := _) (x := ?_) rfl rfl (by kernel_rfl) (by kernel_rfl) (by kernel_rfl) (by kernel_rfl) (fun _ _ _ h => h) (by kernel_rfl) ?_ hS0 ?_
  rotate_left 1
  · intro W hv; have z0 : W.cell? ⟨T, 1, none⟩ = some v := hv; go_simp; first | done | with_reducible rfl
  try simp only [Act.put, List.setIfInBounds_toArray, List.set_cons_zero, List.set_cons_succ]
  refine Ord.Till.take' 2 (some 6) (oi := _) (x := ?_) rfl rfl (by kernel_rfl) (by kernel_rfl) (by kernel_rfl) (by kernel_rfl) (fun _ _ _ h => h) (by kernel_rfl) ?_ hS0 ?_
  rotate_left 1
  · intro W hv; have z0 : W.cell? ⟨T, 1, none⟩ = some v := hv; go_simp; first | done | with_reducible rfl
  try simp only [Act.put, List.setIfInBounds_toArray, List.set_cons_zero, List.set_cons_succ]
  refine Ord.Till.take' 3 (some 7) (oi := _) (x := ?_) rfl rfl (by kernel_rfl) (by kernel_rfl) (by kernel_rfl) (by kernel_rfl) (fun _ _ _ h => h) (by kernel_rfl) ?_ hS0 ?_
  rotate_left 1
  · intro W hv; have z0 : W.cell? ⟨T, 1, none⟩ = some v := hv; go_simp; first | done | with_reducible rfl
  try simp only [Act.put, List.setIfInBounds_toArray, List.set_cons_zero, List.set_cons_succ]
  refine Ord.Till.take' 4 (some 8) (oi := _) (x := ?_) rfl rfl (by kernel_rfl) (by kernel_rfl) (by kernel_rfl) (by kernel_rfl) (fun _ _ _ h => h) (by kernel_rfl) ?_ hS0 ?_
  rotate_left 1
  · intro W hv; have z0 : W.cell? ⟨T, 1, none⟩ = some v := hv; go_simp; first | done | with_reducible rfl
  try simp only [Act.put, List.setIfInBounds_toArray, List.set_cons_zero, List.set_cons_succ]
  refine Ord.Till.take' 5 (some 9) (oi := _) (x := ?_) rfl rfl (by kernel_rfl) (by kernel_rfl) (by kernel_rfl) (by kernel_rfl) (fun _ _ _ h => h) (by kernel_rfl) ?_ hS0 ?_
  rotate_left 1
  · intro W hv; have z0 : W.cell? ⟨T, 1, none⟩ = some v := hv; go_simp; first | done | with_reducible rfl
  try simp only [Act.put, List.setIfInBounds_toArray, List.set_cons_zero, List.set_cons_succ]
  refine Ord.Till.step 6 (by kernel_rfl) rfl (fun C hC => ?_)
  go_simp
  have hw1 : w.heap.size < (w.alloc (.cells #[.string s] 9)).heap.size := by simp
  have hS1 : (fun W : World => W.cell? ⟨T, 1, none⟩ = some v) (w.alloc (.cells #[.string s] 9)).drew := cell_of_row _ T 1 _ _ _ ((Below.heap_alloc w _ T hq.lt).trans hq)
  have hc1 : (w.alloc (.cells #[.string s] 9)).drew.cell? ⟨w.heap.size, 0, none⟩ = some (.string s) := cell_of_row (w.alloc (.cells #[.string s] 9)) w.heap.size 0 _ _ _ (heap_alloc_new w _)
  have hB1 : Below K w (w.alloc (.cells #[.string s] 9)).drew := ((Below.refl K w).alloc hK _).drew
  have ho1 : Cel.Own 9 1 (w.alloc (.cells #[.string s] 9)).drew K v n (Sls.enc l) := own_cel.1 (h.alloc _)
  have hQ1 : Qr (w.alloc (.cells #[.string s] 9)).drew T m v := hq.keep (Below.heap_alloc w _ T hq.lt)
  have hF1 : Sls.Fr v w v (w.alloc (.cells #[.string s] 9)).drew := ⟨fun q a _ => Below.heap_alloc w _ q a, fun _ e => .inl e⟩
  have hz1 : w.heap.size < (w.alloc (.cells #[.string s] 9)).drew.heap.size := hw1
  refine hC.out _ _ (fun _ => hS1) ?_
  clear hC C hS0
  generalize (w.alloc (.cells #[.string s] 9)).drew = w1 at *
  try simp only [List.getElem_toArray, List.getElem_cons_zero, List.getElem_cons_succ, Act.put, List.setIfInBounds_toArray, List.set_cons_zero, List.set_cons_succ]
  refine Ord.Till.step 7 (by kernel_rfl) rfl (fun C hC => ?_)
  refine Cel.step_app kP w1 K v n (Sls.enc l) ho1 (by omega) ⟨w.heap.size, 0, none⟩ 1 1 [.string s] rfl (fun u hu => by rw [List.mem_singleton] at hu; subst hu; rfl) (fun j u hj => ?_) (by omega) (by omega) (by rfl) _ _ (by rfl) (by rfl) (by rfl) ?_
  · rcases j with _ | j
    · rw [List.getElem?_cons_zero] at hj
      rw [← hj]
      exact hc1
    · rw [List.getElem?_cons_succ, List.getElem?_nil] at hj
      cases hj
  intro v2 w2 ho2 hb2 _ hf2
  have ho2 : Sls.Own w2 K v2 (n + 1) (l ++ [s]) := own_cel.2 (by rw [Sls.enc_append]; exact ho2)
  obtain ⟨A2, k2, rfl, _⟩ := ho2.reads
  have hQ2 : Qr w2 T m v := hQ1.keep (hf2.1 T hQ1.lt (hq.ne h))
  have hB2 := hB1.trans hb2
  have hF2 : Sls.Fr v w (.slice A2 (n + 1) k2) w2 := Fr_trans hF1 hf2 (by omega)
  have hS2 : (fun W : World => W.cell? ⟨T, 1, none⟩ = some v) w2 := hQ2.c1
  have z2 := hQ2.c1
  have f2 := hQ2.fz
  refine hC.out _ _ (fun _ => hS2) ?_
  clear hC C
  try simp only [List.getElem_toArray, List.getElem_cons_zero, List.getElem_cons_succ, Act.put, List.setIfInBounds_toArray, List.set_cons_zero, List.set_cons_succ]
  refine Ord.Till.step 8 (by kernel_rfl) rfl (fun C hC => ?_)
  go_simp
  refine hC.out _ _ (fun _ => hS2) ?_
  clear hC C
  try simp only [List.getElem_toArray, List.getElem_cons_zero, List.getElem_cons_succ, Act.put, List.setIfInBounds_toArray, List.set_cons_zero, List.set_cons_succ]
  refine Ord.Till.step 9 (by kernel_rfl) rfl (fun C hC => ?_)
  go_simp
  refine hC.out _ _ (fun hz => absurd rfl hz) ?_
  clear hC C
  refine Ord.Till.done (by kernel_rfl) ?_ _
  refine bodyPost_end (results_none rfl _ _ _) rfl ?_
  have hne : Sls.blk (.slice A2 (n + 1) k2) ≠ some T := hQ2.ne ho2
  refine ⟨rfl, _, heap_setCell_same w2 T 1 _ _ _ hQ2, own_cel.2 ((own_cel.1 ho2).setc hQ2 (by decide) 1 _), hB2.setCell (p := ⟨T, 1, none⟩) hT _, ?_⟩
  exact ⟨fun q a b c => (Below.heap_setCell w2 ⟨T, 1, none⟩ _ q b).trans (hF2.1 q a c), hF2.2, (hB2.setCell (p := ⟨T, 1, none⟩) hT (.slice A2 (n + 1) k2)).size⟩
end Go.Proofs.Ytbcjbembhajgcaa.Wnt
