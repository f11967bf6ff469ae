/-
  objsym's reference: Encode.
-/
import Derived.Test.YtpedngfmjhpojaaGreatDoorZOj
import Derived.Deep.DeepMust
namespace Go.Proofs.YtpedngfmjhpojaaGreatDoor.Byt
open Go.RowKit Go.Proofs
open Go.Proofs.YtpedngfmjhpojaaGreatDoor.Sls (Oth Oth.refl Oth.new Oth.put Oth.alloc Oth.trans)

/-- append onto a slice of the call's own, of bytes that are read. -/
theorem run_appr (w : World) (K : Nat) (ty : TypeId) (v : Value) (n : Nat) (l : List UInt8) (hown : Own w K v n l) (hK : K ≤ w.heap.size) (A : Option Addr) (k c B : Nat) (src : List UInt8) (hr : Rd w B A k src) (hsz : n + k ≤ 140737488355328) :
    ∃ v' w', (Builtin.append_ #[23, 23] ty #[v, .slice A k c]).run Tryz.prog w = .ok v' w' ∧ Own w' K v' (n + k) (l ++ src) ∧ Below K w w' ∧ Oth 5 w w' := by
  rcases A with _ | ad
  · have hk : k = 0 := by
      rcases Nat.eq_zero_or_pos k with h0 | h0
      · exact h0
      · obtain ⟨b, o', e, _⟩ := hr.2 0 (by have := hr.1; omega)
        cases e
    subst hk
    have hn : src = [] := List.eq_nil_of_length_eq_zero hr.1
    subst hn
    obtain ⟨i, hi, hz0, hz1, hz2⟩ := info_parts infoB
    have ht := Tryz.underlying23
    refine ⟨v, w, ?_, by simpa using hown, Below.refl _ _, Oth.refl _ _⟩
    rcases hown.2 with ⟨rfl, rfl⟩ | ⟨g, cap, cur, m, rfl, _, _, hnc, _⟩
    · simp [Builtin.append_, run_underlying ht, sizeOf, typeInfo, hi, Builtin.lenOf, Builtin.firstCells]
    · simp [Builtin.append_, run_underlying ht, sizeOf, typeInfo, hi, Builtin.lenOf, Builtin.firstCells, hnc, storeCells]
  · refine run_app2 w K ty v n l hown hK ad k c src hr.1 (fun j u hj => ?_) hsz
    unfold enc at hj
    rw [List.getElem?_map] at hj
    rcases hx : src[j]? with _ | y
    · rw [hx] at hj; cases hj
    · rw [hx] at hj
      obtain ⟨hlt, rfl⟩ := List.getElem?_eq_some_iff.1 hx
      obtain ⟨b, o', e, _, hc⟩ := hr.2 j hlt
      injection e with e
      subst e
      have ha : (⟨b, o', none⟩ : Addr).add j = ⟨b, o' + j, none⟩ := by unfold Addr.add; split <;> simp_all
      rw [ha, hc]
      exact hj
/-- .. at a step of a region that draws its order. -/
theorem step_app2 {ops : Array Oper} {o : Oper} {a : Act} {C : Act → World → Prop} {Q : Exit → Act → World → Prop} {E : Prop} (w : World) (K : Nat) (v : Value) (n : Nat) (l : List UInt8)
    (hown : Own w K v n l) (hK : K ≤ w.heap.size) (A : Option Addr) (k c B : Nat) (src : List UInt8) (hr : Rd w B A k src) (hsz : n + k ≤ 140737488355328)
    (hgd : o.guard = none) (s x : Operand) (ho : o.op = .call { callee := .builtin .append, args := #[s, x], argTypes := #[23, 23] }) (hs : a.eval s = v) (hx : a.eval x = .slice A k c)
    (h : ∀ v' w', Own w' K v' (n + k) (l ++ src) → Below K w w' → Oth 5 w w' → C (a.put o.dst v') w') :
    if Region.wanted o (yielded ops a.tmps) = true then Oper.wp Tryz.prog o a w C Q else E := by
  have hw : Region.wanted o (yielded ops a.tmps) = true := by simp [Region.wanted, hgd]
  rw [if_pos hw]
  obtain ⟨v', w', hrun, r1, r2, r3⟩ := run_appr w K o.type v n l hown hK A k c B src hr hsz
  unfold Oper.wp execOp
  simp only [ho, resolve, invoke, builtin, Sem.run_bind, Sem.run_pure, Result.andThen_ok, List.map_toArray, List.map_cons, List.map_nil, hs, hx, hrun]
  exact h v' w' r1 r2 r3
theorem step_apps2 {ops : Array Oper} {o : Oper} {a : Act} {C : Act → World → Prop} {Q : Exit → Act → World → Prop} {E : Prop} (w : World) (K : Nat) (v : Value) (n : Nat) (l : List UInt8)
    (hown : Own w K v n l) (hK : K ≤ w.heap.size) (src : ByteArray) (hsz : n + src.size ≤ 140737488355328)
    (hgd : o.guard = none) (s x : Operand) (ho : o.op = .call { callee := .builtin .append, args := #[s, x], argTypes := #[23, 9] }) (hs : a.eval s = v) (hx : a.eval x = .string src)
    (h : ∀ v' w', Own w' K v' (n + src.size) (l ++ src.data.toList) → Below K w w' → Oth 5 w w' → C (a.put o.dst v') w') :
    if Region.wanted o (yielded ops a.tmps) = true then Oper.wp Tryz.prog o a w C Q else E := by
  have hw : Region.wanted o (yielded ops a.tmps) = true := by simp [Region.wanted, hgd]
  rw [if_pos hw]
  obtain ⟨v', w', hrun, r1, r2, r3⟩ := run_apps2 w K o.type v n l hown hK src hsz
  unfold Oper.wp execOp
  simp only [ho, resolve, invoke, builtin, Sem.run_bind, Sem.run_pure, Result.andThen_ok, List.map_toArray, List.map_cons, List.map_nil, hs, hx, hrun]
  exact h v' w' r1 r2 r3
end Go.Proofs.YtpedngfmjhpojaaGreatDoor.Byt

namespace Go.Proofs.YtpedngfmjhpojaaGreatDoor.Obj
open Go.RowKit Go.Proofs Go.Proofs.YtpedngfmjhpojaaGreatDoor.Byt
open Go.Proofs.YtpedngfmjhpojaaGreatDoor.Sls (Oth)

set_option linter.unusedSimpArgs false in
set_option maxRecDepth 100000 in
set_option maxHeartbeats 6000000 in
theorem rencode_any (K : Nat) (A B : Option Addr) (n c m d : Nat) (xs : List Sy) (body : List UInt8) (w : World) (h : RdS w K A n xs) (hB : Byt.Rd w K B m body) (hK : K ≤ w.heap.size) (hm : m ≤ 100000000) (hnn : n ≤ 140737488355328) (hnc : n ≤ c) :
    Calls Tryz.prog 22 #[.agg #[.slice A n c, .slice B m d]] w (Encodes xs body w) := by
  have Hl := hid h.1
  have hb0 := (Below.refl w.heap.size w).alloc (Nat.le_refl _) (.cells #[.slice A n c, .slice B m d] 61)
  have hrow0 := heap_alloc_new w (.cells #[.slice A n c, .slice B m d] 61)
  have hsz0 : (w.alloc (.cells #[.slice A n c, .slice B m d] 61)).heap.size = w.heap.size + 1 := World.size_alloc _ _
  have Hv := hid (rvalid_any K A B n c m d xs (w.alloc (.cells #[.slice A n c, .slice B m d] 61)) (h.below (hb0.mono hK)) (by omega) hnn hnc)
  have h0 := h.below (hb0.mono hK)
  have hB0 := hB.below (hb0.mono hK)
  have c0 := cell_of_row _ w.heap.size 0 _ _ _ hrow0
  have c1 := cell_of_row _ w.heap.size 1 _ _ _ hrow0
  have kc := fun (w : World) (C : Array Value) (n c : Nat) => Lib.run_convert_bytes_const (P := Tryz.prog) w 23 5 C n c Tryz.underlying23 Tryz.underlying5
  go_enter Tryz.func22, Tryz.ntmps22
  go_wp2_with fail
  refine Hv.out.mono ?_
  rintro e w1 ⟨rfl, hb1⟩
  generalize w.alloc (.cells #[.slice A n c, .slice B m d] 61) = w0 at *
  have hrow1 := (hb1.block w.heap.size (by omega)).trans hrow0
  have d0 := cell_of_row _ w.heap.size 0 _ _ _ hrow1
  have d1 := cell_of_row _ w.heap.size 1 _ _ _ hrow1
  have hsz1 := hb1.size
  rw [hsz0] at hb1 hsz1
  have h1 := h0.below (hb1.mono (by omega))
  have hB1 := hB0.below (hb1.mono (by omega))
  clear c0 c1 Hv h h0 hB hB0 hrow0
  cases hv : validO xs
  · have Hv := hid hv
    go_wp2_with fail
    exact bodyPost_ret (v := .tuple #[.slice none 0 0, .int .i64 12]) (by simp [results, Tryz.results22, go_sem]) rfl ⟨hb0.trans (hb1.mono (by omega)), .inr ⟨Hv.out, rfl⟩⟩
  · have Hv := hid hv
    have hg : goodL [] xs = true ∧ xs.length ≤ 65536 := by unfold validO at hv; rw [Bool.and_eq_true, decide_eq_true_eq] at hv; exact ⟨hv.2, hv.1⟩
    have Hg := hid (goodL_all hg.1)
    have hn : n ≤ 65536 := by have := Hl.out; have := hg.2; omega
    clear hv hg
    have d0' : w1.cell? ⟨w.heap.size, 0, none⟩ = some (.slice A n c) := d0
    have q0 := Lib.cell?_alloc_some (.cells #[.int .u8 79, .int .u8 66, .int .u8 74, .int .u8 49] 5 (4, 5)) d0'
    have hb2 := (Below.refl (w.heap.size + 1) w1).alloc hsz1 (.cells #[.int .u8 79, .int .u8 66, .int .u8 74, .int .u8 49] 5 (4, 5))
    have ho := Own.const w1 (w.heap.size + 1) 4 magic #[.int .u8 79, .int .u8 66, .int .u8 74, .int .u8 49] rfl rfl hsz1 (by omega)
    clear d0'
    go_wp2_with fail
    refine (rword_any _ n (by omega)).mono ?_
    rintro e w2 ⟨A2', rfl, ho2, hb3⟩
    obtain ⟨A2, c2', e2, hrd2, _⟩ := ho2.reads
    injection e2 with e21 _ e23
    subst e21 e23
    have hsz2 := hb3.size
    rw [World.size_alloc] at hsz2
    have hoM := ho.below hb3
    have hb12 := hb2.trans (hb3.mono (by simp; omega))
    have hrow2 := (hb12.block w.heap.size (by omega)).trans hrow1
    have h2 := h1.below (hb12.mono (by omega))
    have hB2 := hB1.below (hb12.mono (by omega))
    have hb02 := hb1.trans hb12
    clear q0 d0 d1 hb2 hb3 ho hrow1 h1 hB1 hb1 hb12 ho2
    go_wp2_with (at_builtin; go_must (refine wpList_app2 w2 (w.heap.size + 1) _ 4 magic hoM (by omega) A2' 4 4 _ (w4 n) hrd2 (by omega) rfl (.tmp 11) (.tmp 15) rfl rfl rfl ?_); intro v3 w3 ho3 hb3 ot3; obtain ⟨A3, c3, rfl, _⟩ := ho3.reads)
    have e0 := cell_of_row _ w.heap.size 0 _ _ _ hrow2
    have hrow3 := (hb3.block w.heap.size (by omega)).trans hrow2
    have h3 := h2.below (hb3.mono (by omega))
    have hB3 := hB2.below (hb3.mono (by omega))
    have hb03 := hb02.trans hb3
    clear e0 hrow2 h2 hB2 hb02 hoM hrd2 ot3 hb3
    go_loopw [4, 5] (fun v i W => ∃ (k : Nat) (A' : Option Addr) (c' : Nat), i = .int .i64 (k : Int) ∧ v = .slice A' (8 + (encL (xs.take k)).length) c' ∧ k ≤ n ∧ Byt.Own W (w.heap.size + 1) (.slice A' (8 + (encL (xs.take k)).length) c') (8 + (encL (xs.take k)).length) (magic ++ w4 n ++ encL (xs.take k)) ∧ Below (w.heap.size + 1) w3 W) (fun _ i _ => n - (intOf i).toNat)
    case atStart => exact ⟨0, A3, c3, rfl, rfl, by omega, by simpa [encL] using ho3, Below.refl _ _⟩
    case round =>
      obtain ⟨k, A', c', rfl, rfl, hk, hO, hb⟩ := hrel
      have hwr : w.heap.size + 1 ≤ wr.heap.size := by have := hb.size; have := hb03.size; omega
      have hrowr := (hb.block w.heap.size (by have := hb03.size; omega)).trans hrow3
      have e0 := cell_of_row _ w.heap.size 0 _ _ _ hrowr
      have e1 := cell_of_row _ w.heap.size 1 _ _ _ hrowr
      by_cases hlt : k < n
      · have hkl : k < xs.length := by have := Hl.out; omega
        have hki : (k : Int) < (n : Int) := by omega
        obtain ⟨⟨b, o, rfl, hbK, hcell⟩, hsz⟩ := h3.2 k hkl
        have hcl := hcell.below hb (by omega)
        have Htake : Hid (encL (xs.take (k + 1)) = encL (xs.take k) ++ encS xs[k]) := hid (by rw [List.take_add_one, List.getElem?_eq_getElem hkl, encL_append]; simp [encL])
        have hok := hid (Hg.out _ (List.getElem_mem hkl))
        have Hlen : Hid ((encL (xs.take k)).length ≤ 265 * k) := hid (Nat.le_trans (encL_len _ fun y hy => Hg.out y (List.mem_of_mem_take hy)) (by rw [List.length_take]; exact Nat.mul_le_mul_left _ (by omega)))
        have hb1 : b < wr.heap.size := by omega
        clear hcell e1
        generalize xs[k] = x at *
        have hrng := hok.out
        unfold symOk at hrng
        rw [Bool.and_eq_true] at hrng
        obtain ⟨s1, s2⟩ := nameOk_range hrng.1
        obtain ⟨r1, r2, r3, r4, r5, r6⟩ := bindOk_range hrng.2
        obtain ⟨x0, x1, x2, x3⟩ := x
        simp only at s1 s2 r1 r2 r3 r4 r5 r6
        obtain ⟨x1, rfl⟩ := Int.eq_ofNat_of_zero_le (show 0 ≤ x1 by omega)
        obtain ⟨x2, rfl⟩ := Int.eq_ofNat_of_zero_le r3
        obtain ⟨x3, rfl⟩ := Int.eq_ofNat_of_zero_le r5
        obtain ⟨p0, p1, p2, p3⟩ := hcl
        have hX1 : Hid ((x1 : Int) = ((UInt8.ofNat x1).toNat : Int)) := hid (by rw [UInt8.toNat_ofNat']; omega)
        have hX2 : Hid ((x0.size : Int) = ((UInt8.ofNat x0.size).toNat : Int)) := hid (by rw [UInt8.toNat_ofNat']; omega)
        have h2l : x2 < 9223372036854775808 := by omega
        have h3l : x3 < 9223372036854775808 := by omega
        have hrow4 := heap_alloc_new wr (.cells #[.string x0, .int .i64 (x1 : Int), .int .i64 (x2 : Int), .int .i64 (x3 : Int)] 58)
        have hO4 := hO.alloc (.cells #[.string x0, .int .i64 (x1 : Int), .int .i64 (x2 : Int), .int .i64 (x3 : Int)] 58)
        have hb4 := hb.alloc (Nat.le_trans hwr (Nat.le_refl _)) (.cells #[.string x0, .int .i64 (x1 : Int), .int .i64 (x2 : Int), .int .i64 (x3 : Int)] 58)
        have hs4 : (wr.alloc (.cells #[.string x0, .int .i64 (x1 : Int), .int .i64 (x2 : Int), .int .i64 (x3 : Int)] 58)).heap.size = wr.heap.size + 1 := World.size_alloc _ _
        clear r1 r3 r4 r5 r6 hrng hO hb
        generalize hL : 8 + (encL (xs.take k)).length = L at *
        have HL := hid hL
        have hLb : L ≤ 17400000 := by have := Hlen.out; omega
        clear hL
        go_upto_region 8 with fail
        have hlt0 : wr.heap.size < (wr.alloc (.cells #[.string x0, .int .i64 (x1 : Int), .int .i64 (x2 : Int), .int .i64 (x3 : Int)] 58)).heap.size := by omega
        generalize wr.alloc (.cells #[.string x0, .int .i64 (x1 : Int), .int .i64 (x2 : Int), .int .i64 (x3 : Int)] 58) = w5 at *
        have m1 := cell_of_row _ wr.heap.size 1 _ _ _ hrow4
        have hK5 : w.heap.size + 1 ≤ w5.heap.size := by omega
        have HS4 := hid hs4
        clear hs4
        go_wp2_with (at_builtin; go_must (refine wpList_push2 w5 (w.heap.size + 1) (.slice A' L c') L _ (UInt8.ofNat x1) _ hX1.out hO4 hK5 (by omega) rfl (.tmp 29) (.tmp 33) rfl rfl rfl ?_); intro v6 w6 hO6 hb6 ho6; obtain ⟨A6, c6, rfl, _⟩ := hO6.reads)
        have hrow6 := (ho6 _ _ hrow4 (fun _ _ e => by simp at e))
        clear m1 hrow4 hO4 e0
        refine Ord.Till.begin (fun W' => W'.cell? ⟨wr.heap.size, 0, none⟩ = some (.string x0) ∧ W'.cell? ⟨wr.heap.size, 1, none⟩ = some (.int .i64 (x1 : Int)) ∧ W'.cell? ⟨wr.heap.size, 2, none⟩ = some (.int .i64 (x2 : Int)) ∧ W'.cell? ⟨wr.heap.size, 3, none⟩ = some (.int .i64 (x3 : Int))) 10 (by kernel_rfl) ?_
        have hS0 : (fun W' => W'.cell? ⟨wr.heap.size, 0, none⟩ = some (.string x0) ∧ W'.cell? ⟨wr.heap.size, 1, none⟩ = some (.int .i64 (x1 : Int)) ∧ W'.cell? ⟨wr.heap.size, 2, none⟩ = some (.int .i64 (x2 : Int)) ∧ W'.cell? ⟨wr.heap.size, 3, none⟩ = some (.int .i64 (x3 : Int))) w6.drew := ⟨cell_of_row _ _ 0 _ _ _ hrow6, cell_of_row _ _ 1 _ _ _ hrow6, cell_of_row _ _ 2 _ _ _ hrow6, cell_of_row _ _ 3 _ _ _ hrow6⟩
        refine Ord.Till.take 0 (oi := _) (x := ?_) rfl (by kernel_rfl) (by kernel_rfl) (by kernel_rfl) (by kernel_rfl) (fun _ _ _ h => h) (by rfl) ?_ hS0 ?_
        rotate_left 1
        · intro v hv; obtain ⟨z1, z2, z3, z4⟩ := hv; go_simp; first | done | with_reducible rfl
        try simp only [Act.put, List.setIfInBounds_toArray, List.set_cons_zero, List.set_cons_succ]
        refine Ord.Till.take 1 (oi := _) (x := ?_) rfl (by kernel_rfl) (by kernel_rfl) (by kernel_rfl) (by kernel_rfl) (fun _ _ _ h => h) (by rfl) ?_ hS0 ?_
        rotate_left 1
        · intro v hv; obtain ⟨z1, z2, z3, z4⟩ := hv; go_simp; first | done | with_reducible rfl
        try simp only [Act.put, List.setIfInBounds_toArray, List.set_cons_zero, List.set_cons_succ]
        refine Ord.Till.take 2 (oi := _) (x := ?_) rfl (by kernel_rfl) (by kernel_rfl) (by kernel_rfl) (by kernel_rfl) (fun _ _ _ h => h) (by rfl) ?_ hS0 ?_
        rotate_left 1
        · intro v hv; obtain ⟨z1, z2, z3, z4⟩ := hv; go_simp; first | done | with_reducible rfl
        try simp only [Act.put, List.setIfInBounds_toArray, List.set_cons_zero, List.set_cons_succ]
        refine Ord.Till.take 5 (oi := _) (x := ?_) rfl (by kernel_rfl) (by kernel_rfl) (by kernel_rfl) (by kernel_rfl) (fun _ _ _ h => h) (by rfl) ?_ hS0 ?_
        rotate_left 1
        · intro v hv; obtain ⟨z1, z2, z3, z4⟩ := hv; go_simp; first | done | with_reducible rfl
        try simp only [Act.put, List.setIfInBounds_toArray, List.set_cons_zero, List.set_cons_succ]
        refine Ord.Till.take 6 (oi := _) (x := ?_) rfl (by kernel_rfl) (by kernel_rfl) (by kernel_rfl) (by kernel_rfl) (fun _ _ _ h => h) (by rfl) ?_ hS0 ?_
        rotate_left 1
        · intro v hv; obtain ⟨z1, z2, z3, z4⟩ := hv; go_simp; first | done | with_reducible rfl
        try simp only [Act.put, List.setIfInBounds_toArray, List.set_cons_zero, List.set_cons_succ]
        refine Ord.Till.step 3 (by kernel_rfl) rfl (fun C hC => ?_)
        go_simp
        go_at_call 42
        refine (rword_any _ x2 h2l).mono ?_
        rintro e w7 ⟨A7, rfl, ho7, hb7⟩
        have hrow7 := (hb7.block wr.heap.size (by show wr.heap.size < w6.heap.size; have := hb6.size; omega)).trans hrow6
        have hO7 := (Byt.Own.below (w := w6.drew) hO6 hb7)
        have hq7 := hb7.size
        have hz7 : w6.heap.size ≤ w7.heap.size := hq7
        have hS7 : (fun W' => W'.cell? ⟨wr.heap.size, 0, none⟩ = some (.string x0) ∧ W'.cell? ⟨wr.heap.size, 1, none⟩ = some (.int .i64 (x1 : Int)) ∧ W'.cell? ⟨wr.heap.size, 2, none⟩ = some (.int .i64 (x2 : Int)) ∧ W'.cell? ⟨wr.heap.size, 3, none⟩ = some (.int .i64 (x3 : Int))) w7 := ⟨cell_of_row _ _ 0 _ _ _ hrow7, cell_of_row _ _ 1 _ _ _ hrow7, cell_of_row _ _ 2 _ _ _ hrow7, cell_of_row _ _ 3 _ _ _ hrow7⟩
        refine hC.out _ _ (fun _ => hS7) ?_
        clear hC C
        try simp only [Act.put, List.setIfInBounds_toArray, List.set_cons_zero, List.set_cons_succ]
        obtain ⟨_, c7, e7, hrd7, _⟩ := ho7.reads
        injection e7 with e71 _ e73
        subst e71 e73
        refine Ord.Till.step 4 (by kernel_rfl) rfl (fun C hC => ?_)
        refine step_app2 w7 (w.heap.size + 1) (.slice A6 (L + 1) c6) (L + 1) _ hO7 (by have := hb6.size; omega) _ 4 4 _ (w4 x2) hrd7 (by omega) (by rfl) _ _ (by rfl) (by rfl) (by rfl) ?_
        intro v8 w8 hO8 hb8 ho8
        obtain ⟨A8, c8, rfl, _⟩ := hO8.reads
        have hrow8 := (ho8 _ _ hrow7 (fun _ _ e => by simp at e))
        have hz8 := hb8.size
        have hS8 : (fun W' => W'.cell? ⟨wr.heap.size, 0, none⟩ = some (.string x0) ∧ W'.cell? ⟨wr.heap.size, 1, none⟩ = some (.int .i64 (x1 : Int)) ∧ W'.cell? ⟨wr.heap.size, 2, none⟩ = some (.int .i64 (x2 : Int)) ∧ W'.cell? ⟨wr.heap.size, 3, none⟩ = some (.int .i64 (x3 : Int))) w8 := ⟨cell_of_row _ _ 0 _ _ _ hrow8, cell_of_row _ _ 1 _ _ _ hrow8, cell_of_row _ _ 2 _ _ _ hrow8, cell_of_row _ _ 3 _ _ _ hrow8⟩
        refine hC.out _ _ (fun _ => hS8) ?_
        clear hC C
        try simp only [Act.put, List.setIfInBounds_toArray, List.set_cons_zero, List.set_cons_succ]
        refine Ord.Till.step 7 (by kernel_rfl) rfl (fun C hC => ?_)
        go_simp
        go_at_call 42
        refine (rword_any _ x3 h3l).mono ?_
        rintro e w9 ⟨A9, rfl, ho9, hb9⟩
        have hrow9 := (hb9.block wr.heap.size (by have := hb6.size; omega)).trans hrow8
        have hO9 := hO8.below hb9
        have hz9 := hb9.size
        have hS9 : (fun W' => W'.cell? ⟨wr.heap.size, 0, none⟩ = some (.string x0) ∧ W'.cell? ⟨wr.heap.size, 1, none⟩ = some (.int .i64 (x1 : Int)) ∧ W'.cell? ⟨wr.heap.size, 2, none⟩ = some (.int .i64 (x2 : Int)) ∧ W'.cell? ⟨wr.heap.size, 3, none⟩ = some (.int .i64 (x3 : Int))) w9 := ⟨cell_of_row _ _ 0 _ _ _ hrow9, cell_of_row _ _ 1 _ _ _ hrow9, cell_of_row _ _ 2 _ _ _ hrow9, cell_of_row _ _ 3 _ _ _ hrow9⟩
        refine hC.out _ _ (fun _ => hS9) ?_
        clear hC C
        try simp only [Act.put, List.setIfInBounds_toArray, List.set_cons_zero, List.set_cons_succ]
        obtain ⟨_, c9, e9, hrd9, _⟩ := ho9.reads
        injection e9 with e91 _ e93
        subst e91 e93
        refine Ord.Till.step 8 (by kernel_rfl) rfl (fun C hC => ?_)
        refine step_app2 w9 (w.heap.size + 1) (.slice A8 (L + 1 + 4) c8) (L + 1 + 4) _ hO9 (by have := hb6.size; omega) _ 4 4 _ (w4 x3) hrd9 (by omega) (by rfl) _ _ (by rfl) (by rfl) (by rfl) ?_
        intro v10 w10 hO10 hb10 ho10
        obtain ⟨A10, c10, rfl, _⟩ := hO10.reads
        have hrow10 := (ho10 _ _ hrow9 (fun _ _ e => by simp at e))
        have hz10 := hb10.size
        have hS10 : (fun W' => W'.cell? ⟨wr.heap.size, 0, none⟩ = some (.string x0) ∧ W'.cell? ⟨wr.heap.size, 1, none⟩ = some (.int .i64 (x1 : Int)) ∧ W'.cell? ⟨wr.heap.size, 2, none⟩ = some (.int .i64 (x2 : Int)) ∧ W'.cell? ⟨wr.heap.size, 3, none⟩ = some (.int .i64 (x3 : Int))) w10 := ⟨cell_of_row _ _ 0 _ _ _ hrow10, cell_of_row _ _ 1 _ _ _ hrow10, cell_of_row _ _ 2 _ _ _ hrow10, cell_of_row _ _ 3 _ _ _ hrow10⟩
        refine hC.out _ _ (fun _ => hS10) ?_
        clear hC C
        try simp only [Act.put, List.setIfInBounds_toArray, List.set_cons_zero, List.set_cons_succ]
        refine Ord.Till.take 9 (oi := _) (x := ?_) rfl (by kernel_rfl) (by kernel_rfl) (by kernel_rfl) (by kernel_rfl) (fun _ _ _ h => h) (by rfl) ?_ hS10 ?_
        rotate_left 1
        · intro v hv; obtain ⟨z1, z2, z3, z4⟩ := hv; go_simp; first | done | with_reducible rfl
        try simp only [Act.put, List.setIfInBounds_toArray, List.set_cons_zero, List.set_cons_succ]
        refine Ord.Till.done (by kernel_rfl) ?_ _
        have hb610 : Below (w.heap.size + 1) w6 w10 := ((((Below.refl (w.heap.size + 1) w6).drew.trans (hb7.mono (by show w.heap.size + 1 ≤ w6.heap.size; have := hb6.size; omega))).trans hb8).trans (hb9.mono (by have := hb6.size; omega))).trans hb10
        clear hS0 hS7 hS8 hS9 hS10 hrow6 hrow7 hrow8 hrow9 hO6 hO7 hO8 hO9 hb7 hb8 hb9 hb10 ho7 ho8 ho9 ho10 hrd7 hrd9
        have hz610 := hb610.size
        have hz6 := hb6.size
        go_wp2_with fail
        refine Ord.Till.begin (fun W' => W'.cell? ⟨wr.heap.size, 0, none⟩ = some (.string x0) ∧ W'.cell? ⟨wr.heap.size, 1, none⟩ = some (.int .i64 (x1 : Int)) ∧ W'.cell? ⟨wr.heap.size, 2, none⟩ = some (.int .i64 (x2 : Int)) ∧ W'.cell? ⟨wr.heap.size, 3, none⟩ = some (.int .i64 (x3 : Int))) 11 (by kernel_rfl) ?_
        have hS0 : (fun W' => W'.cell? ⟨wr.heap.size, 0, none⟩ = some (.string x0) ∧ W'.cell? ⟨wr.heap.size, 1, none⟩ = some (.int .i64 (x1 : Int)) ∧ W'.cell? ⟨wr.heap.size, 2, none⟩ = some (.int .i64 (x2 : Int)) ∧ W'.cell? ⟨wr.heap.size, 3, none⟩ = some (.int .i64 (x3 : Int))) w10.drew := ⟨cell_of_row _ _ 0 _ _ _ hrow10, cell_of_row _ _ 1 _ _ _ hrow10, cell_of_row _ _ 2 _ _ _ hrow10, cell_of_row _ _ 3 _ _ _ hrow10⟩
        refine Ord.Till.take 0 (oi := _) (x := ?_) rfl (by kernel_rfl) (by kernel_rfl) (by kernel_rfl) (by kernel_rfl) (fun _ _ _ h => h) (by rfl) ?_ hS0 ?_
        rotate_left 1
        · intro v hv; obtain ⟨z1, z2, z3, z4⟩ := hv; go_simp; first | done | with_reducible rfl
        try simp only [Act.put, List.setIfInBounds_toArray, List.set_cons_zero, List.set_cons_succ]
        refine Ord.Till.take 1 (oi := _) (x := ?_) rfl (by kernel_rfl) (by kernel_rfl) (by kernel_rfl) (by kernel_rfl) (fun _ _ _ h => h) (by rfl) ?_ hS0 ?_
        rotate_left 1
        · intro v hv; obtain ⟨z1, z2, z3, z4⟩ := hv; go_simp; first | done | with_reducible rfl
        try simp only [Act.put, List.setIfInBounds_toArray, List.set_cons_zero, List.set_cons_succ]
        refine Ord.Till.take 2 (oi := _) (x := ?_) rfl (by kernel_rfl) (by kernel_rfl) (by kernel_rfl) (by kernel_rfl) (fun _ _ _ h => h) (by rfl) ?_ hS0 ?_
        rotate_left 1
        · intro v hv; obtain ⟨z1, z2, z3, z4⟩ := hv; go_simp; first | done | with_reducible rfl
        try simp only [Act.put, List.setIfInBounds_toArray, List.set_cons_zero, List.set_cons_succ]
        refine Ord.Till.take 3 (oi := _) (x := ?_) rfl (by kernel_rfl) (by kernel_rfl) (by kernel_rfl) (by kernel_rfl) (fun _ _ _ h => h) (by rfl) ?_ hS0 ?_
        rotate_left 1
        · intro v hv; obtain ⟨z1, z2, z3, z4⟩ := hv; go_simp; first | done | with_reducible rfl
        try simp only [Act.put, List.setIfInBounds_toArray, List.set_cons_zero, List.set_cons_succ]
        refine Ord.Till.take 4 (oi := _) (x := ?_) rfl (by kernel_rfl) (by kernel_rfl) (by kernel_rfl) (by kernel_rfl) (fun _ _ _ h => h) (by rfl) ?_ hS0 ?_
        rotate_left 1
        · intro v hv; obtain ⟨z1, z2, z3, z4⟩ := hv; go_simp; first | done | with_reducible rfl
        try simp only [Act.put, List.setIfInBounds_toArray, List.set_cons_zero, List.set_cons_succ]
        refine Ord.Till.take 7 (oi := _) (x := ?_) rfl (by kernel_rfl) (by kernel_rfl) (by kernel_rfl) (by kernel_rfl) (fun _ _ _ h => h) (by rfl) ?_ hS0 ?_
        rotate_left 1
        · intro v hv; obtain ⟨z1, z2, z3, z4⟩ := hv; go_simp; first | done | with_reducible rfl
        try simp only [Act.put, List.setIfInBounds_toArray, List.set_cons_zero, List.set_cons_succ]
        refine Ord.Till.take 8 (oi := _) (x := ?_) rfl (by kernel_rfl) (by kernel_rfl) (by kernel_rfl) (by kernel_rfl) (fun _ _ _ h => h) (by rfl) ?_ hS0 ?_
        rotate_left 1
        · intro v hv; obtain ⟨z1, z2, z3, z4⟩ := hv; go_simp; first | done | with_reducible rfl
        try simp only [Act.put, List.setIfInBounds_toArray, List.set_cons_zero, List.set_cons_succ]
        have hXw : Hid (IntKind.u8.wrap (x0.size : Int) = ((UInt8.ofNat x0.size).toNat : Int)) := hid (by rw [IntKind.wrap_u8, UInt8.toNat_ofNat']; omega)
        obtain ⟨X, hX⟩ : ∃ X, X = IntKind.u8.wrap (x0.size : Int) := ⟨_, rfl⟩
        have hXe : X = ((UInt8.ofNat x0.size).toNat : Int) := hX.trans hXw.out
        have hrow11 : (w10.alloc (.cells #[.int .u8 X] 5)).drew.heap[wr.heap.size]? = _ := (Below.heap_alloc w10 (.cells #[.int .u8 X] 5) wr.heap.size (by omega)).trans hrow10
        have hO11 : Byt.Own (w10.alloc (.cells #[.int .u8 X] 5)).drew (w.heap.size + 1) _ _ _ := hO10.alloc (.cells #[.int .u8 X] 5)
        have hrd11 : Byt.Rd (w10.alloc (.cells #[.int .u8 X] 5)).drew (w10.heap.size + 1) (some ⟨w10.heap.size, 0, none⟩) 1 [UInt8.ofNat x0.size] := Rd.lit w10 [UInt8.ofNat x0.size] #[.int .u8 X] (by rw [hXe]; rfl) 1 rfl
        have hz11 : (w10.alloc (.cells #[.int .u8 X] 5)).drew.heap.size = w10.heap.size + 1 := World.size_alloc _ _
        have hb1011 : Below (w.heap.size + 1) w10 (w10.alloc (.cells #[.int .u8 X] 5)).drew := ((Below.refl (w.heap.size + 1) w10).alloc (by omega) _).drew
        have hS11 : (fun W' => W'.cell? ⟨wr.heap.size, 0, none⟩ = some (.string x0) ∧ W'.cell? ⟨wr.heap.size, 1, none⟩ = some (.int .i64 (x1 : Int)) ∧ W'.cell? ⟨wr.heap.size, 2, none⟩ = some (.int .i64 (x2 : Int)) ∧ W'.cell? ⟨wr.heap.size, 3, none⟩ = some (.int .i64 (x3 : Int))) (w10.alloc (.cells #[.int .u8 X] 5)).drew := ⟨cell_of_row _ _ 0 _ _ _ hrow11, cell_of_row _ _ 1 _ _ _ hrow11, cell_of_row _ _ 2 _ _ _ hrow11, cell_of_row _ _ 3 _ _ _ hrow11⟩
        have HX := hid hX
        clear hXe hX
        refine Ord.Till.step 5 (by kernel_rfl) rfl (fun C hC => ?_)
        go_simp
        rw [← HX.out]
        refine hC.out _ _ (fun _ => hS11) ?_
        clear hC C
        try simp only [Act.put, List.setIfInBounds_toArray, List.set_cons_zero, List.set_cons_succ]
        refine Ord.Till.step 6 (by kernel_rfl) rfl (fun C hC => ?_)
        refine step_app2 (w10.alloc (.cells #[.int .u8 X] 5)).drew (w.heap.size + 1) (.slice A10 (L + 1 + 4 + 4) c10) (L + 1 + 4 + 4) _ hO11 (by omega) (some ⟨w10.heap.size, 0, none⟩) 1 1 _ [UInt8.ofNat x0.size] hrd11 (by omega) (by rfl) _ _ (by rfl) (by rfl) (by rfl) ?_
        intro v12 w12 hO12 hb12 ho12
        obtain ⟨A12, c12, rfl, _⟩ := hO12.reads
        have hrow12 := (ho12 _ _ hrow11 (fun _ _ e => by simp at e))
        have hz12 := hb12.size
        have hS12 : (fun W' => W'.cell? ⟨wr.heap.size, 0, none⟩ = some (.string x0) ∧ W'.cell? ⟨wr.heap.size, 1, none⟩ = some (.int .i64 (x1 : Int)) ∧ W'.cell? ⟨wr.heap.size, 2, none⟩ = some (.int .i64 (x2 : Int)) ∧ W'.cell? ⟨wr.heap.size, 3, none⟩ = some (.int .i64 (x3 : Int))) w12 := ⟨cell_of_row _ _ 0 _ _ _ hrow12, cell_of_row _ _ 1 _ _ _ hrow12, cell_of_row _ _ 2 _ _ _ hrow12, cell_of_row _ _ 3 _ _ _ hrow12⟩
        refine hC.out _ _ (fun _ => hS12) ?_
        clear hC C
        try simp only [Act.put, List.setIfInBounds_toArray, List.set_cons_zero, List.set_cons_succ]
        refine Ord.Till.step 9 (by kernel_rfl) rfl (fun C hC => ?_)
        refine step_apps2 w12 (w.heap.size + 1) (.slice A12 (L + 1 + 4 + 4 + 1) c12) (L + 1 + 4 + 4 + 1) _ hO12 (by omega) x0 (by omega) (by rfl) _ _ (by rfl) (by rfl) (by rfl) ?_
        intro v13 w13 hO13 hb13 ho13
        obtain ⟨A13, c13, rfl, _⟩ := hO13.reads
        have hrow13 := (ho13 _ _ hrow12 (fun _ _ e => by simp at e))
        have hS13 : (fun W' => W'.cell? ⟨wr.heap.size, 0, none⟩ = some (.string x0) ∧ W'.cell? ⟨wr.heap.size, 1, none⟩ = some (.int .i64 (x1 : Int)) ∧ W'.cell? ⟨wr.heap.size, 2, none⟩ = some (.int .i64 (x2 : Int)) ∧ W'.cell? ⟨wr.heap.size, 3, none⟩ = some (.int .i64 (x3 : Int))) w13 := ⟨cell_of_row _ _ 0 _ _ _ hrow13, cell_of_row _ _ 1 _ _ _ hrow13, cell_of_row _ _ 2 _ _ _ hrow13, cell_of_row _ _ 3 _ _ _ hrow13⟩
        refine hC.out _ _ (fun _ => hS13) ?_
        clear hC C
        try simp only [Act.put, List.setIfInBounds_toArray, List.set_cons_zero, List.set_cons_succ]
        refine Ord.Till.take 10 (oi := _) (x := ?_) rfl (by kernel_rfl) (by kernel_rfl) (by kernel_rfl) (by kernel_rfl) (fun _ _ _ h => h) (by rfl) ?_ hS13 ?_
        rotate_left 1
        · intro v hv; obtain ⟨z1, z2, z3, z4⟩ := hv; go_simp; first | done | with_reducible rfl
        try simp only [Act.put, List.setIfInBounds_toArray, List.set_cons_zero, List.set_cons_succ]
        refine Ord.Till.done (by kernel_rfl) ?_ _
        have hbw := ((((hb4.trans hb6).trans hb610).trans hb1011).trans hb12).trans hb13
        have e3 : L + 1 + 4 + 4 + 1 + x0.size = 8 + (encL (xs.take (k + 1))).length := by rw [Htake.out, List.length_append, encS_length, ← HL.out]; simp only; omega
        have e4 : magic ++ w4 n ++ encL (xs.take k) ++ [UInt8.ofNat x1] ++ w4 x2 ++ w4 x3 ++ [UInt8.ofNat x0.size] ++ x0.data.toList = magic ++ w4 n ++ encL (xs.take (k + 1)) := by rw [Htake.out]; simp [encS]
        rw [e3, e4] at hO13
        have E3 := hid e3
        clear hS0 hS11 hS12 hS13 hrow10 hrow11 hrow12 hrow13 hO10 hO11 hO12 hb4 hb6 hb610 hb1011 hb12 hb13 ho12 ho13 hrd11 e3 e4 hz11
        simp only [E3.out]
        have hbw' := hid hbw
        have hO' := hid hO13
        clear hbw hO13 E3 HS4
        go_wp2_with fail
        go_roundw
        · exact ⟨k + 1, A13, c13, by go_num, rfl, by omega, hO'.out, hbw'.out⟩
        · simp [intOf]; omega
      · obtain rfl : k = n := by omega
        have hall : xs.take k = xs := List.take_of_length_le (by have := Hl.out; omega)
        rw [hall] at hO ⊢
        have hB4 := hB3.below (hb.mono (by omega))
        have hlen : (encL xs).length ≤ 265 * k := by have := encL_len xs Hg.out; have := Hl.out; omega
        have HL := hid hall
        clear hall
        go_wp2_with (at_builtin; go_must (refine wpList_app2 wr (w.heap.size + 1) _ _ _ hO hwr B m d K body hB4 (by omega) rfl (.tmp 54) (.tmp 56) rfl rfl rfl ?_); intro v4 w4' h4 b4 o4)
        refine bodyPost_ret (v := .tuple #[v4, .int .i64 0]) (by simp [results, Tryz.results22, go_sem]) rfl ?_
        refine ⟨((hb0.trans (hb03.mono (by omega))).trans (hb.mono (by omega))).trans (b4.mono (by omega)), .inl ⟨Hv.out, v4, 8 + (encL xs).length + m, rfl, ?_⟩⟩
        have e5 : encO xs body = magic ++ w4 k ++ encL xs ++ body := by unfold encO; rw [Hl.out]; simp
        rw [e5]
        exact h4.more (by omega)
end Go.Proofs.YtpedngfmjhpojaaGreatDoor.Obj
