/-
  common: the reference's Same (of equal slots) and Right; the law's slots.
-/
import Derived.Test.YtcaepgggffkjpaaRb
namespace Go.Proofs.Ytcaepgggffkjpaa.Cmn
open Go.RowKit Go.Proofs Go.Proofs.Ytcaepgggffkjpaa.Byt
open Go.Proofs.Ytcaepgggffkjpaa.Tab (bl bl_iff bl_irrefl bl_trans bl_total tl_inj)
open Go.Proofs.Ytcaepgggffkjpaa.Bnd (Us)
open Go.Proofs.Ytcaepgggffkjpaa.Obj (pow2 pows)

theorem bdw {w W : World} {K : Nat} (h : Below K w W) (m : Nat) : Below K w (World.drewN W m) := h.trans ⟨rfl, rfl, rfl, Nat.le_refl _, fun _ _ => rfl⟩
theorem slt_under : Try.prog.underlying 35 = some (.struct (Try.prog.fieldsOf 35)) := by kernel_rfl
theorem slt_held : Try.prog.stoodInHeld 35 = false := by kernel_rfl
theorem slt_guard : Try.prog.eqGuardType Try.prog.depth 35 = false := by kernel_rfl
theorem guard_slt (op : BinOp) (X Y : Operand) (xs ys : Array Value) (w : World) : (eqGuard op 35 X Y (.agg xs) (.agg ys)).run Try.prog w = .ok () w := run_eqGuard_agg w op _ X Y xs ys slt_guard
theorem equal_slt (x0 : ByteArray) (x1 x2 : Int) (w : World) :
    (Op.equalIn 10000 35 (.agg #[.string x0, .int .i64 x1, .int .i64 x2]) (.agg #[.string x0, .int .i64 x1, .int .i64 x2])).run Try.prog w = .ok true w := by
  have u3 := Try.underlying3
  have u9 := Try.underlying9
  rw [show (10000 : Nat) = 9999 + 1 from rfl, run_equalIn_agg w 9999 35 _ _ slt_under slt_held]
  simp only [Program.fieldsOf, Try.underlying35]
  go_simp
theorem neq_slt (x0 : ByteArray) (x1 x2 : Int) (w : World) :
    (binOp .neq 35 (.agg #[.string x0, .int .i64 x1, .int .i64 x2]) (.agg #[.string x0, .int .i64 x1, .int .i64 x2])).run Try.prog w = .ok (.bool false) w := by
  rw [run_neq_struct, equal_slt]
  rfl
set_option linter.unusedSimpArgs false in
set_option maxRecDepth 100000 in
set_option maxHeartbeats 2000000 in
theorem rsame_any (K : Nat) (A B : Option Addr) (n c d : Nat) (l : List Slt) (w : World) (h : RdT w K A n l) (h' : RdT w K B n l) (hK : K ≤ w.heap.size) (hn : n ≤ 100000) :
    Calls Try.prog 13 #[.slice A n c, .slice B n d] w fun e w' => e = .returned (.bool true) ∧ Below w.heap.size w w' := by
  have Hl := hid h.1
  have hnb : ((n : Int) != (n : Int)) = false := by simp
  go_enter Try.func13, Try.ntmps13
  go_wp2_with fail
  go_loopw [5] (fun i W => ∃ k : Nat, i = .int .i64 (k : Int) ∧ k ≤ n ∧ Below w.heap.size w W) (fun i _ => n - (intOf i).toNat)
  case atStart => exact ⟨0, rfl, by omega, Below.refl _ _⟩
  case round =>
    obtain ⟨k, rfl, hk, hb⟩ := hrel
    by_cases hlt : k < n
    · have hkl : k < l.length := by have := Hl.out; omega
      have hki : (k : Int) < (n : Int) := by omega
      obtain ⟨b, o, rfl, _, p0, p1, p2⟩ := (h.below (hb.mono hK)).at_ hkl
      obtain ⟨b', o', rfl, _, s0, s1, s2⟩ := (h'.below (hb.mono hK)).at_ hkl
      generalize l[k] = x at *
      obtain ⟨x0, x1, x2⟩ := x
      have hgd := guard_slt
      have hne := neq_slt
      go_wp2_with fail
      go_quiet (fail)
      go_wp2_with fail
      go_roundw
      · exact ⟨k + 1, by go_num, by omega, bdw hb _⟩
      · simp [intOf]; omega
    · obtain rfl : k = n := by omega
      have hki : ¬ (k : Int) < (k : Int) := by omega
      go_wp2_with fail
      go_ret
      exact ⟨rfl, hb⟩

/-- What Right asks of the resolutions. -/
structure RightR (xs : List Us) : Prop where
  len : xs.length ≤ 100
  ok : ∀ x ∈ xs, com x = true → ComOk x
  dif : Dif xs
theorem pow2_range {z : Int} (h : pow2 z = true) : 1 ≤ z ∧ z ≤ 65536 := by
  obtain ⟨i, hi, e⟩ := (pow2_iff z).1 h
  have h1 : 2 ^ i ≤ 2 ^ 16 := Nat.pow_le_pow_right (by omega) hi
  have h2 : 1 ≤ 2 ^ i := Nat.one_le_two_pow
  have h3 : (2 : Nat) ^ 16 = 65536 := rfl
  omega
/-- The j-th resolution, if it is common, is as it should be, and has a name of its own among those ahead of it. -/
def OkAt (xs : List Us) (j : Nat) : Prop := ∀ h : j < xs.length, com xs[j] = true → ComOk xs[j] ∧ ∀ k (hk : k < j), com (xs[k]'(Nat.lt_trans hk h)) = true → (xs[k]'(Nat.lt_trans hk h)).s.name ≠ xs[j].s.name
theorem right_of {xs : List Us} (hl : xs.length ≤ 100) (h : ∀ j, j < xs.length → OkAt xs j) : RightR xs := by
  refine ⟨hl, fun x hx hc => ?_, ?_⟩
  · obtain ⟨j, hj, rfl⟩ := List.getElem_of_mem hx
    exact (h j hj hj hc).1
  · unfold Dif
    rw [List.pairwise_filter, List.pairwise_iff_getElem]
    intro i j hi hj hij c1 c2
    exact (h j hj hj c2).2 i hij c1
def RgtP (xs : List Us) (w : World) (e : Ending) (w' : World) : Prop := Below w.heap.size w w' ∧ ((e = .returned (.bool true) ∧ RightR xs) ∨ e = .returned (.bool false))
set_option linter.unusedSimpArgs false in
set_option maxRecDepth 100000 in
set_option maxHeartbeats 4000000 in
theorem rright_any (K : Nat) (A : Option Addr) (n c : Nat) (xs : List Us) (w : World) (h : RdR w K A n xs) (hK : K ≤ w.heap.size) :
    Calls Try.prog 9 #[.slice A n c] w (RgtP xs w) := by
  have HR := hid h
  have Hl : xs.length = n := h.1
  clear h
  go_enter Try.func9, Try.ntmps9
  by_cases hn : (100 : Int) < (n : Int)
  · go_wp2_with fail
    go_ret
    exact ⟨Below.refl _ _, .inr rfl⟩
  go_wp2_with fail
  go_loopw [3] (fun iv W => ∃ i : Nat, iv = .int .i64 (i : Int) ∧ i ≤ n ∧ Hid (∀ j, j < i → OkAt xs j) ∧ Below w.heap.size w W) (fun iv _ => n - (intOf iv).toNat)
  case atStart => exact ⟨0, rfl, Nat.zero_le _, hid (fun j hj => absurd hj (Nat.not_lt_zero _)), Below.refl _ _⟩
  case round =>
    obtain ⟨i, rfl, hi, hG, hb⟩ := hrel
    by_cases hlt : i < n
    · have hil : i < xs.length := by omega
      have hii : (i : Int) < (n : Int) := by omega
      obtain ⟨b, o, rfl, _, p0, p1, p2, p3, _⟩ := (HR.out.below (hb.mono hK)).at_ hil
      have HC := hid fun (V : World) (hV : Below w.heap.size w V) => (by obtain ⟨b', o', e, _, q0, _⟩ := (HR.out.below (hV.mono hK)).at_ hil; injection e with e; injection e with e1 e2; subst e1 e2; exact q0 : V.cell? ⟨b, o + i * 5, none⟩ = some (.string xs[i].s.name))
      have HN : Hid (OkAt xs i → ∀ j, j < i + 1 → OkAt xs j) := hid fun e j hj => by
        by_cases hji : j = i
        · exact hji ▸ e
        · exact hG.out j (by omega)
      have HOk : Hid (OkAt xs i ↔ (com xs[i] = true → ComOk xs[i] ∧ ∀ k (hk : k < i), com (xs[k]'(Nat.lt_trans hk hil)) = true → (xs[k]'(Nat.lt_trans hk hil)).s.name ≠ xs[i].s.name)) := hid ⟨fun e => e hil, fun e _ => e⟩
      clear hG
      generalize xs[i] = x at *
      obtain ⟨⟨x0, x1, x2, x3⟩, x4⟩ := x
      simp only at p0 p1 p2 p3 HC
      by_cases hbd : x1 = 3
      · subst hbd
        by_cases h0 : x2 < 0
        · go_wp2_with fail
          go_ret
          exact ⟨hb, .inr rfl⟩
        by_cases h1 : 4294967295 < x2
        · go_wp2_with fail
          go_ret
          exact ⟨hb, .inr rfl⟩
        cases hp : pow2 x3
        · have HP := hid (rpower_any x3 wr)
          rw [hp] at HP
          go_wp2_with fail
          refine HP.out.mono ?_
          rintro e w5 ⟨rfl, rfl⟩
          go_wp2_with fail
          go_ret
          exact ⟨hb, .inr rfl⟩
        · have HP := hid (rpower_any x3 wr)
          rw [hp] at HP
          have HCo : Hid (ComOk ⟨⟨x0, 3, x2, x3⟩, x4⟩) := hid ⟨by show 0 ≤ x2; omega, by show x2 ≤ 4294967295; omega, (pow2_range hp).1, (pow2_range hp).2, (pow2_iff _).1 hp⟩
          clear hp
          go_wp2_with fail
          refine HP.out.mono ?_
          rintro e w5 ⟨rfl, rfl⟩
          clear HP p1 p2 p3 p0
          go_wp2_with fail
          go_loopw [4] (fun kv W => ∃ k : Nat, kv = .int .i64 (k : Int) ∧ k ≤ i ∧ Hid (∀ k' (hk : k' < k) (hki : k' < xs.length), com xs[k'] = true → xs[k'].s.name ≠ x0) ∧ Below w.heap.size w W) (fun kv _ => i - (intOf kv).toNat)
          case atStart => exact ⟨0, rfl, Nat.zero_le _, hid (fun k hk => absurd hk (Nat.not_lt_zero _)), hb⟩
          case round =>
            obtain ⟨k, rfl, hk, hG, hb⟩ := hrel
            by_cases hki : k < i
            · have hkl : k < xs.length := by omega
              have hkii : (k : Int) < (i : Int) := by omega
              have hkn : (k : Int) < (n : Int) := by omega
              have p0 := HC.out _ hb
              obtain ⟨b', o', e, _, r0, r1, _⟩ := (HR.out.below (hb.mono hK)).at_ hkl
              injection e with e
              injection e with e1 e2
              subst e1 e2
              have HN2 : Hid ((com xs[k] = true → xs[k].s.name ≠ x0) → ∀ k' (hk : k' < k + 1) (hki : k' < xs.length), com xs[k'] = true → xs[k'].s.name ≠ x0) := hid fun e k' hk' hkl' => by
                by_cases he : k' = k
                · subst he
                  exact e
                · exact hG.out k' (by omega) hkl'
              clear hG
              generalize xs[k] = y at *
              obtain ⟨⟨y0, y1, y2, y3⟩, y4⟩ := y
              simp only at r0 r1
              by_cases hyb : y1 = 3
              · subst hyb
                by_cases hyn : y0 = x0
                · subst hyn
                  go_wp2_with fail
                  go_quiet (fail)
                  go_wp2_with fail
                  go_ret
                  exact ⟨bdw hb _, .inr rfl⟩
                · have HG := hid (HN2.out fun _ => hyn)
                  have hne : (y0.toList == x0.toList) = false := by
                    simp only [beq_eq_false_iff_ne]
                    exact fun e => hyn (tl_inj e)
                  clear HN2 hyn
                  go_wp2_with fail
                  go_quiet (fail)
                  go_wp2_with fail
                  go_roundw
                  · exact ⟨k + 1, by go_num, by omega, HG, bdw hb _⟩
                  · simp [intOf]; omega
              · have HG := hid (HN2.out fun e => absurd (show y1 = 3 by unfold com at e; simpa using e) hyb)
                have hyb' : (y1 == 3) = false := by simpa using hyb
                clear HN2 hyb
                go_wp2_with fail
                go_quiet (fail)
                go_wp2_with fail
                go_roundw
                · exact ⟨k + 1, by go_num, by omega, HG, bdw hb _⟩
                · simp [intOf]; omega
            · obtain rfl : k = i := by omega
              have hkii : ¬ (k : Int) < (k : Int) := by omega
              have HG2 := hid (HN.out (HOk.out.2 fun _ => ⟨HCo.out, fun k' hk' => hG.out k' hk' (by omega)⟩))
              go_wp2_with fail
              go_roundw
              · exact ⟨k + 1, by go_num, by omega, HG2, hb⟩
              · simp [intOf]; omega
      · have HG := hid (HN.out (HOk.out.2 fun e => absurd (show x1 = 3 by unfold com at e; simpa using e) hbd))
        have hbd' : (x1 == 3) = false := by simpa using hbd
        clear HN HOk hbd
        go_wp2_with fail
        go_roundw
        · exact ⟨i + 1, by go_num, by omega, HG, hb⟩
        · simp [intOf]; omega
    · obtain rfl : i = n := by omega
      have hii : ¬ (i : Int) < (i : Int) := by omega
      have HF := hid (right_of (xs := xs) (by omega) fun j hj => hG.out j (by omega))
      go_wp2_with fail
      go_ret
      exact ⟨hb, .inl ⟨rfl, HF.out⟩⟩

/-- Slots that the call has made. -/
def SltP (t : TypeId) (l : List Slt) (w : World) (e : Ending) (w' : World) : Prop := ∃ A c, e = .returned (.slice A l.length c) ∧ OwT t w' w.heap.size (.slice A l.length c) l ∧ Below w.heap.size w w'
set_option linter.unusedSimpArgs false in
set_option maxRecDepth 100000 in
set_option maxHeartbeats 4000000 in
theorem slots_any (K : Nat) (A : Option Addr) (n c : Nat) (l : List Slt) (w : World) (h : RdT w K A n l) (hK : K ≤ w.heap.size) (hn : n ≤ 1000) :
    Calls Try.prog 14 #[.slice A n c] w (SltP 35 l w) := by
  have HR := hid h
  have Hl : l.length = n := h.1
  clear h
  go_enter Try.func14, Try.ntmps14
  go_wp2_with fail
  go_loopw [3, 4] (fun v iv W => ∃ (k c1 : Nat) (A1 : Option Addr), v = .slice A1 k c1 ∧ iv = .int .i64 (k : Int) ∧ k ≤ n ∧ Hid (Cel.Own 35 3 W w.heap.size (.slice A1 k c1) k (scells (l.take k))) ∧ Below w.heap.size w W) (fun _ iv _ => n - (intOf iv).toNat)
  case atStart => exact ⟨0, 0, none, rfl, rfl, Nat.zero_le _, hid (Cel.Own.nil _ _ _ _), Below.refl _ _⟩
  case round =>
    obtain ⟨k, c1, A1, rfl, rfl, hk, hO, hb⟩ := hrel
    by_cases hlt : k < n
    · have hkl : k < l.length := by omega
      have hki : (k : Int) < (n : Int) := by omega
      obtain ⟨b, o, rfl, _, p0, p1, p2⟩ := (HR.out.below (hb.mono hK)).at_ hkl
      have HC := hid fun (V : World) (hV : Below w.heap.size w V) => (by obtain ⟨b', o', e, _, q⟩ := (HR.out.below (hV.mono hK)).at_ hkl; injection e with e; injection e with e1 e2; subst e1 e2; exact q : V.cell? ⟨b, o + k * 3, none⟩ = some (.string l[k].name) ∧ V.cell? ⟨b, o + k * 3 + 1, none⟩ = some (.int .i64 l[k].off) ∧ V.cell? ⟨b, o + k * 3 + 2, none⟩ = some (.int .i64 l[k].size))
      have HT : Hid (scells (l.take (k + 1)) = scells (l.take k) ++ scell l[k]) := hid (by rw [List.take_succ_eq_append_getElem hkl, scells_app]; simp [scells])
      have hbs := hb.size
      generalize l[k] = x at *
      obtain ⟨x0, x1, x2⟩ := x
      simp only at p0 p1 p2 HC
      clear p0 p1 p2
      go_upto_region 5 with fail
      refine Ord.Till.begin (fun V => Below w.heap.size w V) 60 (by kernel_rfl) ?_
      have hS : (fun V : World => Below w.heap.size w V) wr.drew := hb.drew
      refine Ord.Till.take' 0 (some 11) (oi := _) (x := ?_) rfl rfl (by kernel_rfl) (by kernel_rfl) (by kernel_rfl) (by kernel_rfl) (fun _ _ _ h => h) (by kernel_rfl) ?_ hS ?_
      rotate_left 1
      · intro V hv; obtain ⟨z0, z1, z2⟩ := HC.out V hv; go_simp; first | done | with_reducible rfl
      try simp only [List.getElem_toArray, List.getElem_cons_zero, List.getElem_cons_succ, Act.put, List.setIfInBounds_toArray, List.set_cons_zero, List.set_cons_succ]
      refine Ord.Till.take' 1 (some 12) (oi := _) (x := ?_) rfl rfl (by kernel_rfl) (by kernel_rfl) (by kernel_rfl) (by kernel_rfl) (fun _ _ _ h => h) (by kernel_rfl) ?_ hS ?_
      rotate_left 1
      · intro V hv; obtain ⟨z0, z1, z2⟩ := HC.out V hv; go_simp; first | done | with_reducible rfl
      try simp only [List.getElem_toArray, List.getElem_cons_zero, List.getElem_cons_succ, Act.put, List.setIfInBounds_toArray, List.set_cons_zero, List.set_cons_succ]
      refine Ord.Till.take' 2 (some 13) (oi := _) (x := ?_) rfl rfl (by kernel_rfl) (by kernel_rfl) (by kernel_rfl) (by kernel_rfl) (fun _ _ _ h => h) (by kernel_rfl) ?_ hS ?_
      rotate_left 1
      · intro V hv; obtain ⟨z0, z1, z2⟩ := HC.out V hv; go_simp; first | done | with_reducible rfl
      try simp only [List.getElem_toArray, List.getElem_cons_zero, List.getElem_cons_succ, Act.put, List.setIfInBounds_toArray, List.set_cons_zero, List.set_cons_succ]
      refine Ord.Till.take' 3 (some 14) (oi := _) (x := ?_) rfl rfl (by kernel_rfl) (by kernel_rfl) (by kernel_rfl) (by kernel_rfl) (fun _ _ _ h => h) (by kernel_rfl) ?_ hS ?_
      rotate_left 1
      · intro V hv; obtain ⟨z0, z1, z2⟩ := HC.out V hv; go_simp; first | done | with_reducible rfl
      try simp only [List.getElem_toArray, List.getElem_cons_zero, List.getElem_cons_succ, Act.put, List.setIfInBounds_toArray, List.set_cons_zero, List.set_cons_succ]
      refine Ord.Till.take' 4 (some 15) (oi := _) (x := ?_) rfl rfl (by kernel_rfl) (by kernel_rfl) (by kernel_rfl) (by kernel_rfl) (fun _ _ _ h => h) (by kernel_rfl) ?_ hS ?_
      rotate_left 1
      · intro V hv; obtain ⟨z0, z1, z2⟩ := HC.out V hv; go_simp; first | done | with_reducible rfl
      try simp only [List.getElem_toArray, List.getElem_cons_zero, List.getElem_cons_succ, Act.put, List.setIfInBounds_toArray, List.set_cons_zero, List.set_cons_succ]
      refine Ord.Till.take' 5 (some 16) (oi := _) (x := ?_) rfl rfl (by kernel_rfl) (by kernel_rfl) (by kernel_rfl) (by kernel_rfl) (fun _ _ _ h => h) (by kernel_rfl) ?_ hS ?_
      rotate_left 1
      · intro V hv; obtain ⟨z0, z1, z2⟩ := HC.out V hv; go_simp; first | done | with_reducible rfl
      try simp only [List.getElem_toArray, List.getElem_cons_zero, List.getElem_cons_succ, Act.put, List.setIfInBounds_toArray, List.set_cons_zero, List.set_cons_succ]
      refine Ord.Till.take' 6 (some 17) (oi := _) (x := ?_) rfl rfl (by kernel_rfl) (by kernel_rfl) (by kernel_rfl) (by kernel_rfl) (fun _ _ _ h => h) (by kernel_rfl) ?_ hS ?_
      rotate_left 1
      · intro V hv; obtain ⟨z0, z1, z2⟩ := HC.out V hv; go_simp; first | done | with_reducible rfl
      try simp only [List.getElem_toArray, List.getElem_cons_zero, List.getElem_cons_succ, Act.put, List.setIfInBounds_toArray, List.set_cons_zero, List.set_cons_succ]
      refine Ord.Till.take' 7 (some 18) (oi := _) (x := ?_) rfl rfl (by kernel_rfl) (by kernel_rfl) (by kernel_rfl) (by kernel_rfl) (fun _ _ _ h => h) (by kernel_rfl) ?_ hS ?_
      rotate_left 1
      · intro V hv; obtain ⟨z0, z1, z2⟩ := HC.out V hv; go_simp; first | done | with_reducible rfl
      try simp only [List.getElem_toArray, List.getElem_cons_zero, List.getElem_cons_succ, Act.put, List.setIfInBounds_toArray, List.set_cons_zero, List.set_cons_succ]
      refine Ord.Till.take' 8 (some 19) (oi := _) (x := ?_) rfl rfl (by kernel_rfl) (by kernel_rfl) (by kernel_rfl) (by kernel_rfl) (fun _ _ _ h => h) (by kernel_rfl) ?_ hS ?_
      rotate_left 1
      · intro V hv; obtain ⟨z0, z1, z2⟩ := HC.out V hv; go_simp; first | done | with_reducible rfl
      try simp only [List.getElem_toArray, List.getElem_cons_zero, List.getElem_cons_succ, Act.put, List.setIfInBounds_toArray, List.set_cons_zero, List.set_cons_succ]
      refine Ord.Till.take' 9 (some 20) (oi := _) (x := ?_) rfl rfl (by kernel_rfl) (by kernel_rfl) (by kernel_rfl) (by kernel_rfl) (fun _ _ _ h => h) (by kernel_rfl) ?_ hS ?_
      rotate_left 1
      · intro V hv; obtain ⟨z0, z1, z2⟩ := HC.out V hv; go_simp; first | done | with_reducible rfl
      try simp only [List.getElem_toArray, List.getElem_cons_zero, List.getElem_cons_succ, Act.put, List.setIfInBounds_toArray, List.set_cons_zero, List.set_cons_succ]
      refine Ord.Till.take' 10 (some 21) (oi := _) (x := ?_) rfl rfl (by kernel_rfl) (by kernel_rfl) (by kernel_rfl) (by kernel_rfl) (fun _ _ _ h => h) (by kernel_rfl) ?_ hS ?_
      rotate_left 1
      · intro V hv; obtain ⟨z0, z1, z2⟩ := HC.out V hv; go_simp; first | done | with_reducible rfl
      try simp only [List.getElem_toArray, List.getElem_cons_zero, List.getElem_cons_succ, Act.put, List.setIfInBounds_toArray, List.set_cons_zero, List.set_cons_succ]
      refine Ord.Till.take' 11 (some 22) (oi := _) (x := ?_) rfl rfl (by kernel_rfl) (by kernel_rfl) (by kernel_rfl) (by kernel_rfl) (fun _ _ _ h => h) (by kernel_rfl) ?_ hS ?_
      rotate_left 1
      · intro V hv; obtain ⟨z0, z1, z2⟩ := HC.out V hv; go_simp; first | done | with_reducible rfl
      try simp only [List.getElem_toArray, List.getElem_cons_zero, List.getElem_cons_succ, Act.put, List.setIfInBounds_toArray, List.set_cons_zero, List.set_cons_succ]
      refine Ord.Till.take' 12 (some 23) (oi := _) (x := ?_) rfl rfl (by kernel_rfl) (by kernel_rfl) (by kernel_rfl) (by kernel_rfl) (fun _ _ _ h => h) (by kernel_rfl) ?_ hS ?_
      rotate_left 1
      · intro V hv; obtain ⟨z0, z1, z2⟩ := HC.out V hv; go_simp; first | done | with_reducible rfl
      try simp only [List.getElem_toArray, List.getElem_cons_zero, List.getElem_cons_succ, Act.put, List.setIfInBounds_toArray, List.set_cons_zero, List.set_cons_succ]
      refine Ord.Till.take' 13 (some 24) (oi := _) (x := ?_) rfl rfl (by kernel_rfl) (by kernel_rfl) (by kernel_rfl) (by kernel_rfl) (fun _ _ _ h => h) (by kernel_rfl) ?_ hS ?_
      rotate_left 1
      · intro V hv; obtain ⟨z0, z1, z2⟩ := HC.out V hv; go_simp; first | done | with_reducible rfl
      try simp only [List.getElem_toArray, List.getElem_cons_zero, List.getElem_cons_succ, Act.put, List.setIfInBounds_toArray, List.set_cons_zero, List.set_cons_succ]
      refine Ord.Till.take' 14 (some 25) (oi := _) (x := ?_) rfl rfl (by kernel_rfl) (by kernel_rfl) (by kernel_rfl) (by kernel_rfl) (fun _ _ _ h => h) (by kernel_rfl) ?_ hS ?_
      rotate_left 1
      · intro V hv; obtain ⟨z0, z1, z2⟩ := HC.out V hv; go_simp; first | done | with_reducible rfl
      try simp only [List.getElem_toArray, List.getElem_cons_zero, List.getElem_cons_succ, Act.put, List.setIfInBounds_toArray, List.set_cons_zero, List.set_cons_succ]
      refine Ord.Till.take' 15 (some 26) (oi := _) (x := ?_) rfl rfl (by kernel_rfl) (by kernel_rfl) (by kernel_rfl) (by kernel_rfl) (fun _ _ _ h => h) (by kernel_rfl) ?_ hS ?_
      rotate_left 1
      · intro V hv; obtain ⟨z0, z1, z2⟩ := HC.out V hv; go_simp; first | done | with_reducible rfl
      try simp only [List.getElem_toArray, List.getElem_cons_zero, List.getElem_cons_succ, Act.put, List.setIfInBounds_toArray, List.set_cons_zero, List.set_cons_succ]
      refine Ord.Till.take' 16 (some 27) (oi := _) (x := ?_) rfl rfl (by kernel_rfl) (by kernel_rfl) (by kernel_rfl) (by kernel_rfl) (fun _ _ _ h => h) (by kernel_rfl) ?_ hS ?_
      rotate_left 1
      · intro V hv; obtain ⟨z0, z1, z2⟩ := HC.out V hv; go_simp; first | done | with_reducible rfl
      try simp only [List.getElem_toArray, List.getElem_cons_zero, List.getElem_cons_succ, Act.put, List.setIfInBounds_toArray, List.set_cons_zero, List.set_cons_succ]
      have hO1 : Cel.Own 35 3 (wr.alloc (.cells #[.string x0, .int .i64 x1, .int .i64 x2] 35)).drew w.heap.size (.slice A1 k c1) k (scells (l.take k)) := hO.out.alloc _
      have hn1 := heap_alloc_new wr (.cells #[.string x0, .int .i64 x1, .int .i64 x2] 35)
      have hS1 : Below w.heap.size w (wr.alloc (.cells #[.string x0, .int .i64 x1, .int .i64 x2] 35)).drew := (hb.alloc hbs _).drew
      have hz1 : wr.heap.size < (wr.alloc (.cells #[.string x0, .int .i64 x1, .int .i64 x2] 35)).drew.heap.size := by simp
      have hn1 : (wr.alloc (.cells #[.string x0, .int .i64 x1, .int .i64 x2] 35)).drew.heap[wr.heap.size]? = _ := hn1
      refine Ord.Till.step 17 (by kernel_rfl) rfl (fun C hC => ?_)
      go_simp
      refine hC.out _ _ (fun _ => hS1) ?_
      clear hC C
      try simp only [List.getElem_toArray, List.getElem_cons_zero, List.getElem_cons_succ, Act.put, List.setIfInBounds_toArray, List.set_cons_zero, List.set_cons_succ]
      generalize (wr.alloc (.cells #[.string x0, .int .i64 x1, .int .i64 x2] 35)).drew = w1 at *
      refine Ord.Till.step 18 (by kernel_rfl) rfl (fun C hC => ?_)
      refine Cel.step_app kT w1 w.heap.size (.slice A1 k c1) k _ hO1 (by omega) ⟨wr.heap.size, 0, none⟩ 1 1 [.string x0, .int .i64 x1, .int .i64 x2] rfl (by intro u hu; simp at hu; rcases hu with rfl | rfl | rfl <;> rfl) (fun j u hj => ?_) (by omega) (by omega) (by rfl) _ _ (by rfl) (by rfl) (by rfl) ?_
      · have ha : (⟨wr.heap.size, 0, none⟩ : Addr).add j = ⟨wr.heap.size, j, none⟩ := by unfold Addr.add; split <;> simp_all
        rw [ha, cell_of_row _ wr.heap.size j _ _ _ hn1, ← Array.getElem?_toList]
        exact hj
      intro v2 w2 ho2 hb2 _ _
      obtain ⟨A2, c2, rfl, _⟩ := ho2.reads
      have hS2 := hS1.trans hb2
      have HO2 : Hid (Cel.Own 35 3 w2 w.heap.size (.slice A2 (k + 1) c2) (k + 1) (scells (l.take (k + 1)))) := hid (by rw [HT.out]; exact ho2)
      clear ho2 hb2 hS1 hO1 hn1
      refine hC.out _ _ (fun _ => hS2) ?_
      clear hC C
      try simp only [List.getElem_toArray, List.getElem_cons_zero, List.getElem_cons_succ, Act.put, List.setIfInBounds_toArray, List.set_cons_zero, List.set_cons_succ]
      refine Ord.Till.step 19 (by kernel_rfl) rfl (fun C hC => ?_)
      go_simp
      refine hC.out _ _ (fun _ => hS2) ?_
      clear hC C
      try simp only [List.getElem_toArray, List.getElem_cons_zero, List.getElem_cons_succ, Act.put, List.setIfInBounds_toArray, List.set_cons_zero, List.set_cons_succ]
      refine Ord.Till.done (by kernel_rfl) ?_ _
      go_wp2_with fail
      go_roundw
      · exact ⟨k + 1, c2, A2, rfl, by go_num, by omega, HO2, hS2⟩
      · simp [intOf]; omega
    · obtain rfl : k = n := by omega
      have hki : ¬ (k : Int) < (k : Int) := by omega
      have HT : Hid (l.take k = l) := hid (List.take_of_length_le (by omega))
      rw [HT.out] at hO
      go_wp2_with fail
      go_ret
      unfold SltP OwT
      rw [Hl]
      exact ⟨A1, c1, rfl, hO.out, hb⟩
end Go.Proofs.Ytcaepgggffkjpaa.Cmn
