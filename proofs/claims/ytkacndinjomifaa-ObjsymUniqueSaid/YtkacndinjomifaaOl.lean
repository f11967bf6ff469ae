/-
  objsym's reference: Word, Number, Few.
-/
import Derived.Test.YtkacndinjomifaaOk
import Derived.Laws.StructEq
namespace Go.Proofs.Ytkacndinjomifaa.Obj
open Go.RowKit Go.Proofs Go.Proofs.Ytkacndinjomifaa.Byt
open Go.Proofs.Ytkacndinjomifaa.Sls (Oth)

/-- A literal's row is the call's own. -/
theorem Own.row (w : World) (K n : Nat) (l : List UInt8) (cs : Array Value) (h : cs = (enc l).toArray) (hl : l.length = n) (hK : K ≤ w.heap.size) (hn : n ≤ 1000000) :
    Byt.Own (w.alloc (.cells cs 5)) K (.slice (some ⟨w.heap.size, 0, none⟩) n n) n l := by
  subst h
  refine ⟨hl, .inr ⟨w.heap.size, n, _, (0, 0), rfl, hK, heap_alloc_new w _, Nat.le_refl _, by unfold maxLen; omega, by simp [enc_length, hl], ?_, fun j hj => by simp⟩⟩
  rw [List.take_of_length_le (by simp [enc_length, hl])]

set_option maxRecDepth 100000 in
theorem rword_any (w : World) (z : Nat) (hz : z < 9223372036854775808) :
    Calls Try.prog 21 #[.int .i64 (z : Int)] w fun e w' => ∃ A, e = .returned (.slice A 4 4) ∧ Byt.Own w' w.heap.size (.slice A 4 4) 4 (w4 z) ∧ Below w.heap.size w w' := by
  have he : (#[.int .u8 ((z : Int) / 16777216 % 256), .int .u8 ((z : Int) / 65536 % 256), .int .u8 ((z : Int) / 256 % 256), .int .u8 ((z : Int) % 256)] : Array Value) = (enc (w4 z)).toArray := by
    simp [enc, w4, UInt8.toNat_ofNat']
  have ho := Own.row w w.heap.size 4 (w4 z) _ he rfl (Nat.le_refl _) (by omega)
  have hb0 := (Below.refl w.heap.size w).alloc (Nat.le_refl _) (.cells #[.int .u8 ((z : Int) / 16777216 % 256), .int .u8 ((z : Int) / 65536 % 256), .int .u8 ((z : Int) / 256 % 256), .int .u8 ((z : Int) % 256)] 5)
  clear he
  go_enter Try.func21, Try.ntmps21
  go_wp2_with fail
  go_ret
  exact ⟨_, rfl, ho, hb0⟩

theorem n4_four (l : List UInt8) (h : 4 ≤ l.length) : ∃ a b c d r, l = a :: b :: c :: d :: r ∧ n4 l = ((a.toNat * 256 + b.toNat) * 256 + c.toNat) * 256 + d.toNat := by
  match l, h with
  | a :: b :: c :: d :: r, _ => exact ⟨a, b, c, d, r, rfl, by simp [n4]⟩

set_option maxRecDepth 100000 in
set_option maxHeartbeats 1000000 in
theorem rnumber_any (w : World) (K : Nat) (A : Option Addr) (n c : Nat) (l : List UInt8) (hr : Byt.Rd w K A n l) (h4 : 4 ≤ n) :
    Calls Try.prog 26 #[.slice A n c] w fun e w' => e = .returned (.int .i64 (n4 l : Int)) ∧ ∃ m, w' = w.drewN m := by
  have hl := hr.1
  obtain ⟨a, b, u, d, r, rfl, hn⟩ := n4_four l (by omega)
  obtain ⟨b0, o0, rfl, _, p0⟩ := hr.2 0 (by simp)
  obtain ⟨b1, o1, e1, _, p1⟩ := hr.2 1 (by simp)
  obtain ⟨b2, o2, e2, _, p2⟩ := hr.2 2 (by simp)
  obtain ⟨b3, o3, e3, _, p3⟩ := hr.2 3 (by simp)
  injection e1 with e1; injection e1 with e11 e12; subst e11 e12
  injection e2 with e2; injection e2 with e21 e22; subst e21 e22
  injection e3 with e3; injection e3 with e31 e32; subst e31 e32
  simp only [List.getElem_cons_zero, List.getElem_cons_succ, Nat.add_zero] at p0 p1 p2 p3
  have ha := a.toNat_lt
  have hb := b.toNat_lt
  have hu := u.toNat_lt
  have hd := d.toNat_lt
  have Hn : Hid ((n4 (a :: b :: u :: d :: r) : Int) = (((a.toNat : Int) * 256 + (b.toNat : Int)) * 256 + (u.toNat : Int)) * 256 + (d.toNat : Int)) := hid (by rw [hn]; simp)
  have i0 : (0 : Int) < (n : Int) := by omega
  have i1 : (1 : Int) < (n : Int) := by omega
  have i2 : (2 : Int) < (n : Int) := by omega
  have i3 : (3 : Int) < (n : Int) := by omega
  clear hr hl hn
  go_enter Try.func26, Try.ntmps26
  go_wp2_with fail
  go_quiet (fail)
  go_wp2_with fail
  go_ret
  exact ⟨ret_int Hn.out.symm, nq, rfl⟩

/-- Whether an object is small. -/
def fewO (xs : List Sy) (m : Nat) : Bool := (xs.take 61).all (fun x => decide (x.name.size ≤ 300)) && (decide (xs.length ≤ 60) && decide (m ≤ 1000))
theorem fewO_iff {xs : List Sy} {m : Nat} : fewO xs m = true ↔ xs.length ≤ 60 ∧ m ≤ 1000 ∧ ∀ x ∈ xs, x.name.size ≤ 300 := by
  unfold fewO
  rw [Bool.and_eq_true, Bool.and_eq_true, decide_eq_true_eq, decide_eq_true_eq, List.all_eq_true]
  constructor
  · rintro ⟨h1, h2, h3⟩
    rw [List.take_of_length_le (by omega)] at h1
    exact ⟨h2, h3, fun x hx => by simpa using h1 x hx⟩
  · rintro ⟨h2, h3, h1⟩
    exact ⟨fun x hx => by simpa using h1 x (List.mem_of_mem_take hx), h2, h3⟩

set_option maxRecDepth 100000 in
set_option maxHeartbeats 2000000 in
theorem rfew_any (K : Nat) (A B : Option Addr) (n c m d : Nat) (xs : List Sy) (w : World) (h : RdS w K A n xs) (hK : K ≤ w.heap.size) :
    Calls Try.prog 9 #[.agg #[.slice A n c, .slice B m d]] w fun e w' => e = .returned (.bool (fewO xs m)) ∧ Below w.heap.size w w' := by
  have Hl := hid h.1
  have hb0 := (Below.refl w.heap.size w).alloc (Nat.le_refl _) (.cells #[.slice A n c, .slice B m d] 25)
  have hrow0 := heap_alloc_new w (.cells #[.slice A n c, .slice B m d] 25)
  have h0 := h.below (hb0.mono hK)
  go_enter Try.func9, Try.ntmps9
  go_wp2_with fail
  generalize w.alloc (.cells #[.slice A n c, .slice B m d] 25) = w0 at *
  go_loopw [3] (fun i W => ∃ k : Nat, i = .int .i64 (k : Int) ∧ k ≤ n ∧ k ≤ 61 ∧ Hid (∀ i (hi : i < xs.length), i < k → xs[i].name.size ≤ 300) ∧ Hid (W = w0)) (fun i _ => 61 - (intOf i).toNat)
  case atStart => exact ⟨0, rfl, by omega, by omega, hid (fun i hi hk => by omega), hid rfl⟩
  case round =>
    obtain ⟨k, rfl, hk, hk61, hG, hw⟩ := hrel
    have hw' := hw.out
    subst hw'
    have q0 := cell_of_row _ w.heap.size 0 _ _ _ hrow0
    have q1 := cell_of_row _ w.heap.size 1 _ _ _ hrow0
    by_cases hlt : k < n
    · have hli : decide ((k : Int) < (n : Int)) = true := by simp; omega
      by_cases h60 : k ≤ 60
      · have h6i : decide ((k : Int) ≤ 60) = true := by simp; omega
        have hkl : k < xs.length := by have := Hl.out; omega
        obtain ⟨⟨b, o, rfl, hbK, hcell⟩, hsz⟩ := h0.2 k hkl
        have HG2 : Hid (xs[k].name.size ≤ 300 → ∀ i (hi : i < xs.length), i < k + 1 → xs[i].name.size ≤ 300) := hid fun hx i hi hk1 => by
          by_cases e : i = k
          · subst e; exact hx
          · exact hG.out i hi (by omega)
        have HF : Hid (300 < xs[k].name.size → fewO xs m = false) := hid fun hx => by
          cases h : fewO xs m with
          | false => rfl
          | true => have := (fewO_iff.1 h).2.2 _ (List.getElem_mem hkl); omega
        generalize xs[k] = x at *
        obtain ⟨x0, x1, x2, x3⟩ := x
        obtain ⟨p0, p1, p2, p3⟩ := hcell
        simp only at HG2 HF
        have hki : (k : Int) < (n : Int) := by omega
        by_cases hx : 300 < x0.size
        · have hxi : (300 : Int) < (x0.size : Int) := by omega
          have HR := hid (HF.out hx)
          go_wp2_with fail
          go_ret
          exact ⟨ret_bool HR.out.symm, hb0⟩
        · have hxi : ¬ (300 : Int) < (x0.size : Int) := by omega
          have HR := hid (HG2.out (by omega))
          go_wp2_with fail
          go_roundw
          · exact ⟨k + 1, by go_num, by omega, by omega, HR, hid trivial⟩
          · simp [intOf]; omega
      · have h6i : decide ((k : Int) ≤ 60) = false := by simp; omega
        have HR : Hid (fewO xs m = false) := hid (by
          cases h : fewO xs m with
          | false => rfl
          | true => have := (fewO_iff.1 h).1; have := Hl.out; omega)
        have hn6 : decide ((n : Int) ≤ 60) = false := by simp; omega
        go_wp2_with fail
        go_ret
        exact ⟨ret_bool HR.out.symm, hb0⟩
    · have hli : decide ((k : Int) < (n : Int)) = false := by simp; omega
      by_cases h60 : n ≤ 60
      · have hn6 : decide ((n : Int) ≤ 60) = true := by simp; omega
        have HR : Hid (fewO xs m = decide ((m : Int) ≤ 1000)) := hid (by
          by_cases q : m ≤ 1000
          · rw [decide_eq_true (show (m : Int) ≤ 1000 by omega), fewO_iff]
            refine ⟨by have := Hl.out; omega, q, fun x hx => ?_⟩
            obtain ⟨i, hi, rfl⟩ := List.getElem_of_mem hx
            exact hG.out i hi (by have := Hl.out; omega)
          · rw [decide_eq_false (show ¬ (m : Int) ≤ 1000 by omega)]
            cases h : fewO xs m with
            | false => rfl
            | true => exact absurd (fewO_iff.1 h).2.1 q)
        go_wp2_with fail
        go_ret
        exact ⟨ret_bool HR.out.symm, hb0⟩
      · have HR : Hid (fewO xs m = false) := hid (by
          cases h : fewO xs m with
          | false => rfl
          | true => have := (fewO_iff.1 h).1; have := Hl.out; omega)
        have hn6 : decide ((n : Int) ≤ 60) = false := by simp; omega
        go_wp2_with fail
        go_ret
        exact ⟨ret_bool HR.out.symm, hb0⟩

theorem sym_under : Try.prog.underlying 38 = some (.struct (Try.prog.fieldsOf 38)) := by kernel_rfl
theorem sym_held : Try.prog.stoodInHeld 38 = false := by kernel_rfl
theorem sym_guard : Try.prog.eqGuardType Try.prog.depth 38 = false := by kernel_rfl
theorem guard_sym (op : BinOp) (X Y : Operand) (xs ys : Array Value) (w : World) : (eqGuard op 38 X Y (.agg xs) (.agg ys)).run Try.prog w = .ok () w := run_eqGuard_agg w op _ X Y xs ys sym_guard
/-- Whether two symbols are one. -/
def Sy.eq (x y : Sy) : Bool := (x.name.toList == y.name.toList) && ((x.bind == y.bind) && ((x.size == y.size) && (x.align == y.align)))
theorem Sy.eq_iff {x y : Sy} : x.eq y = true ↔ x = y := by
  unfold Sy.eq
  rw [Bool.and_eq_true, Bool.and_eq_true, Bool.and_eq_true, beq_iff_eq, beq_iff_eq, beq_iff_eq, beq_iff_eq, str_eq]
  constructor
  · rintro ⟨h1, h2, h3, h4⟩
    cases x; cases y
    simp only at h1 h2 h3 h4
    subst h1 h2 h3 h4
    rfl
  · rintro rfl
    exact ⟨rfl, rfl, rfl, rfl⟩
theorem equal_sym (x0 y0 : ByteArray) (x1 x2 x3 y1 y2 y3 : Int) (w : World) :
    (Op.equalIn 10000 38 (.agg #[.string x0, .int .i64 x1, .int .i64 x2, .int .i64 x3]) (.agg #[.string y0, .int .i64 y1, .int .i64 y2, .int .i64 y3])).run Try.prog w = .ok (Sy.eq ⟨x0, x1, x2, x3⟩ ⟨y0, y1, y2, y3⟩) w := by
  have u3 := Try.underlying3
  have u9 := Try.underlying9
  rw [show (10000 : Nat) = 9999 + 1 from rfl, run_equalIn_agg w 9999 38 _ _ sym_under sym_held]
  simp only [Program.fieldsOf, Try.underlying38]
  unfold Sy.eq
  go_simp
  by_cases h0 : x0.toList = y0.toList <;> by_cases h1 : x1 = y1 <;> by_cases h2 : x2 = y2 <;> by_cases h3 : x3 = y3 <;> simp [h0, h1, h2, h3]

theorem neq_sym (x0 y0 : ByteArray) (x1 x2 x3 y1 y2 y3 : Int) (w : World) :
    (binOp .neq 38 (.agg #[.string x0, .int .i64 x1, .int .i64 x2, .int .i64 x3]) (.agg #[.string y0, .int .i64 y1, .int .i64 y2, .int .i64 y3])).run Try.prog w = .ok (.bool (!Sy.eq ⟨x0, x1, x2, x3⟩ ⟨y0, y1, y2, y3⟩)) w := by
  rw [run_neq_struct, equal_sym]
  rfl
theorem eql_sym (x0 y0 : ByteArray) (x1 x2 x3 y1 y2 y3 : Int) (w : World) :
    (binOp .eql 38 (.agg #[.string x0, .int .i64 x1, .int .i64 x2, .int .i64 x3]) (.agg #[.string y0, .int .i64 y1, .int .i64 y2, .int .i64 y3])).run Try.prog w = .ok (.bool (Sy.eq ⟨x0, x1, x2, x3⟩ ⟨y0, y1, y2, y3⟩)) w := by
  rw [run_eql_struct, equal_sym]
  rfl

def sameS : List Sy → List Sy → Bool
  | [], [] => true
  | x :: a, y :: b => x.eq y && sameS a b
  | _, _ => false

theorem sameS_len : ∀ {a b : List Sy}, sameS a b = true → a.length = b.length
  | [], [], _ => rfl
  | x :: a, y :: b, h => by
    unfold sameS at h
    rw [Bool.and_eq_true] at h
    rw [List.length_cons, List.length_cons, sameS_len h.2]
  | [], _ :: _, h => by cases h
  | _ :: _, [], h => by cases h
theorem sameS_eq : ∀ {a b : List Sy}, sameS a b = true ↔ a = b
  | [], [] => by simp [sameS]
  | x :: a, y :: b => by
    unfold sameS
    rw [Bool.and_eq_true, Sy.eq_iff, sameS_eq, List.cons.injEq]
  | [], _ :: _ => by simp [sameS]
  | _ :: _, [] => by simp [sameS]

set_option maxRecDepth 100000 in
set_option maxHeartbeats 2000000 in
theorem rsame_any (K : Nat) (A B A' B' : Option Addr) (n c m d n' c' m' d' : Nat) (xs ys : List Sy) (bx by_ : List UInt8) (w : World) (h : RdS w K A n xs) (h' : RdS w K A' n' ys) (hB : Byt.Rd w K B m bx) (hB' : Byt.Rd w K B' m' by_) (hK : K ≤ w.heap.size) (hn : n ≤ 140737488355328) (hm : m ≤ 140737488355328) :
    Calls Try.prog 16 #[.agg #[.slice A n c, .slice B m d], .agg #[.slice A' n' c', .slice B' m' d']] w fun e w' => e = .returned (.bool (sameS xs ys && (bx == by_))) ∧ Below w.heap.size w w' := by
  have Hl := hid h.1
  have Hl' := hid h'.1
  have hb0 := ((Below.refl w.heap.size w).alloc (Nat.le_refl _) (.cells #[.slice A n c, .slice B m d] 25)).alloc (by simp) (.cells #[.slice A' n' c', .slice B' m' d'] 25)
  have hrow0 := (Below.heap_alloc _ (.cells #[.slice A' n' c', .slice B' m' d'] 25) w.heap.size (by simp)).trans (heap_alloc_new w (.cells #[.slice A n c, .slice B m d] 25))
  have hrow1 := heap_alloc_new (w.alloc (.cells #[.slice A n c, .slice B m d] 25)) (.cells #[.slice A' n' c', .slice B' m' d'] 25)
  rw [World.size_alloc] at hrow1
  have h0 := h.below (hb0.mono hK)
  have h0' := h'.below (hb0.mono hK)
  have g0 := hB.below (hb0.mono hK)
  have g0' := hB'.below (hb0.mono hK)
  by_cases hne : n = n'
  · subst hne
    have hnb : ((n : Int) != (n : Int)) = false := by simp
    go_enter Try.func16, Try.ntmps16
    go_wp2_with fail
    generalize (w.alloc (.cells #[.slice A n c, .slice B m d] 25)).alloc (.cells #[.slice A' n c', .slice B' m' d'] 25) = w0 at *
    have hKw : K ≤ w0.heap.size := Nat.le_trans hK hb0.size
    go_loopw [5] (fun i W => ∃ k : Nat, i = .int .i64 (k : Int) ∧ k ≤ n ∧ Hid (sameS xs ys = sameS (xs.drop k) (ys.drop k)) ∧ Below w0.heap.size w0 W) (fun i _ => n - (intOf i).toNat)
    case atStart => exact ⟨0, rfl, by omega, hid rfl, Below.refl _ _⟩
    case round =>
      obtain ⟨k, rfl, hk, hG, hb⟩ := hrel
      have hrow0' := (hb.block _ (Array.getElem?_eq_some_iff.1 hrow0).1).trans hrow0
      have hrow1' := (hb.block _ (Array.getElem?_eq_some_iff.1 hrow1).1).trans hrow1
      have q0 := cell_of_row _ w.heap.size 0 _ _ _ hrow0'
      have q1 := cell_of_row _ w.heap.size 1 _ _ _ hrow0'
      have r0 := cell_of_row _ (w.heap.size + 1) 0 _ _ _ hrow1'
      have r1 := cell_of_row _ (w.heap.size + 1) 1 _ _ _ hrow1'
      by_cases hlt : k < n
      · have hkl : k < xs.length := by have := Hl.out; omega
        have hkl' : k < ys.length := by have := Hl'.out; omega
        have hki : (k : Int) < (n : Int) := by omega
        have hR := h0.below (hb.mono hKw)
        have hR' := h0'.below (hb.mono hKw)
        obtain ⟨⟨b, o, rfl, hbK, hcell⟩, hsz⟩ := hR.2 k hkl
        obtain ⟨⟨b', o', rfl, hbK', hcell'⟩, hsz'⟩ := hR'.2 k hkl'
        have HS : Hid (sameS (xs.drop k) (ys.drop k) = (xs[k].eq ys[k] && sameS (xs.drop (k + 1)) (ys.drop (k + 1)))) := hid (by rw [List.drop_eq_getElem_cons hkl, List.drop_eq_getElem_cons hkl']; rfl)
        generalize xs[k] = x at *
        generalize ys[k] = y at *
        obtain ⟨x0, x1, x2, x3⟩ := x
        obtain ⟨y0, y1, y2, y3⟩ := y
        obtain ⟨p0, p1, p2, p3⟩ := hcell
        obtain ⟨s0, s1, s2, s3⟩ := hcell'
        have hgd := guard_sym
        have hne := neq_sym
        go_wp2_with fail
        go_region_held3 (fun W' => W'.cell? ⟨w.heap.size, 0, none⟩ = some (.slice (some ⟨b, o, none⟩) n c) ∧ W'.cell? ⟨w.heap.size + 1, 0, none⟩ = some (.slice (some ⟨b', o', none⟩) n c') ∧ W'.cell? ⟨b, o + k * 4, none⟩ = some (.string x0) ∧ W'.cell? ⟨b, o + k * 4 + 1, none⟩ = some (.int .i64 x1) ∧ W'.cell? ⟨b, o + k * 4 + 2, none⟩ = some (.int .i64 x2) ∧ W'.cell? ⟨b, o + k * 4 + 3, none⟩ = some (.int .i64 x3) ∧ W'.cell? ⟨b', o' + k * 4, none⟩ = some (.string y0) ∧ W'.cell? ⟨b', o' + k * 4 + 1, none⟩ = some (.int .i64 y1) ∧ W'.cell? ⟨b', o' + k * 4 + 2, none⟩ = some (.int .i64 y2) ∧ W'.cell? ⟨b', o' + k * 4 + 3, none⟩ = some (.int .i64 y3) ∧ Below wr.heap.size wr W')
          (exact ⟨q0, r0, p0, p1, p2, p3, s0, s1, s2, s3, (Below.refl _ _).drew⟩)
          (fail)
        clear hgd hne
        cases hq : Sy.eq ⟨x0, x1, x2, x3⟩ ⟨y0, y1, y2, y3⟩
        · have HR : Hid (sameS xs ys = false) := hid (by rw [hG.out, HS.out, hq]; rfl)
          go_wp2_with fail
          go_ret
          exact ⟨ret_bool (by rw [HR.out]; rfl), hb0.trans ((hb.mono hb0.size).drew)⟩
        · have HR : Hid (sameS xs ys = sameS (xs.drop (k + 1)) (ys.drop (k + 1))) := hid (by rw [hG.out, HS.out, hq]; rfl)
          go_wp2_with fail
          go_roundw
          · exact ⟨k + 1, by go_num, by omega, HR, hb.drew⟩
          · simp [intOf]; omega
      · obtain rfl : k = n := by omega
        have HR : Hid (sameS xs ys = true) := hid (by rw [hG.out, List.drop_eq_nil_of_le (by have := Hl.out; omega), List.drop_eq_nil_of_le (by have := Hl'.out; omega)]; rfl)
        have HB := hid (Dec.same_any 15 rfl K K B B' m d m' d' bx by_ wr (g0.below (hb.mono hKw)) (g0'.below (hb.mono hKw)) hm)
        go_wp2_with fail
        refine HB.out.mono ?_
        rintro e w1 ⟨rfl, nm, rfl⟩
        go_wp2_with fail
        go_ret
        exact ⟨ret_bool (by rw [HR.out]; rfl), (hb0.trans (hb.mono hb0.size)).trans (below_drewN _ _)⟩
  · have hnb : ((n : Int) != (n' : Int)) = true := by simp; omega
    have HR : Hid (sameS xs ys = false) := hid (by
      cases h : sameS xs ys with
      | false => rfl
      | true => exact absurd (sameS_len h) (by rw [Hl.out, Hl'.out]; exact hne))
    go_enter Try.func16, Try.ntmps16
    go_wp2_with fail
    go_ret
    exact ⟨ret_bool (by rw [HR.out]; rfl), hb0⟩
end Go.Proofs.Ytkacndinjomifaa.Obj
