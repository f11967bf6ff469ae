/-
  armap: entries in memory; the reference's Word and Number.
-/
import Derived.Test.YtlooblgdlfheaaaAa
import Derived.Test.YtlooblgdlfheaaaOa
import Derived.Laws.StructEq
import Derived.BigQuiet
namespace Go.Proofs.Ytlooblgdlfheaaa.Amp
open Go.RowKit Go.Proofs Go.Proofs.Ytlooblgdlfheaaa.Byt
open Go.Proofs.Ytlooblgdlfheaaa.Sls (Oth Fr blk)

def En.val (x : En) : Value := .agg #[.string x.name, .int .i64 x.off]
def ecells : List En → List Value
  | [] => []
  | x :: r => [.string x.name, .int .i64 x.off] ++ ecells r
theorem ecells_append : ∀ a b : List En, ecells (a ++ b) = ecells a ++ ecells b
  | [], b => rfl
  | x :: r, b => by rw [List.cons_append, ecells, ecells_append r b, ecells, List.append_assoc]
theorem ecells_length : ∀ a : List En, (ecells a).length = a.length * 2
  | [] => rfl
  | x :: r => by rw [ecells, List.length_append, ecells_length r, List.length_cons]; simp; omega
theorem ecells_at : ∀ (a : List En) (k : Nat) (h : k < a.length), (ecells a)[k * 2]? = some (.string a[k].name) ∧ (ecells a)[k * 2 + 1]? = some (.int .i64 a[k].off)
  | x :: r, 0, _ => by simp [ecells]
  | x :: r, k + 1, h => by
    have ih := ecells_at r k (by simpa using h)
    have e : ∀ j, (ecells (x :: r))[(k + 1) * 2 + j]? = (ecells r)[k * 2 + j]? := fun j => by
      rw [ecells, List.getElem?_append_right (by simp; omega)]
      congr 1
      simp
      omega
    have e0 := e 0
    rw [Nat.add_zero, Nat.add_zero] at e0
    rw [e0, e 1]
    simpa using ih
theorem ecells_one : ∀ xs : List En, ∀ u ∈ ecells xs, u.oneCell' = true
  | [], u, h => by simp [ecells] at h
  | x :: xs, u, h => by
    unfold ecells at h
    simp only [List.cons_append, List.nil_append, List.mem_cons] at h
    rcases h with rfl | rfl | h
    · rfl
    · rfl
    · exact ecells_one xs u h
theorem kE : Cel.Kind 22 40 2 24 (.agg #[.string ⟨#[]⟩, .int .i64 0]) := ⟨by kernel_rfl, by kernel_rfl, by kernel_rfl, by decide⟩
/-- The two cells of an entry. -/
def ECells (w : World) (b o : Nat) (x : En) : Prop := w.cell? ⟨b, o, none⟩ = some (.string x.name) ∧ w.cell? ⟨b, o + 1, none⟩ = some (.int .i64 x.off)
theorem ECells.below {w w' : World} {K b o : Nat} {x : En} (h : ECells w b o x) (hb : Below K w w') (hl : b < K) : ECells w' b o x := by
  obtain ⟨h0, h1⟩ := h
  exact ⟨(hb.cell (p := ⟨b, o, none⟩) hl).trans h0, (hb.cell (p := ⟨b, o + 1, none⟩) hl).trans h1⟩
def RdE (w : World) (K : Nat) (A : Option Addr) (n : Nat) (xs : List En) : Prop :=
  xs.length = n ∧ ∀ k (h : k < xs.length), ∃ b o : Nat, A = some ⟨b, o, none⟩ ∧ b < K ∧ ECells w b (o + k * 2) xs[k]
theorem RdE.below {w w' : World} {K n : Nat} {A : Option Addr} {xs : List En} (h : RdE w K A n xs) (hb : Below K w w') : RdE w' K A n xs :=
  ⟨h.1, fun k hk => by
    obtain ⟨b, o, e, hl, hc⟩ := h.2 k hk
    exact ⟨b, o, e, hl, hc.below hb hl⟩⟩
theorem RdE.more {w : World} {K K' n : Nat} {A : Option Addr} {xs : List En} (h : RdE w K A n xs) (hK : K ≤ K') : RdE w K' A n xs :=
  ⟨h.1, fun k hk => by
    obtain ⟨b, o, e, hl, hc⟩ := h.2 k hk
    exact ⟨b, o, e, by omega, hc⟩⟩
theorem RdE.nil (w : World) (K : Nat) (A : Option Addr) : RdE w K A 0 [] := ⟨rfl, fun k hk => absurd hk (by simp)⟩
theorem RdE.pre {w : World} {K n m : Nat} {A : Option Addr} {xs : List En} (h : RdE w K A n xs) (hm : m ≤ n) : RdE w K A m (xs.take m) := by
  refine ⟨by rw [List.length_take, h.1]; omega, fun j hj => ?_⟩
  rw [List.length_take] at hj
  rw [List.getElem_take]
  exact h.2 j (by omega)
theorem RdE.cel {w : World} {K n : Nat} {A : Option Addr} {xs : List En} (h : RdE w K A n xs) : Cel.Rd w K A n 2 (ecells xs) := by
  refine ⟨by rw [ecells_length, h.1], fun j hj => ?_⟩
  rw [ecells_length] at hj
  have hq : j / 2 < xs.length := by omega
  obtain ⟨b, o, e, hb, c0, c1⟩ := h.2 (j / 2) hq
  obtain ⟨m0, m1⟩ := ecells_at xs (j / 2) hq
  refine ⟨b, o, e, hb, ?_⟩
  have hm : j % 2 = 0 ∨ j % 2 = 1 := by omega
  rcases hm with hm | hm
  · have e1 : j / 2 * 2 = j := by omega
    rw [e1] at c0 m0
    rw [c0, ← m0, List.getElem?_eq_getElem (by rw [ecells_length]; omega)]
  · have e1 : j / 2 * 2 + 1 = j := by omega
    rw [e1] at m1
    rw [Nat.add_assoc, e1] at c1
    rw [c1, ← m1, List.getElem?_eq_getElem (by rw [ecells_length]; omega)]
theorem rde_cel {w : World} {K n : Nat} {A : Option Addr} {xs : List En} (h : Cel.Rd w K A n 2 (ecells xs)) : RdE w K A n xs := by
  have hl : xs.length = n := by have := h.1; rw [ecells_length] at this; omega
  refine ⟨hl, fun k hk => ?_⟩
  obtain ⟨q0, q1⟩ := ecells_at xs k hk
  have key : ∀ j v, (ecells xs)[k * 2 + j]? = some v → ∃ b o : Nat, A = some ⟨b, o, none⟩ ∧ b < K ∧ w.cell? ⟨b, o + k * 2 + j, none⟩ = some v := fun j v hv => by
    obtain ⟨hj, e⟩ := List.getElem?_eq_some_iff.1 hv
    obtain ⟨b, o, e2, hb, hc⟩ := h.2 (k * 2 + j) hj
    exact ⟨b, o, e2, hb, by rw [Nat.add_assoc, hc, e]⟩
  obtain ⟨b, o, rfl, hb, k0⟩ := key 0 _ q0
  obtain ⟨b1, o1, e1, _, k1⟩ := key 1 _ q1
  cases e1
  exact ⟨b, o, rfl, hb, k0, k1⟩
theorem rde_own {w : World} {K n c : Nat} {A : Option Addr} {xs : List En} (h : Cel.Own 40 2 w K (.slice A n c) n (ecells xs)) : RdE w w.heap.size A n xs := by
  obtain ⟨A', c', e, hr, _⟩ := h.reads
  injection e with e1 _ e3
  subst e1 e3
  exact rde_cel hr

theorem get_list (s : ByteArray) (i : Nat) (b : UInt8) (h : s.data.toList[i]? = some b) : s.get! i = b := by
  obtain ⟨⟨l⟩⟩ := s
  simp only at h
  obtain ⟨h1, h2⟩ := List.getElem?_eq_some_iff.1 h
  subst h2
  show (Array.mk l)[i]! = _
  simp [getElem!_pos, h1]

/-- The bytes of one rune beyond ASCII. -/
theorem str_eq {x y : ByteArray} : x.toList = y.toList ↔ x = y := by
  constructor
  · intro h
    rw [ByteArray.toList_eq, ByteArray.toList_eq] at h
    cases x; cases y
    simp only at h
    have := congrArg List.toArray h
    simpa using this
  · rintro rfl; rfl
theorem ent_under : Try.prog.underlying 40 = some (.struct (Try.prog.fieldsOf 40)) := by kernel_rfl
theorem ent_held : Try.prog.stoodInHeld 40 = false := by kernel_rfl
theorem ent_guard : Try.prog.eqGuardType Try.prog.depth 40 = false := by kernel_rfl
theorem guard_ent (op : BinOp) (X Y : Operand) (xs ys : Array Value) (w : World) : (eqGuard op 40 X Y (.agg xs) (.agg ys)).run Try.prog w = .ok () w := run_eqGuard_agg w op _ X Y xs ys ent_guard
/-- Whether two entries are one. -/
def En.eq (x y : En) : Bool := (x.name.toList == y.name.toList) && (x.off == y.off)
theorem En.eq_iff {x y : En} : x.eq y = true ↔ x = y := by
  unfold En.eq
  rw [Bool.and_eq_true, beq_iff_eq, beq_iff_eq, str_eq]
  constructor
  · rintro ⟨h1, h2⟩
    cases x; cases y
    simp only at h1 h2
    subst h1 h2
    rfl
  · rintro rfl
    exact ⟨rfl, rfl⟩
theorem equal_ent (x0 y0 : ByteArray) (x1 y1 : Int) (w : World) :
    (Op.equalIn 10000 40 (.agg #[.string x0, .int .i64 x1]) (.agg #[.string y0, .int .i64 y1])).run Try.prog w = .ok (En.eq ⟨x0, x1⟩ ⟨y0, y1⟩) w := by
  have u3 := Try.underlying3
  have u9 := Try.underlying9
  rw [show (10000 : Nat) = 9999 + 1 from rfl, run_equalIn_agg w 9999 40 _ _ ent_under ent_held]
  simp only [Program.fieldsOf, Try.underlying40]
  unfold En.eq
  go_simp
  by_cases h0 : x0.toList = y0.toList <;> by_cases h1 : x1 = y1 <;> simp [h0, h1]
theorem neq_ent (x0 y0 : ByteArray) (x1 y1 : Int) (w : World) :
    (binOp .neq 40 (.agg #[.string x0, .int .i64 x1]) (.agg #[.string y0, .int .i64 y1])).run Try.prog w = .ok (.bool (!En.eq ⟨x0, x1⟩ ⟨y0, y1⟩)) w := by
  rw [run_neq_struct, equal_ent]
  rfl
def sameE : List En → List En → Bool
  | [], [] => true
  | x :: a, y :: b => x.eq y && sameE a b
  | _, _ => false
theorem sameE_len : ∀ {a b : List En}, sameE a b = true → a.length = b.length
  | [], [], _ => rfl
  | x :: a, y :: b, h => by
    unfold sameE at h
    rw [Bool.and_eq_true] at h
    rw [List.length_cons, List.length_cons, sameE_len h.2]
  | [], _ :: _, h => by cases h
  | _ :: _, [], h => by cases h
theorem sameE_eq : ∀ {a b : List En}, sameE a b = true ↔ a = b
  | [], [] => by simp [sameE]
  | x :: a, y :: b => by
    unfold sameE
    rw [Bool.and_eq_true, En.eq_iff, sameE_eq, List.cons.injEq]
  | [], _ :: _ => by simp [sameE]
  | _ :: _, [] => by simp [sameE]
/-- A literal's row is the call's own. -/
theorem Own.row (w : World) (K n : Nat) (l : List UInt8) (cs : Array Value) (h : cs = (enc l).toArray) (hl : l.length = n) (hK : K ≤ w.heap.size) (hn : n ≤ 1000000) :
    Byt.Own (w.alloc (.cells cs 5)) K (.slice (some ⟨w.heap.size, 0, none⟩) n n) n l := by
  subst h
  refine ⟨hl, .inr ⟨w.heap.size, n, _, (0, 0), rfl, hK, heap_alloc_new w _, Nat.le_refl _, by unfold maxLen; omega, by simp [enc_length, hl], ?_, fun j hj => by simp⟩⟩
  rw [List.take_of_length_le (by simp [enc_length, hl])]

set_option maxRecDepth 100000 in
theorem rword_any (w : World) (z : Nat) (hz : z < 9223372036854775808) :
    Calls Try.prog 19 #[.int .i64 (z : Int)] w fun e w' => ∃ A, e = .returned (.slice A 4 4) ∧ Byt.Own w' w.heap.size (.slice A 4 4) 4 (w4 z) ∧ Below w.heap.size w w' := by
  have he : (#[.int .u8 ((z : Int) / 16777216 % 256), .int .u8 ((z : Int) / 65536 % 256), .int .u8 ((z : Int) / 256 % 256), .int .u8 ((z : Int) % 256)] : Array Value) = (enc (w4 z)).toArray := by
    simp [enc, w4, UInt8.toNat_ofNat']
  have ho := Own.row w w.heap.size 4 (w4 z) _ he rfl (Nat.le_refl _) (by omega)
  have hb0 := (Below.refl w.heap.size w).alloc (Nat.le_refl _) (.cells #[.int .u8 ((z : Int) / 16777216 % 256), .int .u8 ((z : Int) / 65536 % 256), .int .u8 ((z : Int) / 256 % 256), .int .u8 ((z : Int) % 256)] 5)
  clear he
  go_enter Try.func19, Try.ntmps19
  go_wp2_with fail
  go_ret
  exact ⟨_, rfl, ho, hb0⟩

theorem n4_four (l : List UInt8) (h : 4 ≤ l.length) : ∃ a b c d r, l = a :: b :: c :: d :: r ∧ n4 l = ((a.toNat * 256 + b.toNat) * 256 + c.toNat) * 256 + d.toNat := by
  match l, h with
  | a :: b :: c :: d :: r, _ => exact ⟨a, b, c, d, r, rfl, by simp [n4]⟩

set_option maxRecDepth 100000 in
set_option maxHeartbeats 1000000 in
theorem rnumber_any (w : World) (K : Nat) (A : Option Addr) (n c : Nat) (l : List UInt8) (hr : Byt.Rd w K A n l) (h4 : 4 ≤ n) :
    Calls Try.prog 24 #[.slice A n c] w fun e w' => e = .returned (.int .i64 (n4 l : Int)) ∧ ∃ m, w' = w.drewN m := by
  have hl := hr.1
  obtain ⟨a, b, u, d, r, rfl, hn⟩ := n4_four l (by omega)
  obtain ⟨b0, o0, rfl, _, p0⟩ := hr.2 0 (by simp)
  obtain ⟨b1, o1, e1, _, p1⟩ := hr.2 1 (by simp)
  obtain ⟨b2, o2, e2, _, p2⟩ := hr.2 2 (by simp)
  obtain ⟨b3, o3, e3, _, p3⟩ := hr.2 3 (by simp)
  injection e1 with e1; injection e1 with e11 e12; subst e11 e12
  injection e2 with e2; injection e2 with e21 e22; subst e21 e22
  injection e3 with e3; injection e3 with e31 e32; subst e31 e32
  simp only [List.getElem_cons_zero, List.getElem_cons_succ, Nat.add_zero] at p0 p1 p2 p3
  have ha := a.toNat_lt
  have hb := b.toNat_lt
  have hu := u.toNat_lt
  have hd := d.toNat_lt
  have Hn : Hid ((n4 (a :: b :: u :: d :: r) : Int) = (((a.toNat : Int) * 256 + (b.toNat : Int)) * 256 + (u.toNat : Int)) * 256 + (d.toNat : Int)) := hid (by rw [hn]; simp)
  have i0 : (0 : Int) < (n : Int) := by omega
  have i1 : (1 : Int) < (n : Int) := by omega
  have i2 : (2 : Int) < (n : Int) := by omega
  have i3 : (3 : Int) < (n : Int) := by omega
  clear hr hl hn
  go_enter Try.func24, Try.ntmps24
  go_wp2_with fail
  go_quiet (fail)
  go_wp2_with fail
  go_ret
  exact ⟨ret_int Hn.out.symm, nq, rfl⟩

end Go.Proofs.Ytlooblgdlfheaaa.Amp
