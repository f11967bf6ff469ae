/-
  armap: the encoding of archive maps (mathematics, no program in it).
  armap: entries in memory; the reference's Word and Number.
-/
import Derived.Test.YtpedngfmjhpojaaGreatDoorZMa
import Derived.Test.YtpedngfmjhpojaaGreatDoorZOa
import Derived.Laws.StructEq
import Derived.BigQuiet
namespace Go.Proofs.YtpedngfmjhpojaaGreatDoor.Amp

/-- Four bytes, the most significant one first; and back. -/
def w4 (n : Nat) : List UInt8 := [UInt8.ofNat (n / 16777216), UInt8.ofNat (n / 65536), UInt8.ofNat (n / 256), UInt8.ofNat n]
def n4 (l : List UInt8) : Nat := (l.take 4).foldl (fun n c => n * 256 + c.toNat) 0
theorem w4_length (n : Nat) : (w4 n).length = 4 := rfl
theorem len_list (s : ByteArray) : s.data.toList.length = s.size := rfl

/-- An entry. -/
structure En where
  name : ByteArray
  off : Int
def nmOk (l : List UInt8) : Bool := decide (l ≠ []) && !l.contains 0
def enOk (x : En) : Bool := nmOk x.name.data.toList && (decide (0 ≤ x.off) && decide (x.off ≤ 4294967295))
theorem nmOk_iff {l : List UInt8} : nmOk l = true ↔ l ≠ [] ∧ (0 : UInt8) ∉ l := by simp [nmOk]
theorem enOk_iff {x : En} : enOk x = true ↔ nmOk x.name.data.toList = true ∧ 0 ≤ x.off ∧ x.off ≤ 4294967295 := by simp [enOk]
/-- The offsets, the names, the encoding. -/
def encF (l : List En) : List UInt8 := l.flatMap fun x => w4 x.off.toNat
def encN (l : List (List UInt8)) : List UInt8 := l.flatMap fun s => s ++ [0]
def nmsE (l : List En) : List (List UInt8) := l.map fun x => x.name.data.toList
def encA (l : List En) : List UInt8 := w4 l.length ++ (encF l ++ encN (nmsE l))
def fitA (l : List En) : Bool := l.all enOk
theorem encF_length : ∀ l : List En, (encF l).length = 4 * l.length
  | [] => rfl
  | x :: r => by
    show (w4 x.off.toNat ++ encF r).length = _
    rw [List.length_append, encF_length r, w4_length, List.length_cons]
    omega
theorem encN_append (a b : List (List UInt8)) : encN (a ++ b) = encN a ++ encN b := by simp [encN]
theorem encF_append (a b : List En) : encF (a ++ b) = encF a ++ encF b := by simp [encF]
theorem encN_cons (s : List UInt8) (r : List (List UInt8)) : encN (s :: r) = s ++ ([0] ++ encN r) := by simp [encN]
/-- How long the names are. -/
def szN (l : List (List UInt8)) : Nat := (l.map fun s => s.length + 1).sum
theorem encN_length : ∀ l, (encN l).length = szN l
  | [] => rfl
  | s :: r => by
    rw [encN_cons, List.length_append, List.length_append, encN_length r]
    simp [szN]
    omega
theorem encA_length (l : List En) : (encA l).length = 4 + 4 * l.length + szN (nmsE l) := by
  unfold encA
  rw [List.length_append, List.length_append, w4_length, encF_length, encN_length]
  omega
theorem fitA_iff {l : List En} : fitA l = true ↔ ∀ x ∈ l, enOk x = true := by simp [fitA]
theorem nmsE_length (l : List En) : (nmsE l).length = l.length := by simp [nmsE]
end Go.Proofs.YtpedngfmjhpojaaGreatDoor.Amp

namespace Go.Proofs.YtpedngfmjhpojaaGreatDoor.Amp
open Go.RowKit Go.Proofs Go.Proofs.YtpedngfmjhpojaaGreatDoor.Byt
open Go.Proofs.YtpedngfmjhpojaaGreatDoor.Sls (Oth Fr blk)

def En.val (x : En) : Value := .agg #[.string x.name, .int .i64 x.off]
def ecells : List En → List Value
  | [] => []
  | x :: r => [.string x.name, .int .i64 x.off] ++ ecells r
theorem ecells_append : ∀ a b : List En, ecells (a ++ b) = ecells a ++ ecells b
  | [], b => rfl
  | x :: r, b => by rw [List.cons_append, ecells, ecells_append r b, ecells, List.append_assoc]
theorem ecells_length : ∀ a : List En, (ecells a).length = a.length * 2
  | [] => rfl
  | x :: r => by rw [ecells, List.length_append, ecells_length r, List.length_cons]; simp; omega
theorem ecells_at : ∀ (a : List En) (k : Nat) (h : k < a.length), (ecells a)[k * 2]? = some (.string a[k].name) ∧ (ecells a)[k * 2 + 1]? = some (.int .i64 a[k].off)
  | x :: r, 0, _ => by simp [ecells]
  | x :: r, k + 1, h => by
    have ih := ecells_at r k (by simpa using h)
    have e : ∀ j, (ecells (x :: r))[(k + 1) * 2 + j]? = (ecells r)[k * 2 + j]? := fun j => by
      rw [ecells, List.getElem?_append_right (by simp; omega)]
      congr 1
      simp
      omega
    have e0 := e 0
    rw [Nat.add_zero, Nat.add_zero] at e0
    rw [e0, e 1]
    simpa using ih
theorem kE : Cel.Kind 26 51 2 24 (.agg #[.string ⟨#[]⟩, .int .i64 0]) := ⟨by kernel_rfl, by kernel_rfl, by kernel_rfl, by decide⟩
/-- The two cells of an entry. -/
def ECells (w : World) (b o : Nat) (x : En) : Prop := w.cell? ⟨b, o, none⟩ = some (.string x.name) ∧ w.cell? ⟨b, o + 1, none⟩ = some (.int .i64 x.off)
theorem ECells.below {w w' : World} {K b o : Nat} {x : En} (h : ECells w b o x) (hb : Below K w w') (hl : b < K) : ECells w' b o x := by
  obtain ⟨h0, h1⟩ := h
  exact ⟨(hb.cell (p := ⟨b, o, none⟩) hl).trans h0, (hb.cell (p := ⟨b, o + 1, none⟩) hl).trans h1⟩
def RdE (w : World) (K : Nat) (A : Option Addr) (n : Nat) (xs : List En) : Prop :=
  xs.length = n ∧ ∀ k (h : k < xs.length), ∃ b o : Nat, A = some ⟨b, o, none⟩ ∧ b < K ∧ ECells w b (o + k * 2) xs[k]
theorem RdE.below {w w' : World} {K n : Nat} {A : Option Addr} {xs : List En} (h : RdE w K A n xs) (hb : Below K w w') : RdE w' K A n xs :=
  ⟨h.1, fun k hk => by
    obtain ⟨b, o, e, hl, hc⟩ := h.2 k hk
    exact ⟨b, o, e, hl, hc.below hb hl⟩⟩
theorem RdE.more {w : World} {K K' n : Nat} {A : Option Addr} {xs : List En} (h : RdE w K A n xs) (hK : K ≤ K') : RdE w K' A n xs :=
  ⟨h.1, fun k hk => by
    obtain ⟨b, o, e, hl, hc⟩ := h.2 k hk
    exact ⟨b, o, e, by omega, hc⟩⟩
theorem RdE.nil (w : World) (K : Nat) (A : Option Addr) : RdE w K A 0 [] := ⟨rfl, fun k hk => absurd hk (by simp)⟩
theorem RdE.pre {w : World} {K n m : Nat} {A : Option Addr} {xs : List En} (h : RdE w K A n xs) (hm : m ≤ n) : RdE w K A m (xs.take m) := by
  refine ⟨by rw [List.length_take, h.1]; omega, fun j hj => ?_⟩
  rw [List.length_take] at hj
  rw [List.getElem_take]
  exact h.2 j (by omega)
theorem RdE.cel {w : World} {K n : Nat} {A : Option Addr} {xs : List En} (h : RdE w K A n xs) : Cel.Rd w K A n 2 (ecells xs) := by
  refine ⟨by rw [ecells_length, h.1], fun j hj => ?_⟩
  rw [ecells_length] at hj
  have hq : j / 2 < xs.length := by omega
  obtain ⟨b, o, e, hb, c0, c1⟩ := h.2 (j / 2) hq
  obtain ⟨m0, m1⟩ := ecells_at xs (j / 2) hq
  refine ⟨b, o, e, hb, ?_⟩
  have hm : j % 2 = 0 ∨ j % 2 = 1 := by omega
  rcases hm with hm | hm
  · have e1 : j / 2 * 2 = j := by omega
    rw [e1] at c0 m0
    rw [c0, ← m0, List.getElem?_eq_getElem (by rw [ecells_length]; omega)]
  · have e1 : j / 2 * 2 + 1 = j := by omega
    rw [e1] at m1
    rw [Nat.add_assoc, e1] at c1
    rw [c1, ← m1, List.getElem?_eq_getElem (by rw [ecells_length]; omega)]
theorem rde_cel {w : World} {K n : Nat} {A : Option Addr} {xs : List En} (h : Cel.Rd w K A n 2 (ecells xs)) : RdE w K A n xs := by
  have hl : xs.length = n := by have := h.1; rw [ecells_length] at this; omega
  refine ⟨hl, fun k hk => ?_⟩
  obtain ⟨q0, q1⟩ := ecells_at xs k hk
  have key : ∀ j v, (ecells xs)[k * 2 + j]? = some v → ∃ b o : Nat, A = some ⟨b, o, none⟩ ∧ b < K ∧ w.cell? ⟨b, o + k * 2 + j, none⟩ = some v := fun j v hv => by
    obtain ⟨hj, e⟩ := List.getElem?_eq_some_iff.1 hv
    obtain ⟨b, o, e2, hb, hc⟩ := h.2 (k * 2 + j) hj
    exact ⟨b, o, e2, hb, by rw [Nat.add_assoc, hc, e]⟩
  obtain ⟨b, o, rfl, hb, k0⟩ := key 0 _ q0
  obtain ⟨b1, o1, e1, _, k1⟩ := key 1 _ q1
  cases e1
  exact ⟨b, o, rfl, hb, k0, k1⟩
theorem rde_own {w : World} {K n c : Nat} {A : Option Addr} {xs : List En} (h : Cel.Own 51 2 w K (.slice A n c) n (ecells xs)) : RdE w w.heap.size A n xs := by
  obtain ⟨A', c', e, hr, _⟩ := h.reads
  injection e with e1 _ e3
  subst e1 e3
  exact rde_cel hr

/-- The bytes of one rune beyond ASCII. -/
theorem str_eq {x y : ByteArray} : x.toList = y.toList ↔ x = y := by
  constructor
  · intro h
    rw [ByteArray.toList_eq, ByteArray.toList_eq] at h
    cases x; cases y
    simp only at h
    have := congrArg List.toArray h
    simpa using this
  · rintro rfl; rfl
theorem ent_under : Tryz.prog.underlying 51 = some (.struct (Tryz.prog.fieldsOf 51)) := by kernel_rfl
theorem ent_held : Tryz.prog.stoodInHeld 51 = false := by kernel_rfl
theorem ent_guard : Tryz.prog.eqGuardType Tryz.prog.depth 51 = false := by kernel_rfl
theorem guard_ent (op : BinOp) (X Y : Operand) (xs ys : Array Value) (w : World) : (eqGuard op 51 X Y (.agg xs) (.agg ys)).run Tryz.prog w = .ok () w := run_eqGuard_agg w op _ X Y xs ys ent_guard
/-- Whether two entries are one. -/
def En.eq (x y : En) : Bool := (x.name.toList == y.name.toList) && (x.off == y.off)
theorem En.eq_iff {x y : En} : x.eq y = true ↔ x = y := by
  unfold En.eq
  rw [Bool.and_eq_true, beq_iff_eq, beq_iff_eq, str_eq]
  constructor
  · rintro ⟨h1, h2⟩
    cases x; cases y
    simp only at h1 h2
    subst h1 h2
    rfl
  · rintro rfl
    exact ⟨rfl, rfl⟩
theorem equal_ent (x0 y0 : ByteArray) (x1 y1 : Int) (w : World) :
    (Op.equalIn 10000 51 (.agg #[.string x0, .int .i64 x1]) (.agg #[.string y0, .int .i64 y1])).run Tryz.prog w = .ok (En.eq ⟨x0, x1⟩ ⟨y0, y1⟩) w := by
  have u3 := Tryz.underlying3
  have u9 := Tryz.underlying9
  rw [show (10000 : Nat) = 9999 + 1 from rfl, run_equalIn_agg w 9999 51 _ _ ent_under ent_held]
  simp only [Program.fieldsOf, Tryz.underlying51]
  unfold En.eq
  go_simp
  by_cases h0 : x0.toList = y0.toList <;> by_cases h1 : x1 = y1 <;> simp [h0, h1]
theorem neq_ent (x0 y0 : ByteArray) (x1 y1 : Int) (w : World) :
    (binOp .neq 51 (.agg #[.string x0, .int .i64 x1]) (.agg #[.string y0, .int .i64 y1])).run Tryz.prog w = .ok (.bool (!En.eq ⟨x0, x1⟩ ⟨y0, y1⟩)) w := by
  rw [run_neq_struct, equal_ent]
  rfl
def sameE : List En → List En → Bool
  | [], [] => true
  | x :: a, y :: b => x.eq y && sameE a b
  | _, _ => false
theorem sameE_len : ∀ {a b : List En}, sameE a b = true → a.length = b.length
  | [], [], _ => rfl
  | x :: a, y :: b, h => by
    unfold sameE at h
    rw [Bool.and_eq_true] at h
    rw [List.length_cons, List.length_cons, sameE_len h.2]
  | [], _ :: _, h => by cases h
  | _ :: _, [], h => by cases h
theorem sameE_eq : ∀ {a b : List En}, sameE a b = true ↔ a = b
  | [], [] => by simp [sameE]
  | x :: a, y :: b => by
    unfold sameE
    rw [Bool.and_eq_true, En.eq_iff, sameE_eq, List.cons.injEq]
  | [], _ :: _ => by simp [sameE]
  | _ :: _, [] => by simp [sameE]
/-- A literal's row is the call's own. -/
theorem Own.row (w : World) (K n : Nat) (l : List UInt8) (cs : Array Value) (h : cs = (enc l).toArray) (hl : l.length = n) (hK : K ≤ w.heap.size) (hn : n ≤ 1000000) :
    Byt.Own (w.alloc (.cells cs 5)) K (.slice (some ⟨w.heap.size, 0, none⟩) n n) n l := by
  subst h
  refine ⟨hl, .inr ⟨w.heap.size, n, _, (0, 0), rfl, hK, heap_alloc_new w _, Nat.le_refl _, by unfold maxLen; omega, by simp [enc_length, hl], ?_, fun j hj => by simp⟩⟩
  rw [List.take_of_length_le (by simp [enc_length, hl])]

set_option maxRecDepth 100000 in
theorem rword_any (w : World) (z : Nat) (hz : z < 9223372036854775808) :
    Calls Tryz.prog 42 #[.int .i64 (z : Int)] w fun e w' => ∃ A, e = .returned (.slice A 4 4) ∧ Byt.Own w' w.heap.size (.slice A 4 4) 4 (w4 z) ∧ Below w.heap.size w w' := by
  have he : (#[.int .u8 ((z : Int) / 16777216 % 256), .int .u8 ((z : Int) / 65536 % 256), .int .u8 ((z : Int) / 256 % 256), .int .u8 ((z : Int) % 256)] : Array Value) = (enc (w4 z)).toArray := by
    simp [enc, w4, UInt8.toNat_ofNat']
  have ho := Own.row w w.heap.size 4 (w4 z) _ he rfl (Nat.le_refl _) (by omega)
  have hb0 := (Below.refl w.heap.size w).alloc (Nat.le_refl _) (.cells #[.int .u8 ((z : Int) / 16777216 % 256), .int .u8 ((z : Int) / 65536 % 256), .int .u8 ((z : Int) / 256 % 256), .int .u8 ((z : Int) % 256)] 5)
  clear he
  go_enter Tryz.func42, Tryz.ntmps42
  go_wp2_with fail
  go_ret
  exact ⟨_, rfl, ho, hb0⟩

end Go.Proofs.YtpedngfmjhpojaaGreatDoor.Amp
