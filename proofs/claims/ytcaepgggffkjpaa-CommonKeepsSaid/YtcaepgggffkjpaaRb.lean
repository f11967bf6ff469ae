/-
  common: resolutions and slots in memory; the reference's before, Power, Same; the law's slots.
-/
import Derived.Test.YtcaepgggffkjpaaRa
import Derived.Test.YtcaepgggffkjpaaOb
import Derived.Test.YtcaepgggffkjpaaOa
import Derived.Test.YtcaepgggffkjpaaMg
import Derived.BigQuiet
namespace Go.Proofs.Ytcaepgggffkjpaa.Cmn
open Go.RowKit Go.Proofs Go.Proofs.Ytcaepgggffkjpaa.Byt
open Go.Proofs.Ytcaepgggffkjpaa.Tab (bl bl_iff bl_irrefl bl_trans bl_total tl_inj)
open Go.Proofs.Ytcaepgggffkjpaa.Bnd (Us)
open Go.Proofs.Ytcaepgggffkjpaa.Obj (pow2 pows)

/-- The five cells of a resolution, the three of a slot. -/
def rcell (x : Us) : List Value := [.string x.s.name, .int .i64 x.s.bind, .int .i64 x.s.size, .int .i64 x.s.align, .int .i64 x.u]
def rcells (l : List Us) : List Value := l.flatMap rcell
def scell (x : Slt) : List Value := [.string x.name, .int .i64 x.off, .int .i64 x.size]
def scells (l : List Slt) : List Value := l.flatMap scell
theorem flat_len {α : Type} {f : α → List Value} {m : Nat} (hf : ∀ x, (f x).length = m) : ∀ l : List α, (l.flatMap f).length = l.length * m
  | [] => by simp
  | x :: r => by rw [List.flatMap_cons, List.length_append, hf, flat_len hf r, List.length_cons, Nat.add_mul]; omega
theorem flat_at {α : Type} {f : α → List Value} {m : Nat} (hf : ∀ x, (f x).length = m) : ∀ (l : List α) (k : Nat) (h : k < l.length) (j : Nat), j < m → (l.flatMap f)[k * m + j]? = (f l[k])[j]?
  | x :: r, 0, _, j, hj => by
    rw [List.flatMap_cons, Nat.zero_mul, Nat.zero_add, List.getElem?_append_left (by rw [hf]; exact hj)]
    rfl
  | x :: r, k + 1, h, j, hj => by
    rw [List.flatMap_cons, List.getElem?_append_right (by rw [hf, Nat.add_mul]; omega), hf]
    have e : (k + 1) * m + j - m = k * m + j := by rw [Nat.add_mul]; omega
    rw [e, flat_at hf r k (by simpa using h) j hj]
    rfl
theorem rcell_len (x : Us) : (rcell x).length = 5 := rfl
theorem scell_len (x : Slt) : (scell x).length = 3 := rfl
theorem rcells_app (a b : List Us) : rcells (a ++ b) = rcells a ++ rcells b := by simp [rcells]
theorem scells_app (a b : List Slt) : scells (a ++ b) = scells a ++ scells b := by simp [scells]
theorem rcells_one {l : List Us} : ∀ v ∈ rcells l, v.oneCell' = true := by
  intro v hv
  obtain ⟨x, _, hx⟩ := List.mem_flatMap.1 hv
  simp [rcell] at hx
  rcases hx with rfl | rfl | rfl | rfl | rfl <;> rfl
theorem scells_one {l : List Slt} : ∀ v ∈ scells l, v.oneCell' = true := by
  intro v hv
  obtain ⟨x, _, hx⟩ := List.mem_flatMap.1 hv
  simp [scell] at hx
  rcases hx with rfl | rfl | rfl <;> rfl
theorem kR : Cel.Kind 22 40 5 48 (.agg #[.string ⟨#[]⟩, .int .i64 0, .int .i64 0, .int .i64 0, .int .i64 0]) := ⟨by kernel_rfl, by kernel_rfl, by kernel_rfl, by decide⟩
theorem kT : Cel.Kind 28 35 3 32 (.agg #[.string ⟨#[]⟩, .int .i64 0, .int .i64 0]) := ⟨by kernel_rfl, by kernel_rfl, by kernel_rfl, by decide⟩
/-- A slice that reads as resolutions, as slots. -/
def RdR (w : World) (K : Nat) (A : Option Addr) (n : Nat) (l : List Us) : Prop := l.length = n ∧ Cel.Rd w K A n 5 (rcells l)
def RdT (w : World) (K : Nat) (A : Option Addr) (n : Nat) (l : List Slt) : Prop := l.length = n ∧ Cel.Rd w K A n 3 (scells l)
theorem RdR.below {w w' : World} {K n : Nat} {A : Option Addr} {l : List Us} (h : RdR w K A n l) (hb : Below K w w') : RdR w' K A n l := ⟨h.1, h.2.below hb⟩
theorem RdT.below {w w' : World} {K n : Nat} {A : Option Addr} {l : List Slt} (h : RdT w K A n l) (hb : Below K w w') : RdT w' K A n l := ⟨h.1, h.2.below hb⟩
theorem RdR.more {w : World} {K K' n : Nat} {A : Option Addr} {l : List Us} (h : RdR w K A n l) (hK : K ≤ K') : RdR w K' A n l := ⟨h.1, h.2.more hK⟩
theorem RdT.more {w : World} {K K' n : Nat} {A : Option Addr} {l : List Slt} (h : RdT w K A n l) (hK : K ≤ K') : RdT w K' A n l := ⟨h.1, h.2.more hK⟩
theorem RdR.at_ {w : World} {K n i : Nat} {A : Option Addr} {l : List Us} (h : RdR w K A n l) (hi : i < l.length) : ∃ b o, A = some ⟨b, o, none⟩ ∧ b < K ∧ w.cell? ⟨b, o + i * 5, none⟩ = some (.string l[i].s.name) ∧ w.cell? ⟨b, o + i * 5 + 1, none⟩ = some (.int .i64 l[i].s.bind) ∧ w.cell? ⟨b, o + i * 5 + 2, none⟩ = some (.int .i64 l[i].s.size) ∧ w.cell? ⟨b, o + i * 5 + 3, none⟩ = some (.int .i64 l[i].s.align) ∧ w.cell? ⟨b, o + i * 5 + 4, none⟩ = some (.int .i64 l[i].u) := by
  have hl : (rcells l).length = l.length * 5 := flat_len rcell_len l
  have hat : ∀ j (hj : j < 5), ∃ b o, A = some ⟨b, o, none⟩ ∧ b < K ∧ w.cell? ⟨b, o + (i * 5 + j), none⟩ = (rcell l[i])[j]? := fun j hj => by
    have hk : i * 5 + j < (rcells l).length := by rw [hl]; have := Nat.mul_le_mul_right 5 (show i + 1 ≤ l.length by omega); omega
    obtain ⟨b, o, e, hb, hc⟩ := h.2.2 _ hk
    refine ⟨b, o, e, hb, ?_⟩
    rw [hc, ← List.getElem?_eq_getElem hk]
    exact flat_at rcell_len l i hi j hj
  obtain ⟨b, o, rfl, hb, c0⟩ := hat 0 (by omega)
  have hat' : ∀ j (hj : j < 5), w.cell? ⟨b, o + (i * 5 + j), none⟩ = (rcell l[i])[j]? := fun j hj => by
    obtain ⟨b', o', e, _, hc⟩ := hat j hj
    injection e with e
    injection e with e1 e2
    subst e1 e2
    exact hc
  exact ⟨b, o, rfl, hb, c0, hat' 1 (by omega), hat' 2 (by omega), hat' 3 (by omega), hat' 4 (by omega)⟩
theorem RdT.at_ {w : World} {K n i : Nat} {A : Option Addr} {l : List Slt} (h : RdT w K A n l) (hi : i < l.length) : ∃ b o, A = some ⟨b, o, none⟩ ∧ b < K ∧ w.cell? ⟨b, o + i * 3, none⟩ = some (.string l[i].name) ∧ w.cell? ⟨b, o + i * 3 + 1, none⟩ = some (.int .i64 l[i].off) ∧ w.cell? ⟨b, o + i * 3 + 2, none⟩ = some (.int .i64 l[i].size) := by
  have hl : (scells l).length = l.length * 3 := flat_len scell_len l
  have hat : ∀ j (hj : j < 3), ∃ b o, A = some ⟨b, o, none⟩ ∧ b < K ∧ w.cell? ⟨b, o + (i * 3 + j), none⟩ = (scell l[i])[j]? := fun j hj => by
    have hk : i * 3 + j < (scells l).length := by rw [hl]; have := Nat.mul_le_mul_right 3 (show i + 1 ≤ l.length by omega); omega
    obtain ⟨b, o, e, hb, hc⟩ := h.2.2 _ hk
    refine ⟨b, o, e, hb, ?_⟩
    rw [hc, ← List.getElem?_eq_getElem hk]
    exact flat_at scell_len l i hi j hj
  obtain ⟨b, o, rfl, hb, c0⟩ := hat 0 (by omega)
  have hat' : ∀ j (hj : j < 3), w.cell? ⟨b, o + (i * 3 + j), none⟩ = (scell l[i])[j]? := fun j hj => by
    obtain ⟨b', o', e, _, hc⟩ := hat j hj
    injection e with e
    injection e with e1 e2
    subst e1 e2
    exact hc
  exact ⟨b, o, rfl, hb, c0, hat' 1 (by omega), hat' 2 (by omega)⟩
/-- Resolutions, slots that the call has made. -/
def OwR (w : World) (K : Nat) (v : Value) (l : List Us) : Prop := Cel.Own 40 5 w K v l.length (rcells l)
def OwT (t : TypeId) (w : World) (K : Nat) (v : Value) (l : List Slt) : Prop := Cel.Own t 3 w K v l.length (scells l)
theorem OwR.reads {w : World} {K : Nat} {v : Value} {l : List Us} (h : OwR w K v l) : ∃ A c, v = .slice A l.length c ∧ RdR w w.heap.size A l.length l ∧ l.length ≤ c ∧ c ≤ maxLen := by
  obtain ⟨A, c, e, hr, h1, h2⟩ := Cel.Own.reads h
  exact ⟨A, c, e, ⟨rfl, hr⟩, h1, h2⟩
theorem OwT.reads {t : TypeId} {w : World} {K : Nat} {v : Value} {l : List Slt} (h : OwT t w K v l) : ∃ A c, v = .slice A l.length c ∧ RdT w w.heap.size A l.length l ∧ l.length ≤ c ∧ c ≤ maxLen := by
  obtain ⟨A, c, e, hr, h1, h2⟩ := Cel.Own.reads h
  exact ⟨A, c, e, ⟨rfl, hr⟩, h1, h2⟩
def rval (x : Us) : Value := .agg #[.string x.s.name, .int .i64 x.s.bind, .int .i64 x.s.size, .int .i64 x.s.align, .int .i64 x.u]
def sval (x : Slt) : Value := .agg #[.string x.name, .int .i64 x.off, .int .i64 x.size]

theorem pow2_iff (z : Int) : pow2 z = true ↔ ∃ i, i ≤ 16 ∧ z = ((2 ^ i : Nat) : Int) := by
  unfold pow2 pows
  simp only [List.contains_eq_mem, List.mem_cons, List.not_mem_nil, or_false, decide_eq_true_eq]
  constructor
  · intro h
    rcases h with h | h | h | h | h | h | h | h | h | h | h | h | h | h | h | h | h
    all_goals first | exact ⟨0, by omega, by rw [h]; rfl⟩ | exact ⟨1, by omega, by rw [h]; rfl⟩ | exact ⟨2, by omega, by rw [h]; rfl⟩ | exact ⟨3, by omega, by rw [h]; rfl⟩ | exact ⟨4, by omega, by rw [h]; rfl⟩ | exact ⟨5, by omega, by rw [h]; rfl⟩ | exact ⟨6, by omega, by rw [h]; rfl⟩ | exact ⟨7, by omega, by rw [h]; rfl⟩ | exact ⟨8, by omega, by rw [h]; rfl⟩ | exact ⟨9, by omega, by rw [h]; rfl⟩ | exact ⟨10, by omega, by rw [h]; rfl⟩ | exact ⟨11, by omega, by rw [h]; rfl⟩ | exact ⟨12, by omega, by rw [h]; rfl⟩ | exact ⟨13, by omega, by rw [h]; rfl⟩ | exact ⟨14, by omega, by rw [h]; rfl⟩ | exact ⟨15, by omega, by rw [h]; rfl⟩ | exact ⟨16, by omega, by rw [h]; rfl⟩
  · rintro ⟨i, hi, hz⟩
    have : i = 0 ∨ i = 1 ∨ i = 2 ∨ i = 3 ∨ i = 4 ∨ i = 5 ∨ i = 6 ∨ i = 7 ∨ i = 8 ∨ i = 9 ∨ i = 10 ∨ i = 11 ∨ i = 12 ∨ i = 13 ∨ i = 14 ∨ i = 15 ∨ i = 16 := by omega
    rcases this with h | h | h | h | h | h | h | h | h | h | h | h | h | h | h | h | h
    all_goals subst h
    all_goals simp at hz
    all_goals omega

set_option maxRecDepth 100000 in
set_option maxHeartbeats 1000000 in
theorem rpower_any (z : Int) (w : World) :
    Calls Try.prog 15 #[.int .i64 z] w fun e w' => e = .returned (.bool (pow2 z)) ∧ w' = w := by
  go_enter Try.func15, Try.ntmps15
  go_wp2_with fail
  go_loopw [3] (fun v W => ∃ j p : Nat, v = .int .i64 (p : Int) ∧ j ≤ 17 ∧ Hid (p = 2 ^ j) ∧ 1 ≤ p ∧ p ≤ 131072 ∧ Hid (∀ i, i < j → z ≠ ((2 ^ i : Nat) : Int)) ∧ Hid (W = w)) (fun v _ => 131073 - (intOf v).toNat)
  case atStart => exact ⟨0, 1, rfl, by omega, hid rfl, by omega, by omega, hid (fun i hi => by omega), hid rfl⟩
  case round =>
    obtain ⟨j, p, rfl, hj, hp, h1, h2, hz, hw⟩ := hrel
    by_cases hlt : p ≤ 65536
    · have hj16 : j ≤ 16 := by
        rcases Nat.lt_or_ge 16 j with h | h
        · have := Nat.pow_le_pow_right (n := 2) (by omega) h
          have e : (2 : Nat) ^ (16 + 1) = 131072 := rfl
          have := hp.out
          omega
        · exact h
      have hli : (p : Int) ≤ 65536 := by omega
      by_cases hq : (p : Int) = z
      · have hqb : ((p : Int) == z) = true := by rw [beq_iff_eq]; exact hq
        have HR : Hid (pow2 z = true) := hid ((pow2_iff z).2 ⟨j, hj16, by rw [← hq, hp.out]⟩)
        clear hq
        go_wp2_with fail
        go_ret
        exact ⟨ret_bool HR.out.symm, hw.out⟩
      · have hqb : ((p : Int) == z) = false := by rw [beq_eq_false_iff_ne]; exact hq
        have HZ : Hid (∀ i, i < j + 1 → z ≠ ((2 ^ i : Nat) : Int)) := hid fun i hi => by
          by_cases e : i = j
          · subst e; rw [← hp.out]; exact fun h => hq h.symm
          · exact hz.out i (by omega)
        have HP : Hid (2 * p = 2 ^ (j + 1)) := hid (by rw [hp.out, Nat.pow_succ]; omega)
        clear hq hp hz
        go_wp2_with fail
        go_roundw
        · exact ⟨j + 1, 2 * p, by go_num, by omega, HP, by omega, by omega, HZ, hw⟩
        · simp [intOf]; omega
    · have hli : ¬ (p : Int) ≤ 65536 := by omega
      have hj17 : 17 ≤ j := by
        rcases Nat.lt_or_ge j 17 with h | h
        · have := Nat.pow_le_pow_right (n := 2) (by omega) (show j ≤ 16 by omega)
          have e : (2 : Nat) ^ 16 = 65536 := rfl
          have := hp.out
          omega
        · exact h
      have HR : Hid (pow2 z = false) := hid (by
        cases h : pow2 z with
        | false => rfl
        | true => obtain ⟨i, hi, e⟩ := (pow2_iff z).1 h; exact absurd e (hz.out i (by omega)))
      clear hp hz
      go_wp2_with fail
      go_ret
      exact ⟨ret_bool HR.out.symm, hw.out⟩

set_option linter.unusedSimpArgs false in
set_option maxRecDepth 100000 in
theorem rbefore_any (x y : Us) (w : World) : Calls Try.prog 20 #[rval x, rval y] w fun e w' => e = .returned (.bool (bef x y)) ∧ Below w.heap.size w w' := by
  obtain ⟨⟨n1, b1, s1, a1⟩, u1⟩ := x
  obtain ⟨⟨n2, b2, s2, a2⟩, u2⟩ := y
  have hb := hid (((Below.refl w.heap.size w).alloc (Nat.le_refl _) (.cells #[.string n1, .int .i64 b1, .int .i64 s1, .int .i64 a1, .int .i64 u1] 40)).alloc (by simp) (.cells #[.string n2, .int .i64 b2, .int .i64 s2, .int .i64 a2, .int .i64 u2] 40))
  unfold rval
  go_enter Try.func20, Try.ntmps20
  by_cases h1 : a1 = a2
  · subst h1
    by_cases h2 : s1 = s2
    · subst h2
      have HR : Hid (bef ⟨⟨n1, b1, s1, a1⟩, u1⟩ ⟨⟨n2, b2, s1, a1⟩, u2⟩ = Op.bytesLess n1.toList n2.toList) := hid (by unfold bef; rw [if_neg (by simp), if_neg (by simp)]; rfl)
      go_wp2_with fail
      go_ret
      exact ⟨ret_bool HR.out.symm, hb.out⟩
    · have HR : Hid (bef ⟨⟨n1, b1, s1, a1⟩, u1⟩ ⟨⟨n2, b2, s2, a1⟩, u2⟩ = decide (s2 < s1)) := hid (by unfold bef; rw [if_neg (by simp), if_pos (by simpa using h2)])
      have h2b : (s1 == s2) = false := by simpa using h2
      clear h2
      go_wp2_with fail
      go_ret
      exact ⟨ret_bool HR.out.symm, hb.out⟩
  · have HR : Hid (bef ⟨⟨n1, b1, s1, a1⟩, u1⟩ ⟨⟨n2, b2, s2, a2⟩, u2⟩ = decide (a2 < a1)) := hid (by unfold bef; rw [if_pos (by simpa using h1)])
    have h1b : (a1 == a2) = false := by simpa using h1
    clear h1
    go_wp2_with fail
    go_ret
    exact ⟨ret_bool HR.out.symm, hb.out⟩
end Go.Proofs.Ytcaepgggffkjpaa.Cmn
