/-
  Plain mathematics of decimal and octal fields: the digits of a number, their values, and what is accepted as a field. No program is named here.
-/
import Derived.WalkKit
namespace Go.Proofs.YtnkdcecpbjhdmaaDoor.Dec

/-- The number of digits of n in base B, by fuel. -/
def ndF (B : Nat) : Nat → Nat → Nat
  | 0, _ => 1
  | f + 1, n => if n < B then 1 else ndF B f (n / B) + 1
def nd (B n : Nat) : Nat := ndF B n n

/-- The digits of n in base B, by fuel. -/
def txF (B : Nat) : Nat → Nat → List UInt8
  | 0, n => [UInt8.ofNat (48 + n % B)]
  | f + 1, n => if n < B then [UInt8.ofNat (48 + n % B)] else txF B f (n / B) ++ [UInt8.ofNat (48 + n % B)]
def tx (B n : Nat) : List UInt8 := txF B n n

theorem ndF_more (B : Nat) (hB : 2 ≤ B) : ∀ f g n, n ≤ f → n ≤ g → ndF B f n = ndF B g n := by
  intro f
  induction f with
  | zero =>
    intro g n hf _
    obtain rfl : n = 0 := by omega
    cases g with
    | zero => rfl
    | succ g => simp [ndF]; omega
  | succ f ih =>
    intro g n hf hg
    cases g with
    | zero =>
      obtain rfl : n = 0 := by omega
      simp [ndF]; omega
    | succ g =>
      simp only [ndF]
      by_cases h : n < B
      · rw [if_pos h, if_pos h]
      · have hl : n / B < n := Nat.div_lt_self (by omega) hB
        rw [if_neg h, if_neg h, ih g (n / B) (by omega) (by omega)]

theorem txF_more (B : Nat) (hB : 2 ≤ B) : ∀ f g n, n ≤ f → n ≤ g → txF B f n = txF B g n := by
  intro f
  induction f with
  | zero =>
    intro g n hf _
    obtain rfl : n = 0 := by omega
    cases g with
    | zero => rfl
    | succ g => simp [txF]; omega
  | succ f ih =>
    intro g n hf hg
    cases g with
    | zero =>
      obtain rfl : n = 0 := by omega
      simp [txF]; omega
    | succ g =>
      simp only [txF]
      by_cases h : n < B
      · rw [if_pos h, if_pos h]
      · have hl : n / B < n := Nat.div_lt_self (by omega) hB
        rw [if_neg h, if_neg h, ih g (n / B) (by omega) (by omega)]

theorem nd_small {B n : Nat} (h : n < B) : nd B n = 1 := by
  unfold nd
  cases n with
  | zero => rfl
  | succ n => simp only [ndF]; rw [if_pos h]
theorem nd_big {B n : Nat} (hB : 2 ≤ B) (h : B ≤ n) : nd B n = nd B (n / B) + 1 := by
  have hl : n / B < n := Nat.div_lt_self (by omega) hB
  unfold nd
  cases n with
  | zero => omega
  | succ n =>
    rw [ndF, if_neg (by omega), ndF_more B hB n ((n + 1) / B) ((n + 1) / B) (by omega) (Nat.le_refl _)]
theorem tx_small {B n : Nat} (h : n < B) : tx B n = [UInt8.ofNat (48 + n)] := by
  unfold tx
  cases n with
  | zero => simp [txF]
  | succ n => simp only [txF]; rw [if_pos h, Nat.mod_eq_of_lt h]
theorem tx_big {B n : Nat} (hB : 2 ≤ B) (h : B ≤ n) : tx B n = tx B (n / B) ++ [UInt8.ofNat (48 + n % B)] := by
  have hl : n / B < n := Nat.div_lt_self (by omega) hB
  unfold tx
  cases n with
  | zero => omega
  | succ n =>
    rw [txF, if_neg (by omega), txF_more B hB n ((n + 1) / B) ((n + 1) / B) (by omega) (Nat.le_refl _)]

theorem nd_pos (B n : Nat) : 1 ≤ nd B n := by
  unfold nd
  cases n with
  | zero => exact Nat.le_refl _
  | succ n => simp only [ndF]; split <;> omega

/-- A rule of induction: small numbers, and numbers whose quotient has been treated. -/
theorem by_digits {B : Nat} (hB : 2 ≤ B) {P : Nat → Prop} (hs : ∀ n, n < B → P n) (hb : ∀ n, B ≤ n → P (n / B) → P n) : ∀ n, P n := by
  intro n
  induction n using Nat.strongRecOn with
  | _ n ih =>
    by_cases h : n < B
    · exact hs n h
    · exact hb n (by omega) (ih _ (Nat.div_lt_self (by omega) hB))

theorem tx_length {B : Nat} (hB : 2 ≤ B) : ∀ n, (tx B n).length = nd B n :=
  by_digits hB (fun n h => by rw [tx_small h, nd_small h]; rfl) (fun n h ih => by rw [tx_big hB h, nd_big hB h, List.length_append, ih]; rfl)

/-- The powers of the base about a number. -/
theorem pow_le {B : Nat} (hB : 2 ≤ B) : ∀ n, 1 ≤ n → B ^ (nd B n - 1) ≤ n := by
  refine by_digits hB (fun n h h1 => ?_) (fun n h ih _ => ?_)
  · rw [nd_small h]; simpa using h1
  · have h1 : 1 ≤ n / B := (Nat.le_div_iff_mul_le (by omega)).2 (by omega)
    have := ih h1
    rw [nd_big hB h, Nat.add_sub_cancel]
    have hp := nd_pos B (n / B)
    obtain ⟨k, hk⟩ : ∃ k, nd B (n / B) = k + 1 := ⟨nd B (n / B) - 1, by omega⟩
    rw [hk] at this ⊢
    rw [Nat.add_sub_cancel] at this
    rw [Nat.pow_succ]
    exact (Nat.le_div_iff_mul_le (by omega)).1 this
theorem lt_pow {B : Nat} (hB : 2 ≤ B) : ∀ n, n < B ^ nd B n := by
  refine by_digits hB (fun n h => ?_) (fun n h ih => ?_)
  · rw [nd_small h]; simpa using h
  · rw [nd_big hB h, Nat.pow_succ]
    exact (Nat.div_lt_iff_lt_mul (by omega)).1 ih
theorem nd_le_of_lt {B : Nat} (hB : 2 ≤ B) {n k : Nat} (h1 : 1 ≤ k) (h : n < B ^ k) : nd B n ≤ k := by
  by_cases h0 : n = 0
  · subst h0; rw [nd_small (by omega)]; exact h1
  · have hp := pow_le hB n (by omega)
    by_cases hk : nd B n ≤ k
    · exact hk
    · have : B ^ k ≤ B ^ (nd B n - 1) := Nat.pow_le_pow_right (by omega) (by omega)
      omega
theorem nd_mono {B : Nat} (hB : 2 ≤ B) {n m : Nat} (h : n ≤ m) : nd B n ≤ nd B m :=
  nd_le_of_lt hB (nd_pos B m) (Nat.lt_of_le_of_lt h (lt_pow hB m))
theorem nd_lt_64 {B n : Nat} (hB : 2 ≤ B) (hn : n < 9223372036854775808) : nd B n ≤ 63 := by
  refine nd_le_of_lt hB (by omega) (Nat.lt_of_lt_of_le hn ?_)
  calc 9223372036854775808 = 2 ^ 63 := by decide +kernel
    _ ≤ B ^ 63 := Nat.pow_le_pow_left hB 63

/-- The digit at a place. -/
theorem tx_at {B : Nat} (hB : 2 ≤ B) : ∀ n k, k < nd B n → (tx B n)[k]? = some (UInt8.ofNat (48 + n / B ^ (nd B n - 1 - k) % B)) := by
  refine by_digits hB (fun n h k hk => ?_) (fun n h ih k hk => ?_)
  · rw [nd_small h] at hk ⊢
    obtain rfl : k = 0 := by omega
    rw [tx_small h]; simp [Nat.mod_eq_of_lt h]
  · rw [nd_big hB h] at hk ⊢
    rw [tx_big hB h, List.getElem?_append, tx_length hB]
    by_cases h1 : k < nd B (n / B)
    · rw [if_pos h1, ih k h1, Nat.div_div_eq_div_mul]
      congr 5
      obtain ⟨j, hj⟩ : ∃ j, nd B (n / B) = k + j + 1 := ⟨nd B (n / B) - 1 - k, by omega⟩
      rw [hj, show k + j + 1 - 1 - k = j by omega, show k + j + 1 + 1 - 1 - k = j + 1 by omega, Nat.pow_succ, Nat.mul_comm]
    · obtain rfl : k = nd B (n / B) := by omega
      rw [if_neg h1, Nat.sub_self, Nat.add_sub_cancel, Nat.sub_self]
      simp

/-- Induction by the last element. -/
theorem by_snoc {α : Type} {P : List α → Prop} (h0 : P []) (hs : ∀ l c, P l → P (l ++ [c])) : ∀ l, P l := by
  have h : ∀ l : List α, P l.reverse := fun l => by
    induction l with
    | nil => exact h0
    | cons c l ih => rw [List.reverse_cons]; exact hs _ _ ih
  intro l
  have := h l.reverse
  rwa [List.reverse_reverse] at this

/-- A digit of the base. -/
def isD (B : Nat) (c : UInt8) : Bool := decide (48 ≤ c.toNat) && decide (c.toNat < 48 + B)
/-- The number that digits denote. -/
def val (B : Nat) (l : List UInt8) : Nat := l.foldl (fun n c => n * B + (c.toNat - 48)) 0
theorem val_snoc (B : Nat) (l : List UInt8) (c : UInt8) : val B (l ++ [c]) = val B l * B + (c.toNat - 48) := by simp [val]
theorem val_nil (B : Nat) : val B [] = 0 := rfl
theorem isD_iff {B : Nat} {c : UInt8} : isD B c = true ↔ 48 ≤ c.toNat ∧ c.toNat < 48 + B := by simp [isD]

theorem toNat_dig {B n : Nat} (hB : B ≤ 10) (h : n < B) : (UInt8.ofNat (48 + n)).toNat = 48 + n := by
  rw [UInt8.toNat_ofNat']; omega

theorem tx_digits {B : Nat} (hB : 2 ≤ B) (hB' : B ≤ 10) : ∀ n, ∀ c ∈ tx B n, isD B c = true := by
  refine by_digits hB (fun n h c hc => ?_) (fun n h ih c hc => ?_)
  · rw [tx_small h, List.mem_singleton] at hc
    subst hc
    rw [isD_iff, toNat_dig hB' h]; omega
  · rw [tx_big hB h, List.mem_append, List.mem_singleton] at hc
    rcases hc with hc | rfl
    · exact ih c hc
    · have := Nat.mod_lt n (show 0 < B by omega)
      rw [isD_iff, toNat_dig hB' this]; omega
theorem val_tx {B : Nat} (hB : 2 ≤ B) (hB' : B ≤ 10) : ∀ n, val B (tx B n) = n := by
  refine by_digits hB (fun n h => ?_) (fun n h ih => ?_)
  · rw [tx_small h, ← List.nil_append [_], val_snoc, val_nil, toNat_dig hB' h]; omega
  · rw [tx_big hB h, val_snoc, ih, toNat_dig hB' (Nat.mod_lt n (by omega))]
    have := Nat.div_add_mod n B
    rw [Nat.mul_comm] at this
    omega

/-- A value of digits is less than the power. -/
theorem val_lt {B : Nat} : ∀ l : List UInt8, (∀ c ∈ l, isD B c = true) → val B l < B ^ l.length := by
  refine by_snoc (fun _ => by simp [val]) (fun l c ih h => ?_)
  · have h1 := ih fun x hx => h x (by simp [hx])
    have hc := isD_iff.1 (h c (by simp))
    rw [val_snoc, List.length_append, List.length_singleton, Nat.pow_succ]
    have : (val B l + 1) * B ≤ B ^ l.length * B := Nat.mul_le_mul_right B h1
    rw [Nat.add_mul] at this
    omega

/-- The leading digits end where the first other byte stands. -/
theorem takeWhile_at {α : Type} {p : α → Bool} : ∀ (l : List α) (i : Nat), (∀ c ∈ l.take i, p c = true) → (∀ c, l[i]? = some c → p c = false) → l.takeWhile p = l.take i ∧ l.dropWhile p = l.drop i := by
  intro l
  induction l with
  | nil => intro i _ _; simp
  | cons x l ih =>
    intro i h1 h2
    cases i with
    | zero =>
      have := h2 x (by simp)
      simp [this]
    | succ i =>
      have hx := h1 x (by simp)
      have := ih i (fun c hc => h1 c (by simp [hc])) (fun c hc => h2 c (by simpa using hc))
      simp [hx, this]

/-- What is accepted as a field: digits without superfluous ones, then spaces. -/
def parse (B : Nat) (l : List UInt8) : Option Nat :=
  if ((l.dropWhile (isD B)).all (· == 32) && (l.takeWhile (isD B)).length == nd B (val B (l.takeWhile (isD B)))) = true then some (val B (l.takeWhile (isD B))) else none

theorem space_not_digit {B : Nat} : isD B 32 = false := by
  simp [isD]

/-- Digits in the right number are the digits of their value. -/
theorem tx_val {B : Nat} (hB : 2 ≤ B) (hB' : B ≤ 10) : ∀ l : List UInt8, (∀ c ∈ l, isD B c = true) → l.length = nd B (val B l) → tx B (val B l) = l := by
  refine by_snoc (fun _ h => ?_) (fun l c ih hd hl => ?_)
  · have := nd_pos B (val B []); simp at h; omega
  · have hc := isD_iff.1 (hd c (by simp))
    have hdl : ∀ c ∈ l, isD B c = true := fun x hx => hd x (by simp [hx])
    rw [val_snoc] at hl ⊢
    rw [List.length_append, List.length_singleton] at hl
    have hq : (val B l * B + (c.toNat - 48)) / B = val B l := by
      rw [Nat.mul_comm, Nat.mul_add_div (by omega), Nat.div_eq_of_lt (by omega)]; omega
    have hm : (val B l * B + (c.toNat - 48)) % B = c.toNat - 48 := by
      rw [Nat.mul_comm, Nat.mul_add_mod, Nat.mod_eq_of_lt (by omega)]
    have hcc : UInt8.ofNat (48 + (c.toNat - 48)) = c := by
      rw [show 48 + (c.toNat - 48) = c.toNat by omega]; simp
    by_cases h : val B l * B + (c.toNat - 48) < B
    · rw [nd_small h] at hl
      obtain rfl : l = [] := List.eq_nil_of_length_eq_zero (by omega)
      rw [tx_small h, val_nil, Nat.zero_mul, Nat.zero_add, hcc]; rfl
    · rw [nd_big hB (by omega), hq] at hl
      rw [tx_big hB (by omega), hq, hm, hcc, ih hdl (by omega)]

theorem parse_some {B : Nat} (hB : 2 ≤ B) (hB' : B ≤ 10) {l : List UInt8} {n : Nat} (h : parse B l = some n) :
    nd B n ≤ l.length ∧ l = tx B n ++ List.replicate (l.length - nd B n) 32 := by
  unfold parse at h
  split at h
  · rename_i hc
    rw [Bool.and_eq_true, List.all_eq_true, beq_iff_eq] at hc
    obtain ⟨h1, h2⟩ := hc
    injection h with h
    have hd : ∀ c ∈ l.takeWhile (isD B), isD B c = true := fun c hc => by
      have := List.all_takeWhile (p := isD B) (l := l)
      exact List.all_eq_true.1 this c hc
    have ht := tx_val hB hB' _ hd h2
    rw [h] at ht h2
    have hsplit : l.takeWhile (isD B) ++ l.dropWhile (isD B) = l := List.takeWhile_append_dropWhile
    have hlen := congrArg List.length hsplit
    rw [List.length_append, h2] at hlen
    refine ⟨by omega, ?_⟩
    rw [ht]
    refine hsplit.symm.trans ?_
    congr 1
    refine List.eq_replicate_iff.2 ⟨by omega, fun b hb => by simpa using h1 b hb⟩
  · cases h

theorem parse_tx {B : Nat} (hB : 2 ≤ B) (hB' : B ≤ 10) (n k : Nat) : parse B (tx B n ++ List.replicate k 32) = some n := by
  have h := takeWhile_at (p := isD B) (tx B n ++ List.replicate k 32) (tx B n).length
    (fun c hc => tx_digits hB hB' n c (by simpa using hc))
    (fun c hc => by
      rw [List.getElem?_append_right (Nat.le_refl _), Nat.sub_self] at hc
      have := List.mem_of_getElem? hc
      rw [List.mem_replicate] at this
      rw [this.2]; exact space_not_digit)
  rw [List.take_left', List.drop_left'] at h <;> try rfl
  unfold parse
  rw [h.1, h.2, val_tx hB hB', tx_length hB]
  simp

/-- Accepting is being the field of the number. -/
theorem parse_iff {B : Nat} (hB : 2 ≤ B) (hB' : B ≤ 10) {l : List UInt8} {n : Nat} :
    parse B l = some n ↔ nd B n ≤ l.length ∧ l = tx B n ++ List.replicate (l.length - nd B n) 32 :=
  ⟨parse_some hB hB', fun h => by rw [h.2]; exact parse_tx hB hB' _ _⟩

/-- The field of a number in a width. -/
def field (B n w : Nat) : List UInt8 := tx B n ++ List.replicate (w - nd B n) 32
theorem field_length {B n w : Nat} (hB : 2 ≤ B) (h : nd B n ≤ w) : (field B n w).length = w := by
  rw [field, List.length_append, tx_length hB, List.length_replicate]; omega
theorem parse_field {B : Nat} (hB : 2 ≤ B) (hB' : B ≤ 10) (n w : Nat) : parse B (field B n w) = some n := parse_tx hB hB' _ _

/-- The value of no more than 18 digits. -/
theorem val_small {B : Nat} (hB' : B ≤ 10) {l : List UInt8} (h : ∀ c ∈ l, isD B c = true) (hl : l.length ≤ 18) : val B l < 1000000000000000000 := by
  refine Nat.lt_of_lt_of_le (val_lt l h) (Nat.le_trans (Nat.pow_le_pow_left hB' _) (Nat.le_trans (Nat.pow_le_pow_right (by omega) hl) (by decide +kernel)))

/-- What is accepted, told at the end of the leading digits. -/
theorem parse_at {B : Nat} {l : List UInt8} {k : Nat} (h1 : ∀ c ∈ l.take k, isD B c = true) (h2 : ∀ c, l[k]? = some c → isD B c = false) (hk : k ≤ l.length) :
    parse B l = if ((l.drop k).all (· == 32)) = true ∧ k = nd B (val B (l.take k)) then some (val B (l.take k)) else none := by
  obtain ⟨e1, e2⟩ := takeWhile_at l k h1 h2
  unfold parse
  rw [e1, e2, List.length_take, Nat.min_eq_left hk]
  simp only [Bool.and_eq_true, beq_iff_eq]
/-- Digits, then something that is neither a digit nor followed by spaces alone. -/
theorem parse_bad {B : Nat} {l : List UInt8} {k : Nat} (h1 : ∀ c ∈ l.take k, isD B c = true) (h2 : ∀ c, l[k]? = some c → isD B c = false) (hk : k ≤ l.length) (h3 : (l.drop k).all (· == 32) = false) : parse B l = none := by
  rw [parse_at h1 h2 hk, if_neg (by rw [h3]; simp)]
end Go.Proofs.YtnkdcecpbjhdmaaDoor.Dec
