/-
  Objects and their encoding: mathematics, no program.
-/
import Derived.Test.YtcaepgggffkjpaaOa
namespace Go.Proofs.Ytcaepgggffkjpaa.Obj
open Go.RowKit Go.Proofs

/-- A symbol. -/
structure Sy where
  name : ByteArray
  bind : Int
  size : Int
  align : Int
def Sy.val (x : Sy) : Value := .agg #[.string x.name, .int .i64 x.bind, .int .i64 x.size, .int .i64 x.align]
def scells : List Sy → List Value
  | [] => []
  | x :: r => [.string x.name, .int .i64 x.bind, .int .i64 x.size, .int .i64 x.align] ++ scells r
theorem scells_append : ∀ a b : List Sy, scells (a ++ b) = scells a ++ scells b
  | [], b => rfl
  | x :: r, b => by rw [List.cons_append, scells, scells_append r b, scells, List.append_assoc]
theorem scells_length : ∀ a : List Sy, (scells a).length = a.length * 4
  | [] => rfl
  | x :: r => by rw [scells, List.length_append, scells_length r, List.length_cons]; simp; omega
theorem scells_at : ∀ (a : List Sy) (k : Nat) (h : k < a.length), (scells a)[k * 4]? = some (.string a[k].name) ∧ (scells a)[k * 4 + 1]? = some (.int .i64 a[k].bind) ∧ (scells a)[k * 4 + 2]? = some (.int .i64 a[k].size) ∧ (scells a)[k * 4 + 3]? = some (.int .i64 a[k].align)
  | x :: r, 0, _ => by simp [scells]
  | x :: r, k + 1, h => by
    have ih := scells_at r k (by simpa using h)
    have e : ∀ j, (scells (x :: r))[(k + 1) * 4 + j]? = (scells r)[k * 4 + j]? := fun j => by
      rw [scells, List.getElem?_append_right (by simp; omega)]
      congr 1
      simp
      omega
    have e0 := e 0
    rw [Nat.add_zero, Nat.add_zero] at e0
    rw [e0, e 1, e 2, e 3]
    simpa using ih

def pows : List Int := [1, 2, 4, 8, 16, 32, 64, 128, 256, 512, 1024, 2048, 4096, 8192, 16384, 32768, 65536]
def pow2 (n : Int) : Bool := pows.contains n
def sizeOk (n : Int) : Bool := decide (0 ≤ n) && decide (n ≤ 4294967295)
def nameOk (s : ByteArray) : Bool := decide (s.size ≠ 0) && (decide (s.size ≤ 255) && !(s.data.toList.contains 0))
def bindOk (b z a : Int) : Bool :=
  if b = 1 ∨ b = 2 then sizeOk z && decide (a = 0) else if b = 3 then sizeOk z && pow2 a else if b = 4 ∨ b = 5 then decide (z = 0) && decide (a = 0) else false
def symOk (x : Sy) : Bool := nameOk x.name && bindOk x.bind x.size x.align
def has (l : List Sy) (s : ByteArray) : Bool := l.any fun x => decide (x.name = s)
theorem has_append (a b : List Sy) (s : ByteArray) : has (a ++ b) s = (has a s || has b s) := by simp [has]

/-- The symbols may stand behind those that were seen. -/
def goodL : List Sy → List Sy → Bool
  | _, [] => true
  | seen, x :: r => !has seen x.name && symOk x && goodL (seen ++ [x]) r
def validO (l : List Sy) : Bool := decide (l.length ≤ 65536) && goodL [] l

theorem pow2_range {n : Int} (h : pow2 n = true) : 1 ≤ n ∧ n ≤ 65536 := by
  unfold pow2 pows at h
  simp only [List.contains_eq_mem, List.mem_cons, List.not_mem_nil, or_false, decide_eq_true_eq] at h
  omega
theorem bindOk_range {b z a : Int} (h : bindOk b z a = true) : 1 ≤ b ∧ b ≤ 5 ∧ 0 ≤ z ∧ z ≤ 4294967295 ∧ 0 ≤ a ∧ a ≤ 65536 := by
  unfold bindOk sizeOk at h
  split at h
  · simp at h; omega
  · split at h
    · simp at h
      have := pow2_range h.2
      omega
    · split at h
      · simp at h; omega
      · cases h
theorem nameOk_range {s : ByteArray} (h : nameOk s = true) : 1 ≤ s.size ∧ s.size ≤ 255 := by
  unfold nameOk at h
  simp only [Bool.and_eq_true, decide_eq_true_eq] at h
  omega

/-! ### the encoding -/
def magic : List UInt8 := [79, 66, 74, 49]
def w4 (n : Nat) : List UInt8 := [UInt8.ofNat (n / 16777216), UInt8.ofNat (n / 65536), UInt8.ofNat (n / 256), UInt8.ofNat n]
def encS (x : Sy) : List UInt8 := UInt8.ofNat x.bind.toNat :: (w4 x.size.toNat ++ (w4 x.align.toNat ++ (UInt8.ofNat x.name.size :: x.name.data.toList)))
def encL (l : List Sy) : List UInt8 := l.flatMap encS
def encO (l : List Sy) (body : List UInt8) : List UInt8 := magic ++ (w4 l.length ++ (encL l ++ body))

def n4 (l : List UInt8) : Nat := (l.take 4).foldl (fun n c => n * 256 + c.toNat) 0
def kS (l : List UInt8) : Nat := (l.getD 9 0).toNat
def str (l : List UInt8) : ByteArray := ⟨l.toArray⟩
def rdS (l : List UInt8) : Sy := ⟨str ((l.drop 10).take (kS l)), (l.getD 0 0).toNat, n4 (l.drop 1), n4 (l.drop 5)⟩
def cutS (l : List UInt8) : Prop := l.length < 10 ∨ l.length < 10 + kS l
instance (l : List UInt8) : Decidable (cutS l) := by unfold cutS; exact inferInstance
def decL : Nat → List Sy → List UInt8 → Int × List Sy × List UInt8
  | 0, acc, l => (0, acc, l)
  | n + 1, acc, l => if cutS l then (2, [], []) else if has acc (rdS l).name = true ∨ symOk (rdS l) = false then (12, [], []) else decL n (acc ++ [rdS l]) (l.drop (10 + kS l))
def decO (l : List UInt8) : Int × List Sy × List UInt8 :=
  if l.length < 4 then (2, [], []) else if l.take 4 ≠ magic then (1, [], []) else if l.length < 8 then (2, [], []) else if 65536 < n4 (l.drop 4) then (12, [], []) else decL (n4 (l.drop 4)) [] (l.drop 8)

theorem w4_length (n : Nat) : (w4 n).length = 4 := rfl
theorem n4_w4 (n : Nat) (hn : n < 4294967296) (r : List UInt8) : n4 (w4 n ++ r) = n := by
  simp [n4, w4, UInt8.toNat_ofNat']
  omega
theorem n4_lt (l : List UInt8) : n4 l < 4294967296 := by
  unfold n4
  match l with
  | [] => simp
  | [a] => simp; have := a.toNat_lt; omega
  | [a, b] => simp; have := a.toNat_lt; have := b.toNat_lt; omega
  | [a, b, c] => simp; have := a.toNat_lt; have := b.toNat_lt; have := c.toNat_lt; omega
  | a :: b :: c :: d :: r => simp; have := a.toNat_lt; have := b.toNat_lt; have := c.toNat_lt; have := d.toNat_lt; omega
theorem ofNat_mod (n : Nat) (a : UInt8) (h : n % 256 = a.toNat) : UInt8.ofNat n = a := by
  rw [← UInt8.toNat_inj, UInt8.toNat_ofNat']
  exact h
theorem w4_n4 (l : List UInt8) (h : 4 ≤ l.length) : w4 (n4 l) = l.take 4 := by
  match l, h with
  | a :: b :: c :: d :: r, _ =>
    have := a.toNat_lt; have := b.toNat_lt; have := c.toNat_lt; have := d.toNat_lt
    have e : n4 (a :: b :: c :: d :: r) = ((a.toNat * 256 + b.toNat) * 256 + c.toNat) * 256 + d.toNat := by simp [n4]
    show w4 (n4 (a :: b :: c :: d :: r)) = [a, b, c, d]
    rw [e]
    unfold w4
    rw [ofNat_mod _ a (by omega), ofNat_mod _ b (by omega), ofNat_mod _ c (by omega), ofNat_mod _ d (by omega)]
theorem str_list (l : List UInt8) : (str l).data.toList = l := rfl
theorem str_size (l : List UInt8) : (str l).size = l.length := rfl
theorem str_of (s : ByteArray) : str s.data.toList = s := rfl
theorem len_list (s : ByteArray) : s.data.toList.length = s.size := rfl

theorem encS_length (x : Sy) : (encS x).length = 10 + x.name.size := by
  have := len_list x.name
  simp [encS, w4]
  omega
theorem kS_enc (x : Sy) (h : x.name.size ≤ 255) (r : List UInt8) : kS (encS x ++ r) = x.name.size := by
  unfold kS encS w4
  simp
  omega
theorem rdS_enc (x : Sy) (h : symOk x = true) (r : List UInt8) : rdS (encS x ++ r) = x := by
  unfold symOk at h
  rw [Bool.and_eq_true] at h
  have hn := nameOk_range h.1
  have hb := bindOk_range h.2
  have hk := kS_enc x hn.2 r
  unfold rdS
  rw [hk]
  have e1 : n4 ((encS x ++ r).drop 1) = x.size.toNat := by
    show n4 (w4 x.size.toNat ++ (w4 x.align.toNat ++ (UInt8.ofNat x.name.size :: x.name.data.toList)) ++ r) = _
    rw [List.append_assoc]
    exact n4_w4 _ (by omega) _
  have e2 : n4 ((encS x ++ r).drop 5) = x.align.toNat := by
    show n4 ((w4 x.align.toNat ++ (UInt8.ofNat x.name.size :: x.name.data.toList)) ++ r) = _
    rw [List.append_assoc]
    exact n4_w4 _ (by omega) _
  have e3 : ((encS x ++ r).drop 10).take x.name.size = x.name.data.toList := by
    show (x.name.data.toList ++ r).take _ = _
    rw [← len_list, List.take_left']
    rfl
  have e4 : ((encS x ++ r).getD 0 0).toNat = x.bind.toNat := by
    unfold encS
    simp
    omega
  rw [e1, e2, e3, e4, str_of]
  obtain ⟨n, b, s, a⟩ := x
  simp at hb ⊢
  omega
theorem not_cut_enc (x : Sy) (h : symOk x = true) (r : List UInt8) : ¬ cutS (encS x ++ r) := by
  have hn := nameOk_range (by unfold symOk at h; rw [Bool.and_eq_true] at h; exact h.1)
  unfold cutS
  rw [kS_enc x hn.2 r, List.length_append, encS_length]
  omega
theorem drop_enc (x : Sy) (h : symOk x = true) (r : List UInt8) : (encS x ++ r).drop (10 + kS (encS x ++ r)) = r := by
  have hn := nameOk_range (by unfold symOk at h; rw [Bool.and_eq_true] at h; exact h.1)
  rw [kS_enc x hn.2 r, ← encS_length, List.drop_left']
  rfl
theorem enc_rdS (l : List UInt8) (h : ¬ cutS l) (ho : symOk (rdS l) = true) : encS (rdS l) = l.take (10 + kS l) := by
  unfold cutS at h
  have h10 : 10 ≤ l.length := by omega
  have hk : (str ((l.drop 10).take (kS l))).size = kS l := by rw [str_size, List.length_take, List.length_drop]; omega
  unfold encS rdS
  simp only [Int.toNat_natCast, hk, str_list]
  rw [w4_n4 _ (by rw [List.length_drop]; omega), w4_n4 _ (by rw [List.length_drop]; omega)]
  match l, h10 with
  | a0 :: a1 :: a2 :: a3 :: a4 :: a5 :: a6 :: a7 :: a8 :: a9 :: r, _ =>
    have e : ∀ (q : List UInt8) (j : Nat), (a0 :: a1 :: a2 :: a3 :: a4 :: a5 :: a6 :: a7 :: a8 :: a9 :: r).take (10 + j) = [a0, a1, a2, a3, a4, a5, a6, a7, a8, a9] ++ r.take j := fun q j => by
      rw [Nat.add_comm]
      simp
    rw [e []]
    simp [kS]

theorem decL_enc : ∀ (l acc : List Sy) (r : List UInt8), goodL acc l = true → decL l.length acc (encL l ++ r) = (0, acc ++ l, r)
  | [], acc, r, _ => by simp [decL, encL]
  | x :: l, acc, r, h => by
    unfold goodL at h
    rw [Bool.and_eq_true, Bool.and_eq_true] at h
    obtain ⟨⟨h1, h2⟩, h3⟩ := h
    have e : encL (x :: l) ++ r = encS x ++ (encL l ++ r) := by simp [encL]
    rw [e, List.length_cons, decL, if_neg (not_cut_enc x h2 _), rdS_enc x h2, if_neg (by simp [h2]; simpa using h1), drop_enc x h2, decL_enc l (acc ++ [x]) r h3, List.append_assoc]
    rfl
theorem decL_some : ∀ (n : Nat) (acc : List Sy) (l : List UInt8) (ys : List Sy) (r : List UInt8), decL n acc l = (0, ys, r) → ∃ xs, ys = acc ++ xs ∧ xs.length = n ∧ goodL acc xs = true ∧ l = encL xs ++ r
  | 0, acc, l, ys, r, h => by
    unfold decL at h
    injection h with _ h
    injection h with h1 h2
    exact ⟨[], by simp [h1], rfl, rfl, by simp [encL, h2]⟩
  | n + 1, acc, l, ys, r, h => by
    unfold decL at h
    split at h
    · injection h with h _; exact absurd h (by decide)
    · rename_i hc
      split at h
      · injection h with h _; exact absurd h (by decide)
      · rename_i hg
        have hg1 : has acc (rdS l).name = false := by cases hq : has acc (rdS l).name with | false => rfl | true => exact absurd (.inl hq) hg
        have hg2 : symOk (rdS l) = true := by cases hq : symOk (rdS l) with | true => rfl | false => exact absurd (.inr hq) hg
        obtain ⟨xs, h1, h2, h3, h4⟩ := decL_some n _ _ _ _ h
        refine ⟨rdS l :: xs, by rw [h1, List.append_assoc]; rfl, by simp [h2], ?_, ?_⟩
        · unfold goodL
          rw [hg1, hg2, h3]
          rfl
        · have e : encL (rdS l :: xs) ++ r = encS (rdS l) ++ (encL xs ++ r) := by simp [encL]
          rw [e, ← h4, enc_rdS l hc hg2, List.take_append_drop]
theorem decL_ok_or : ∀ (n : Nat) (acc : List Sy) (l : List UInt8), (decL n acc l).1 = 0 ∨ decL n acc l = (2, [], []) ∨ decL n acc l = (12, [], [])
  | 0, acc, l => .inl rfl
  | n + 1, acc, l => by
    unfold decL
    split
    · exact .inr (.inl rfl)
    · split
      · exact .inr (.inr rfl)
      · exact decL_ok_or n _ _
theorem decO_bad (l : List UInt8) (h : (decO l).1 ≠ 0) : (decO l).2 = ([], []) := by
  unfold decO at h ⊢
  split
  · rfl
  · rename_i q1
    rw [if_neg q1] at h
    split
    · rfl
    · rename_i q2
      rw [if_neg q2] at h
      split
      · rfl
      · rename_i q3
        rw [if_neg q3] at h
        split
        · rfl
        · rename_i q4
          rw [if_neg q4] at h
          rcases decL_ok_or (n4 (l.drop 4)) [] (l.drop 8) with q | q | q
          · exact absurd q h
          · rw [q]
          · rw [q]
/-- What is encoded is decoded. -/
theorem decO_enc (l : List Sy) (body : List UInt8) (h : validO l = true) : decO (encO l body) = (0, l, body) := by
  unfold validO at h
  rw [Bool.and_eq_true, decide_eq_true_eq] at h
  have hl : (encO l body).length = 8 + ((encL l).length + body.length) := by simp [encO, magic, w4]; omega
  have e4 : (encO l body).take 4 = magic := rfl
  have e5 : n4 ((encO l body).drop 4) = l.length := n4_w4 l.length (by omega) (encL l ++ body)
  have e8 : (encO l body).drop 8 = encL l ++ body := rfl
  unfold decO
  rw [if_neg (by omega), if_neg (by simp [e4]), if_neg (by omega), e5, if_neg (by omega), e8, decL_enc l [] body h.2]
  rfl
/-- What is decoded has the bytes that were read as its encoding. -/
theorem enc_decO (b : List UInt8) (l : List Sy) (body : List UInt8) (h : decO b = (0, l, body)) : validO l = true ∧ encO l body = b := by
  unfold decO at h
  split at h
  · injection h with h _; exact absurd h (by decide)
  · split at h
    · injection h with h _; exact absurd h (by decide)
    · rename_i hm
      split at h
      · injection h with h _; exact absurd h (by decide)
      · split at h
        · injection h with h _; exact absurd h (by decide)
        · rename_i h4 h8 hn
          obtain ⟨xs, h1, h2, h3, h4'⟩ := decL_some _ _ _ _ _ h
          rw [List.nil_append] at h1
          subst h1
          refine ⟨by unfold validO; rw [h3, h2, Bool.and_true, decide_eq_true_eq]; omega, ?_⟩
          unfold encO
          rw [← h4', h2, w4_n4 _ (by rw [List.length_drop]; omega), show magic = b.take 4 from (Classical.not_not.1 hm).symm]
          have e1 : (b.drop 4).take 4 ++ b.drop 8 = b.drop 4 := by
            have := List.take_append_drop 4 (b.drop 4)
            rw [List.drop_drop] at this
            exact this
          rw [e1, List.take_append_drop]
end Go.Proofs.Ytcaepgggffkjpaa.Obj
