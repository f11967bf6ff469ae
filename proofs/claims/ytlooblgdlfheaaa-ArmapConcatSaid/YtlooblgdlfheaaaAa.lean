/-
  armap: the encoding of archive maps (mathematics, no program in it).
-/
import Derived.Test.YtlooblgdlfheaaaMa
namespace Go.Proofs.Ytlooblgdlfheaaa.Amp

/-- Four bytes, the most significant one first; and back. -/
def w4 (n : Nat) : List UInt8 := [UInt8.ofNat (n / 16777216), UInt8.ofNat (n / 65536), UInt8.ofNat (n / 256), UInt8.ofNat n]
def n4 (l : List UInt8) : Nat := (l.take 4).foldl (fun n c => n * 256 + c.toNat) 0
def str (l : List UInt8) : ByteArray := ⟨l.toArray⟩
theorem w4_length (n : Nat) : (w4 n).length = 4 := rfl
theorem n4_w4 (n : Nat) (hn : n < 4294967296) (r : List UInt8) : n4 (w4 n ++ r) = n := by
  simp [n4, w4, UInt8.toNat_ofNat']
  omega
theorem n4_lt (l : List UInt8) : n4 l < 4294967296 := by
  unfold n4
  match l with
  | [] => simp
  | [a] => simp; have := a.toNat_lt; omega
  | [a, b] => simp; have := a.toNat_lt; have := b.toNat_lt; omega
  | [a, b, c] => simp; have := a.toNat_lt; have := b.toNat_lt; have := c.toNat_lt; omega
  | a :: b :: c :: d :: r => simp; have := a.toNat_lt; have := b.toNat_lt; have := c.toNat_lt; have := d.toNat_lt; omega
theorem ofNat_mod (n : Nat) (a : UInt8) (h : n % 256 = a.toNat) : UInt8.ofNat n = a := by
  rw [← UInt8.toNat_inj, UInt8.toNat_ofNat']
  exact h
theorem w4_n4 (l : List UInt8) (h : 4 ≤ l.length) : w4 (n4 l) = l.take 4 := by
  match l, h with
  | a :: b :: c :: d :: r, _ =>
    have := a.toNat_lt; have := b.toNat_lt; have := c.toNat_lt; have := d.toNat_lt
    have e : n4 (a :: b :: c :: d :: r) = ((a.toNat * 256 + b.toNat) * 256 + c.toNat) * 256 + d.toNat := by simp [n4]
    show w4 (n4 (a :: b :: c :: d :: r)) = [a, b, c, d]
    rw [e]
    unfold w4
    rw [ofNat_mod _ a (by omega), ofNat_mod _ b (by omega), ofNat_mod _ c (by omega), ofNat_mod _ d (by omega)]
theorem str_list (l : List UInt8) : (str l).data.toList = l := rfl
theorem str_size (l : List UInt8) : (str l).size = l.length := rfl
theorem str_of (s : ByteArray) : str s.data.toList = s := rfl
theorem len_list (s : ByteArray) : s.data.toList.length = s.size := rfl

/-- An entry. -/
structure En where
  name : ByteArray
  off : Int
def nmOk (l : List UInt8) : Bool := decide (l ≠ []) && !l.contains 0
def enOk (x : En) : Bool := nmOk x.name.data.toList && (decide (0 ≤ x.off) && decide (x.off ≤ 4294967295))
theorem nmOk_iff {l : List UInt8} : nmOk l = true ↔ l ≠ [] ∧ (0 : UInt8) ∉ l := by simp [nmOk]
theorem enOk_iff {x : En} : enOk x = true ↔ nmOk x.name.data.toList = true ∧ 0 ≤ x.off ∧ x.off ≤ 4294967295 := by simp [enOk]
/-- The offsets, the names, the encoding. -/
def encF (l : List En) : List UInt8 := l.flatMap fun x => w4 x.off.toNat
def encN (l : List (List UInt8)) : List UInt8 := l.flatMap fun s => s ++ [0]
def nmsE (l : List En) : List (List UInt8) := l.map fun x => x.name.data.toList
def encA (l : List En) : List UInt8 := w4 l.length ++ (encF l ++ encN (nmsE l))
def fitA (l : List En) : Bool := l.all enOk
theorem encF_length : ∀ l : List En, (encF l).length = 4 * l.length
  | [] => rfl
  | x :: r => by
    show (w4 x.off.toNat ++ encF r).length = _
    rw [List.length_append, encF_length r, w4_length, List.length_cons]
    omega
theorem encN_append (a b : List (List UInt8)) : encN (a ++ b) = encN a ++ encN b := by simp [encN]
theorem encF_append (a b : List En) : encF (a ++ b) = encF a ++ encF b := by simp [encF]
theorem encN_cons (s : List UInt8) (r : List (List UInt8)) : encN (s :: r) = s ++ ([0] ++ encN r) := by simp [encN]
/-- How long the names are. -/
def szN (l : List (List UInt8)) : Nat := (l.map fun s => s.length + 1).sum
theorem encN_length : ∀ l, (encN l).length = szN l
  | [] => rfl
  | s :: r => by
    rw [encN_cons, List.length_append, List.length_append, encN_length r]
    simp [szN]
    omega
theorem encA_length (l : List En) : (encA l).length = 4 + 4 * l.length + szN (nmsE l) := by
  unfold encA
  rw [List.length_append, List.length_append, w4_length, encF_length, encN_length]
  omega
theorem encA_concat (a b : List En) : (encA (a ++ b)).length + 4 = (encA a).length + (encA b).length := by
  rw [encA_length, encA_length, encA_length]
  unfold nmsE szN
  rw [List.map_append, List.map_append, List.sum_append, List.length_append]
  omega

/-- The bytes up to a zero byte. -/
def nm1 (l : List UInt8) : List UInt8 := l.takeWhile (· != 0)
theorem nm1_app {s : List UInt8} (h : (0 : UInt8) ∉ s) (r : List UInt8) : nm1 (s ++ ([0] ++ r)) = s := by
  unfold nm1
  rw [List.takeWhile_append_of_pos (fun c hc => by simp; rintro rfl; exact h hc)]
  simp
theorem nm1_all {s : List UInt8} (h : (0 : UInt8) ∉ s) : nm1 s = s := by
  unfold nm1
  have := List.takeWhile_append_of_pos (p := fun (x : UInt8) => x != 0) (l₁ := s) (l₂ := []) (fun c hc => by simp; rintro rfl; exact h hc)
  simpa using this
theorem nm1_not (l : List UInt8) : (0 : UInt8) ∉ nm1 l := fun h => by
  have h1 : (l.takeWhile (· != 0)).all (· != 0) = true := List.all_takeWhile
  have := List.all_eq_true.1 h1 0 h
  simp at this
theorem nm1_split {l : List UInt8} (h : nm1 l ≠ l) : l = nm1 l ++ ([0] ++ l.drop ((nm1 l).length + 1)) := by
  induction l with
  | nil => exact absurd rfl h
  | cons c r ih =>
    unfold nm1 at h ⊢
    rw [List.takeWhile_cons] at h ⊢
    by_cases hc : c = 0
    · subst hc
      simp
    · have h1 : (c != 0) = true := by simpa using hc
      rw [h1] at h ⊢
      simp only [if_true] at h ⊢
      have h2 : nm1 r ≠ r := fun e => h (by unfold nm1 at e; rw [e])
      have h3 := ih h2
      unfold nm1 at h3
      rw [List.cons_append, List.length_cons, List.drop_succ_cons]
      exact congrArg (c :: ·) h3

/-- So many names, and nothing behind them. -/
def nmsA : Nat → List UInt8 → Option (List (List UInt8))
  | 0, l => if l = [] then some [] else none
  | n + 1, l => if nm1 l = [] ∨ nm1 l = l then none else (nmsA n (l.drop ((nm1 l).length + 1))).map (nm1 l :: ·)
theorem nmsA_succ (n : Nat) (l : List UInt8) : nmsA (n + 1) l = if nm1 l = [] ∨ nm1 l = l then none else (nmsA n (l.drop ((nm1 l).length + 1))).map (nm1 l :: ·) := rfl
theorem nmsA_step {s : List UInt8} (h : nmOk s = true) (n : Nat) (r : List UInt8) : nmsA (n + 1) (s ++ ([0] ++ r)) = (nmsA n r).map (s :: ·) := by
  obtain ⟨h0, h1⟩ := nmOk_iff.1 h
  rw [nmsA_succ, nm1_app h1, if_neg]
  · congr 2
    rw [← List.append_assoc, List.drop_left' (by simp)]
  · rintro (q | q)
    · exact h0 q
    · have := congrArg List.length q
      simp at this
theorem nmsA_app : ∀ (a : List (List UInt8)) (n : Nat) (r : List UInt8), (∀ s ∈ a, nmOk s = true) → nmsA (a.length + n) (encN a ++ r) = (nmsA n r).map (a ++ ·)
  | [], n, r, _ => by simp [encN]
  | s :: a, n, r, h => by
    rw [List.length_cons, show a.length + 1 + n = (a.length + n) + 1 by omega, encN_cons, List.append_assoc, List.append_assoc, nmsA_step (h s List.mem_cons_self), nmsA_app a n r fun t ht => h t (List.mem_cons_of_mem _ ht), Option.map_map]
    rfl
theorem nmsA_enc {a : List (List UInt8)} (h : ∀ s ∈ a, nmOk s = true) : nmsA a.length (encN a) = some a := by
  have := nmsA_app a 0 [] h
  rw [Nat.add_zero, List.append_nil] at this
  rw [this]
  simp [nmsA]
theorem nmsA_some : ∀ (n : Nat) (l : List UInt8) (a : List (List UInt8)), nmsA n l = some a → a.length = n ∧ (∀ s ∈ a, nmOk s = true) ∧ encN a = l
  | 0, l, a, h => by
    unfold nmsA at h
    split at h
    · rename_i h0
      injection h with h
      subst h0 h
      exact ⟨rfl, fun s hs => (by cases hs), rfl⟩
    · cases h
  | n + 1, l, a, h => by
    unfold nmsA at h
    split at h
    · cases h
    · rename_i h0
      rw [not_or] at h0
      cases hr : nmsA n (l.drop ((nm1 l).length + 1)) with
      | none => rw [hr] at h; cases h
      | some b =>
        rw [hr] at h
        injection h with h
        subst h
        obtain ⟨h1, h2, h3⟩ := nmsA_some n _ b hr
        refine ⟨by rw [List.length_cons, h1], fun s hs => ?_, ?_⟩
        · rcases List.mem_cons.1 hs with rfl | hs
          · exact nmOk_iff.2 ⟨h0.1, nm1_not l⟩
          · exact h2 s hs
        · rw [encN_cons, h3]
          exact (nm1_split h0.2).symm
/-- One byte more, one byte less. -/
theorem nmsA_more {a : List (List UInt8)} (h : ∀ s ∈ a, nmOk s = true) (c : UInt8) : nmsA a.length (encN a ++ [c]) = none := by
  have := nmsA_app a 0 [c] h
  rw [Nat.add_zero] at this
  rw [this]
  simp [nmsA]
theorem nmsA_less {a : List (List UInt8)} (h : ∀ s ∈ a, nmOk s = true) (h0 : a ≠ []) : nmsA a.length (encN a).dropLast = none := by
  obtain ⟨b, s, rfl⟩ : ∃ b s, a = b ++ [s] := ⟨a.dropLast, a.getLast h0, (List.dropLast_concat_getLast h0).symm⟩
  have hs := nmOk_iff.1 (h s (by simp))
  have hb : ∀ t ∈ b, nmOk t = true := fun t ht => h t (by simp [ht])
  have e : encN (b ++ [s]) = (encN b ++ s) ++ [0] := by simp [encN]
  rw [e, List.dropLast_concat, List.length_append, List.length_singleton, nmsA_app b 1 s hb]
  unfold nmsA
  rw [if_pos (.inr (nm1_all hs.2))]
  rfl

/-- The entries. -/
def mkE (l : List UInt8) : Nat → List (List UInt8) → List En
  | _, [] => []
  | i, s :: r => ⟨str s, (n4 (l.drop (4 + 4 * i)) : Int)⟩ :: mkE l (i + 1) r
def decA (l : List UInt8) : Option (List En) :=
  if l.length < 4 then none else if l.length < 4 + 4 * n4 l then none else (nmsA (n4 l) (l.drop (4 + 4 * n4 l))).map (mkE l 0)
theorem mkE_length (l : List UInt8) : ∀ (a : List (List UInt8)) (i : Nat), (mkE l i a).length = a.length
  | [], _ => rfl
  | s :: r, i => by rw [mkE, List.length_cons, mkE_length l r (i + 1), List.length_cons]
theorem nmsE_mkE (l : List UInt8) : ∀ (a : List (List UInt8)) (i : Nat), nmsE (mkE l i a) = a
  | [], _ => rfl
  | s :: r, i => by
    show _ :: nmsE (mkE l (i + 1) r) = _
    rw [nmsE_mkE l r (i + 1)]
    rfl
theorem mkE_enc : ∀ (xs pre : List En) (h : List UInt8) (r : List UInt8), h.length = 4 → (∀ x ∈ xs, enOk x = true) → mkE (h ++ (encF pre ++ (encF xs ++ r))) pre.length (nmsE xs) = xs
  | [], _, _, _, _, _ => rfl
  | x :: xs, pre, h, r, hh, hx => by
    obtain ⟨_, h0, h1⟩ := enOk_iff.1 (hx x List.mem_cons_self)
    have e1 : (h ++ (encF pre ++ (encF (x :: xs) ++ r))).drop (4 + 4 * pre.length) = w4 x.off.toNat ++ (encF xs ++ r) := by
      rw [← List.append_assoc, List.drop_left' (by rw [List.length_append, hh, encF_length])]
      show (w4 x.off.toNat ++ encF xs) ++ r = _
      rw [List.append_assoc]
    have e2 : h ++ (encF pre ++ (encF (x :: xs) ++ r)) = h ++ (encF (pre ++ [x]) ++ (encF xs ++ r)) := by
      rw [encF_append]
      show h ++ (encF pre ++ ((w4 x.off.toNat ++ encF xs) ++ r)) = h ++ ((encF pre ++ (w4 x.off.toNat ++ [])) ++ (encF xs ++ r))
      simp
    show _ :: mkE _ (pre.length + 1) (nmsE xs) = _
    rw [e1, n4_w4 _ (by omega), e2]
    have := mkE_enc xs (pre ++ [x]) h r hh fun y hy => hx y (List.mem_cons_of_mem _ hy)
    rw [List.length_append, List.length_singleton] at this
    rw [this, str_of, Int.toNat_of_nonneg h0]
theorem fitA_iff {l : List En} : fitA l = true ↔ ∀ x ∈ l, enOk x = true := by simp [fitA]
theorem fit_nms {l : List En} (h : fitA l = true) : ∀ s ∈ nmsE l, nmOk s = true := fun s hs => by
  obtain ⟨x, hx, rfl⟩ := List.mem_map.1 hs
  exact (enOk_iff.1 (fitA_iff.1 h x hx)).1
theorem nmsE_length (l : List En) : (nmsE l).length = l.length := by simp [nmsE]
/-- What is decoded of what begins as an encoding. -/
theorem decA_of (l : List En) (hn : l.length < 4294967296) (t : List UInt8) :
    decA (w4 l.length ++ (encF l ++ t)) = (nmsA l.length t).map (mkE (w4 l.length ++ (encF l ++ t)) 0) := by
  have h4 : n4 (w4 l.length ++ (encF l ++ t)) = l.length := n4_w4 _ hn _
  have hlen : (w4 l.length ++ (encF l ++ t)).length = 4 + (4 * l.length + t.length) := by rw [List.length_append, List.length_append, w4_length, encF_length]
  unfold decA
  rw [if_neg (by omega), h4, if_neg (by omega)]
  congr 2
  rw [← List.append_assoc, List.drop_left' (by rw [List.length_append, w4_length, encF_length])]
theorem decA_enc (l : List En) (h : fitA l = true) (hn : l.length < 4294967296) : decA (encA l) = some l := by
  unfold encA
  rw [decA_of l hn]
  have h1 := nmsA_enc (fit_nms h)
  rw [nmsE_length] at h1
  rw [h1]
  have := mkE_enc l [] (w4 l.length) (encN (nmsE l)) (w4_length _) (fitA_iff.1 h)
  show some (mkE (w4 l.length ++ (encF l ++ encN (nmsE l))) 0 (nmsE l)) = some l
  exact congrArg some this
theorem encF_mkE (l : List UInt8) : ∀ (a : List (List UInt8)) (i : Nat), 4 + 4 * (i + a.length) ≤ l.length → encF (mkE l i a) = (l.drop (4 + 4 * i)).take (4 * a.length)
  | [], i, _ => by simp [mkE, encF]
  | s :: r, i, h => by
    rw [List.length_cons] at h
    show w4 ((n4 (l.drop (4 + 4 * i)) : Nat) : Int).toNat ++ encF (mkE l (i + 1) r) = _
    rw [encF_mkE l r (i + 1) (by omega), Int.toNat_natCast, w4_n4 _ (by rw [List.length_drop]; omega), List.length_cons, show 4 * (r.length + 1) = 4 + 4 * r.length by omega, List.take_add, List.drop_drop, show 4 + 4 * (i + 1) = 4 + 4 * i + 4 by omega]
theorem enOk_mkE (l : List UInt8) : ∀ (a : List (List UInt8)) (i : Nat), (∀ s ∈ a, nmOk s = true) → ∀ x ∈ mkE l i a, enOk x = true
  | [], _, _, x, hx => by cases hx
  | s :: r, i, h, x, hx => by
    unfold mkE at hx
    rcases List.mem_cons.1 hx with rfl | hx
    · have := n4_lt (l.drop (4 + 4 * i))
      exact enOk_iff.2 ⟨h s List.mem_cons_self, by show (0 : Int) ≤ (_ : Nat); omega, by show ((n4 (l.drop (4 + 4 * i)) : Nat) : Int) ≤ _; omega⟩
    · exact enOk_mkE l r (i + 1) (fun t ht => h t (List.mem_cons_of_mem _ ht)) x hx
theorem enc_decA {b : List UInt8} {l : List En} (h : decA b = some l) : fitA l = true ∧ l.length < 4294967296 ∧ encA l = b := by
  unfold decA at h
  split at h
  · cases h
  · split at h
    · cases h
    · rename_i h4 hn
      cases ha : nmsA (n4 b) (b.drop (4 + 4 * n4 b)) with
      | none => rw [ha] at h; cases h
      | some a =>
        rw [ha] at h
        injection h with h
        subst h
        obtain ⟨h1, h2, h3⟩ := nmsA_some _ _ a ha
        have hl := n4_lt b
        refine ⟨fitA_iff.2 (enOk_mkE b a 0 h2), by rw [mkE_length]; omega, ?_⟩
        unfold encA
        rw [mkE_length, nmsE_mkE, encF_mkE b a 0 (by omega), h3, h1, w4_n4 b (by omega), Nat.mul_zero, Nat.add_zero]
        rw [← List.drop_drop, List.take_append_drop, List.take_append_drop]
theorem decA_more (l : List En) (h : fitA l = true) (hn : l.length < 4294967296) (c : UInt8) : decA (encA l ++ [c]) = none := by
  unfold encA
  rw [List.append_assoc, List.append_assoc, decA_of l hn]
  have := nmsA_more (fit_nms h) c
  rw [nmsE_length] at this
  rw [this]
  rfl
theorem decA_less (l : List En) (h : fitA l = true) (hn : l.length < 4294967296) : decA ((encA l).take ((encA l).length - 1)) = none := by
  rw [← List.dropLast_eq_take]
  by_cases h0 : l = []
  · subst h0
    rfl
  · have h1 : encN (nmsE l) ≠ [] := by
      cases l with
      | nil => exact absurd rfl h0
      | cons x r => show encN (_ :: _) ≠ []; rw [encN_cons]; simp
    unfold encA
    rw [List.dropLast_append_of_ne_nil (by simp [h1]), List.dropLast_append_of_ne_nil h1, decA_of l hn]
    have := nmsA_less (fit_nms h) (by unfold nmsE; simpa using h0)
    rw [nmsE_length] at this
    rw [this]
    rfl
end Go.Proofs.Ytlooblgdlfheaaa.Amp
