/-
  armap: the encoding of archive maps (mathematics, no program in it).
  armap: entries in memory; the reference's Word and Number.
  armap's reference: Fits, Few, Same.
  armap's reference: Encode.
  armap's reference: Decode.
-/
import Derived.Test.YtjobmkodgodloaaGreatDoorZMa
import Derived.Test.YtjobmkodgodloaaGreatDoorZOa
import Derived.Laws.StructEq
import Derived.BigQuiet
namespace Go.Proofs.YtjobmkodgodloaaGreatDoor.Amp

def w4 (n : Nat) : List UInt8 := [UInt8.ofNat (n / 16777216), UInt8.ofNat (n / 65536), UInt8.ofNat (n / 256), UInt8.ofNat n]
def n4 (l : List UInt8) : Nat := (l.take 4).foldl (fun n c => n * 256 + c.toNat) 0
def str (l : List UInt8) : ByteArray := ⟨l.toArray⟩
theorem w4_length (n : Nat) : (w4 n).length = 4 := rfl
theorem n4_w4 (n : Nat) (hn : n < 4294967296) (r : List UInt8) : n4 (w4 n ++ r) = n := by
 simp [n4, w4, UInt8.toNat_ofNat']
 omega
theorem n4_lt (l : List UInt8) : n4 l < 4294967296 := by
 unfold n4
 match l with
 | [] => simp
 | [a] => simp; have := a.toNat_lt; omega
 | [a, b] => simp; have := a.toNat_lt; have := b.toNat_lt; omega
 | [a, b, c] => simp; have := a.toNat_lt; have := b.toNat_lt; have := c.toNat_lt; omega
 | a :: b :: c :: d :: r => simp; have := a.toNat_lt; have := b.toNat_lt; have := c.toNat_lt; have := d.toNat_lt; omega
theorem ofNat_mod (n : Nat) (a : UInt8) (h : n % 256 = a.toNat) : UInt8.ofNat n = a := by
 rw [← UInt8.toNat_inj, UInt8.toNat_ofNat']
 exact h
theorem w4_n4 (l : List UInt8) (h : 4 ≤ l.length) : w4 (n4 l) = l.take 4 := by
 match l, h with
 | a :: b :: c :: d :: r, _ =>
   have := a.toNat_lt; have := b.toNat_lt; have := c.toNat_lt; have := d.toNat_lt
   have e : n4 (a :: b :: c :: d :: r) = ((a.toNat * 256 + b.toNat) * 256 + c.toNat) * 256 + d.toNat := by simp [n4]
   show w4 (n4 (a :: b :: c :: d :: r)) = [a, b, c, d]
   rw [e]
   unfold w4
   rw [ofNat_mod _ a (by omega), ofNat_mod _ b (by omega), ofNat_mod _ c (by omega), ofNat_mod _ d (by omega)]
theorem str_list (l : List UInt8) : (str l).data.toList = l := rfl
theorem str_size (l : List UInt8) : (str l).size = l.length := rfl
theorem str_of (s : ByteArray) : str s.data.toList = s := rfl
theorem len_list (s : ByteArray) : s.data.toList.length = s.size := rfl

structure En where
 name : ByteArray
 off : Int
def nmOk (l : List UInt8) : Bool := decide (l ≠ []) && !l.contains 0
def enOk (x : En) : Bool := nmOk x.name.data.toList && (decide (0 ≤ x.off) && decide (x.off ≤ 4294967295))
theorem nmOk_iff {l : List UInt8} : nmOk l = true ↔ l ≠ [] ∧ (0 : UInt8) ∉ l := by simp [nmOk]
theorem enOk_iff {x : En} : enOk x = true ↔ nmOk x.name.data.toList = true ∧ 0 ≤ x.off ∧ x.off ≤ 4294967295 := by simp [enOk]
def encF (l : List En) : List UInt8 := l.flatMap fun x => w4 x.off.toNat
def encN (l : List (List UInt8)) : List UInt8 := l.flatMap fun s => s ++ [0]
def nmsE (l : List En) : List (List UInt8) := l.map fun x => x.name.data.toList
def encA (l : List En) : List UInt8 := w4 l.length ++ (encF l ++ encN (nmsE l))
def fitA (l : List En) : Bool := l.all enOk
theorem encF_length : ∀ l : List En, (encF l).length = 4 * l.length
 | [] => rfl
 | x :: r => by
   show (w4 x.off.toNat ++ encF r).length = _
   rw [List.length_append, encF_length r, w4_length, List.length_cons]
   omega
theorem encN_append (a b : List (List UInt8)) : encN (a ++ b) = encN a ++ encN b := by simp [encN]
theorem encF_append (a b : List En) : encF (a ++ b) = encF a ++ encF b := by simp [encF]
theorem encN_cons (s : List UInt8) (r : List (List UInt8)) : encN (s :: r) = s ++ ([0] ++ encN r) := by simp [encN]
def szN (l : List (List UInt8)) : Nat := (l.map fun s => s.length + 1).sum
theorem encN_length : ∀ l, (encN l).length = szN l
 | [] => rfl
 | s :: r => by
   rw [encN_cons, List.length_append, List.length_append, encN_length r]
   simp [szN]
   omega
theorem encA_length (l : List En) : (encA l).length = 4 + 4 * l.length + szN (nmsE l) := by
 unfold encA
 rw [List.length_append, List.length_append, w4_length, encF_length, encN_length]
 omega
def nm1 (l : List UInt8) : List UInt8 := l.takeWhile (· != 0)
theorem nm1_app {s : List UInt8} (h : (0 : UInt8) ∉ s) (r : List UInt8) : nm1 (s ++ ([0] ++ r)) = s := by
 unfold nm1
 rw [List.takeWhile_append_of_pos (fun c hc => by simp; rintro rfl; exact h hc)]
 simp
theorem nm1_all {s : List UInt8} (h : (0 : UInt8) ∉ s) : nm1 s = s := by
 unfold nm1
 have := List.takeWhile_append_of_pos (p := fun (x : UInt8) => x != 0) (l₁ := s) (l₂ := []) (fun c hc => by simp; rintro rfl; exact h hc)
 simpa using this
theorem nm1_not (l : List UInt8) : (0 : UInt8) ∉ nm1 l := fun h => by
 have h1 : (l.takeWhile (· != 0)).all (· != 0) = true := List.all_takeWhile
 have := List.all_eq_true.1 h1 0 h
 simp at this
theorem nm1_split {l : List UInt8} (h : nm1 l ≠ l) : l = nm1 l ++ ([0] ++ l.drop ((nm1 l).length + 1)) := by
 induction l with
 | nil => exact absurd rfl h
 | cons c r ih =>
   unfold nm1 at h ⊢
   rw [List.takeWhile_cons] at h ⊢
   by_cases hc : c = 0
   · subst hc
     simp
   · have h1 : (c != 0) = true := by simpa using hc
     rw [h1] at h ⊢
     simp only [if_true] at h ⊢
     have h2 : nm1 r ≠ r := fun e => h (by unfold nm1 at e; rw [e])
     have h3 := ih h2
     unfold nm1 at h3
     rw [List.cons_append, List.length_cons, List.drop_succ_cons]
     exact congrArg (c :: ·) h3

def nmsA : Nat → List UInt8 → Option (List (List UInt8))
 | 0, l => if l = [] then some [] else none
 | n + 1, l => if nm1 l = [] ∨ nm1 l = l then none else (nmsA n (l.drop ((nm1 l).length + 1))).map (nm1 l :: ·)
theorem nmsA_succ (n : Nat) (l : List UInt8) : nmsA (n + 1) l = if nm1 l = [] ∨ nm1 l = l then none else (nmsA n (l.drop ((nm1 l).length + 1))).map (nm1 l :: ·) := rfl
theorem nmsA_step {s : List UInt8} (h : nmOk s = true) (n : Nat) (r : List UInt8) : nmsA (n + 1) (s ++ ([0] ++ r)) = (nmsA n r).map (s :: ·) := by
 obtain ⟨h0, h1⟩ := nmOk_iff.1 h
 rw [nmsA_succ, nm1_app h1, if_neg]
 · congr 2
   rw [← List.append_assoc, List.drop_left' (by simp)]
 · rintro (q | q)
   · exact h0 q
   · have := congrArg List.length q
     simp at this
theorem nmsA_app : ∀ (a : List (List UInt8)) (n : Nat) (r : List UInt8), (∀ s ∈ a, nmOk s = true) → nmsA (a.length + n) (encN a ++ r) = (nmsA n r).map (a ++ ·)
 | [], n, r, _ => by simp [encN]
 | s :: a, n, r, h => by
   rw [List.length_cons, show a.length + 1 + n = (a.length + n) + 1 by omega, encN_cons, List.append_assoc, List.append_assoc, nmsA_step (h s List.mem_cons_self), nmsA_app a n r fun t ht => h t (List.mem_cons_of_mem _ ht), Option.map_map]
   rfl
theorem nmsA_enc {a : List (List UInt8)} (h : ∀ s ∈ a, nmOk s = true) : nmsA a.length (encN a) = some a := by
 have := nmsA_app a 0 [] h
 rw [Nat.add_zero, List.append_nil] at this
 rw [this]
 simp [nmsA]
theorem nmsA_some : ∀ (n : Nat) (l : List UInt8) (a : List (List UInt8)), nmsA n l = some a → a.length = n ∧ (∀ s ∈ a, nmOk s = true) ∧ encN a = l
 | 0, l, a, h => by
   unfold nmsA at h
   split at h
   · rename_i h0
     injection h with h
     subst h0 h
     exact ⟨rfl, fun s hs => (by cases hs), rfl⟩
   · cases h
 | n + 1, l, a, h => by
   unfold nmsA at h
   split at h
   · cases h
   · rename_i h0
     rw [not_or] at h0
     cases hr : nmsA n (l.drop ((nm1 l).length + 1)) with
     | none => rw [hr] at h; cases h
     | some b =>
       rw [hr] at h
       injection h with h
       subst h
       obtain ⟨h1, h2, h3⟩ := nmsA_some n _ b hr
       refine ⟨by rw [List.length_cons, h1], fun s hs => ?_, ?_⟩
       · rcases List.mem_cons.1 hs with rfl | hs
         · exact nmOk_iff.2 ⟨h0.1, nm1_not l⟩
         · exact h2 s hs
       · rw [encN_cons, h3]
         exact (nm1_split h0.2).symm
def mkE (l : List UInt8) : Nat → List (List UInt8) → List En
 | _, [] => []
 | i, s :: r => ⟨str s, (n4 (l.drop (4 + 4 * i)) : Int)⟩ :: mkE l (i + 1) r
def decA (l : List UInt8) : Option (List En) :=
 if l.length < 4 then none else if l.length < 4 + 4 * n4 l then none else (nmsA (n4 l) (l.drop (4 + 4 * n4 l))).map (mkE l 0)
theorem mkE_length (l : List UInt8) : ∀ (a : List (List UInt8)) (i : Nat), (mkE l i a).length = a.length
 | [], _ => rfl
 | s :: r, i => by rw [mkE, List.length_cons, mkE_length l r (i + 1), List.length_cons]
theorem nmsE_mkE (l : List UInt8) : ∀ (a : List (List UInt8)) (i : Nat), nmsE (mkE l i a) = a
 | [], _ => rfl
 | s :: r, i => by
   show _ :: nmsE (mkE l (i + 1) r) = _
   rw [nmsE_mkE l r (i + 1)]
   rfl
theorem mkE_enc : ∀ (xs pre : List En) (h : List UInt8) (r : List UInt8), h.length = 4 → (∀ x ∈ xs, enOk x = true) → mkE (h ++ (encF pre ++ (encF xs ++ r))) pre.length (nmsE xs) = xs
 | [], _, _, _, _, _ => rfl
 | x :: xs, pre, h, r, hh, hx => by
   obtain ⟨_, h0, h1⟩ := enOk_iff.1 (hx x List.mem_cons_self)
   have e1 : (h ++ (encF pre ++ (encF (x :: xs) ++ r))).drop (4 + 4 * pre.length) = w4 x.off.toNat ++ (encF xs ++ r) := by
     rw [← List.append_assoc, List.drop_left' (by rw [List.length_append, hh, encF_length])]
     show (w4 x.off.toNat ++ encF xs) ++ r = _
     rw [List.append_assoc]
   have e2 : h ++ (encF pre ++ (encF (x :: xs) ++ r)) = h ++ (encF (pre ++ [x]) ++ (encF xs ++ r)) := by
     rw [encF_append]
     show h ++ (encF pre ++ ((w4 x.off.toNat ++ encF xs) ++ r)) = h ++ ((encF pre ++ (w4 x.off.toNat ++ [])) ++ (encF xs ++ r))
     simp
   show _ :: mkE _ (pre.length + 1) (nmsE xs) = _
   rw [e1, n4_w4 _ (by omega), e2]
   have := mkE_enc xs (pre ++ [x]) h r hh fun y hy => hx y (List.mem_cons_of_mem _ hy)
   rw [List.length_append, List.length_singleton] at this
   rw [this, str_of, Int.toNat_of_nonneg h0]
theorem fitA_iff {l : List En} : fitA l = true ↔ ∀ x ∈ l, enOk x = true := by simp [fitA]
theorem fit_nms {l : List En} (h : fitA l = true) : ∀ s ∈ nmsE l, nmOk s = true := fun s hs => by
 obtain ⟨x, hx, rfl⟩ := List.mem_map.1 hs
 exact (enOk_iff.1 (fitA_iff.1 h x hx)).1
theorem nmsE_length (l : List En) : (nmsE l).length = l.length := by simp [nmsE]
theorem decA_of (l : List En) (hn : l.length < 4294967296) (t : List UInt8) :
   decA (w4 l.length ++ (encF l ++ t)) = (nmsA l.length t).map (mkE (w4 l.length ++ (encF l ++ t)) 0) := by
 have h4 : n4 (w4 l.length ++ (encF l ++ t)) = l.length := n4_w4 _ hn _
 have hlen : (w4 l.length ++ (encF l ++ t)).length = 4 + (4 * l.length + t.length) := by rw [List.length_append, List.length_append, w4_length, encF_length]
 unfold decA
 rw [if_neg (by omega), h4, if_neg (by omega)]
 congr 2
 rw [← List.append_assoc, List.drop_left' (by rw [List.length_append, w4_length, encF_length])]
theorem decA_enc (l : List En) (h : fitA l = true) (hn : l.length < 4294967296) : decA (encA l) = some l := by
 unfold encA
 rw [decA_of l hn]
 have h1 := nmsA_enc (fit_nms h)
 rw [nmsE_length] at h1
 rw [h1]
 have := mkE_enc l [] (w4 l.length) (encN (nmsE l)) (w4_length _) (fitA_iff.1 h)
 show some (mkE (w4 l.length ++ (encF l ++ encN (nmsE l))) 0 (nmsE l)) = some l
 exact congrArg some this
theorem encF_mkE (l : List UInt8) : ∀ (a : List (List UInt8)) (i : Nat), 4 + 4 * (i + a.length) ≤ l.length → encF (mkE l i a) = (l.drop (4 + 4 * i)).take (4 * a.length)
 | [], i, _ => by simp [mkE, encF]
 | s :: r, i, h => by
   rw [List.length_cons] at h
   show w4 ((n4 (l.drop (4 + 4 * i)) : Nat) : Int).toNat ++ encF (mkE l (i + 1) r) = _
   rw [encF_mkE l r (i + 1) (by omega), Int.toNat_natCast, w4_n4 _ (by rw [List.length_drop]; omega), List.length_cons, show 4 * (r.length + 1) = 4 + 4 * r.length by omega, List.take_add, List.drop_drop, show 4 + 4 * (i + 1) = 4 + 4 * i + 4 by omega]
theorem enOk_mkE (l : List UInt8) : ∀ (a : List (List UInt8)) (i : Nat), (∀ s ∈ a, nmOk s = true) → ∀ x ∈ mkE l i a, enOk x = true
 | [], _, _, x, hx => by cases hx
 | s :: r, i, h, x, hx => by
   unfold mkE at hx
   rcases List.mem_cons.1 hx with rfl | hx
   · have := n4_lt (l.drop (4 + 4 * i))
     exact enOk_iff.2 ⟨h s List.mem_cons_self, by show (0 : Int) ≤ (_ : Nat); omega, by show ((n4 (l.drop (4 + 4 * i)) : Nat) : Int) ≤ _; omega⟩
   · exact enOk_mkE l r (i + 1) (fun t ht => h t (List.mem_cons_of_mem _ ht)) x hx
theorem enc_decA {b : List UInt8} {l : List En} (h : decA b = some l) : fitA l = true ∧ l.length < 4294967296 ∧ encA l = b := by
 unfold decA at h
 split at h
 · cases h
 · split at h
   · cases h
   · rename_i h4 hn
     cases ha : nmsA (n4 b) (b.drop (4 + 4 * n4 b)) with
     | none => rw [ha] at h; cases h
     | some a =>
       rw [ha] at h
       injection h with h
       subst h
       obtain ⟨h1, h2, h3⟩ := nmsA_some _ _ a ha
       have hl := n4_lt b
       refine ⟨fitA_iff.2 (enOk_mkE b a 0 h2), by rw [mkE_length]; omega, ?_⟩
       unfold encA
       rw [mkE_length, nmsE_mkE, encF_mkE b a 0 (by omega), h3, h1, w4_n4 b (by omega), Nat.mul_zero, Nat.add_zero]
       rw [← List.drop_drop, List.take_append_drop, List.take_append_drop]
end Go.Proofs.YtjobmkodgodloaaGreatDoor.Amp

namespace Go.Proofs.YtjobmkodgodloaaGreatDoor.Amp
open Go.RowKit Go.Proofs Go.Proofs.YtjobmkodgodloaaGreatDoor.Byt
open Go.Proofs.YtjobmkodgodloaaGreatDoor.Sls (Oth Fr blk)

def En.val (x : En) : Value := .agg #[.string x.name, .int .i64 x.off]
def ecells : List En → List Value
 | [] => []
 | x :: r => [.string x.name, .int .i64 x.off] ++ ecells r
theorem ecells_append : ∀ a b : List En, ecells (a ++ b) = ecells a ++ ecells b
 | [], b => rfl
 | x :: r, b => by rw [List.cons_append, ecells, ecells_append r b, ecells, List.append_assoc]
theorem ecells_length : ∀ a : List En, (ecells a).length = a.length * 2
 | [] => rfl
 | x :: r => by rw [ecells, List.length_append, ecells_length r, List.length_cons]; simp; omega
theorem ecells_at : ∀ (a : List En) (k : Nat) (h : k < a.length), (ecells a)[k * 2]? = some (.string a[k].name) ∧ (ecells a)[k * 2 + 1]? = some (.int .i64 a[k].off)
 | x :: r, 0, _ => by simp [ecells]
 | x :: r, k + 1, h => by
   have ih := ecells_at r k (by simpa using h)
   have e : ∀ j, (ecells (x :: r))[(k + 1) * 2 + j]? = (ecells r)[k * 2 + j]? := fun j => by
     rw [ecells, List.getElem?_append_right (by simp; omega)]
     congr 1
     simp
     omega
   have e0 := e 0
   rw [Nat.add_zero, Nat.add_zero] at e0
   rw [e0, e 1]
   simpa using ih
theorem kE : Cel.Kind 43 95 2 24 (.agg #[.string ⟨#[]⟩, .int .i64 0]) := ⟨by kernel_rfl, by kernel_rfl, by kernel_rfl, by decide⟩
def ECells (w : World) (b o : Nat) (x : En) : Prop := w.cell? ⟨b, o, none⟩ = some (.string x.name) ∧ w.cell? ⟨b, o + 1, none⟩ = some (.int .i64 x.off)
theorem ECells.below {w w' : World} {K b o : Nat} {x : En} (h : ECells w b o x) (hb : Below K w w') (hl : b < K) : ECells w' b o x := by
 obtain ⟨h0, h1⟩ := h
 exact ⟨(hb.cell (p := ⟨b, o, none⟩) hl).trans h0, (hb.cell (p := ⟨b, o + 1, none⟩) hl).trans h1⟩
def RdE (w : World) (K : Nat) (A : Option Addr) (n : Nat) (xs : List En) : Prop :=
 xs.length = n ∧ ∀ k (h : k < xs.length), ∃ b o : Nat, A = some ⟨b, o, none⟩ ∧ b < K ∧ ECells w b (o + k * 2) xs[k]
theorem RdE.below {w w' : World} {K n : Nat} {A : Option Addr} {xs : List En} (h : RdE w K A n xs) (hb : Below K w w') : RdE w' K A n xs :=
 ⟨h.1, fun k hk => by
   obtain ⟨b, o, e, hl, hc⟩ := h.2 k hk
   exact ⟨b, o, e, hl, hc.below hb hl⟩⟩
theorem RdE.more {w : World} {K K' n : Nat} {A : Option Addr} {xs : List En} (h : RdE w K A n xs) (hK : K ≤ K') : RdE w K' A n xs :=
 ⟨h.1, fun k hk => by
   obtain ⟨b, o, e, hl, hc⟩ := h.2 k hk
   exact ⟨b, o, e, by omega, hc⟩⟩
theorem RdE.nil (w : World) (K : Nat) (A : Option Addr) : RdE w K A 0 [] := ⟨rfl, fun k hk => absurd hk (by simp)⟩
theorem RdE.pre {w : World} {K n m : Nat} {A : Option Addr} {xs : List En} (h : RdE w K A n xs) (hm : m ≤ n) : RdE w K A m (xs.take m) := by
 refine ⟨by rw [List.length_take, h.1]; omega, fun j hj => ?_⟩
 rw [List.length_take] at hj
 rw [List.getElem_take]
 exact h.2 j (by omega)
theorem RdE.cel {w : World} {K n : Nat} {A : Option Addr} {xs : List En} (h : RdE w K A n xs) : Cel.Rd w K A n 2 (ecells xs) := by
 refine ⟨by rw [ecells_length, h.1], fun j hj => ?_⟩
 rw [ecells_length] at hj
 have hq : j / 2 < xs.length := by omega
 obtain ⟨b, o, e, hb, c0, c1⟩ := h.2 (j / 2) hq
 obtain ⟨m0, m1⟩ := ecells_at xs (j / 2) hq
 refine ⟨b, o, e, hb, ?_⟩
 have hm : j % 2 = 0 ∨ j % 2 = 1 := by omega
 rcases hm with hm | hm
 · have e1 : j / 2 * 2 = j := by omega
   rw [e1] at c0 m0
   rw [c0, ← m0, List.getElem?_eq_getElem (by rw [ecells_length]; omega)]
 · have e1 : j / 2 * 2 + 1 = j := by omega
   rw [e1] at m1
   rw [Nat.add_assoc, e1] at c1
   rw [c1, ← m1, List.getElem?_eq_getElem (by rw [ecells_length]; omega)]
theorem rde_cel {w : World} {K n : Nat} {A : Option Addr} {xs : List En} (h : Cel.Rd w K A n 2 (ecells xs)) : RdE w K A n xs := by
 have hl : xs.length = n := by have := h.1; rw [ecells_length] at this; omega
 refine ⟨hl, fun k hk => ?_⟩
 obtain ⟨q0, q1⟩ := ecells_at xs k hk
 have key : ∀ j v, (ecells xs)[k * 2 + j]? = some v → ∃ b o : Nat, A = some ⟨b, o, none⟩ ∧ b < K ∧ w.cell? ⟨b, o + k * 2 + j, none⟩ = some v := fun j v hv => by
   obtain ⟨hj, e⟩ := List.getElem?_eq_some_iff.1 hv
   obtain ⟨b, o, e2, hb, hc⟩ := h.2 (k * 2 + j) hj
   exact ⟨b, o, e2, hb, by rw [Nat.add_assoc, hc, e]⟩
 obtain ⟨b, o, rfl, hb, k0⟩ := key 0 _ q0
 obtain ⟨b1, o1, e1, _, k1⟩ := key 1 _ q1
 cases e1
 exact ⟨b, o, rfl, hb, k0, k1⟩
theorem rde_own {w : World} {K n c : Nat} {A : Option Addr} {xs : List En} (h : Cel.Own 95 2 w K (.slice A n c) n (ecells xs)) : RdE w w.heap.size A n xs := by
 obtain ⟨A', c', e, hr, _⟩ := h.reads
 injection e with e1 _ e3
 subst e1 e3
 exact rde_cel hr

theorem str_eq {x y : ByteArray} : x.toList = y.toList ↔ x = y := by
 constructor
 · intro h
   rw [ByteArray.toList_eq, ByteArray.toList_eq] at h
   cases x; cases y
   simp only at h
   have := congrArg List.toArray h
   simpa using this
 · rintro rfl; rfl
theorem ent_under : Tryz.prog.underlying 95 = some (.struct (Tryz.prog.fieldsOf 95)) := by kernel_rfl
theorem ent_held : Tryz.prog.stoodInHeld 95 = false := by kernel_rfl
theorem ent_guard : Tryz.prog.eqGuardType Tryz.prog.depth 95 = false := by kernel_rfl
theorem guard_ent (op : BinOp) (X Y : Operand) (xs ys : Array Value) (w : World) : (eqGuard op 95 X Y (.agg xs) (.agg ys)).run Tryz.prog w = .ok () w := run_eqGuard_agg w op _ X Y xs ys ent_guard
def En.eq (x y : En) : Bool := (x.name.toList == y.name.toList) && (x.off == y.off)
theorem En.eq_iff {x y : En} : x.eq y = true ↔ x = y := by
 unfold En.eq
 rw [Bool.and_eq_true, beq_iff_eq, beq_iff_eq, str_eq]
 constructor
 · rintro ⟨h1, h2⟩
   cases x; cases y
   simp only at h1 h2
   subst h1 h2
   rfl
 · rintro rfl
   exact ⟨rfl, rfl⟩
theorem equal_ent (x0 y0 : ByteArray) (x1 y1 : Int) (w : World) :
   (Op.equalIn 10000 95 (.agg #[.string x0, .int .i64 x1]) (.agg #[.string y0, .int .i64 y1])).run Tryz.prog w = .ok (En.eq ⟨x0, x1⟩ ⟨y0, y1⟩) w := by
 have u3 := Tryz.underlying3
 have u9 := Tryz.underlying9
 rw [show (10000 : Nat) = 9999 + 1 from rfl, run_equalIn_agg w 9999 95 _ _ ent_under ent_held]
 simp only [Program.fieldsOf, Tryz.underlying95]
 unfold En.eq
 go_simp
 by_cases h0 : x0.toList = y0.toList <;> by_cases h1 : x1 = y1 <;> simp [h0, h1]
theorem neq_ent (x0 y0 : ByteArray) (x1 y1 : Int) (w : World) :
   (binOp .neq 95 (.agg #[.string x0, .int .i64 x1]) (.agg #[.string y0, .int .i64 y1])).run Tryz.prog w = .ok (.bool (!En.eq ⟨x0, x1⟩ ⟨y0, y1⟩)) w := by
 rw [run_neq_struct, equal_ent]
 rfl
def sameE : List En → List En → Bool
 | [], [] => true
 | x :: a, y :: b => x.eq y && sameE a b
 | _, _ => false
theorem sameE_len : ∀ {a b : List En}, sameE a b = true → a.length = b.length
 | [], [], _ => rfl
 | x :: a, y :: b, h => by
   unfold sameE at h
   rw [Bool.and_eq_true] at h
   rw [List.length_cons, List.length_cons, sameE_len h.2]
 | [], _ :: _, h => by cases h
 | _ :: _, [], h => by cases h
theorem sameE_eq : ∀ {a b : List En}, sameE a b = true ↔ a = b
 | [], [] => by simp [sameE]
 | x :: a, y :: b => by
   unfold sameE
   rw [Bool.and_eq_true, En.eq_iff, sameE_eq, List.cons.injEq]
 | [], _ :: _ => by simp [sameE]
 | _ :: _, [] => by simp [sameE]
theorem Own.row (w : World) (K n : Nat) (l : List UInt8) (cs : Array Value) (h : cs = (enc l).toArray) (hl : l.length = n) (hK : K ≤ w.heap.size) (hn : n ≤ 1000000) :
   Byt.Own (w.alloc (.cells cs 5)) K (.slice (some ⟨w.heap.size, 0, none⟩) n n) n l := by
 subst h
 refine ⟨hl, .inr ⟨w.heap.size, n, _, (0, 0), rfl, hK, heap_alloc_new w _, Nat.le_refl _, by unfold maxLen; omega, by simp [enc_length, hl], ?_, fun j hj => by simp⟩⟩
 rw [List.take_of_length_le (by simp [enc_length, hl])]

set_option maxRecDepth 100000 in
theorem rword_any (w : World) (z : Nat) (hz : z < 9223372036854775808) :
   Calls Tryz.prog 47 #[.int .i64 (z : Int)] w fun e w' => ∃ A, e = .returned (.slice A 4 4) ∧ Byt.Own w' w.heap.size (.slice A 4 4) 4 (w4 z) ∧ Below w.heap.size w w' := by
 have he : (#[.int .u8 ((z : Int) / 16777216 % 256), .int .u8 ((z : Int) / 65536 % 256), .int .u8 ((z : Int) / 256 % 256), .int .u8 ((z : Int) % 256)] : Array Value) = (enc (w4 z)).toArray := by
   simp [enc, w4, UInt8.toNat_ofNat']
 have ho := Own.row w w.heap.size 4 (w4 z) _ he rfl (Nat.le_refl _) (by omega)
 have hb0 := (Below.refl w.heap.size w).alloc (Nat.le_refl _) (.cells #[.int .u8 ((z : Int) / 16777216 % 256), .int .u8 ((z : Int) / 65536 % 256), .int .u8 ((z : Int) / 256 % 256), .int .u8 ((z : Int) % 256)] 5)
 clear he
 go_enter Tryz.func47, Tryz.ntmps47
 go_wp2_with fail
 go_ret
 exact ⟨_, rfl, ho, hb0⟩

theorem n4_four (l : List UInt8) (h : 4 ≤ l.length) : ∃ a b c d r, l = a :: b :: c :: d :: r ∧ n4 l = ((a.toNat * 256 + b.toNat) * 256 + c.toNat) * 256 + d.toNat := by
 match l, h with
 | a :: b :: c :: d :: r, _ => exact ⟨a, b, c, d, r, rfl, by simp [n4]⟩

set_option maxRecDepth 100000 in
set_option maxHeartbeats 1000000 in
theorem rnumber_any (w : World) (K : Nat) (A : Option Addr) (n c : Nat) (l : List UInt8) (hr : Byt.Rd w K A n l) (h4 : 4 ≤ n) :
   Calls Tryz.prog 62 #[.slice A n c] w fun e w' => e = .returned (.int .i64 (n4 l : Int)) ∧ ∃ m, w' = w.drewN m := by
 have hl := hr.1
 obtain ⟨a, b, u, d, r, rfl, hn⟩ := n4_four l (by omega)
 obtain ⟨b0, o0, rfl, _, p0⟩ := hr.2 0 (by simp)
 obtain ⟨b1, o1, e1, _, p1⟩ := hr.2 1 (by simp)
 obtain ⟨b2, o2, e2, _, p2⟩ := hr.2 2 (by simp)
 obtain ⟨b3, o3, e3, _, p3⟩ := hr.2 3 (by simp)
 injection e1 with e1; injection e1 with e11 e12; subst e11 e12
 injection e2 with e2; injection e2 with e21 e22; subst e21 e22
 injection e3 with e3; injection e3 with e31 e32; subst e31 e32
 simp only [List.getElem_cons_zero, List.getElem_cons_succ, Nat.add_zero] at p0 p1 p2 p3
 have ha := a.toNat_lt
 have hb := b.toNat_lt
 have hu := u.toNat_lt
 have hd := d.toNat_lt
 have Hn : Hid ((n4 (a :: b :: u :: d :: r) : Int) = (((a.toNat : Int) * 256 + (b.toNat : Int)) * 256 + (u.toNat : Int)) * 256 + (d.toNat : Int)) := hid (by rw [hn]; simp)
 have i0 : (0 : Int) < (n : Int) := by omega
 have i1 : (1 : Int) < (n : Int) := by omega
 have i2 : (2 : Int) < (n : Int) := by omega
 have i3 : (3 : Int) < (n : Int) := by omega
 clear hr hl hn
 go_enter Tryz.func62, Tryz.ntmps62
 go_wp2_with fail
 go_quiet (fail)
 go_wp2_with fail
 go_ret
 exact ⟨ret_int Hn.out.symm, nq, rfl⟩

end Go.Proofs.YtjobmkodgodloaaGreatDoor.Amp

namespace Go.Proofs.YtjobmkodgodloaaGreatDoor.Amp
open Go.RowKit Go.Proofs Go.Proofs.YtjobmkodgodloaaGreatDoor.Byt
open Go.Proofs.YtjobmkodgodloaaGreatDoor.Sls (Oth Fr blk)

theorem nmOk_len {s : ByteArray} : nmOk s.data.toList = true ↔ 0 < s.size ∧ (0 : UInt8) ∉ s.data.toList := by
 rw [nmOk_iff]
 have h := len_list s
 constructor
 · rintro ⟨h1, h2⟩
   exact ⟨by rw [← h]; exact List.length_pos_iff.2 h1, h2⟩
 · rintro ⟨h1, h2⟩
   exact ⟨List.length_pos_iff.1 (by rw [h]; exact h1), h2⟩

set_option maxRecDepth 100000 in
set_option maxHeartbeats 2000000 in
theorem rfitsE_any (x : En) (w : World) (hs : x.name.size ≤ 140737488355328) :
   Calls Tryz.prog 48 #[x.val] w fun e w' => e = .returned (.bool (enOk x)) ∧ Below w.heap.size w w' := by
 obtain ⟨x0, x1⟩ := x
 simp only [En.val] at *
 have hb0 := (Below.refl w.heap.size w).alloc (Nat.le_refl _) (.cells #[.string x0, .int .i64 x1] 95)
 have hrow0 := heap_alloc_new w (.cells #[.string x0, .int .i64 x1] 95)
 have HE : Hid (enOk ⟨x0, x1⟩ = (nmOk x0.data.toList && (decide (0 ≤ x1) && decide (x1 ≤ 4294967295)))) := hid rfl
 have HN := hid (nmOk_len (s := x0))
 have HL := hid (len_list x0)
 generalize enOk ⟨x0, x1⟩ = eo at *
 generalize nmOk x0.data.toList = no at *
 go_enter Tryz.func48, Tryz.ntmps48
 go_wp2_with fail
 generalize w.alloc (.cells #[.string x0, .int .i64 x1] 95) = w0 at *
 go_loopw [3] (fun i W => ∃ k : Nat, i = .int .i64 (k : Int) ∧ k ≤ x0.size ∧ Hid (∀ j b, j < k → x0.data.toList[j]? = some b → b ≠ 0) ∧ Hid (W = w0)) (fun i _ => x0.size - (intOf i).toNat)
 case atStart => exact ⟨0, rfl, by omega, hid (fun j b h _ => by omega), hid rfl⟩
 case round =>
   obtain ⟨k, rfl, hk, hG, hw⟩ := hrel
   have hw' := hw.out
   subst hw'
   have q0 := cell_of_row _ w.heap.size 0 _ _ _ hrow0
   have q1 := cell_of_row _ w.heap.size 1 _ _ _ hrow0
   by_cases hlt : k < x0.size
   · have hki : (k : Int) < (x0.size : Int) := by omega
     obtain ⟨b, hb⟩ : ∃ b, x0.data.toList[k]? = some b := ⟨_, List.getElem?_eq_getElem (by rw [HL.out]; exact hlt)⟩
     have hgk : x0[k]'hlt = b := by
       obtain ⟨h1, h2⟩ := List.getElem?_eq_some_iff.1 hb
       rw [← h2]
       rfl
     have HB := hid hb
     clear hb
     by_cases hz : b = 0
     · subst hz
       have HF : Hid (eo = false) := hid (by
         rw [HE.out]
         cases hq : no
         · rfl
         · exact absurd (List.mem_of_getElem? HB.out) (HN.out.1 hq).2)
       have hgz : ((((x0[k]'hlt).toNat : Nat) : Int) == 0) = true := by rw [hgk]; rfl
       clear hgk
       go_wp2_with fail
       go_ret
       exact ⟨ret_bool HF.out.symm, hb0⟩
     · have hgz : ((((x0[k]'hlt).toNat : Nat) : Int) == 0) = false := by
         rw [hgk, beq_eq_false_iff_ne]
         intro q
         exact hz (by rw [← UInt8.toNat_inj]; simpa using q)
       clear hgk
       have HG2 : Hid (∀ j c, j < k + 1 → x0.data.toList[j]? = some c → c ≠ 0) := hid fun j c hj hc => by
         by_cases e : j = k
         · subst e
           rw [HB.out] at hc
           injection hc with hc
           rw [← hc]
           exact hz
         · exact hG.out j c (by omega) hc
       go_wp2_with fail
       go_roundw
       · exact ⟨k + 1, by go_num, by omega, HG2, hid trivial⟩
       · simp [intOf]; omega
   · obtain rfl : k = x0.size := by omega
     have HZ : Hid ((0 : UInt8) ∉ x0.data.toList) := hid fun hm => by
       obtain ⟨j, hj, e⟩ := List.mem_iff_getElem.1 hm
       exact hG.out j 0 (by rw [HL.out] at hj; exact hj) (by rw [List.getElem?_eq_getElem hj, e]) rfl
     have hnil : ¬ (x0.size : Int) < (x0.size : Int) := by omega
     by_cases h0 : 0 < x0.size
     · have h0i : decide ((0 : Int) < (x0.size : Int)) = true := decide_eq_true (by omega)
       have HR : Hid (eo = (decide (0 ≤ x1) && decide (x1 ≤ 4294967295))) := hid (by rw [HE.out, HN.out.2 ⟨h0, HZ.out⟩]; rfl)
       by_cases h1 : 0 ≤ x1
       · have h1i : decide ((0 : Int) ≤ x1) = true := decide_eq_true h1
         go_wp2_with fail
         go_ret
         exact ⟨ret_bool (by rw [HR.out, h1i]; rfl), hb0⟩
       · have h1i : decide ((0 : Int) ≤ x1) = false := decide_eq_false h1
         go_wp2_with fail
         go_ret
         exact ⟨ret_bool (by rw [HR.out, h1i]; rfl), hb0⟩
     · have h0i : decide ((0 : Int) < (x0.size : Int)) = false := decide_eq_false (by omega)
       have HR : Hid (eo = false) := hid (by
         rw [HE.out]
         cases hq : no
         · rfl
         · exact absurd (HN.out.1 hq).1 h0)
       go_wp2_with fail
       go_ret
       exact ⟨ret_bool HR.out.symm, hb0⟩

set_option maxRecDepth 100000 in
set_option maxHeartbeats 2000000 in
theorem rsameE_any (K : Nat) (A A' : Option Addr) (n c n' c' : Nat) (xs ys : List En) (w : World) (h : RdE w K A n xs) (h' : RdE w K A' n' ys) (hK : K ≤ w.heap.size) (hn : n ≤ 140737488355328) :
   Calls Tryz.prog 14 #[.slice A n c, .slice A' n' c'] w fun e w' => e = .returned (.bool (sameE xs ys)) ∧ Below w.heap.size w w' := by
 have Hl := hid h.1
 have Hl' := hid h'.1
 by_cases hne : n = n'
 · subst hne
   have hnb : ((n : Int) != (n : Int)) = false := by simp
   go_enter Tryz.func14, Tryz.ntmps14
   go_wp2_with fail
   go_loopw [5] (fun i W => ∃ k : Nat, i = .int .i64 (k : Int) ∧ k ≤ n ∧ Hid (sameE xs ys = sameE (xs.drop k) (ys.drop k)) ∧ Below w.heap.size w W) (fun i _ => n - (intOf i).toNat)
   case atStart => exact ⟨0, rfl, by omega, hid rfl, Below.refl _ _⟩
   case round =>
     obtain ⟨k, rfl, hk, hG, hb⟩ := hrel
     by_cases hlt : k < n
     · have hkl : k < xs.length := by have := Hl.out; omega
       have hkl' : k < ys.length := by have := Hl'.out; omega
       have hki : (k : Int) < (n : Int) := by omega
       have hR := h.below (hb.mono hK)
       have hR' := h'.below (hb.mono hK)
       obtain ⟨b, o, rfl, hbK, hcell⟩ := hR.2 k hkl
       obtain ⟨b', o', rfl, hbK', hcell'⟩ := hR'.2 k hkl'
       have HS : Hid (sameE (xs.drop k) (ys.drop k) = (xs[k].eq ys[k] && sameE (xs.drop (k + 1)) (ys.drop (k + 1)))) := hid (by rw [List.drop_eq_getElem_cons hkl, List.drop_eq_getElem_cons hkl']; rfl)
       generalize xs[k] = x at *
       generalize ys[k] = y at *
       obtain ⟨x0, x1⟩ := x
       obtain ⟨y0, y1⟩ := y
       obtain ⟨p0, p1⟩ := hcell
       obtain ⟨s0, s1⟩ := hcell'
       have hgd := guard_ent
       have hne := neq_ent
       cases hq : En.eq ⟨x0, x1⟩ ⟨y0, y1⟩
       · have HR : Hid (sameE xs ys = false) := hid (by rw [hG.out, HS.out, hq]; rfl)
         go_wp2_with fail
         go_quiet (fail)
         go_wp2_with fail
         go_ret
         exact ⟨ret_bool HR.out.symm, hb.trans ⟨rfl, rfl, rfl, Nat.le_refl _, fun _ _ => rfl⟩⟩
       · have HR : Hid (sameE xs ys = sameE (xs.drop (k + 1)) (ys.drop (k + 1))) := hid (by rw [hG.out, HS.out, hq]; rfl)
         go_wp2_with fail
         go_quiet (fail)
         go_wp2_with fail
         go_roundw
         · exact ⟨k + 1, by go_num, by omega, HR, hb.trans ⟨rfl, rfl, rfl, Nat.le_refl _, fun _ _ => rfl⟩⟩
         · simp [intOf]; omega
     · obtain rfl : k = n := by omega
       have HR : Hid (sameE xs ys = true) := hid (by rw [hG.out, List.drop_eq_nil_of_le (by have := Hl.out; omega), List.drop_eq_nil_of_le (by have := Hl'.out; omega)]; rfl)
       go_wp2_with fail
       go_ret
       exact ⟨ret_bool HR.out.symm, hb⟩
 · have hnb : ((n : Int) != (n' : Int)) = true := by simp; omega
   have HR : Hid (sameE xs ys = false) := hid (by
     cases h : sameE xs ys with
     | false => rfl
     | true => exact absurd (sameE_len h) (by rw [Hl.out, Hl'.out]; exact hne))
   go_enter Tryz.func14, Tryz.ntmps14
   go_wp2_with fail
   go_ret
   exact ⟨ret_bool HR.out.symm, Below.refl _ _⟩
end Go.Proofs.YtjobmkodgodloaaGreatDoor.Amp

namespace Go.Proofs.YtjobmkodgodloaaGreatDoor.Amp
open Go.RowKit Go.Proofs Go.Proofs.YtjobmkodgodloaaGreatDoor.Byt
open Go.Proofs.YtjobmkodgodloaaGreatDoor.Sls (Oth Fr blk)

def outA (xs : List En) : List UInt8 := if fitA xs = true then encA xs else []
def errA (xs : List En) : Int := if fitA xs = true then 0 else 9
def EncsA (xs : List En) (w : World) (e : Ending) (w' : World) : Prop :=
 ∃ v, e = .returned (.tuple #[v, .int .i64 (errA xs)]) ∧ Byt.Own w' w.heap.size v (outA xs).length (outA xs) ∧ Below w.heap.size w w'
theorem EncsA.bad {xs : List En} {w w' : World} (h : fitA xs = false) (hb : Below w.heap.size w w') : EncsA xs w (.returned (.tuple #[.slice none 0 0, .int .i64 9])) w' := by
 have h1 : outA xs = [] := if_neg (by rw [h]; simp)
 have h2 : errA xs = 9 := if_neg (by rw [h]; simp)
 refine ⟨_, by rw [h2], ?_, hb⟩
 rw [h1]
 exact Byt.Own.nil _ _
theorem EncsA.good {xs : List En} {w w' : World} {v : Value} (h : fitA xs = true) (ho : Byt.Own w' w.heap.size v (encA xs).length (encA xs)) (hb : Below w.heap.size w w') : EncsA xs w (.returned (.tuple #[v, .int .i64 0])) w' := by
 have h1 : outA xs = encA xs := if_pos h
 have h2 : errA xs = 0 := if_pos h
 refine ⟨v, by rw [h2], ?_, hb⟩
 rw [h1]
 exact ho
theorem szN_le {m : Nat} : ∀ {l : List (List UInt8)}, (∀ s ∈ l, s.length ≤ m) → szN l ≤ l.length * (m + 1)
 | [], _ => by simp [szN]
 | s :: r, h => by
   have h1 := szN_le (l := r) fun t ht => h t (List.mem_cons_of_mem _ ht)
   have h2 := h s List.mem_cons_self
   have e : szN (s :: r) = (s.length + 1) + szN r := by simp [szN]
   rw [e, List.length_cons, Nat.succ_mul]
   omega
theorem szN_succ {xs : List En} {k : Nat} (hk : k < xs.length) : szN (nmsE (xs.take (k + 1))) = szN (nmsE (xs.take k)) + (xs[k].name.size + 1) := by
 rw [List.take_succ_eq_append_getElem hk]
 unfold szN nmsE
 rw [List.map_append, List.map_append, List.sum_append]
 simp

set_option maxRecDepth 100000 in
set_option maxHeartbeats 4000000 in
theorem rencA_any (K : Nat) (A : Option Addr) (n c : Nat) (xs : List En) (w : World) (h : RdE w K A n xs) (hK : K ≤ w.heap.size) (hn : n ≤ 1000) (hs : ∀ x ∈ xs, x.name.size ≤ 1000) :
   Calls Tryz.prog 24 #[.slice A n c] w (EncsA xs w) := by
 have Hl := hid h.1
 go_enter Tryz.func24, Tryz.ntmps24
 go_wp2_with fail
 refine (rword_any w n (by omega)).mono ?_
 rintro e w1 ⟨A1, rfl, o1, hb1⟩
 go_wp2_with fail
 go_loopw [5, 4] (fun i v W => ∃ (k : Nat) (A2 : Option Addr) (c2 : Nat), i = .int .i64 (k : Int) ∧ v = .slice A2 (4 + 4 * k) c2 ∧ k ≤ n ∧ Hid (∀ j (hj : j < xs.length), j < k → enOk xs[j] = true) ∧ Byt.Own W w.heap.size (.slice A2 (4 + 4 * k) c2) (4 + 4 * k) (w4 n ++ encF (xs.take k)) ∧ Below w.heap.size w W) (fun i _ _ => n - (intOf i).toNat)
 case atStart => exact ⟨0, A1, 4, rfl, rfl, by omega, hid (fun j _ h => by omega), by simpa [encF] using o1, hb1⟩
 case round =>
   obtain ⟨k, A2, c2, rfl, rfl, hk, hG, hO, hb⟩ := hrel
   by_cases hlt : k < n
   · have hkl : k < xs.length := by have := Hl.out; omega
     have hki : (k : Int) < (n : Int) := by omega
     obtain ⟨b, o, rfl, hbK, hcell⟩ := (h.below (hb.mono hK)).2 k hkl
     have hsz := hs xs[k] (List.getElem_mem hkl)
     have HF : Hid (enOk xs[k] = false → fitA xs = false) := hid fun q => by
       cases hf : fitA xs
       · rfl
       · have := fitA_iff.1 hf xs[k] (List.getElem_mem hkl)
         rw [q] at this; cases this
     have HG2 : Hid (enOk xs[k] = true → ∀ j (hj : j < xs.length), j < k + 1 → enOk xs[j] = true) := hid fun q j hj hjk => by
       by_cases e : j = k
       · subst e; exact q
       · exact hG.out j hj (by omega)
     have HT : Hid (encF (xs.take (k + 1)) = encF (xs.take k) ++ w4 xs[k].off.toNat) := hid (by
       rw [List.take_succ_eq_append_getElem hkl, encF_append]
       show _ ++ (w4 xs[k].off.toNat ++ []) = _
       rw [List.append_nil])
     have HO : Hid (enOk xs[k] = true → 0 ≤ xs[k].off ∧ xs[k].off ≤ 4294967295) := hid fun q => (enOk_iff.1 q).2
     generalize xs[k] = x at *
     have Hf := hid fun W => rfitsE_any x W (by omega)
     generalize enOk x = eo at *
     obtain ⟨x0, x1⟩ := x
     obtain ⟨p0, p1⟩ := hcell
     simp only [En.val] at *
     go_wp2_with fail
     refine (Hf.out _).mono ?_
     rintro e w2 ⟨rfl, hb2⟩
     have hs2 := hb.size
     have hb02 := hb.trans (hb2.mono hs2)
     cases eo
     · have HR := hid (HF.out rfl)
       go_wp2_with fail
       go_ret2
       exact EncsA.bad HR.out hb02
     · obtain ⟨z0, z1⟩ := HO.out rfl
       obtain ⟨z, rfl⟩ := Int.eq_ofNat_of_zero_le z0
       have HR := hid (HG2.out rfl)
       have hO2 := hO.below hb2
       have p1' : w2.cell? ⟨b, o + k * 2 + 1, none⟩ = some (.int .i64 (z : Int)) := (hb2.cell (p := ⟨b, o + k * 2 + 1, none⟩) (show b < wr.heap.size by omega)).trans p1
       clear hO hb hb2 p0 p1 HF HG2 HO
       go_wp2_with fail
       refine (rword_any w2 z (by omega)).mono ?_
       rintro e w3 ⟨A3, rfl, o3, hb3⟩
       obtain ⟨_, _, e3, r3, _⟩ := o3.reads
       injection e3 with e31 _ e33
       subst e31 e33
       have hO3 := hO2.below hb3
       have hs02 := hb02.size
       have hb03 := hb02.trans (hb3.mono hs02)
       clear hO2 hb3 o3 p1'
       go_wp2_with (at_builtin; go_must (refine Go.Proofs.YtjobmkodgodloaaGreatDoor.Byt.wpList_app2 w3 w.heap.size _ (4 + 4 * k) _ hO3 hb03.size A3 4 4 _ (w4 z) r3 (by omega) rfl (.tmp 22) (.tmp 28) rfl rfl rfl ?_); intro v4 w4' ho4 hb4 _; obtain ⟨A4, c4, rfl, _⟩ := ho4.reads)
       have ho4' : Byt.Own w4' w.heap.size (.slice A4 (4 + 4 * k + 4) c4) (4 + 4 * (k + 1)) (w4 n ++ encF (xs.take (k + 1))) := by
         rw [HT.out, show 4 + 4 * (k + 1) = 4 + 4 * k + 4 by omega, ← List.append_assoc]
         exact ho4
       have hb04 := hb03.trans hb4
       clear ho4 hb4 r3 hO3
       go_roundw
       · exact ⟨k + 1, A4, c4, by go_num, by rw [show 4 + 4 * (k + 1) = 4 + 4 * k + 4 by omega], by omega, HR, by rw [show 4 + 4 * (k + 1) = 4 + 4 * k + 4 by omega] at ho4' ⊢; exact ho4', hb04⟩
       · simp [intOf]; omega
   · obtain rfl : k = n := by omega
     have HFit : Hid (fitA xs = true) := hid (fitA_iff.2 fun x hx => by
       obtain ⟨j, hj, rfl⟩ := List.mem_iff_getElem.1 hx
       exact hG.out j hj (by have := Hl.out; omega))
     have hT : xs.take k = xs := List.take_of_length_le (by have := Hl.out; omega)
     rw [hT] at hO
     have HS : Hid (∀ j, j ≤ k → szN (nmsE (xs.take j)) ≤ 1001000) := hid fun j hj => by
       have := szN_le (m := 1000) (l := nmsE (xs.take j)) fun s hs' => by
         obtain ⟨x, hx, rfl⟩ := List.mem_map.1 hs'
         rw [len_list]
         exact hs x (List.mem_of_mem_take hx)
       have h2 : (nmsE (xs.take j)).length ≤ j := by rw [nmsE_length, List.length_take]; omega
       have h3 : (nmsE (xs.take j)).length * (1000 + 1) ≤ 1000 * (1000 + 1) := Nat.mul_le_mul_right _ (by omega)
       omega
     have hbn := hb
     clear hG hb
     obtain ⟨A4, c4, hA4⟩ : ∃ A4 c4, A2 = A4 ∧ c2 = c4 := ⟨_, _, rfl, rfl⟩
     obtain ⟨rfl, rfl⟩ := hA4
     go_wp2_with fail
     go_loopw [6, 4] (fun i v W => ∃ (j : Nat) (A5 : Option Addr) (c5 : Nat), i = .int .i64 (j : Int) ∧ v = .slice A5 (4 + 4 * k + szN (nmsE (xs.take j))) c5 ∧ j ≤ k ∧ Byt.Own W w.heap.size (.slice A5 (4 + 4 * k + szN (nmsE (xs.take j))) c5) (4 + 4 * k + szN (nmsE (xs.take j))) (w4 k ++ encF xs ++ encN (nmsE (xs.take j))) ∧ Below w.heap.size w W) (fun i _ _ => k - (intOf i).toNat)
     case atStart => exact ⟨0, A2, c2, rfl, by simp [szN, nmsE], by omega, by simpa [szN, nmsE, encN] using hO, hbn⟩
     case round =>
       obtain ⟨j, A5, c5, rfl, rfl, hj, hO, hb⟩ := hrel
       by_cases hlt : j < k
       · have hkl : j < xs.length := by have := Hl.out; omega
         have hki : (j : Int) < (k : Int) := by omega
         obtain ⟨b, o, rfl, hbK, hcell⟩ := (h.below (hb.mono hK)).2 j hkl
         have hsz := hs xs[j] (List.getElem_mem hkl)
         have HZ := hid (szN_succ hkl)
         have HT : Hid (encN (nmsE (xs.take (j + 1))) = encN (nmsE (xs.take j)) ++ (xs[j].name.data.toList ++ [0])) := hid (by
           rw [List.take_succ_eq_append_getElem hkl]
           unfold nmsE
           rw [List.map_append, encN_append]
           simp [encN])
         have hz := HS.out j hj
         have hz2 := HS.out (j + 1) (by omega)
         generalize xs[j] = x at *
         obtain ⟨x0, x1⟩ := x
         obtain ⟨p0, p1⟩ := hcell
         simp only at *
         obtain ⟨zk, hzk⟩ : ∃ zk, 4 + 4 * k + szN (nmsE (xs.take j)) = zk := ⟨_, rfl⟩
         have HZ2 : Hid (4 + 4 * k + szN (nmsE (xs.take (j + 1))) = zk + x0.size + 1) := hid (by rw [HZ.out, ← hzk]; omega)
         rw [hzk] at hO ⊢
         have hzb : zk ≤ 2000000 := by omega
         clear hzk hz hz2
         go_wp2_with (first
           | (at_builtin; refine wpList_apps2 wr w.heap.size _ zk _ hO hb.size x0 (by omega) rfl (.tmp 36) (.tmp 41) rfl rfl rfl ?_; intro v6 w6 ho6 hb6 _; obtain ⟨A6, c6, rfl, _⟩ := ho6.reads; have hb06 := hb.trans hb6)
           | (at_builtin; refine wpList_push2 w6 w.heap.size _ (zk + x0.size) _ 0 _ rfl ho6 hb06.size (by omega) rfl (.tmp 42) (.tmp 43) rfl rfl rfl ?_; intro v7 w7 ho7 hb7 _; obtain ⟨A7, c7, rfl, _⟩ := ho7.reads)
           | fail)
         have ho7' : Byt.Own w7 w.heap.size (.slice A7 (zk + x0.size + 1) c7) (zk + x0.size + 1) (w4 k ++ encF xs ++ encN (nmsE (xs.take (j + 1)))) := by
           rw [HT.out, ← List.append_assoc, ← List.append_assoc]
           exact ho7
         have hb07 := hb06.trans hb7
         clear ho7 hb7 ho6 hb6 hb06 hO hb p0 p1
         go_roundw
         · exact ⟨j + 1, A7, c7, by go_num, by rw [HZ2.out], by omega, by rw [HZ2.out]; exact ho7', hb07⟩
         · simp [intOf]; omega
       · obtain rfl : j = k := by omega
         rw [hT] at hO
         have HR : Hid ((encA xs).length = 4 + 4 * j + szN (nmsE xs)) := hid (by rw [encA_length, Hl.out])
         have HE : Hid (encA xs = w4 j ++ encF xs ++ encN (nmsE xs)) := hid (by unfold encA; rw [Hl.out, List.append_assoc])
         have hX := hid (EncsA.good (w' := wr) HFit.out (v := .slice A5 (4 + 4 * j + szN (nmsE xs)) c5) (by rw [HR.out, HE.out]; exact hO) hb)
         clear hO hb
         rw [hT]
         generalize 4 + 4 * j + szN (nmsE xs) = zz at *
         go_wp2_with fail
         go_ret2
         exact hX.out
end Go.Proofs.YtjobmkodgodloaaGreatDoor.Amp

namespace Go.Proofs.YtjobmkodgodloaaGreatDoor.Amp
open Go.RowKit Go.Proofs Go.Proofs.YtjobmkodgodloaaGreatDoor.Byt
open Go.Proofs.YtjobmkodgodloaaGreatDoor.Sls (Oth Fr blk)

theorem slice_mid (K b o n c f t : Nat) (u v : Int) (hu : u = (f : Int)) (hv : v = (t : Int)) (hft : f ≤ t) (htn : t ≤ n) (hnc : n ≤ c) :
   ∃ p, (∀ w, (Instr.sliceAt 22 (.slice (some ⟨b, o, none⟩) n c) (some (.int .i64 u)) (some (.int .i64 v)) none).run Tryz.prog w = .ok (.slice (some ⟨b, p, none⟩) (t - f) (c - f)) w) ∧ (∀ w, (Instr.slice 22 (.slice (some ⟨b, o, none⟩) n c) (some (.int .i64 u)) (some (.int .i64 v)) none).run Tryz.prog w = .ok (.slice (some ⟨b, p, none⟩) (t - f) (c - f)) w) ∧ ∀ w l, Byt.Rd w K (some ⟨b, o, none⟩) n l → Byt.Rd w K (some ⟨b, p, none⟩) (t - f) ((l.drop f).take (t - f)) := by
 subst hu hv
 have h1 : (f : Int) ≤ (t : Int) := by omega
 have h2 : (t : Int) ≤ (c : Int) := by omega
 have h3 : (f : Int) ≤ (c : Int) := by omega
 by_cases hc : c = f
 · subst hc
   obtain rfl : t = c := by omega
   obtain rfl : t = n := by omega
   refine ⟨o, fun w => by go_simp, fun w => by go_simp, fun w l hr => ?_⟩
   rw [Nat.sub_self, List.take_zero]
   exact Rd.nil _ _ _
 · exact ⟨o + f, fun w => by go_simp, fun w => by go_simp, fun w l hr => (hr.cut f).pre (by omega)⟩

def decE (l : List UInt8) : List En := (decA l).getD []
def decZ (l : List UInt8) : Int := if (decA l).isSome = true then 0 else 8
def DecsA (l : List UInt8) (w : World) (e : Ending) (w' : World) : Prop :=
 ∃ A n c, e = .returned (.tuple #[.slice A n c, .int .i64 (decZ l)]) ∧ Cel.Own 95 2 w' w.heap.size (.slice A n c) n (ecells (decE l)) ∧ Below w.heap.size w w'
theorem DecsA.bad {l : List UInt8} {w w' : World} (h : decA l = none) (hb : Below w.heap.size w w') : DecsA l w (.returned (.tuple #[.slice none 0 0, .int .i64 8])) w' := by
 have h1 : decE l = [] := by unfold decE; rw [h]; rfl
 have h2 : decZ l = 8 := by unfold decZ; rw [h]; rfl
 refine ⟨none, 0, 0, by rw [h2], ?_, hb⟩
 rw [h1]
 exact Cel.Own.nil _ _ _ _
theorem DecsA.good {l : List UInt8} {xs : List En} {w w' : World} {A : Option Addr} {n c : Nat} (h : decA l = some xs) (ho : Cel.Own 95 2 w' w.heap.size (.slice A n c) n (ecells xs)) (hb : Below w.heap.size w w') : DecsA l w (.returned (.tuple #[.slice A n c, .int .i64 0])) w' := by
 have h1 : decE l = xs := by unfold decE; rw [h]; rfl
 have h2 : decZ l = 0 := by unfold decZ; rw [h]; rfl
 refine ⟨A, n, c, by rw [h2], ?_, hb⟩
 rw [h1]
 exact ho
theorem n4_take (l : List UInt8) (k : Nat) : n4 ((l.drop k).take 4) = n4 (l.drop k) := by unfold n4; rw [List.take_take, Nat.min_self]
theorem mkE_snoc (l : List UInt8) : ∀ (a : List (List UInt8)) (i : Nat) (s : List UInt8), mkE l i (a ++ [s]) = mkE l i a ++ [⟨str s, (n4 (l.drop (4 + 4 * (i + a.length))) : Int)⟩]
 | [], i, s => by simp [mkE]
 | t :: a, i, s => by
   rw [List.cons_append, mkE, mkE_snoc l a (i + 1) s, mkE, List.length_cons, show i + 1 + a.length = i + (a.length + 1) by omega]
   rfl
theorem nm_more {l : List UInt8} {p q : Nat} (hp : p ≤ q) (hq : q < l.length) : (l.drop p).take (q + 1 - p) = (l.drop p).take (q - p) ++ [l[q]] := by
 rw [show q + 1 - p = (q - p) + 1 by omega, List.take_succ_eq_append_getElem (by rw [List.length_drop]; omega)]
 congr 2
 rw [List.getElem_drop]
 congr 1
 omega
theorem nm1_at {l : List UInt8} {p q : Nat} (hp : p ≤ q) (hq : q < l.length) (h0 : (0 : UInt8) ∉ (l.drop p).take (q - p)) (hz : l[q] = 0) : nm1 (l.drop p) = (l.drop p).take (q - p) ∧ l.drop p = (l.drop p).take (q - p) ++ ([0] ++ l.drop (q + 1)) := by
 have e : l.drop p = (l.drop p).take (q - p) ++ ([0] ++ l.drop (q + 1)) := by
   conv => lhs; rw [← List.take_append_drop (q - p) (l.drop p)]
   rw [List.drop_drop, show p + (q - p) = q by omega, List.drop_eq_getElem_cons hq, hz]
   rfl
 refine ⟨?_, e⟩
 conv => lhs; rw [e]
 exact nm1_app h0 _
theorem nm1_end {l : List UInt8} {p : Nat} (h0 : (0 : UInt8) ∉ (l.drop p).take (l.length - p)) : nm1 (l.drop p) = l.drop p := by
 rw [List.take_of_length_le (by rw [List.length_drop]; omega)] at h0
 exact nm1_all h0
theorem decA_big {l : List UInt8} (h : l.length < 4 ∨ l.length < 4 + 4 * n4 l) : decA l = none := by
 unfold decA
 rcases h with h | h
 · rw [if_pos h]
 · split
   · rfl
   · first | rfl | rw [if_pos h]
theorem decA_go {l : List UInt8} (h4 : 4 ≤ l.length) (h : 4 + 4 * n4 l ≤ l.length) {a : List (List UInt8)} (ha : ∀ s ∈ a, nmOk s = true) {p k : Nat} (hk : a.length = k) (hkn : k ≤ n4 l) (e : l.drop (4 + 4 * n4 l) = encN a ++ l.drop p) :
   decA l = ((nmsA (n4 l - k) (l.drop p)).map (a ++ ·)).map (mkE l 0) := by
 unfold decA
 rw [if_neg (by omega), if_neg (by omega), e]
 have := nmsA_app a (n4 l - k) (l.drop p) ha
 rw [hk, show k + (n4 l - k) = n4 l by omega] at this
 rw [this]

set_option maxRecDepth 100000 in
set_option maxHeartbeats 4000000 in
theorem rdecA_small (A : Option Addr) (n c : Nat) (l : List UInt8) (w : World) (hl : l.length = n) (h4 : n < 4) :
   Calls Tryz.prog 37 #[.slice A n c] w (DecsA l w) := by
 have Hd := hid (decA_big (l := l) (.inl (by omega)))
 have h4i : (n : Int) < 4 := by omega
 go_enter Tryz.func37, Tryz.ntmps37
 go_wp2_with fail
 go_ret2
 exact DecsA.bad Hd.out (Below.refl _ _)

set_option maxRecDepth 100000 in
set_option maxHeartbeats 8000000 in
theorem rdecA_big (K : Nat) (b o n c : Nat) (l : List UInt8) (w : World) (hr : Byt.Rd w K (some ⟨b, o, none⟩) n l) (hK : K ≤ w.heap.size) (hnc : n ≤ c) (h4 : 4 ≤ n) (hn : n ≤ 100000) :
   Calls Tryz.prog 37 #[.slice (some ⟨b, o, none⟩) n c] w (DecsA l w) := by
 have hl := hid hr.1
 have h4i : ¬ (n : Int) < 4 := by omega
 have h4c : (4 : Int) ≤ (c : Int) := by omega
 have hr4 := hr.pre (m := 4) h4
 have hn4 := n4_lt l
 have e4 : n4 (l.take 4) = n4 l := by unfold n4; rw [List.take_take, Nat.min_self]
 obtain ⟨N, hN⟩ : ∃ N, n4 l = N := ⟨_, rfl⟩
 have HN := hid hN
 have hN4 := e4.trans hN
 rw [hN] at hn4
 have g1 : IntKind.i64.wrap (4 * (N : Int)) = 4 * (N : Int) := by rw [IntKind.wrap_i64]; omega
 have g2 : IntKind.i64.wrap (4 + 4 * (N : Int)) = ((4 + 4 * N : Nat) : Int) := by rw [IntKind.wrap_i64]; omega
 clear e4 hN
 go_enter Tryz.func37, Tryz.ntmps37
 go_wp2_with fail
 refine (rnumber_any w K (some ⟨b, o, none⟩) 4 c (l.take 4) hr4 (Nat.le_refl _)).mono ?_
 rintro e w1 ⟨rfl, m1, rfl⟩
 rw [hN4]
 have hb1 : Below w.heap.size w (w.drewN m1) := ⟨rfl, rfl, rfl, Nat.le_refl _, fun _ _ => rfl⟩
 have hr1 := hr.drewN m1
 have hK1 : K ≤ (w.drewN m1).heap.size := hK
 clear hr4 hN4
 generalize w.drewN m1 = w1 at *
 obtain ⟨p0, hp0⟩ : ∃ p0, 4 + 4 * N = p0 := ⟨_, rfl⟩
 have HP0 := hid hp0
 rw [hp0] at g2
 by_cases hbig : n < p0
 · have hbi : (n : Int) < (p0 : Int) := by omega
   have Hd := hid (decA_big (l := l) (.inr (by rw [HN.out, HP0.out, hl.out]; exact hbig)))
   clear hp0
   go_wp2_with fail
   go_ret2
   exact DecsA.bad Hd.out hb1
 · have hbi : ¬ (n : Int) < (p0 : Int) := by omega
   have HG := hid fun (a : List (List UInt8)) (ha : ∀ s ∈ a, nmOk s = true) (p k : Nat) (hk : a.length = k) (hkn : k ≤ N) (e : l.drop p0 = encN a ++ l.drop p) => (by
     have := decA_go (l := l) (by rw [hl.out]; omega) (by rw [HN.out, HP0.out, hl.out]; omega) ha (p := p) hk (by rw [HN.out]; exact hkn) (by rw [HN.out, HP0.out]; exact e)
     rw [HN.out] at this
     exact this : decA l = ((nmsA (N - k) (l.drop p)).map (a ++ ·)).map (mkE l 0))
   clear hp0
   go_wp2_with fail
   go_loopw [7, 6, 5] (fun i v t W => ∃ (k : Nat) (A1 : Option Addr) (c1 : Nat) (a : List (List UInt8)) (p : Nat), i = .int .i64 (k : Int) ∧ v = .slice A1 k c1 ∧ t = .int .i64 (p : Int) ∧ k ≤ N ∧ p ≤ n ∧ Hid (a.length = k) ∧ Hid (∀ s ∈ a, nmOk s = true) ∧ Hid (l.drop p0 = encN a ++ l.drop p) ∧ Cel.Own 95 2 W w.heap.size (.slice A1 k c1) k (ecells (mkE l 0 a)) ∧ Below w.heap.size w W) (fun i _ _ _ => N - (intOf i).toNat)
   case atStart => exact ⟨0, none, 0, [], p0, rfl, rfl, rfl, by omega, by omega, hid rfl, hid (fun s hs => by cases hs), hid rfl, Cel.Own.nil _ _ _ _, hb1⟩
   case round =>
     obtain ⟨k, A1, c1, a, p, rfl, rfl, rfl, hk, hp, hak, hao, hae, hO, hb⟩ := hrel
     by_cases hlt : k < N
     · have hki : (k : Int) < (N : Int) := by omega
       have hrw := hr.below (hb.mono hK)
       go_wp2_with fail
       go_loopw [8, 5] (fun s t W => ∃ (q : Nat) (sn : ByteArray), s = .string sn ∧ t = .int .i64 (q : Int) ∧ p ≤ q ∧ q ≤ n ∧ Hid (sn = str ((l.drop p).take (q - p))) ∧ Hid ((0 : UInt8) ∉ (l.drop p).take (q - p)) ∧ Hid (W = wr)) (fun _ t _ => n - (intOf t).toNat)
       case atStart => exact ⟨p, ⟨#[]⟩, rfl, rfl, Nat.le_refl _, hp, hid (by rw [Nat.sub_self, List.take_zero]; rfl), hid (by rw [Nat.sub_self, List.take_zero]; simp), hid rfl⟩
       case round =>
         obtain ⟨q, sn, rfl, rfl, hpq, hqn, hsn, hno, hw⟩ := hrel
         have hw' := hw.out
         subst hw'
         have hsn0 : decide ((0 : Int) = 0) = true := by decide
         clear hsn0
         by_cases hq : q < n
         · have hqi : decide ((q : Int) < (n : Int)) = true := decide_eq_true (by omega)
           have hqi2 : (q : Int) < (n : Int) := by omega
           have hql : q < l.length := by have := hl.out; omega
           obtain ⟨_, _, e1, _, hc⟩ := hrw.2 q hql
           cases e1
           have HM := hid (nm_more hpq hql)
           have HA1 := hid fun (h0 : (0 : UInt8) ∉ (l.drop p).take (q - p)) (hz : l[q] = 0) => nm1_at hpq hql h0 hz
           obtain ⟨p1, hs1, ht1, hq1⟩ := slice_mid K b o n c q (q + 1) (q : Int) ((q : Int) + 1) rfl (by omega) (by omega) (by omega) hnc
           have hq1' := hq1 wr l hrw
           have hone : (l.drop q).take (q + 1 - q) = [l[q]] := by rw [Nat.add_sub_cancel_left, List.drop_eq_getElem_cons hql]; rfl
           rw [hone] at hq1'
           have hcv := run_str wr K _ _ (c - q) _ hq1'
           rw [Nat.add_sub_cancel_left] at hcv hs1 ht1
           clear hq1 hq1' hone
           generalize l[q] = ch at *
           by_cases hz : ch = 0
           · subst hz
             have hzi : ((((0 : UInt8).toNat : Nat) : Int) != 0) = false := by decide
             have hz2 : (0 : UInt8).toNat = 0 := rfl
             rw [hz2] at hc
             obtain ⟨H1, H2⟩ := HA1.out hno.out rfl
             have HH1 := hid H1
             have HH2 := hid H2
             clear H1 H2 HA1 HM hcv hs1 ht1 hzi hz2
             have hqe : ((q : Int) == (n : Int)) = false := by rw [beq_eq_false_iff_ne]; omega
             by_cases hqp : q = p
             · have hse : (sn.toList == []) = true := by rw [hsn.out, ByteArray.toList_eq, str_list, hqp, Nat.sub_self]; rfl
               have Hd : Hid (decA l = none) := hid (by
                 rw [HG.out a hao.out p k hak.out (by omega) hae.out, show N - k = (N - (k + 1)) + 1 by omega, nmsA_succ, if_pos (.inl (by rw [HH1.out, hqp, Nat.sub_self, List.take_zero]))]
                 rfl)
               clear hqp
               go_wp2_with fail
               go_ret2
               exact DecsA.bad Hd.out hb
             · have hse : (sn.toList == []) = false := by
                 rw [beq_eq_false_iff_ne, hsn.out, ByteArray.toList_eq, str_list]
                 intro e
                 have := congrArg List.length e
                 rw [List.length_take, List.length_drop, List.length_nil] at this
                 omega
               have hnew : Hid (nmOk ((l.drop p).take (q - p)) = true) := hid (nmOk_iff.2 ⟨fun e => by
                 have := congrArg List.length e
                 rw [List.length_take, List.length_drop, List.length_nil] at this
                 omega, hno.out⟩)
               obtain ⟨nm, hnm⟩ : ∃ nm, (l.drop p).take (q - p) = nm := ⟨_, rfl⟩
               rw [hnm] at hnew hsn HH2
               have wq : IntKind.i64.wrap ((q : Int) + 1) = (q : Int) + 1 := by rw [IntKind.wrap_i64]; omega
               have HP := HP0.out
               have hkb : k ≤ 100000 := by omega
               have w1' : IntKind.i64.wrap (4 * (k : Int)) = 4 * (k : Int) := by rw [IntKind.wrap_i64]; omega
               have w2' : IntKind.i64.wrap (4 + 4 * (k : Int)) = 4 + 4 * (k : Int) := by rw [IntKind.wrap_i64]; omega
               have w3' : IntKind.i64.wrap (8 + 4 * (k : Int)) = 8 + 4 * (k : Int) := by rw [IntKind.wrap_i64]; omega
               obtain ⟨p2, hs2, ht2, hq2⟩ := slice_mid K b o n c (4 + 4 * k) (8 + 4 * k) (4 + 4 * (k : Int)) (8 + 4 * (k : Int)) (by omega) (by omega) (by omega) (by omega) hnc
               have hr2 := hq2 wr l hrw
               rw [show 8 + 4 * k - (4 + 4 * k) = 4 by omega] at hr2 hs2 ht2
               have hNum := rnumber_any wr K _ 4 (c - (4 + 4 * k)) _ hr2 (Nat.le_refl _)
               rw [n4_take] at hNum
               have HNum := hid hNum
               have HE : Hid (ecells (mkE l 0 (a ++ [nm])) = ecells (mkE l 0 a) ++ [.string sn, .int .i64 (n4 (l.drop (4 + 4 * k)) : Int)]) := hid (by
                 rw [mkE_snoc, ecells_append, hak.out, Nat.zero_add, hsn.out]
                 rfl)
               have hao2 : Hid (∀ s ∈ a ++ [nm], nmOk s = true) := hid fun s hs => by
                 rcases List.mem_append.1 hs with h | h
                 · exact hao.out s h
                 · rw [List.mem_singleton] at h; rw [h]; exact hnew.out
               have hae2 : Hid (l.drop p0 = encN (a ++ [nm]) ++ l.drop (q + 1)) := hid (by
                 rw [hae.out, encN_append, List.append_assoc]
                 congr 1
                 rw [HH2.out]
                 simp [encN])
               clear HP hq2 hr2 hNum hnm hqp hno hrw
               generalize n4 (l.drop (4 + 4 * k)) = zn at *
               go_wp2_with fail
               refine (HNum.out).mono ?_
               rintro e w5 ⟨rfl, m5, rfl⟩
               have hO5 := hO.drewN m5
               have hb5 : Below w.heap.size w (wr.drewN m5) := hb.trans ⟨rfl, rfl, rfl, Nat.le_refl _, fun _ _ => rfl⟩
               generalize wr.drewN m5 = w5 at *
               go_wp2_with (at_builtin; go_must (refine Cel.wpList_push kE w5 w.heap.size (.slice A1 k c1) k _ hO5 hb5.size 1 1 #[.string sn, .int .i64 (zn : Int)] (0, 0) rfl (by simp [Value.oneCell']) (by omega) (by omega) rfl (.tmp 58) (.tmp 70) rfl rfl rfl ?_); intro v6 w6 ho6 hb6 _ _; obtain ⟨A6, c6, rfl, _⟩ := ho6.reads)
               have ho6' : Cel.Own 95 2 w6 w.heap.size (.slice A6 (k + 1) c6) (k + 1) (ecells (mkE l 0 (a ++ [nm]))) := by rw [HE.out]; exact ho6
               have hb06 := hb5.trans hb6
               clear ho6 hb6 hO5
               go_roundw
               · exact ⟨k + 1, A6, c6, a ++ [nm], q + 1, by go_num, by go_num, by go_num, by omega, by omega, hid (by rw [List.length_append, hak.out]; rfl), hao2, hae2, ho6', hb06⟩
               · simp [intOf]; omega
           · have hzi : (((ch.toNat : Nat) : Int) != 0) = true := by
               rw [bne_iff_ne]
               intro e
               exact hz (by rw [← UInt8.toNat_inj]; simpa using e)
             have hzn : ¬ ch.toNat = 0 := fun e => hz (by rw [← UInt8.toNat_inj]; exact e)
             have hszi : ¬ 9223372036854775807 < sn.size + 1 := by
               have : sn.size ≤ n := by rw [hsn.out, str_size, List.length_take]; omega
               omega
             have wq : IntKind.i64.wrap ((q : Int) + 1) = (q : Int) + 1 := by rw [IntKind.wrap_i64]; omega
             have hsn2 : Hid (sn ++ ⟨[ch].toArray⟩ = str ((l.drop p).take (q + 1 - p))) := hid (by
               rw [HM.out, hsn.out]
               apply ByteArray.ext
               simp [str])
             have hno2 : Hid ((0 : UInt8) ∉ (l.drop p).take (q + 1 - p)) := hid (by
               rw [HM.out, List.mem_append, List.mem_singleton]
               rintro (h | h)
               · exact hno.out h
               · exact hz h.symm)
             clear HM HA1
             go_wp2_with fail
             go_roundw
             · exact ⟨q + 1, _, rfl, by go_num, by omega, by omega, hsn2, hno2, hid trivial⟩
             · simp [intOf]; omega
         · obtain rfl : q = n := by omega
           have hqi : decide ((q : Int) < (q : Int)) = false := decide_eq_false (by omega)
           have hqe : ((q : Int) == (q : Int)) = true := beq_self_eq_true _
           have Hd : Hid (decA l = none) := hid (by
             have h1 := nm1_end (l := l) (p := p) (by rw [hl.out]; exact hno.out)
             rw [HG.out a hao.out p k hak.out (by omega) hae.out, show N - k = (N - (k + 1)) + 1 by omega, nmsA_succ, if_pos (.inr h1)]
             rfl)
           cases hse : (sn.toList == [])
           · go_wp2_with fail
             go_ret2
             exact DecsA.bad Hd.out hb
           · go_wp2_with fail
             go_ret2
             exact DecsA.bad Hd.out hb
     · obtain rfl : k = N := by omega
       have hG := hid (HG.out a hao.out p k hak.out (Nat.le_refl _) hae.out)
       by_cases hpn : p = n
       · have hpi : ((p : Int) != (n : Int)) = false := by rw [hpn]; simp
         have Hd : Hid (decA l = some (mkE l 0 a)) := hid (by
           rw [hG.out, Nat.sub_self, List.drop_eq_nil_of_le (by rw [hl.out]; omega)]
           simp [nmsA])
         clear hpn
         go_wp2_with fail
         go_ret2
         exact DecsA.good Hd.out hO hb
       · have hpi : ((p : Int) != (n : Int)) = true := by rw [bne_iff_ne]; omega
         have Hd : Hid (decA l = none) := hid (by
           have h1 : l.drop p ≠ [] := fun e => by
             have := congrArg List.length e
             rw [List.length_drop, hl.out, List.length_nil] at this
             omega
           rw [hG.out, Nat.sub_self]
           simp [nmsA, h1])
         clear hpn
         go_wp2_with fail
         go_ret2
         exact DecsA.bad Hd.out hb
theorem rdecA_any (K : Nat) (A : Option Addr) (n c : Nat) (l : List UInt8) (w : World) (hr : Byt.Rd w K A n l) (hK : K ≤ w.heap.size) (hnc : n ≤ c) (hn : n ≤ 100000) :
   Calls Tryz.prog 37 #[.slice A n c] w (DecsA l w) := by
 by_cases h4 : n < 4
 · exact rdecA_small A n c l w hr.1 h4
 · obtain ⟨b, o, rfl, _⟩ := hr.2 0 (by rw [hr.1]; omega)
   exact rdecA_big K b o n c l w hr hK hnc (by omega) hn
end Go.Proofs.YtjobmkodgodloaaGreatDoor.Amp
