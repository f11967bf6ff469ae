/-
  What Parse gives: the plain mathematics of archives. No program is named here. The reference of arparse: Magic, Is. Archives by value and the mathematics of Parse; what a call has made itself. The four archives that awake of the laws of arparse parses: plain mathematics. The members of an archive that is accepted lie one behind the other, up to its end: plain mathematics. What stands behind an archive that is accepted is parsed as if it stood alone: plain mathematics.
-/
import Derived.Test.YtjobmkodgodloaaGreatDoorYMc
import Derived.Test.YtjobmkodgodloaaGreatDoorYMh
import Derived.Test.YtjobmkodgodloaaGreatDoorYMj
namespace Go.Proofs.YtjobmkodgodloaaGreatDoor.Arp
open Go.Proofs.YtjobmkodgodloaaGreatDoor.Byt Go.Proofs.YtjobmkodgodloaaGreatDoor.Dec Go.Proofs.YtjobmkodgodloaaGreatDoor.Lnm Go.Proofs.YtjobmkodgodloaaGreatDoor.Hdr

structure Pm where
 name : ByteArray
 time : Int
 uid : Int
 gid : Int
 mode : Int
 data : List UInt8

def magic : List UInt8 := [33, 60, 97, 114, 99, 104, 62, 10]
def isAr (l : List UInt8) : Bool := decide (8 ≤ l.length) && (l.take 8 == magic)

def psz (l : List UInt8) : Nat := (dnum l 4).toNat
def pad (n : Nat) : Nat := n + n % 2
def plen (l : List UInt8) : Nat := 60 + pad (psz l)
def pdata (l : List UInt8) : List UInt8 := (l.drop 60).take (psz l)
def perr (l : List UInt8) : Int :=
 if derr l ≠ 0 then derr l else if l.length < plen l then 2 else if psz l % 2 = 1 ∧ l[60 + psz l]? ≠ some 10 then 5 else 0

theorem dnum_nat (l : List UInt8) (k : Nat) : ∃ x : Nat, dnum l k = (x : Int) := by
 unfold dnum
 split
 · exact ⟨_, rfl⟩
 · exact ⟨0, rfl⟩
theorem dnum_lt (l : List UInt8) (k : Nat) (hk : k < 5) : dnum l k < 1000000000000 := by
 unfold dnum
 split
 · rename_i h
   obtain ⟨hl, _, _, hr⟩ := derr_ok h
   obtain ⟨x, hx⟩ := allRd_at 5 hk hr
   rw [hx]
   have h1 := (fldF_rdF (part_length hl k hk) hx).1
   unfold okF at h1
   split at h1
   · have : (x : Int) = 0 := by simpa using h1
     simp only [Option.getD_some]
     omega
   · simp only [Bool.and_eq_true, decide_eq_true_eq, Int.toNat_natCast] at h1
     have h2 : x < (bs k) ^ nd (bs k) x := lt_pow (bs_2 k).1 x
     have h3 : (bs k) ^ nd (bs k) x ≤ 10 ^ wd k := Nat.le_trans (Nat.pow_le_pow_left (bs_2 k).2 _) (Nat.pow_le_pow_right (by omega) h1.2)
     have h4 : wd k ≤ 12 := by unfold wd; split <;> omega
     have h5 : 10 ^ wd k ≤ 10 ^ 12 := Nat.pow_le_pow_right (by omega) h4
     have h6 : (10 : Nat) ^ 12 = 1000000000000 := by decide
     simp only [Option.getD_some]
     omega
 · omega
theorem psz_int (l : List UInt8) : dnum l 4 = (psz l : Int) := by
 obtain ⟨x, hx⟩ := dnum_nat l 4
 unfold psz
 rw [hx]
 rfl
theorem psz_lt (l : List UInt8) : psz l < 1000000000000 := by
 have := dnum_lt l 4 (by omega)
 rw [psz_int] at this
 omega
theorem plen_pos (l : List UInt8) : 0 < plen l := by unfold plen; omega
theorem perr_dec {l : List UInt8} (h : derr l ≠ 0) : perr l = derr l := if_pos h
theorem perr_2 {l : List UInt8} (h : derr l = 0) (h2 : l.length < plen l) : perr l = 2 := by
 unfold perr; rw [if_neg (by simp [h]), if_pos h2]
theorem perr_5 {l : List UInt8} (h : derr l = 0) (h2 : plen l ≤ l.length) (h3 : psz l % 2 = 1 ∧ l[60 + psz l]? ≠ some 10) : perr l = 5 := by
 unfold perr; rw [if_neg (by simp [h]), if_neg (by omega), if_pos h3]
theorem perr_0 {l : List UInt8} (h : derr l = 0) (h2 : plen l ≤ l.length) (h3 : ¬ (psz l % 2 = 1 ∧ l[60 + psz l]? ≠ some 10)) : perr l = 0 := by
 unfold perr; rw [if_neg (by simp [h]), if_neg (by omega), if_neg h3]
theorem perr_ok {l : List UInt8} (h : perr l = 0) : derr l = 0 ∧ plen l ≤ l.length ∧ (psz l % 2 = 1 → l[60 + psz l]? = some 10) := by
 unfold perr at h
 split at h
 · rename_i h1; exact absurd h h1
 · rename_i h1
   split at h
   · omega
   · rename_i h2
     split at h
     · omega
     · rename_i h3
       refine ⟨by simpa using h1, by omega, fun hp => ?_⟩
       by_cases e : l[60 + psz l]? = some 10
       · exact e
       · exact absurd ⟨hp, e⟩ h3
theorem pdata_length {l : List UInt8} (h : perr l = 0) : (pdata l).length = psz l := by
 have := (perr_ok h).2.1
 unfold plen pad at this
 unfold pdata
 rw [List.length_take, List.length_drop]
 omega

structure St where
 hasMap : Bool
 map : List UInt8
 mems : List Pm
 offs : List Int
 tbl : Option (List UInt8)
def St.zero : St := ⟨false, [], [], [], none⟩
def St.cnt (s : St) : Nat := (if s.hasMap then 1 else 0) + (if s.tbl.isSome then 1 else 0) + s.mems.length
def St.mayTab (s : St) : Bool := s.tbl.isNone && s.mems.isEmpty

def nmMap : ByteArray := ⟨#[47]⟩
def nmTab : ByteArray := ⟨#[47, 47]⟩
def pname (s : St) (l : List UInt8) : Option ByteArray := resv (bts (dname l)) (s.tbl.getD [])
def stepE (s : St) (l : List UInt8) : Int :=
 if perr l ≠ 0 then perr l
 else if dname l = nmMap then (if s.cnt = 0 then 0 else 8)
 else if dname l = nmTab then (if s.mayTab = true ∧ good (pdata l) = true then 0 else 7)
 else re (pname s l)
def stepS (s : St) (at_ : Nat) (l : List UInt8) : St :=
 if dname l = nmMap then { s with hasMap := true, map := pdata l }
 else if dname l = nmTab then { s with tbl := some (pdata l) }
 else { s with mems := s.mems ++ [⟨rs (pname s l), dnum l 0, dnum l 1, dnum l 2, dnum l 3, pdata l⟩], offs := s.offs ++ [(at_ : Int)] }

def go (s : St) (at_ : Nat) (l : List UInt8) : St × Nat × Int :=
 if _h0 : l = [] then (s, 0, 0) else if stepE s l ≠ 0 then (St.zero, at_, stepE s l) else go (stepS s at_ l) (at_ + plen l) (l.drop (plen l))
termination_by l.length
decreasing_by
 have h1 : 0 < l.length := List.length_pos_iff.2 _h0
 have h2 := plen_pos l
 rw [List.length_drop]
 omega
theorem go_nil (s : St) (a : Nat) : go s a [] = (s, 0, 0) := by rw [go]; simp
theorem go_bad {s : St} {a : Nat} {l : List UInt8} (h0 : l ≠ []) (h : stepE s l ≠ 0) : go s a l = (St.zero, a, stepE s l) := by rw [go, dif_neg h0, if_pos h]
theorem go_on {s : St} {a : Nat} {l : List UInt8} (h0 : l ≠ []) (h : stepE s l = 0) : go s a l = go (stepS s a l) (a + plen l) (l.drop (plen l)) := by rw [go, dif_neg h0, if_neg (by simp [h])]

def ar (l : List UInt8) : St × Nat × Int := if l.length < 8 then (St.zero, 0, 2) else if isAr l = false then (St.zero, 0, 1) else go St.zero 8 (l.drop 8)

theorem stepE_ok {s : St} {l : List UInt8} (h : stepE s l = 0) : perr l = 0 := by
 unfold stepE at h
 split at h
 · rename_i h1; exact absurd h h1
 · rename_i h1; simpa using h1
theorem cnt_zero : St.zero.cnt = 0 := rfl

structure Ok (s : St) : Prop where
 tab : ∀ t, s.tbl = some t → good t = true
 len : s.offs.length = s.mems.length
theorem ok_zero : Ok St.zero := ⟨fun t h => (by cases h), rfl⟩
theorem step_ok {s : St} {a : Nat} {l : List UInt8} (h : Ok s) (he : stepE s l = 0) : Ok (stepS s a l) ∧ (stepS s a l).cnt = s.cnt + 1 := by
 have hp := stepE_ok he
 unfold stepE at he
 rw [if_neg (by simp [hp])] at he
 unfold stepS
 by_cases h1 : dname l = nmMap
 · rw [if_pos h1] at he
   rw [if_pos h1]
   split at he
   · rename_i hc
     refine ⟨⟨h.tab, h.len⟩, ?_⟩
     unfold St.cnt at hc ⊢
     cases hm : s.hasMap
     · simp; omega
     · simp [hm] at hc
   · omega
 · rw [if_neg h1] at he ⊢
   by_cases h2 : dname l = nmTab
   · rw [if_pos h2] at he ⊢
     split at he
     · rename_i hc
       refine ⟨⟨fun t ht => ?_, h.len⟩, ?_⟩
       · injection ht with ht; rw [← ht]; exact hc.2
       · obtain ⟨hc, _⟩ := hc
         unfold St.mayTab at hc
         rw [Bool.and_eq_true] at hc
         have : s.tbl = none := by simpa using hc.1
         unfold St.cnt
         simp [this]
         omega
     · omega
   · rw [if_neg h2] at he ⊢
     refine ⟨⟨h.tab, ?_⟩, ?_⟩
     · simp [h.len]
     · unfold St.cnt; simp; omega
theorem mayTab_cnt (s : St) : s.mayTab = true ↔ (s.cnt = 0 ∨ (s.cnt = 1 ∧ s.hasMap = true)) := by
 obtain ⟨hm, m, ms, os, t⟩ := s
 unfold St.mayTab St.cnt
 cases hm <;> cases t <;> cases ms <;> simp <;> omega

def spots (at_ : Nat) (l : List UInt8) : List Nat :=
 if _h0 : l = [] then [] else if perr l ≠ 0 then [at_] else at_ :: spots (at_ + plen l) (l.drop (plen l))
termination_by l.length
decreasing_by
 have h1 : 0 < l.length := List.length_pos_iff.2 _h0
 have h2 := plen_pos l
 rw [List.length_drop]
 omega
theorem spots_nil (a : Nat) : spots a [] = [] := by rw [spots]; simp
theorem spots_bad {a : Nat} {l : List UInt8} (h0 : l ≠ []) (h : perr l ≠ 0) : spots a l = [a] := by rw [spots, dif_neg h0, if_pos h]
theorem spots_on {a : Nat} {l : List UInt8} (h0 : l ≠ []) (h : perr l = 0) : spots a l = a :: spots (a + plen l) (l.drop (plen l)) := by rw [spots, dif_neg h0, if_neg (by simp [h])]
theorem spots_length (a : Nat) (l : List UInt8) : (spots a l).length ≤ l.length := by
 generalize hk : l.length = k
 induction k using Nat.strongRecOn generalizing l a with
 | _ k ih =>
   by_cases h0 : l = []
   · subst h0; rw [spots_nil]; simp
   · have h1 : 0 < l.length := List.length_pos_iff.2 h0
     by_cases hp : perr l = 0
     · have h2 := plen_pos l
       rw [spots_on h0 hp, List.length_cons]
       have := ih _ (by rw [List.length_drop]; omega) (a + plen l) (l.drop (plen l)) rfl
       rw [List.length_drop] at this
       omega
     · rw [spots_bad h0 hp]; simp; omega

def fold (l : List UInt8) : St → List Nat → Option St
 | s, [] => some s
 | s, a :: r => if stepE s (l.drop a) = 0 then fold l (stepS s a (l.drop a)) r else none
theorem fold_snoc (l : List UInt8) : ∀ (r : List Nat) (s t : St) (a : Nat), fold l s r = some t → fold l s (r ++ [a]) = if stepE t (l.drop a) = 0 then some (stepS t a (l.drop a)) else none
 | [], s, t, a, h => by
   injection h with h
   subst h
   rfl
 | b :: r, s, t, a, h => by
   unfold fold at h
   split at h
   · rename_i hb
     rw [List.cons_append, fold, if_pos hb]
     exact fold_snoc l r _ t a h
   · cases h
theorem fold_ok (l : List UInt8) : ∀ (r : List Nat) (s t : St), Ok s → fold l s r = some t → Ok t ∧ t.cnt = s.cnt + r.length
 | [], s, t, ho, h => by
   injection h with h
   subst h
   exact ⟨ho, rfl⟩
 | b :: r, s, t, ho, h => by
   unfold fold at h
   split at h
   · rename_i hb
     obtain ⟨h1, h2⟩ := step_ok (a := b) ho hb
     obtain ⟨h3, h4⟩ := fold_ok l r _ t h1 h
     exact ⟨h3, by rw [h4, h2, List.length_cons]; omega⟩
   · cases h

theorem go_all (l : List UInt8) : ∀ (k : Nat) (a : Nat) (s t : St), l.length - a ≤ k → a ≤ l.length → fold l s (spots a (l.drop a)) = some t → go s a (l.drop a) = (t, 0, 0) := by
 intro k
 induction k with
 | zero =>
   intro a s t hk ha h
   have e : l.drop a = [] := List.drop_eq_nil_of_le (by omega)
   rw [e, spots_nil] at h
   injection h with h
   rw [e, go_nil, h]
 | succ k ih =>
   intro a s t hk ha h
   by_cases h0 : l.drop a = []
   · rw [h0, spots_nil] at h
     injection h with h
     rw [h0, go_nil, h]
   · by_cases hp : perr (l.drop a) = 0
     · rw [spots_on h0 hp] at h
       unfold fold at h
       split at h
       · rename_i hs
         have h1 := plen_pos (l.drop a)
         have h2 := (perr_ok hp).2.1
         rw [List.length_drop] at h2
         rw [go_on h0 hs, List.drop_drop]
         rw [List.drop_drop] at h
         exact ih _ _ _ (by omega) (by omega) h
       · cases h
     · rw [spots_bad h0 hp] at h
       unfold fold at h
       split at h
       · rename_i hs
         exact absurd (stepE_ok hs) hp
       · cases h
theorem go_one (l : List UInt8) : ∀ (r : List Nat) (a : Nat) (s t : St) (b : Nat), (r ++ [b]) <+: spots a (l.drop a) → fold l s r = some t → stepE t (l.drop b) ≠ 0 → go s a (l.drop a) = (St.zero, b, stepE t (l.drop b)) := by
 intro r
 induction r with
 | nil =>
   intro a s t b hp h he
   injection h with h
   subst h
   by_cases h0 : l.drop a = []
   · rw [h0, spots_nil] at hp
     simp at hp
   · have hb : b = a := by
       by_cases hq : perr (l.drop a) = 0
       · rw [spots_on h0 hq] at hp
         simpa using hp
       · rw [spots_bad h0 hq] at hp
         simpa using hp
     subst hb
     exact go_bad h0 he
 | cons c r ih =>
   intro a s t b hp h he
   by_cases h0 : l.drop a = []
   · rw [h0, spots_nil] at hp
     simp at hp
   · by_cases hq : perr (l.drop a) = 0
     · rw [spots_on h0 hq, List.cons_append, List.cons_prefix_cons] at hp
       obtain ⟨rfl, hp⟩ := hp
       unfold fold at h
       split at h
       · rename_i hs
         rw [go_on h0 hs, List.drop_drop]
         rw [List.drop_drop] at hp
         exact ih _ _ _ _ hp h he
       · cases h
     · rw [spots_bad h0 hq, List.cons_append, List.cons_prefix_cons] at hp
       simp at hp

theorem ar_2 {l : List UInt8} (h : l.length < 8) : ar l = (St.zero, 0, 2) := if_pos h
theorem ar_1 {l : List UInt8} (h : 8 ≤ l.length) (hi : isAr l = false) : ar l = (St.zero, 0, 1) := by unfold ar; rw [if_neg (by omega), if_pos hi]
theorem ar_go {l : List UInt8} (hi : isAr l = true) : ar l = go St.zero 8 (l.drop 8) := by
 have h8 : 8 ≤ l.length := by unfold isAr at hi; simp at hi; exact hi.1
 unfold ar
 rw [if_neg (by omega), if_neg (by simp [hi])]
theorem ar_all {l : List UInt8} {t : St} (hi : isAr l = true) (h : fold l St.zero (spots 8 (l.drop 8)) = some t) : ar l = (t, 0, 0) := by
 have h8 : 8 ≤ l.length := by unfold isAr at hi; simp at hi; exact hi.1
 rw [ar_go hi]
 exact go_all l _ 8 _ t (Nat.le_refl _) h8 h
theorem ar_one {l : List UInt8} {t : St} {r : List Nat} {b : Nat} (hi : isAr l = true) (hp : (r ++ [b]) <+: spots 8 (l.drop 8)) (h : fold l St.zero r = some t) (he : stepE t (l.drop b) ≠ 0) : ar l = (St.zero, b, stepE t (l.drop b)) := by
 rw [ar_go hi]
 exact go_one l r 8 _ t b hp h he
end Go.Proofs.YtjobmkodgodloaaGreatDoor.Arp

namespace Go.Proofs.YtjobmkodgodloaaGreatDoor.Arp
open Go.RowKit Go.Proofs Go.Proofs.YtjobmkodgodloaaGreatDoor.Byt Go.Proofs.YtjobmkodgodloaaGreatDoor.Dec Go.Proofs.YtjobmkodgodloaaGreatDoor.Lnm

set_option maxRecDepth 100000 in
theorem rmagic_any (w : World) :
   Calls Tryz.prog 29 #[] w fun e w' => ∃ A c, e = .returned (.slice A 8 c) ∧ Rd w' w'.heap.size A 8 magic ∧ Below w.heap.size w w' := by
 go_enter Tryz.func29, Tryz.ntmps29
 have kc := Lib.run_convert_bytes_const (P := Tryz.prog) w 22 5 #[.int .u8 33, .int .u8 60, .int .u8 97, .int .u8 114, .int .u8 99, .int .u8 104, .int .u8 62, .int .u8 10] 8 8 Tryz.underlying22 Tryz.underlying5
 go_wp2_with fail
 go_ret
 exact ⟨_, _, rfl, by rw [show ∀ o : Obj, (w.alloc o).heap.size = w.heap.size + 1 from fun o => by simp]; exact Rd.lit w magic #[.int .u8 33, .int .u8 60, .int .u8 97, .int .u8 114, .int .u8 99, .int .u8 104, .int .u8 62, .int .u8 10] rfl 8 rfl (8, 9), (Below.refl _ w).alloc (Nat.le_refl _) _⟩

set_option maxHeartbeats 1000000 in
theorem ris_any (K : Nat) (A : Option Addr) (n c : Nat) (l : List UInt8) (w : World) (hr : Rd w K A n l) (hK : K ≤ w.heap.size) (hc : n ≤ c) :
   Calls Tryz.prog 43 #[.slice A n c] w fun e w' => e = .returned (.bool (isAr l)) ∧ Below w.heap.size w w' := by
 have hl := hr.1
 by_cases h8 : 8 ≤ n
 · have h8i : (8 : Int) ≤ (n : Int) := by omega
   have h8d : decide ((8 : Int) ≤ (n : Int)) = true := by simpa using h8i
   have HE : Hid (isAr l = (l.take 8 == magic)) := hid (by unfold isAr; rw [decide_eq_true (by omega)]; rfl)
   have Hr := hid ((hr.pre (m := 8) h8).more hK)
   clear hl
   have HS : Hid (∀ W A2 c2, Below w.heap.size w W → Rd W W.heap.size A2 8 magic → Calls Tryz.prog 25 #[.slice A 8 c, .slice A2 8 c2] W fun e W' => e = .returned (.bool (l.take 8 == magic)) ∧ ∃ m, W' = W.drewN m) := hid fun W A2 c2 hb h2 =>
     same_any _ rfl w.heap.size W.heap.size A A2 8 c 8 c2 (l.take 8) magic W (Hr.out.below hb) h2 (by omega)
   go_enter Tryz.func43, Tryz.ntmps43
   go_wp2_with fail
   go_region_with (first
     | (go_at_call 29; refine (rmagic_any _).mono ?_; rintro e w1 ⟨A1, c1, rfl, hr1, hb1⟩)
     | (go_at_call 25; refine (HS.out _ _ _ (((Below.refl _ _).drew).trans hb1) hr1).mono ?_; rintro e w2 ⟨rfl, m2, rfl⟩))
   all_goals go_wp2_with fail
   all_goals go_ret
   all_goals exact ⟨ret_bool HE.out.symm, ((Below.refl _ w).drew.trans hb1).trans (below_drewN _ _)⟩
 · have h8i : ¬ (8 : Int) ≤ (n : Int) := by omega
   have h8d : decide ((8 : Int) ≤ (n : Int)) = false := by simpa using h8i
   have HE : Hid (isAr l = false) := hid (by unfold isAr; rw [decide_eq_false (by omega)]; rfl)
   go_enter Tryz.func43, Tryz.ntmps43
   go_wp2_with fail
   go_region
   all_goals go_wp2_with fail
   all_goals go_ret
   all_goals exact ⟨ret_bool HE.out.symm, (Below.refl _ _).drew⟩
end Go.Proofs.YtjobmkodgodloaaGreatDoor.Arp

namespace Go.Proofs.YtjobmkodgodloaaGreatDoor.Arp
open Go.RowKit Go.Proofs Go.Proofs.YtjobmkodgodloaaGreatDoor.Byt Go.Proofs.YtjobmkodgodloaaGreatDoor.Dec Go.Proofs.YtjobmkodgodloaaGreatDoor.Lnm

def Mem.pure (x : Mem) : Pm := ⟨x.name, x.time, x.uid, x.gid, x.mode, x.data⟩
theorem same_pure {x y : Mem} (h : x.pure = y.pure) : x.same y = true := by
 obtain ⟨x0, x1, x2, x3, x4, xp, xn, xc, xd⟩ := x
 obtain ⟨y0, y1, y2, y3, y4, yp, yn, yc, yd⟩ := y
 simp only [Mem.pure, Pm.mk.injEq] at h
 obtain ⟨rfl, rfl, rfl, rfl, rfl, rfl⟩ := h
 simp [Mem.same, sameM]
theorem sameMs_pure : ∀ {a b : List Mem}, a.map Mem.pure = b.map Mem.pure → sameMs a b = true
 | [], [], _ => rfl
 | [], _ :: _, h => by simp at h
 | _ :: _, [], h => by simp at h
 | x :: l, y :: r, h => by
   simp only [List.map_cons, List.cons.injEq] at h
   unfold sameMs
   rw [same_pure h.1, sameMs_pure h.2]
   rfl

def Arc.is (x : Arc) (s : St) : Prop := x.hasMap = s.hasMap ∧ x.map = s.map ∧ x.mems.map Mem.pure = s.mems ∧ x.offs = s.offs
def Arc.zero : Arc := ⟨false, none, 0, 0, [], none, 0, 0, [], none, 0, 0, []⟩
theorem Arc.is_zero : Arc.zero.is St.zero := ⟨rfl, rfl, rfl, rfl⟩

def mcells : List Mem → List Value
 | [] => []
 | x :: r => [.string x.name, .int .i64 x.time, .int .i64 x.uid, .int .i64 x.gid, .int .i64 x.mode, .slice x.ptr x.len x.cap] ++ mcells r
theorem mcells_append : ∀ a b : List Mem, mcells (a ++ b) = mcells a ++ mcells b
 | [], b => rfl
 | x :: r, b => by rw [List.cons_append, mcells, mcells_append r b, mcells, List.append_assoc]
theorem mcells_length : ∀ a : List Mem, (mcells a).length = a.length * 6
 | [] => rfl
 | x :: r => by rw [mcells, List.length_append, mcells_length r, List.length_cons]; simp; omega
theorem mcells_at : ∀ (a : List Mem) (k : Nat) (h : k < a.length), (mcells a)[k * 6]? = some (.string a[k].name) ∧ (mcells a)[k * 6 + 1]? = some (.int .i64 a[k].time) ∧ (mcells a)[k * 6 + 2]? = some (.int .i64 a[k].uid) ∧ (mcells a)[k * 6 + 3]? = some (.int .i64 a[k].gid) ∧ (mcells a)[k * 6 + 4]? = some (.int .i64 a[k].mode) ∧ (mcells a)[k * 6 + 5]? = some (.slice a[k].ptr a[k].len a[k].cap)
 | x :: r, 0, _ => by simp [mcells]
 | x :: r, k + 1, h => by
   have ih := mcells_at r k (by simpa using h)
   have e : ∀ j, (mcells (x :: r))[(k + 1) * 6 + j]? = (mcells r)[k * 6 + j]? := fun j => by
     rw [mcells, List.getElem?_append_right (by simp; omega)]
     congr 1
     simp
     omega
   have e0 := e 0
   rw [Nat.add_zero, Nat.add_zero] at e0
   rw [e0, e 1, e 2, e 3, e 4, e 5]
   simpa using ih

theorem kM : Cel.Kind 24 64 6 72 (.agg #[.string ⟨#[]⟩, .int .i64 0, .int .i64 0, .int .i64 0, .int .i64 0, .slice none 0 0]) := ⟨by kernel_rfl, by kernel_rfl, by kernel_rfl, by decide⟩
theorem kI : Cel.Kind 36 3 1 8 (.int .i64 0) := ⟨by kernel_rfl, by kernel_rfl, by kernel_rfl, by decide⟩

def OwnM (w : World) (K : Nat) (xs : List Mem) : Prop := ∀ x ∈ xs, Byt.Own w K (.slice x.ptr x.len x.cap) x.len x.data
structure OwnA (w : World) (K : Nat) (x : Arc) : Prop where
 map : Byt.Own w K (.slice x.mp x.mn x.mc) x.mn x.map
 mems : Cel.Own 64 6 w K (.slice x.ap x.an x.ac) x.an (mcells x.mems)
 data : OwnM w K x.mems
 offs : Cel.Own 3 1 w K (.slice x.op x.on x.oc) x.on (x.offs.map (Value.int .i64))
 small : x.mn ≤ 140737488355328 ∧ x.an ≤ 140737488355328 ∧ x.on ≤ 140737488355328 ∧ ∀ m ∈ x.mems, m.len ≤ 140737488355328

theorem OwnM.keep {w w' : World} {K : Nat} {xs : List Mem} (h : OwnM w K xs) (hb : Below w.heap.size w w') : OwnM w' K xs := fun x hx => (h x hx).below hb
theorem OwnA.below {w w' : World} {K : Nat} {x : Arc} (h : OwnA w K x) (hb : Below w.heap.size w w') : OwnA w' K x := ⟨h.map.below hb, h.mems.below hb, h.data.keep hb, h.offs.below hb, h.small⟩
theorem OwnA.zero (w : World) (K : Nat) : OwnA w K Arc.zero := ⟨Byt.Own.nil w K, Cel.Own.nil _ _ w K, fun x hx => by simp [Arc.zero] at hx, Cel.Own.nil _ _ w K, by simp [Arc.zero]⟩

theorem rdm_of {w : World} {K : Nat} {A : Option Addr} {n : Nat} {xs : List Mem} (h : Cel.Rd w K A n 6 (mcells xs)) (hd : ∀ x ∈ xs, Byt.Rd w K x.ptr x.len x.data ∧ x.len ≤ 140737488355328) : RdM w K A n xs := by
 have hl := h.1
 rw [mcells_length] at hl
 refine ⟨by omega, fun k hk => ⟨?_, hd _ (List.getElem_mem hk)⟩⟩
 have hc : ∀ j, j < 6 → ∃ b o : Nat, A = some ⟨b, o, none⟩ ∧ b < K ∧ ∃ v, (mcells xs)[k * 6 + j]? = some v ∧ w.cell? ⟨b, o + (k * 6 + j), none⟩ = some v := fun j hj => by
   have hkl : k * 6 + j < (mcells xs).length := by rw [mcells_length]; omega
   obtain ⟨b, o, e, hb, hc⟩ := h.2 (k * 6 + j) hkl
   exact ⟨b, o, e, hb, _, List.getElem?_eq_getElem hkl, hc⟩
 obtain ⟨m0, m1, m2, m3, m4, m5⟩ := mcells_at xs k hk
 obtain ⟨b, o, rfl, hb, v, hv, hc0⟩ := hc 0 (by omega)
 have hcj : ∀ j, j < 6 → ∀ u, (mcells xs)[k * 6 + j]? = some u → w.cell? ⟨b, o + k * 6 + j, none⟩ = some u := fun j hj u hu => by
   obtain ⟨b', o', e, _, v, hv, hc⟩ := hc j hj
   injection e with e
   injection e with e1 e2
   subst e1 e2
   rw [hv] at hu
   injection hu with hu
   rw [← hu, ← hc]
   congr 2
   omega
 exact ⟨b, o, rfl, hb, hcj 0 (by omega) _ m0, hcj 1 (by omega) _ m1, hcj 2 (by omega) _ m2, hcj 3 (by omega) _ m3, hcj 4 (by omega) _ m4, hcj 5 (by omega) _ m5⟩
theorem OwnA.reads {w : World} {K : Nat} {x : Arc} (h : OwnA w K x) : RdA w w.heap.size x := by
 obtain ⟨A, c, e, hr, _⟩ := h.map.reads
 obtain ⟨A1, c1, e1, hr1, _⟩ := h.mems.reads
 obtain ⟨A2, c2, e2, hr2, _⟩ := h.offs.reads
 injection e with e _
 injection e1 with e1 _
 injection e2 with e2 _
 subst e e1 e2
 refine ⟨hr, rdm_of hr1 fun m hm => ?_, RdI.cells.2 hr2, h.small.1, h.small.2.1, h.small.2.2.1⟩
 obtain ⟨A3, c3, e3, hr3, _⟩ := (h.data m hm).reads
 injection e3 with e3 _
 subst e3
 exact ⟨hr3, h.small.2.2.2 m hm⟩

def Parses (l : List UInt8) (w : World) (e : Ending) (w' : World) : Prop :=
 ∃ x : Arc, e = .returned (.tuple #[x.val, .int .i64 ((ar l).2.1 : Nat), .int .i64 (ar l).2.2]) ∧ x.is (ar l).1 ∧ OwnA w' w.heap.size x ∧ Below w.heap.size w w'
theorem Parses.bad {l : List UInt8} {w w' : World} {a : Nat} {k : Int} (h : ar l = (St.zero, a, k)) (hb : Below w.heap.size w w') :
   Parses l w (.returned (.tuple #[.agg #[.bool false, .slice none 0 0, .slice none 0 0, .slice none 0 0], .int .i64 (a : Int), .int .i64 k])) w' := by
 refine ⟨Arc.zero, by rw [h]; rfl, by rw [h]; exact Arc.is_zero, OwnA.zero _ _, hb⟩
end Go.Proofs.YtjobmkodgodloaaGreatDoor.Arp

namespace Go.Proofs.YtjobmkodgodloaaGreatDoor.Arp
open Go.Proofs.YtjobmkodgodloaaGreatDoor.Byt Go.Proofs.YtjobmkodgodloaaGreatDoor.Dec Go.Proofs.YtjobmkodgodloaaGreatDoor.Lnm Go.Proofs.YtjobmkodgodloaaGreatDoor.Hdr

end Go.Proofs.YtjobmkodgodloaaGreatDoor.Arp

namespace Go.Proofs.YtjobmkodgodloaaGreatDoor.Arp
open Go.Proofs.YtjobmkodgodloaaGreatDoor.Byt Go.Proofs.YtjobmkodgodloaaGreatDoor.Dec Go.Proofs.YtjobmkodgodloaaGreatDoor.Lnm Go.Proofs.YtjobmkodgodloaaGreatDoor.Hdr

theorem resv_vld {f t : List UInt8} {n : ByteArray} (h : resv f t = some n) : vld (bts n) = true := by
 unfold resv at h
 cases hs : shortOf f with
 | some m =>
   rw [hs] at h
   injection h with h
   subst h
   unfold shortOf at hs
   split at hs
   · rename_i hc
     injection hs with hs
     rw [← hs, bts_str]
     exact sht_vld hc.2
   · cases hs
 | none =>
   rw [hs] at h
   unfold longAt at h
   simp only at h
   split at h
   · split at h
     · rename_i hc
       injection h with h
       rw [← h, bts_str]
       exact (first_spec hc.2).1
     · cases h
   · cases h

def nextAt (offs : List Int) (i a : Nat) : Int := (offs[i + 1]?).getD (a : Int)
def Fit (l : List UInt8) (s : St) (a : Nat) : Prop :=
 ∀ i m, s.mems[i]? = some m → ∃ p : Nat, s.offs[i]? = some (p : Int) ∧ 8 ≤ p ∧ perr (l.drop p) = 0 ∧ ((p + plen (l.drop p) : Nat) : Int) = nextAt s.offs i a ∧
   m.time = dnum (l.drop p) 0 ∧ m.uid = dnum (l.drop p) 1 ∧ m.gid = dnum (l.drop p) 2 ∧ m.mode = dnum (l.drop p) 3 ∧ m.data = pdata (l.drop p) ∧ vld (bts m.name) = true
theorem fit_zero (l : List UInt8) (a : Nat) : Fit l St.zero a := fun i m h => by simp [St.zero] at h
theorem fit_none {l : List UInt8} {s : St} {a : Nat} (h : s.mems = []) : Fit l s a := fun i m q => by rw [h] at q; simp at q

theorem fit_step {l : List UInt8} {s : St} {a : Nat} (ho : Ok s) (hf : Fit l s a) (ha : 8 ≤ a) (he : stepE s (l.drop a) = 0) : Fit l (stepS s a (l.drop a)) (a + plen (l.drop a)) := by
 have hp := stepE_ok he
 unfold stepE at he
 rw [if_neg (by simp [hp])] at he
 unfold stepS
 by_cases h1 : dname (l.drop a) = nmMap
 · rw [if_pos h1] at he
   rw [if_pos h1]
   split at he
   · rename_i hc
     refine fit_none (List.eq_nil_of_length_eq_zero ?_)
     unfold St.cnt at hc
     show s.mems.length = 0
     omega
   · omega
 · rw [if_neg h1] at he ⊢
   by_cases h2 : dname (l.drop a) = nmTab
   · rw [if_pos h2] at he ⊢
     split at he
     · rename_i hc
       refine fit_none ?_
       have := hc.1
       unfold St.mayTab at this
       rw [Bool.and_eq_true, List.isEmpty_iff] at this
       exact this.2
     · omega
   · rw [if_neg h2] at he ⊢
     have hn : ∃ n, pname s (l.drop a) = some n := by
       cases hq : pname s (l.drop a) with
       | some n => exact ⟨n, rfl⟩
       | none => rw [hq] at he; exact absurd he (by decide)
     obtain ⟨nm, hnm⟩ := hn
     intro i m hm
     simp only at hm ⊢
     by_cases hi : i < s.mems.length
     · rw [List.getElem?_append_left hi] at hm
       obtain ⟨p, q1, q2, q3, q4, q5⟩ := hf i m hm
       refine ⟨p, ?_, q2, q3, ?_, q5⟩
       · rw [List.getElem?_append_left (by rw [ho.len]; exact hi)]; exact q1
       · rw [q4]
         unfold nextAt
         by_cases hi2 : i + 1 < s.offs.length
         · rw [List.getElem?_append_left hi2]
           rw [List.getElem?_eq_getElem hi2]
           rfl
         · have : i + 1 = s.offs.length := by rw [ho.len] at hi2 ⊢; omega
           rw [List.getElem?_eq_none (by omega), List.getElem?_append_right (by omega), this, Nat.sub_self]
           rfl
     · have hil : i = s.mems.length := by
         have := (List.getElem?_eq_some_iff.1 hm).1
         simp only [List.length_append, List.length_cons, List.length_nil] at this
         omega
       subst hil
       rw [List.getElem?_append_right (Nat.le_refl _), Nat.sub_self] at hm
       injection hm with hm
       subst hm
       refine ⟨a, ?_, ha, hp, ?_, rfl, rfl, rfl, rfl, rfl, ?_⟩
       · rw [← ho.len, List.getElem?_append_right (Nat.le_refl _), Nat.sub_self]
         rfl
       · unfold nextAt
         rw [List.getElem?_eq_none (by simp [ho.len])]
         rfl
       · rw [hnm]
         exact resv_vld hnm

theorem go_fit (l : List UInt8) : ∀ (k a : Nat) (s t : St), l.length - a ≤ k → a ≤ l.length → 8 ≤ a → Ok s → Fit l s a → go s a (l.drop a) = (t, 0, 0) → Fit l t l.length ∧ Ok t := by
 intro k
 induction k with
 | zero =>
   intro a s t hk ha h8 ho hf h
   have e : l.drop a = [] := List.drop_eq_nil_of_le (by omega)
   rw [e, go_nil] at h
   injection h with h _
   subst h
   have : a = l.length := by omega
   rw [← this]
   exact ⟨hf, ho⟩
 | succ k ih =>
   intro a s t hk ha h8 ho hf h
   by_cases h0 : l.drop a = []
   · rw [h0, go_nil] at h
     injection h with h _
     subst h
     have : a = l.length := by
       have := congrArg List.length h0
       rw [List.length_drop] at this
       simp at this
       omega
     rw [← this]
     exact ⟨hf, ho⟩
   · by_cases he : stepE s (l.drop a) = 0
     · rw [go_on h0 he, List.drop_drop] at h
       have h1 := plen_pos (l.drop a)
       have h2 := (perr_ok (stepE_ok he)).2.1
       rw [List.length_drop] at h2
       exact ih _ _ _ (by omega) (by omega) (by omega) (step_ok (a := a) ho he).1 (fit_step ho hf h8 he) h
     · rw [go_bad h0 he] at h
       injection h with _ h
       injection h with _ h
       exact absurd h he
theorem ar_fit {l : List UInt8} {t : St} {k : Nat} (h : ar l = (t, k, 0)) : k = 0 ∧ 8 ≤ l.length ∧ Fit l t l.length ∧ Ok t := by
 by_cases h8 : l.length < 8
 · rw [ar_2 h8] at h
   injection h with _ h
   injection h with _ h
   exact absurd h (by decide)
 · cases hi : isAr l
   · rw [ar_1 (by omega) hi] at h
     injection h with _ h
     injection h with _ h
     exact absurd h (by decide)
   · rw [ar_go hi] at h
     have hk : k = 0 := by
       have : ∀ (j a : Nat) (s : St), l.length - a ≤ j → go s a (l.drop a) = (t, k, 0) → k = 0 := by
         intro j
         induction j with
         | zero =>
           intro a s hj q
           have e : l.drop a = [] := List.drop_eq_nil_of_le (by omega)
           rw [e, go_nil] at q
           injection q with _ q
           injection q with q _
           exact q.symm
         | succ j ih =>
           intro a s hj q
           by_cases h0 : l.drop a = []
           · rw [h0, go_nil] at q
             injection q with _ q
             injection q with q _
             exact q.symm
           · by_cases he : stepE s (l.drop a) = 0
             · rw [go_on h0 he, List.drop_drop] at q
               have h1 := plen_pos (l.drop a)
               exact ih _ _ (by omega) q
             · rw [go_bad h0 he] at q
               injection q with _ q
               injection q with _ q
               exact absurd q he
       exact this _ 8 St.zero (Nat.le_refl _) h
     subst hk
     exact ⟨rfl, by omega, go_fit l _ 8 St.zero t (Nat.le_refl _) (by omega) (Nat.le_refl _) ok_zero (fit_zero l 8) h⟩
end Go.Proofs.YtjobmkodgodloaaGreatDoor.Arp

namespace Go.Proofs.YtjobmkodgodloaaGreatDoor.Arp
open Go.Proofs.YtjobmkodgodloaaGreatDoor.Byt Go.Proofs.YtjobmkodgodloaaGreatDoor.Dec Go.Proofs.YtjobmkodgodloaaGreatDoor.Lnm Go.Proofs.YtjobmkodgodloaaGreatDoor.Hdr

theorem ar_isAr {l : List UInt8} {t : St} {k : Nat} (h : ar l = (t, k, 0)) : isAr l = true := by
 by_cases h8 : l.length < 8
 · rw [ar_2 h8] at h
   injection h with _ h
   injection h with _ h
   exact absurd h (by decide)
 · cases hi : isAr l
   · rw [ar_1 (by omega) hi] at h
     injection h with _ h
     injection h with _ h
     exact absurd h (by decide)
   · rfl
def mkp (s : ByteArray) (f : Nat → Int) (d : List UInt8) : List UInt8 := eout s f ++ d ++ (if d.length % 2 = 1 then [10] else [])
theorem mkp_ok {s : ByteArray} {f : Nat → Int} {d : List UInt8} (he : eerr s f = 0) (hf : f 4 = (d.length : Int)) (r : List UInt8) :
   perr (mkp s f d ++ r) = 0 ∧ dname (mkp s f d ++ r) = s ∧ (∀ k, k < 5 → dnum (mkp s f d ++ r) k = f k) ∧ pdata (mkp s f d ++ r) = d ∧ plen (mkp s f d ++ r) = (mkp s f d).length ∧ (eout s f).length = 60 := by
 have hn : nameOk s = true := by
   cases h : nameOk s
   · rw [(eerr_6 h).1] at he; omega
   · rfl
 have ha : allOk s f 5 = true := by
   cases h : allOk s f 5
   · rw [(eerr_9 hn h).1] at he; omega
   · rfl
 have ho := (eerr_0 hn ha).2
 have hl : (eout s f).length = 60 := by rw [ho, List.length_append, pre_length (nameOk_iff.1 hn).2.1 5 ha]; decide
 obtain ⟨q1, q2, q3⟩ := dec_enc hn ha (d ++ (if d.length % 2 = 1 then [10] else []) ++ r)
 have e : pre s f 5 ++ [96, 10] ++ (d ++ (if d.length % 2 = 1 then [10] else []) ++ r) = mkp s f d ++ r := by unfold mkp; rw [ho]; simp
 rw [e] at q1 q2 q3
 have hz : psz (mkp s f d ++ r) = d.length := by unfold psz; rw [q3 4 (by omega), hf]; rfl
 have hml : (mkp s f d).length = 60 + d.length + d.length % 2 := by
   unfold mkp
   rw [List.length_append, List.length_append, hl]
   split
   · rename_i h; rw [List.length_singleton, h]
   · rename_i h; rw [List.length_nil]; omega
 have hpl : plen (mkp s f d ++ r) = (mkp s f d).length := by unfold plen pad; rw [hz, hml]; omega
 have hdrop : (mkp s f d ++ r).drop 60 = d ++ (if d.length % 2 = 1 then [10] else []) ++ r := by
   unfold mkp
   rw [List.append_assoc, List.append_assoc, List.drop_left' hl, List.append_assoc]
 have hpd : pdata (mkp s f d ++ r) = d := by
   unfold pdata
   rw [hz, hdrop, List.append_assoc, List.take_left' rfl]
 refine ⟨perr_0 q1 (by rw [hpl, List.length_append]; omega) fun q => q.2 ?_, q2, q3, hpd, hpl, hl⟩
 rw [hz] at q ⊢
 have : (mkp s f d ++ r)[60 + d.length]? = ((mkp s f d ++ r).drop 60)[d.length]? := by rw [List.getElem?_drop]
 rw [this, hdrop, List.append_assoc, List.getElem?_append_right (Nat.le_refl _), Nat.sub_self, if_pos q.1]
 rfl
theorem stepE_2 {s : St} {l : List UInt8} (h : perr l = 2) : stepE s l = 2 := by unfold stepE; rw [if_pos (by omega), h]

theorem ne_nil_app {a b : List UInt8} (h : 0 < a.length) : a ++ b ≠ [] := fun e => by
 have := congrArg List.length e
 rw [List.length_append, List.length_nil] at this
 omega
end Go.Proofs.YtjobmkodgodloaaGreatDoor.Arp
