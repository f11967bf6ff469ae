/-
  What Parse gives: the plain mathematics of archives. No program is named here. The reference of arparse: Magic, Is. Archives by value and the mathematics of Parse; what a call has made itself. The four archives that awake of the laws of arparse parses: plain mathematics. The members of an archive that is accepted lie one behind the other, up to its end: plain mathematics. What stands behind an archive that is accepted is parsed as if it stood alone: plain mathematics.
-/
import Derived.Test.YtpedngfmjhpojaaGreatDoorYMc
import Derived.Test.YtpedngfmjhpojaaGreatDoorYMh
import Derived.Test.YtpedngfmjhpojaaGreatDoorYMj
namespace Go.Proofs.YtpedngfmjhpojaaGreatDoor.Arp
open Go.Proofs.YtpedngfmjhpojaaGreatDoor.Byt Go.Proofs.YtpedngfmjhpojaaGreatDoor.Dec Go.Proofs.YtpedngfmjhpojaaGreatDoor.Lnm Go.Proofs.YtpedngfmjhpojaaGreatDoor.Hdr

/-- A member, read. -/
structure Pm where
  name : ByteArray
  time : Int
  uid : Int
  gid : Int
  mode : Int
  data : List UInt8

def magic : List UInt8 := [33, 60, 97, 114, 99, 104, 62, 10]
/-- Is. -/
def isAr (l : List UInt8) : Bool := decide (8 ≤ l.length) && (l.take 8 == magic)

/-- The size of the part at the front, with and without its padding. -/
def psz (l : List UInt8) : Nat := (dnum l 4).toNat
def pad (n : Nat) : Nat := n + n % 2
def plen (l : List UInt8) : Nat := 60 + pad (psz l)
def pdata (l : List UInt8) : List UInt8 := (l.drop 60).take (psz l)
/-- The error of the part at the front. -/
def perr (l : List UInt8) : Int :=
  if derr l ≠ 0 then derr l else if l.length < plen l then 2 else if psz l % 2 = 1 ∧ l[60 + psz l]? ≠ some 10 then 5 else 0

theorem dnum_nat (l : List UInt8) (k : Nat) : ∃ x : Nat, dnum l k = (x : Int) := by
  unfold dnum
  split
  · exact ⟨_, rfl⟩
  · exact ⟨0, rfl⟩
theorem dnum_lt (l : List UInt8) (k : Nat) (hk : k < 5) : dnum l k < 1000000000000 := by
  unfold dnum
  split
  · rename_i h
    obtain ⟨hl, _, _, hr⟩ := derr_ok h
    obtain ⟨x, hx⟩ := allRd_at 5 hk hr
    rw [hx]
    have h1 := (fldF_rdF (part_length hl k hk) hx).1
    unfold okF at h1
    split at h1
    · have : (x : Int) = 0 := by simpa using h1
      simp only [Option.getD_some]
      omega
    · simp only [Bool.and_eq_true, decide_eq_true_eq, Int.toNat_natCast] at h1
      have h2 : x < (bs k) ^ nd (bs k) x := lt_pow (bs_2 k).1 x
      have h3 : (bs k) ^ nd (bs k) x ≤ 10 ^ wd k := Nat.le_trans (Nat.pow_le_pow_left (bs_2 k).2 _) (Nat.pow_le_pow_right (by omega) h1.2)
      have h4 : wd k ≤ 12 := by unfold wd; split <;> omega
      have h5 : 10 ^ wd k ≤ 10 ^ 12 := Nat.pow_le_pow_right (by omega) h4
      have h6 : (10 : Nat) ^ 12 = 1000000000000 := by decide
      simp only [Option.getD_some]
      omega
  · omega
theorem psz_int (l : List UInt8) : dnum l 4 = (psz l : Int) := by
  obtain ⟨x, hx⟩ := dnum_nat l 4
  unfold psz
  rw [hx]
  rfl
theorem psz_lt (l : List UInt8) : psz l < 1000000000000 := by
  have := dnum_lt l 4 (by omega)
  rw [psz_int] at this
  omega
theorem plen_pos (l : List UInt8) : 0 < plen l := by unfold plen; omega
theorem perr_dec {l : List UInt8} (h : derr l ≠ 0) : perr l = derr l := if_pos h
theorem perr_2 {l : List UInt8} (h : derr l = 0) (h2 : l.length < plen l) : perr l = 2 := by
  unfold perr; rw [if_neg (by simp [h]), if_pos h2]
theorem perr_5 {l : List UInt8} (h : derr l = 0) (h2 : plen l ≤ l.length) (h3 : psz l % 2 = 1 ∧ l[60 + psz l]? ≠ some 10) : perr l = 5 := by
  unfold perr; rw [if_neg (by simp [h]), if_neg (by omega), if_pos h3]
theorem perr_0 {l : List UInt8} (h : derr l = 0) (h2 : plen l ≤ l.length) (h3 : ¬ (psz l % 2 = 1 ∧ l[60 + psz l]? ≠ some 10)) : perr l = 0 := by
  unfold perr; rw [if_neg (by simp [h]), if_neg (by omega), if_neg h3]
theorem perr_ok {l : List UInt8} (h : perr l = 0) : derr l = 0 ∧ plen l ≤ l.length ∧ (psz l % 2 = 1 → l[60 + psz l]? = some 10) := by
  unfold perr at h
  split at h
  · rename_i h1; exact absurd h h1
  · rename_i h1
    split at h
    · omega
    · rename_i h2
      split at h
      · omega
      · rename_i h3
        refine ⟨by simpa using h1, by omega, fun hp => ?_⟩
        by_cases e : l[60 + psz l]? = some 10
        · exact e
        · exact absurd ⟨hp, e⟩ h3
/-- What was read ahead of a part. -/
structure St where
  hasMap : Bool
  map : List UInt8
  mems : List Pm
  offs : List Int
  tbl : Option (List UInt8)
def St.zero : St := ⟨false, [], [], [], none⟩
/-- How many parts were read. -/
def St.cnt (s : St) : Nat := (if s.hasMap then 1 else 0) + (if s.tbl.isSome then 1 else 0) + s.mems.length
/-- A table may come next. -/
def St.mayTab (s : St) : Bool := s.tbl.isNone && s.mems.isEmpty

def nmMap : ByteArray := ⟨#[47]⟩
def nmTab : ByteArray := ⟨#[47, 47]⟩
def pname (s : St) (l : List UInt8) : Option ByteArray := resv (bts (dname l)) (s.tbl.getD [])
/-- The error of a part whose bytes begin l. -/
def stepE (s : St) (l : List UInt8) : Int :=
  if perr l ≠ 0 then perr l
  else if dname l = nmMap then (if s.cnt = 0 then 0 else 8)
  else if dname l = nmTab then (if s.mayTab = true ∧ good (pdata l) = true then 0 else 7)
  else re (pname s l)
def stepS (s : St) (at_ : Nat) (l : List UInt8) : St :=
  if dname l = nmMap then { s with hasMap := true, map := pdata l }
  else if dname l = nmTab then { s with tbl := some (pdata l) }
  else { s with mems := s.mems ++ [⟨rs (pname s l), dnum l 0, dnum l 1, dnum l 2, dnum l 3, pdata l⟩], offs := s.offs ++ [(at_ : Int)] }

/-- From a part on. -/
def go (s : St) (at_ : Nat) (l : List UInt8) : St × Nat × Int :=
  if _h0 : l = [] then (s, 0, 0) else if stepE s l ≠ 0 then (St.zero, at_, stepE s l) else go (stepS s at_ l) (at_ + plen l) (l.drop (plen l))
termination_by l.length
decreasing_by
  have h1 : 0 < l.length := List.length_pos_iff.2 _h0
  have h2 := plen_pos l
  rw [List.length_drop]
  omega
theorem go_nil (s : St) (a : Nat) : go s a [] = (s, 0, 0) := by rw [go]; simp
theorem go_bad {s : St} {a : Nat} {l : List UInt8} (h0 : l ≠ []) (h : stepE s l ≠ 0) : go s a l = (St.zero, a, stepE s l) := by rw [go, dif_neg h0, if_pos h]
theorem go_on {s : St} {a : Nat} {l : List UInt8} (h0 : l ≠ []) (h : stepE s l = 0) : go s a l = go (stepS s a l) (a + plen l) (l.drop (plen l)) := by rw [go, dif_neg h0, if_neg (by simp [h])]

/-- What Parse gives. -/
def ar (l : List UInt8) : St × Nat × Int := if l.length < 8 then (St.zero, 0, 2) else if isAr l = false then (St.zero, 0, 1) else go St.zero 8 (l.drop 8)

theorem stepE_ok {s : St} {l : List UInt8} (h : stepE s l = 0) : perr l = 0 := by
  unfold stepE at h
  split at h
  · rename_i h1; exact absurd h h1
  · rename_i h1; simpa using h1
theorem cnt_zero : St.zero.cnt = 0 := rfl

/-- What holds between parts. -/
structure Ok (s : St) : Prop where
  tab : ∀ t, s.tbl = some t → good t = true
  len : s.offs.length = s.mems.length
theorem ok_zero : Ok St.zero := ⟨fun t h => (by cases h), rfl⟩
theorem step_ok {s : St} {a : Nat} {l : List UInt8} (h : Ok s) (he : stepE s l = 0) : Ok (stepS s a l) ∧ (stepS s a l).cnt = s.cnt + 1 := by
  have hp := stepE_ok he
  unfold stepE at he
  rw [if_neg (by simp [hp])] at he
  unfold stepS
  by_cases h1 : dname l = nmMap
  · rw [if_pos h1] at he
    rw [if_pos h1]
    split at he
    · rename_i hc
      refine ⟨⟨h.tab, h.len⟩, ?_⟩
      unfold St.cnt at hc ⊢
      cases hm : s.hasMap
      · simp; omega
      · simp [hm] at hc
    · omega
  · rw [if_neg h1] at he ⊢
    by_cases h2 : dname l = nmTab
    · rw [if_pos h2] at he ⊢
      split at he
      · rename_i hc
        refine ⟨⟨fun t ht => ?_, h.len⟩, ?_⟩
        · injection ht with ht; rw [← ht]; exact hc.2
        · obtain ⟨hc, _⟩ := hc
          unfold St.mayTab at hc
          rw [Bool.and_eq_true] at hc
          have : s.tbl = none := by simpa using hc.1
          unfold St.cnt
          simp [this]
          omega
      · omega
    · rw [if_neg h2] at he ⊢
      refine ⟨⟨h.tab, ?_⟩, ?_⟩
      · simp [h.len]
      · unfold St.cnt; simp; omega
/-- A table may come next: told by the count. -/
theorem mayTab_cnt (s : St) : s.mayTab = true ↔ (s.cnt = 0 ∨ (s.cnt = 1 ∧ s.hasMap = true)) := by
  obtain ⟨hm, m, ms, os, t⟩ := s
  unfold St.mayTab St.cnt
  cases hm <;> cases t <;> cases ms <;> simp <;> omega

/-- The offsets of the parts from one on, up to a malformed one. -/
def spots (at_ : Nat) (l : List UInt8) : List Nat :=
  if _h0 : l = [] then [] else if perr l ≠ 0 then [at_] else at_ :: spots (at_ + plen l) (l.drop (plen l))
termination_by l.length
decreasing_by
  have h1 : 0 < l.length := List.length_pos_iff.2 _h0
  have h2 := plen_pos l
  rw [List.length_drop]
  omega
theorem spots_nil (a : Nat) : spots a [] = [] := by rw [spots]; simp
theorem spots_bad {a : Nat} {l : List UInt8} (h0 : l ≠ []) (h : perr l ≠ 0) : spots a l = [a] := by rw [spots, dif_neg h0, if_pos h]
theorem spots_on {a : Nat} {l : List UInt8} (h0 : l ≠ []) (h : perr l = 0) : spots a l = a :: spots (a + plen l) (l.drop (plen l)) := by rw [spots, dif_neg h0, if_neg (by simp [h])]
theorem spots_length (a : Nat) (l : List UInt8) : (spots a l).length ≤ l.length := by
  generalize hk : l.length = k
  induction k using Nat.strongRecOn generalizing l a with
  | _ k ih =>
    by_cases h0 : l = []
    · subst h0; rw [spots_nil]; simp
    · have h1 : 0 < l.length := List.length_pos_iff.2 h0
      by_cases hp : perr l = 0
      · have h2 := plen_pos l
        rw [spots_on h0 hp, List.length_cons]
        have := ih _ (by rw [List.length_drop]; omega) (a + plen l) (l.drop (plen l)) rfl
        rw [List.length_drop] at this
        omega
      · rw [spots_bad h0 hp]; simp; omega

/-- The parts at the spots, one by one: s behind them, if none was wrong. -/
def fold (l : List UInt8) : St → List Nat → Option St
  | s, [] => some s
  | s, a :: r => if stepE s (l.drop a) = 0 then fold l (stepS s a (l.drop a)) r else none
theorem fold_snoc (l : List UInt8) : ∀ (r : List Nat) (s t : St) (a : Nat), fold l s r = some t → fold l s (r ++ [a]) = if stepE t (l.drop a) = 0 then some (stepS t a (l.drop a)) else none
  | [], s, t, a, h => by
    injection h with h
    subst h
    rfl
  | b :: r, s, t, a, h => by
    unfold fold at h
    split at h
    · rename_i hb
      rw [List.cons_append, fold, if_pos hb]
      exact fold_snoc l r _ t a h
    · cases h
theorem fold_ok (l : List UInt8) : ∀ (r : List Nat) (s t : St), Ok s → fold l s r = some t → Ok t ∧ t.cnt = s.cnt + r.length
  | [], s, t, ho, h => by
    injection h with h
    subst h
    exact ⟨ho, rfl⟩
  | b :: r, s, t, ho, h => by
    unfold fold at h
    split at h
    · rename_i hb
      obtain ⟨h1, h2⟩ := step_ok (a := b) ho hb
      obtain ⟨h3, h4⟩ := fold_ok l r _ t h1 h
      exact ⟨h3, by rw [h4, h2, List.length_cons]; omega⟩
    · cases h

/-- All parts are right. -/
theorem go_all (l : List UInt8) : ∀ (k : Nat) (a : Nat) (s t : St), l.length - a ≤ k → a ≤ l.length → fold l s (spots a (l.drop a)) = some t → go s a (l.drop a) = (t, 0, 0) := by
  intro k
  induction k with
  | zero =>
    intro a s t hk ha h
    have e : l.drop a = [] := List.drop_eq_nil_of_le (by omega)
    rw [e, spots_nil] at h
    injection h with h
    rw [e, go_nil, h]
  | succ k ih =>
    intro a s t hk ha h
    by_cases h0 : l.drop a = []
    · rw [h0, spots_nil] at h
      injection h with h
      rw [h0, go_nil, h]
    · by_cases hp : perr (l.drop a) = 0
      · rw [spots_on h0 hp] at h
        unfold fold at h
        split at h
        · rename_i hs
          have h1 := plen_pos (l.drop a)
          have h2 := (perr_ok hp).2.1
          rw [List.length_drop] at h2
          rw [go_on h0 hs, List.drop_drop]
          rw [List.drop_drop] at h
          exact ih _ _ _ (by omega) (by omega) h
        · cases h
      · rw [spots_bad h0 hp] at h
        unfold fold at h
        split at h
        · rename_i hs
          exact absurd (stepE_ok hs) hp
        · cases h
/-- One is wrong. -/
theorem go_one (l : List UInt8) : ∀ (r : List Nat) (a : Nat) (s t : St) (b : Nat), (r ++ [b]) <+: spots a (l.drop a) → fold l s r = some t → stepE t (l.drop b) ≠ 0 → go s a (l.drop a) = (St.zero, b, stepE t (l.drop b)) := by
  intro r
  induction r with
  | nil =>
    intro a s t b hp h he
    injection h with h
    subst h
    by_cases h0 : l.drop a = []
    · rw [h0, spots_nil] at hp
      simp at hp
    · have hb : b = a := by
        by_cases hq : perr (l.drop a) = 0
        · rw [spots_on h0 hq] at hp
          simpa using hp
        · rw [spots_bad h0 hq] at hp
          simpa using hp
      subst hb
      exact go_bad h0 he
  | cons c r ih =>
    intro a s t b hp h he
    by_cases h0 : l.drop a = []
    · rw [h0, spots_nil] at hp
      simp at hp
    · by_cases hq : perr (l.drop a) = 0
      · rw [spots_on h0 hq, List.cons_append, List.cons_prefix_cons] at hp
        obtain ⟨rfl, hp⟩ := hp
        unfold fold at h
        split at h
        · rename_i hs
          rw [go_on h0 hs, List.drop_drop]
          rw [List.drop_drop] at hp
          exact ih _ _ _ _ hp h he
        · cases h
      · rw [spots_bad h0 hq, List.cons_append, List.cons_prefix_cons] at hp
        simp at hp

theorem ar_2 {l : List UInt8} (h : l.length < 8) : ar l = (St.zero, 0, 2) := if_pos h
theorem ar_1 {l : List UInt8} (h : 8 ≤ l.length) (hi : isAr l = false) : ar l = (St.zero, 0, 1) := by unfold ar; rw [if_neg (by omega), if_pos hi]
theorem ar_go {l : List UInt8} (hi : isAr l = true) : ar l = go St.zero 8 (l.drop 8) := by
  have h8 : 8 ≤ l.length := by unfold isAr at hi; simp at hi; exact hi.1
  unfold ar
  rw [if_neg (by omega), if_neg (by simp [hi])]
theorem ar_all {l : List UInt8} {t : St} (hi : isAr l = true) (h : fold l St.zero (spots 8 (l.drop 8)) = some t) : ar l = (t, 0, 0) := by
  have h8 : 8 ≤ l.length := by unfold isAr at hi; simp at hi; exact hi.1
  rw [ar_go hi]
  exact go_all l _ 8 _ t (Nat.le_refl _) h8 h
theorem ar_one {l : List UInt8} {t : St} {r : List Nat} {b : Nat} (hi : isAr l = true) (hp : (r ++ [b]) <+: spots 8 (l.drop 8)) (h : fold l St.zero r = some t) (he : stepE t (l.drop b) ≠ 0) : ar l = (St.zero, b, stepE t (l.drop b)) := by
  rw [ar_go hi]
  exact go_one l r 8 _ t b hp h he
end Go.Proofs.YtpedngfmjhpojaaGreatDoor.Arp

namespace Go.Proofs.YtpedngfmjhpojaaGreatDoor.Arp
open Go.RowKit Go.Proofs Go.Proofs.YtpedngfmjhpojaaGreatDoor.Byt Go.Proofs.YtpedngfmjhpojaaGreatDoor.Dec Go.Proofs.YtpedngfmjhpojaaGreatDoor.Lnm

end Go.Proofs.YtpedngfmjhpojaaGreatDoor.Arp

namespace Go.Proofs.YtpedngfmjhpojaaGreatDoor.Arp
open Go.RowKit Go.Proofs Go.Proofs.YtpedngfmjhpojaaGreatDoor.Byt Go.Proofs.YtpedngfmjhpojaaGreatDoor.Dec Go.Proofs.YtpedngfmjhpojaaGreatDoor.Lnm

def Mem.pure (x : Mem) : Pm := ⟨x.name, x.time, x.uid, x.gid, x.mode, x.data⟩
theorem same_pure {x y : Mem} (h : x.pure = y.pure) : x.same y = true := by
  obtain ⟨x0, x1, x2, x3, x4, xp, xn, xc, xd⟩ := x
  obtain ⟨y0, y1, y2, y3, y4, yp, yn, yc, yd⟩ := y
  simp only [Mem.pure, Pm.mk.injEq] at h
  obtain ⟨rfl, rfl, rfl, rfl, rfl, rfl⟩ := h
  simp [Mem.same, sameM]
theorem sameMs_pure : ∀ {a b : List Mem}, a.map Mem.pure = b.map Mem.pure → sameMs a b = true
  | [], [], _ => rfl
  | [], _ :: _, h => by simp at h
  | _ :: _, [], h => by simp at h
  | x :: l, y :: r, h => by
    simp only [List.map_cons, List.cons.injEq] at h
    unfold sameMs
    rw [same_pure h.1, sameMs_pure h.2]
    rfl

/-- An archive reads as what was parsed. -/
def Arc.is (x : Arc) (s : St) : Prop := x.hasMap = s.hasMap ∧ x.map = s.map ∧ x.mems.map Mem.pure = s.mems ∧ x.offs = s.offs
def Arc.zero : Arc := ⟨false, none, 0, 0, [], none, 0, 0, [], none, 0, 0, []⟩
theorem Arc.is_zero : Arc.zero.is St.zero := ⟨rfl, rfl, rfl, rfl⟩

/-- The cells of members. -/
def mcells : List Mem → List Value
  | [] => []
  | x :: r => [.string x.name, .int .i64 x.time, .int .i64 x.uid, .int .i64 x.gid, .int .i64 x.mode, .slice x.ptr x.len x.cap] ++ mcells r
theorem mcells_append : ∀ a b : List Mem, mcells (a ++ b) = mcells a ++ mcells b
  | [], b => rfl
  | x :: r, b => by rw [List.cons_append, mcells, mcells_append r b, mcells, List.append_assoc]
theorem mcells_length : ∀ a : List Mem, (mcells a).length = a.length * 6
  | [] => rfl
  | x :: r => by rw [mcells, List.length_append, mcells_length r, List.length_cons]; simp; omega
theorem mcells_at : ∀ (a : List Mem) (k : Nat) (h : k < a.length), (mcells a)[k * 6]? = some (.string a[k].name) ∧ (mcells a)[k * 6 + 1]? = some (.int .i64 a[k].time) ∧ (mcells a)[k * 6 + 2]? = some (.int .i64 a[k].uid) ∧ (mcells a)[k * 6 + 3]? = some (.int .i64 a[k].gid) ∧ (mcells a)[k * 6 + 4]? = some (.int .i64 a[k].mode) ∧ (mcells a)[k * 6 + 5]? = some (.slice a[k].ptr a[k].len a[k].cap)
  | x :: r, 0, _ => by simp [mcells]
  | x :: r, k + 1, h => by
    have ih := mcells_at r k (by simpa using h)
    have e : ∀ j, (mcells (x :: r))[(k + 1) * 6 + j]? = (mcells r)[k * 6 + j]? := fun j => by
      rw [mcells, List.getElem?_append_right (by simp; omega)]
      congr 1
      simp
      omega
    have e0 := e 0
    rw [Nat.add_zero, Nat.add_zero] at e0
    rw [e0, e 1, e 2, e 3, e 4, e 5]
    simpa using ih

theorem kM : Cel.Kind 22 49 6 72 (.agg #[.string ⟨#[]⟩, .int .i64 0, .int .i64 0, .int .i64 0, .int .i64 0, .slice none 0 0]) := ⟨by kernel_rfl, by kernel_rfl, by kernel_rfl, by decide⟩
theorem kI : Cel.Kind 27 3 1 8 (.int .i64 0) := ⟨by kernel_rfl, by kernel_rfl, by kernel_rfl, by decide⟩

/-- The call has made an archive itself: the slices, and the data of the members. -/
def OwnM (w : World) (K : Nat) (xs : List Mem) : Prop := ∀ x ∈ xs, Byt.Own w K (.slice x.ptr x.len x.cap) x.len x.data
structure OwnA (w : World) (K : Nat) (x : Arc) : Prop where
  map : Byt.Own w K (.slice x.mp x.mn x.mc) x.mn x.map
  mems : Cel.Own 49 6 w K (.slice x.ap x.an x.ac) x.an (mcells x.mems)
  data : OwnM w K x.mems
  offs : Cel.Own 3 1 w K (.slice x.op x.on x.oc) x.on (x.offs.map (Value.int .i64))
  small : x.mn ≤ 140737488355328 ∧ x.an ≤ 140737488355328 ∧ x.on ≤ 140737488355328 ∧ ∀ m ∈ x.mems, m.len ≤ 140737488355328

theorem OwnM.keep {w w' : World} {K : Nat} {xs : List Mem} (h : OwnM w K xs) (hb : Below w.heap.size w w') : OwnM w' K xs := fun x hx => (h x hx).below hb
theorem OwnA.below {w w' : World} {K : Nat} {x : Arc} (h : OwnA w K x) (hb : Below w.heap.size w w') : OwnA w' K x := ⟨h.map.below hb, h.mems.below hb, h.data.keep hb, h.offs.below hb, h.small⟩
theorem OwnA.zero (w : World) (K : Nat) : OwnA w K Arc.zero := ⟨Byt.Own.nil w K, Cel.Own.nil _ _ w K, fun x hx => by simp [Arc.zero] at hx, Cel.Own.nil _ _ w K, by simp [Arc.zero]⟩

theorem rdm_of {w : World} {K : Nat} {A : Option Addr} {n : Nat} {xs : List Mem} (h : Cel.Rd w K A n 6 (mcells xs)) (hd : ∀ x ∈ xs, Byt.Rd w K x.ptr x.len x.data ∧ x.len ≤ 140737488355328) : RdM w K A n xs := by
  have hl := h.1
  rw [mcells_length] at hl
  refine ⟨by omega, fun k hk => ⟨?_, hd _ (List.getElem_mem hk)⟩⟩
  have hc : ∀ j, j < 6 → ∃ b o : Nat, A = some ⟨b, o, none⟩ ∧ b < K ∧ ∃ v, (mcells xs)[k * 6 + j]? = some v ∧ w.cell? ⟨b, o + (k * 6 + j), none⟩ = some v := fun j hj => by
    have hkl : k * 6 + j < (mcells xs).length := by rw [mcells_length]; omega
    obtain ⟨b, o, e, hb, hc⟩ := h.2 (k * 6 + j) hkl
    exact ⟨b, o, e, hb, _, List.getElem?_eq_getElem hkl, hc⟩
  obtain ⟨m0, m1, m2, m3, m4, m5⟩ := mcells_at xs k hk
  obtain ⟨b, o, rfl, hb, v, hv, hc0⟩ := hc 0 (by omega)
  have hcj : ∀ j, j < 6 → ∀ u, (mcells xs)[k * 6 + j]? = some u → w.cell? ⟨b, o + k * 6 + j, none⟩ = some u := fun j hj u hu => by
    obtain ⟨b', o', e, _, v, hv, hc⟩ := hc j hj
    injection e with e
    injection e with e1 e2
    subst e1 e2
    rw [hv] at hu
    injection hu with hu
    rw [← hu, ← hc]
    congr 2
    omega
  exact ⟨b, o, rfl, hb, hcj 0 (by omega) _ m0, hcj 1 (by omega) _ m1, hcj 2 (by omega) _ m2, hcj 3 (by omega) _ m3, hcj 4 (by omega) _ m4, hcj 5 (by omega) _ m5⟩
theorem OwnA.reads {w : World} {K : Nat} {x : Arc} (h : OwnA w K x) : RdA w w.heap.size x := by
  obtain ⟨A, c, e, hr, _⟩ := h.map.reads
  obtain ⟨A1, c1, e1, hr1, _⟩ := h.mems.reads
  obtain ⟨A2, c2, e2, hr2, _⟩ := h.offs.reads
  injection e with e _
  injection e1 with e1 _
  injection e2 with e2 _
  subst e e1 e2
  refine ⟨hr, rdm_of hr1 fun m hm => ?_, RdI.cells.2 hr2, h.small.1, h.small.2.1, h.small.2.2.1⟩
  obtain ⟨A3, c3, e3, hr3, _⟩ := (h.data m hm).reads
  injection e3 with e3 _
  subst e3
  exact ⟨hr3, h.small.2.2.2 m hm⟩

/-- What Parse gives. -/
def Parses (l : List UInt8) (w : World) (e : Ending) (w' : World) : Prop :=
  ∃ x : Arc, e = .returned (.tuple #[x.val, .int .i64 ((ar l).2.1 : Nat), .int .i64 (ar l).2.2]) ∧ x.is (ar l).1 ∧ OwnA w' w.heap.size x ∧ Below w.heap.size w w'
theorem Parses.bad {l : List UInt8} {w w' : World} {a : Nat} {k : Int} (h : ar l = (St.zero, a, k)) (hb : Below w.heap.size w w') :
    Parses l w (.returned (.tuple #[.agg #[.bool false, .slice none 0 0, .slice none 0 0, .slice none 0 0], .int .i64 (a : Int), .int .i64 k])) w' := by
  refine ⟨Arc.zero, by rw [h]; rfl, by rw [h]; exact Arc.is_zero, OwnA.zero _ _, hb⟩
end Go.Proofs.YtpedngfmjhpojaaGreatDoor.Arp

namespace Go.Proofs.YtpedngfmjhpojaaGreatDoor.Arp
open Go.Proofs.YtpedngfmjhpojaaGreatDoor.Byt Go.Proofs.YtpedngfmjhpojaaGreatDoor.Dec Go.Proofs.YtpedngfmjhpojaaGreatDoor.Lnm Go.Proofs.YtpedngfmjhpojaaGreatDoor.Hdr

end Go.Proofs.YtpedngfmjhpojaaGreatDoor.Arp

namespace Go.Proofs.YtpedngfmjhpojaaGreatDoor.Arp
open Go.Proofs.YtpedngfmjhpojaaGreatDoor.Byt Go.Proofs.YtpedngfmjhpojaaGreatDoor.Dec Go.Proofs.YtpedngfmjhpojaaGreatDoor.Lnm Go.Proofs.YtpedngfmjhpojaaGreatDoor.Hdr

end Go.Proofs.YtpedngfmjhpojaaGreatDoor.Arp

namespace Go.Proofs.YtpedngfmjhpojaaGreatDoor.Arp
open Go.Proofs.YtpedngfmjhpojaaGreatDoor.Byt Go.Proofs.YtpedngfmjhpojaaGreatDoor.Dec Go.Proofs.YtpedngfmjhpojaaGreatDoor.Lnm Go.Proofs.YtpedngfmjhpojaaGreatDoor.Hdr

/-- A part of one's own: its header, its data, its padding. -/
def mkp (s : ByteArray) (f : Nat → Int) (d : List UInt8) : List UInt8 := eout s f ++ d ++ (if d.length % 2 = 1 then [10] else [])
theorem mkp_ok {s : ByteArray} {f : Nat → Int} {d : List UInt8} (he : eerr s f = 0) (hf : f 4 = (d.length : Int)) (r : List UInt8) :
    perr (mkp s f d ++ r) = 0 ∧ dname (mkp s f d ++ r) = s ∧ (∀ k, k < 5 → dnum (mkp s f d ++ r) k = f k) ∧ pdata (mkp s f d ++ r) = d ∧ plen (mkp s f d ++ r) = (mkp s f d).length ∧ (eout s f).length = 60 := by
  have hn : nameOk s = true := by
    cases h : nameOk s
    · rw [(eerr_6 h).1] at he; omega
    · rfl
  have ha : allOk s f 5 = true := by
    cases h : allOk s f 5
    · rw [(eerr_9 hn h).1] at he; omega
    · rfl
  have ho := (eerr_0 hn ha).2
  have hl : (eout s f).length = 60 := by rw [ho, List.length_append, pre_length (nameOk_iff.1 hn).2.1 5 ha]; decide
  obtain ⟨q1, q2, q3⟩ := dec_enc hn ha (d ++ (if d.length % 2 = 1 then [10] else []) ++ r)
  have e : pre s f 5 ++ [96, 10] ++ (d ++ (if d.length % 2 = 1 then [10] else []) ++ r) = mkp s f d ++ r := by unfold mkp; rw [ho]; simp
  rw [e] at q1 q2 q3
  have hz : psz (mkp s f d ++ r) = d.length := by unfold psz; rw [q3 4 (by omega), hf]; rfl
  have hml : (mkp s f d).length = 60 + d.length + d.length % 2 := by
    unfold mkp
    rw [List.length_append, List.length_append, hl]
    split
    · rename_i h; rw [List.length_singleton, h]
    · rename_i h; rw [List.length_nil]; omega
  have hpl : plen (mkp s f d ++ r) = (mkp s f d).length := by unfold plen pad; rw [hz, hml]; omega
  have hdrop : (mkp s f d ++ r).drop 60 = d ++ (if d.length % 2 = 1 then [10] else []) ++ r := by
    unfold mkp
    rw [List.append_assoc, List.append_assoc, List.drop_left' hl, List.append_assoc]
  have hpd : pdata (mkp s f d ++ r) = d := by
    unfold pdata
    rw [hz, hdrop, List.append_assoc, List.take_left' rfl]
  refine ⟨perr_0 q1 (by rw [hpl, List.length_append]; omega) fun q => q.2 ?_, q2, q3, hpd, hpl, hl⟩
  rw [hz] at q ⊢
  have : (mkp s f d ++ r)[60 + d.length]? = ((mkp s f d ++ r).drop 60)[d.length]? := by rw [List.getElem?_drop]
  rw [this, hdrop, List.append_assoc, List.getElem?_append_right (Nat.le_refl _), Nat.sub_self, if_pos q.1]
  rfl
theorem ne_nil_app {a b : List UInt8} (h : 0 < a.length) : a ++ b ≠ [] := fun e => by
  have := congrArg List.length e
  rw [List.length_append, List.length_nil] at this
  omega
end Go.Proofs.YtpedngfmjhpojaaGreatDoor.Arp
