/-
  What Parse gives: the plain mathematics of archives. No program is named here. The reference of arparse: Magic, Is. Archives by value and the mathematics of Parse; what a call has made itself. The four archives that awake of the laws of arparse parses: plain mathematics. The members of an archive that is accepted lie one behind the other, up to its end: plain mathematics. What stands behind an archive that is accepted is parsed as if it stood alone: plain mathematics.
-/
import Derived.Test.YtpedngfmjhpojaaGreatDoorZMc
import Derived.Test.YtpedngfmjhpojaaGreatDoorZMh
import Derived.Test.YtpedngfmjhpojaaGreatDoorZMj
namespace Go.Proofs.YtpedngfmjhpojaaGreatDoor.Arp
open Go.Proofs.YtpedngfmjhpojaaGreatDoor.Byt Go.Proofs.YtpedngfmjhpojaaGreatDoor.Dec Go.Proofs.YtpedngfmjhpojaaGreatDoor.Lnm Go.Proofs.YtpedngfmjhpojaaGreatDoor.Hdr

/-- A member, read. -/
structure Pm where
  name : ByteArray
  time : Int
  uid : Int
  gid : Int
  mode : Int
  data : List UInt8

def magic : List UInt8 := [33, 60, 97, 114, 99, 104, 62, 10]
/-- The size of the part at the front, with and without its padding. -/
def psz (l : List UInt8) : Nat := (dnum l 4).toNat
def pad (n : Nat) : Nat := n + n % 2
def plen (l : List UInt8) : Nat := 60 + pad (psz l)
def pdata (l : List UInt8) : List UInt8 := (l.drop 60).take (psz l)
/-- The error of the part at the front. -/
def perr (l : List UInt8) : Int :=
  if derr l ≠ 0 then derr l else if l.length < plen l then 2 else if psz l % 2 = 1 ∧ l[60 + psz l]? ≠ some 10 then 5 else 0

theorem dnum_nat (l : List UInt8) (k : Nat) : ∃ x : Nat, dnum l k = (x : Int) := by
  unfold dnum
  split
  · exact ⟨_, rfl⟩
  · exact ⟨0, rfl⟩
theorem psz_int (l : List UInt8) : dnum l 4 = (psz l : Int) := by
  obtain ⟨x, hx⟩ := dnum_nat l 4
  unfold psz
  rw [hx]
  rfl
theorem plen_pos (l : List UInt8) : 0 < plen l := by unfold plen; omega
theorem perr_0 {l : List UInt8} (h : derr l = 0) (h2 : plen l ≤ l.length) (h3 : ¬ (psz l % 2 = 1 ∧ l[60 + psz l]? ≠ some 10)) : perr l = 0 := by
  unfold perr; rw [if_neg (by simp [h]), if_neg (by omega), if_neg h3]
theorem perr_ok {l : List UInt8} (h : perr l = 0) : derr l = 0 ∧ plen l ≤ l.length ∧ (psz l % 2 = 1 → l[60 + psz l]? = some 10) := by
  unfold perr at h
  split at h
  · rename_i h1; exact absurd h h1
  · rename_i h1
    split at h
    · omega
    · rename_i h2
      split at h
      · omega
      · rename_i h3
        refine ⟨by simpa using h1, by omega, fun hp => ?_⟩
        by_cases e : l[60 + psz l]? = some 10
        · exact e
        · exact absurd ⟨hp, e⟩ h3
/-- What was read ahead of a part. -/
structure St where
  hasMap : Bool
  map : List UInt8
  mems : List Pm
  offs : List Int
  tbl : Option (List UInt8)
def St.zero : St := ⟨false, [], [], [], none⟩
/-- How many parts were read. -/
def St.cnt (s : St) : Nat := (if s.hasMap then 1 else 0) + (if s.tbl.isSome then 1 else 0) + s.mems.length
/-- A table may come next. -/
def St.mayTab (s : St) : Bool := s.tbl.isNone && s.mems.isEmpty

def nmMap : ByteArray := ⟨#[47]⟩
def nmTab : ByteArray := ⟨#[47, 47]⟩
def pname (s : St) (l : List UInt8) : Option ByteArray := resv (bts (dname l)) (s.tbl.getD [])
/-- The error of a part whose bytes begin l. -/
def stepE (s : St) (l : List UInt8) : Int :=
  if perr l ≠ 0 then perr l
  else if dname l = nmMap then (if s.cnt = 0 then 0 else 8)
  else if dname l = nmTab then (if s.mayTab = true ∧ good (pdata l) = true then 0 else 7)
  else re (pname s l)
def stepS (s : St) (at_ : Nat) (l : List UInt8) : St :=
  if dname l = nmMap then { s with hasMap := true, map := pdata l }
  else if dname l = nmTab then { s with tbl := some (pdata l) }
  else { s with mems := s.mems ++ [⟨rs (pname s l), dnum l 0, dnum l 1, dnum l 2, dnum l 3, pdata l⟩], offs := s.offs ++ [(at_ : Int)] }

/-- From a part on. -/
def go (s : St) (at_ : Nat) (l : List UInt8) : St × Nat × Int :=
  if _h0 : l = [] then (s, 0, 0) else if stepE s l ≠ 0 then (St.zero, at_, stepE s l) else go (stepS s at_ l) (at_ + plen l) (l.drop (plen l))
termination_by l.length
decreasing_by
  have h1 : 0 < l.length := List.length_pos_iff.2 _h0
  have h2 := plen_pos l
  rw [List.length_drop]
  omega
theorem stepE_ok {s : St} {l : List UInt8} (h : stepE s l = 0) : perr l = 0 := by
  unfold stepE at h
  split at h
  · rename_i h1; exact absurd h h1
  · rename_i h1; simpa using h1
/-- What holds between parts. -/
structure Ok (s : St) : Prop where
  tab : ∀ t, s.tbl = some t → good t = true
  len : s.offs.length = s.mems.length
theorem step_ok {s : St} {a : Nat} {l : List UInt8} (h : Ok s) (he : stepE s l = 0) : Ok (stepS s a l) ∧ (stepS s a l).cnt = s.cnt + 1 := by
  have hp := stepE_ok he
  unfold stepE at he
  rw [if_neg (by simp [hp])] at he
  unfold stepS
  by_cases h1 : dname l = nmMap
  · rw [if_pos h1] at he
    rw [if_pos h1]
    split at he
    · rename_i hc
      refine ⟨⟨h.tab, h.len⟩, ?_⟩
      unfold St.cnt at hc ⊢
      cases hm : s.hasMap
      · simp; omega
      · simp [hm] at hc
    · omega
  · rw [if_neg h1] at he ⊢
    by_cases h2 : dname l = nmTab
    · rw [if_pos h2] at he ⊢
      split at he
      · rename_i hc
        refine ⟨⟨fun t ht => ?_, h.len⟩, ?_⟩
        · injection ht with ht; rw [← ht]; exact hc.2
        · obtain ⟨hc, _⟩ := hc
          unfold St.mayTab at hc
          rw [Bool.and_eq_true] at hc
          have : s.tbl = none := by simpa using hc.1
          unfold St.cnt
          simp [this]
          omega
      · omega
    · rw [if_neg h2] at he ⊢
      refine ⟨⟨h.tab, ?_⟩, ?_⟩
      · simp [h.len]
      · unfold St.cnt; simp; omega
/-- A table may come next: told by the count. -/
theorem mayTab_cnt (s : St) : s.mayTab = true ↔ (s.cnt = 0 ∨ (s.cnt = 1 ∧ s.hasMap = true)) := by
  obtain ⟨hm, m, ms, os, t⟩ := s
  unfold St.mayTab St.cnt
  cases hm <;> cases t <;> cases ms <;> simp <;> omega

end Go.Proofs.YtpedngfmjhpojaaGreatDoor.Arp

namespace Go.Proofs.YtpedngfmjhpojaaGreatDoor.Arp
open Go.RowKit Go.Proofs Go.Proofs.YtpedngfmjhpojaaGreatDoor.Byt Go.Proofs.YtpedngfmjhpojaaGreatDoor.Dec Go.Proofs.YtpedngfmjhpojaaGreatDoor.Lnm

end Go.Proofs.YtpedngfmjhpojaaGreatDoor.Arp

namespace Go.Proofs.YtpedngfmjhpojaaGreatDoor.Arp
open Go.RowKit Go.Proofs Go.Proofs.YtpedngfmjhpojaaGreatDoor.Byt Go.Proofs.YtpedngfmjhpojaaGreatDoor.Dec Go.Proofs.YtpedngfmjhpojaaGreatDoor.Lnm

def Mem.pure (x : Mem) : Pm := ⟨x.name, x.time, x.uid, x.gid, x.mode, x.data⟩
/-- An archive reads as what was parsed. -/
def Arc.is (x : Arc) (s : St) : Prop := x.hasMap = s.hasMap ∧ x.map = s.map ∧ x.mems.map Mem.pure = s.mems ∧ x.offs = s.offs
def Arc.zero : Arc := ⟨false, none, 0, 0, [], none, 0, 0, [], none, 0, 0, []⟩
/-- The cells of members. -/
def mcells : List Mem → List Value
  | [] => []
  | x :: r => [.string x.name, .int .i64 x.time, .int .i64 x.uid, .int .i64 x.gid, .int .i64 x.mode, .slice x.ptr x.len x.cap] ++ mcells r
theorem mcells_append : ∀ a b : List Mem, mcells (a ++ b) = mcells a ++ mcells b
  | [], b => rfl
  | x :: r, b => by rw [List.cons_append, mcells, mcells_append r b, mcells, List.append_assoc]
theorem mcells_length : ∀ a : List Mem, (mcells a).length = a.length * 6
  | [] => rfl
  | x :: r => by rw [mcells, List.length_append, mcells_length r, List.length_cons]; simp; omega
theorem mcells_at : ∀ (a : List Mem) (k : Nat) (h : k < a.length), (mcells a)[k * 6]? = some (.string a[k].name) ∧ (mcells a)[k * 6 + 1]? = some (.int .i64 a[k].time) ∧ (mcells a)[k * 6 + 2]? = some (.int .i64 a[k].uid) ∧ (mcells a)[k * 6 + 3]? = some (.int .i64 a[k].gid) ∧ (mcells a)[k * 6 + 4]? = some (.int .i64 a[k].mode) ∧ (mcells a)[k * 6 + 5]? = some (.slice a[k].ptr a[k].len a[k].cap)
  | x :: r, 0, _ => by simp [mcells]
  | x :: r, k + 1, h => by
    have ih := mcells_at r k (by simpa using h)
    have e : ∀ j, (mcells (x :: r))[(k + 1) * 6 + j]? = (mcells r)[k * 6 + j]? := fun j => by
      rw [mcells, List.getElem?_append_right (by simp; omega)]
      congr 1
      simp
      omega
    have e0 := e 0
    rw [Nat.add_zero, Nat.add_zero] at e0
    rw [e0, e 1, e 2, e 3, e 4, e 5]
    simpa using ih

theorem kM : Cel.Kind 22 49 6 72 (.agg #[.string ⟨#[]⟩, .int .i64 0, .int .i64 0, .int .i64 0, .int .i64 0, .slice none 0 0]) := ⟨by kernel_rfl, by kernel_rfl, by kernel_rfl, by decide⟩
theorem kI : Cel.Kind 27 3 1 8 (.int .i64 0) := ⟨by kernel_rfl, by kernel_rfl, by kernel_rfl, by decide⟩

/-- The call has made an archive itself: the slices, and the data of the members. -/
def OwnM (w : World) (K : Nat) (xs : List Mem) : Prop := ∀ x ∈ xs, Byt.Own w K (.slice x.ptr x.len x.cap) x.len x.data
structure OwnA (w : World) (K : Nat) (x : Arc) : Prop where
  map : Byt.Own w K (.slice x.mp x.mn x.mc) x.mn x.map
  mems : Cel.Own 49 6 w K (.slice x.ap x.an x.ac) x.an (mcells x.mems)
  data : OwnM w K x.mems
  offs : Cel.Own 3 1 w K (.slice x.op x.on x.oc) x.on (x.offs.map (Value.int .i64))
  small : x.mn ≤ 140737488355328 ∧ x.an ≤ 140737488355328 ∧ x.on ≤ 140737488355328 ∧ ∀ m ∈ x.mems, m.len ≤ 140737488355328

theorem OwnM.keep {w w' : World} {K : Nat} {xs : List Mem} (h : OwnM w K xs) (hb : Below w.heap.size w w') : OwnM w' K xs := fun x hx => (h x hx).below hb
theorem OwnA.below {w w' : World} {K : Nat} {x : Arc} (h : OwnA w K x) (hb : Below w.heap.size w w') : OwnA w' K x := ⟨h.map.below hb, h.mems.below hb, h.data.keep hb, h.offs.below hb, h.small⟩
theorem OwnA.zero (w : World) (K : Nat) : OwnA w K Arc.zero := ⟨Byt.Own.nil w K, Cel.Own.nil _ _ w K, fun x hx => by simp [Arc.zero] at hx, Cel.Own.nil _ _ w K, by simp [Arc.zero]⟩

theorem rdm_of {w : World} {K : Nat} {A : Option Addr} {n : Nat} {xs : List Mem} (h : Cel.Rd w K A n 6 (mcells xs)) (hd : ∀ x ∈ xs, Byt.Rd w K x.ptr x.len x.data ∧ x.len ≤ 140737488355328) : RdM w K A n xs := by
  have hl := h.1
  rw [mcells_length] at hl
  refine ⟨by omega, fun k hk => ⟨?_, hd _ (List.getElem_mem hk)⟩⟩
  have hc : ∀ j, j < 6 → ∃ b o : Nat, A = some ⟨b, o, none⟩ ∧ b < K ∧ ∃ v, (mcells xs)[k * 6 + j]? = some v ∧ w.cell? ⟨b, o + (k * 6 + j), none⟩ = some v := fun j hj => by
    have hkl : k * 6 + j < (mcells xs).length := by rw [mcells_length]; omega
    obtain ⟨b, o, e, hb, hc⟩ := h.2 (k * 6 + j) hkl
    exact ⟨b, o, e, hb, _, List.getElem?_eq_getElem hkl, hc⟩
  obtain ⟨m0, m1, m2, m3, m4, m5⟩ := mcells_at xs k hk
  obtain ⟨b, o, rfl, hb, v, hv, hc0⟩ := hc 0 (by omega)
  have hcj : ∀ j, j < 6 → ∀ u, (mcells xs)[k * 6 + j]? = some u → w.cell? ⟨b, o + k * 6 + j, none⟩ = some u := fun j hj u hu => by
    obtain ⟨b', o', e, _, v, hv, hc⟩ := hc j hj
    injection e with e
    injection e with e1 e2
    subst e1 e2
    rw [hv] at hu
    injection hu with hu
    rw [← hu, ← hc]
    congr 2
    omega
  exact ⟨b, o, rfl, hb, hcj 0 (by omega) _ m0, hcj 1 (by omega) _ m1, hcj 2 (by omega) _ m2, hcj 3 (by omega) _ m3, hcj 4 (by omega) _ m4, hcj 5 (by omega) _ m5⟩
theorem OwnA.reads {w : World} {K : Nat} {x : Arc} (h : OwnA w K x) : RdA w w.heap.size x := by
  obtain ⟨A, c, e, hr, _⟩ := h.map.reads
  obtain ⟨A1, c1, e1, hr1, _⟩ := h.mems.reads
  obtain ⟨A2, c2, e2, hr2, _⟩ := h.offs.reads
  injection e with e _
  injection e1 with e1 _
  injection e2 with e2 _
  subst e e1 e2
  refine ⟨hr, rdm_of hr1 fun m hm => ?_, RdI.cells.2 hr2, h.small.1, h.small.2.1, h.small.2.2.1⟩
  obtain ⟨A3, c3, e3, hr3, _⟩ := (h.data m hm).reads
  injection e3 with e3 _
  subst e3
  exact ⟨hr3, h.small.2.2.2 m hm⟩

end Go.Proofs.YtpedngfmjhpojaaGreatDoor.Arp

namespace Go.Proofs.YtpedngfmjhpojaaGreatDoor.Arp
open Go.Proofs.YtpedngfmjhpojaaGreatDoor.Byt Go.Proofs.YtpedngfmjhpojaaGreatDoor.Dec Go.Proofs.YtpedngfmjhpojaaGreatDoor.Lnm Go.Proofs.YtpedngfmjhpojaaGreatDoor.Hdr

end Go.Proofs.YtpedngfmjhpojaaGreatDoor.Arp

namespace Go.Proofs.YtpedngfmjhpojaaGreatDoor.Arp
open Go.Proofs.YtpedngfmjhpojaaGreatDoor.Byt Go.Proofs.YtpedngfmjhpojaaGreatDoor.Dec Go.Proofs.YtpedngfmjhpojaaGreatDoor.Lnm Go.Proofs.YtpedngfmjhpojaaGreatDoor.Hdr

end Go.Proofs.YtpedngfmjhpojaaGreatDoor.Arp

namespace Go.Proofs.YtpedngfmjhpojaaGreatDoor.Arp
open Go.Proofs.YtpedngfmjhpojaaGreatDoor.Byt Go.Proofs.YtpedngfmjhpojaaGreatDoor.Dec Go.Proofs.YtpedngfmjhpojaaGreatDoor.Lnm Go.Proofs.YtpedngfmjhpojaaGreatDoor.Hdr

/-- A part of one's own: its header, its data, its padding. -/
def mkp (s : ByteArray) (f : Nat → Int) (d : List UInt8) : List UInt8 := eout s f ++ d ++ (if d.length % 2 = 1 then [10] else [])
theorem mkp_ok {s : ByteArray} {f : Nat → Int} {d : List UInt8} (he : eerr s f = 0) (hf : f 4 = (d.length : Int)) (r : List UInt8) :
    perr (mkp s f d ++ r) = 0 ∧ dname (mkp s f d ++ r) = s ∧ (∀ k, k < 5 → dnum (mkp s f d ++ r) k = f k) ∧ pdata (mkp s f d ++ r) = d ∧ plen (mkp s f d ++ r) = (mkp s f d).length ∧ (eout s f).length = 60 := by
  have hn : nameOk s = true := by
    cases h : nameOk s
    · rw [(eerr_6 h).1] at he; omega
    · rfl
  have ha : allOk s f 5 = true := by
    cases h : allOk s f 5
    · rw [(eerr_9 hn h).1] at he; omega
    · rfl
  have ho := (eerr_0 hn ha).2
  have hl : (eout s f).length = 60 := by rw [ho, List.length_append, pre_length (nameOk_iff.1 hn).2.1 5 ha]; decide
  obtain ⟨q1, q2, q3⟩ := dec_enc hn ha (d ++ (if d.length % 2 = 1 then [10] else []) ++ r)
  have e : pre s f 5 ++ [96, 10] ++ (d ++ (if d.length % 2 = 1 then [10] else []) ++ r) = mkp s f d ++ r := by unfold mkp; rw [ho]; simp
  rw [e] at q1 q2 q3
  have hz : psz (mkp s f d ++ r) = d.length := by unfold psz; rw [q3 4 (by omega), hf]; rfl
  have hml : (mkp s f d).length = 60 + d.length + d.length % 2 := by
    unfold mkp
    rw [List.length_append, List.length_append, hl]
    split
    · rename_i h; rw [List.length_singleton, h]
    · rename_i h; rw [List.length_nil]; omega
  have hpl : plen (mkp s f d ++ r) = (mkp s f d).length := by unfold plen pad; rw [hz, hml]; omega
  have hdrop : (mkp s f d ++ r).drop 60 = d ++ (if d.length % 2 = 1 then [10] else []) ++ r := by
    unfold mkp
    rw [List.append_assoc, List.append_assoc, List.drop_left' hl, List.append_assoc]
  have hpd : pdata (mkp s f d ++ r) = d := by
    unfold pdata
    rw [hz, hdrop, List.append_assoc, List.take_left' rfl]
  refine ⟨perr_0 q1 (by rw [hpl, List.length_append]; omega) fun q => q.2 ?_, q2, q3, hpd, hpl, hl⟩
  rw [hz] at q ⊢
  have : (mkp s f d ++ r)[60 + d.length]? = ((mkp s f d ++ r).drop 60)[d.length]? := by rw [List.getElem?_drop]
  rw [this, hdrop, List.append_assoc, List.getElem?_append_right (Nat.le_refl _), Nat.sub_self, if_pos q.1]
  rfl
end Go.Proofs.YtpedngfmjhpojaaGreatDoor.Arp
